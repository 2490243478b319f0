import PyProof.Rows.All
import Wide.All
import OpenK.AllK
import Wide.FinOn
import HandS.ForMost
import HandS.Exc
import HandS.TryOnly
import HandS.TryMany
import HandS.WordsExc
import HandS.CallSlots
import HandS.Walk
import HandS.Rev
import HandS.Zip
import HandS.TupAny
import HandS.TupMul
import HandS.Gcd
import HandS.IsInst
import HandS.Style
import HandS.Flow
import HandS.ExcValue
import KE.KTupSum
import PyProof.StrOps2
import PyProof.Rows.ReprR
import KE.KExcSuper
import KE.KExcIs
import HandS.ExcField
import HandS.Conv
import HandS.DictComp
import HandS.Strs
import HandS.ReCall
import PyProof.FactsAll.tuple_0
import PyProof.FactsAll.tuple_2
import HandS.Text
import HandS.FStr
import HandS.Star
import HandS.NoneIn
import PyProof.CollectIter
import PyProof.ListRange
import KE.KExcLine
import PySem.Challenge.RW_touchshare_k17_texts_back_and_forth
set_option Elab.async false
set_option linter.all false
set_option maxRecDepth 100000
set_option maxHeartbeats 4000000
namespace Pl
open PySem PySem.Spec PyProof.Rows L2

abbrev D := PyData
/-- the written part, and the error classes: address and field -/
structure Kx where
  K : PySem.W.Frag
  ec : List (Addr × Str)

/-- an error of the class number c, made of d, among the data (no dict looks so) -/
def errD (c : Nat) (d : D) : D := .dict [(.list [.int c], d)]
/-- an exception object at a: class cls, own dict d -/
def ErO (cls : Value) (d : Addr) (a : Addr) : HO := .ext fun h => ∃ (oe : Obj) (vs : Array Value), h.get? a = some oe ∧ Zc cls (some d) oe ∧ oe.data = .fields vs
/-! ### data in the frozen part -/
def isS : D → Bool
  | .str _ => true
  | _ => false
/-- texts alone, not empty -/
def strsB : List D → Bool
  | [] => false
  | d :: r => isS d && r.all isS
/-- a tuple that has no own dict -/
def NoD (K : PySem.W.Frag) (F : Hp) (a : Addr) : Prop := (∃ o xs, F a = some (.frz o (.tup xs)) ∧ o.cls = .type "tuple" ∧ o.dict = none) ∨ ∃ o, K.lookup a = some o ∧ o.cls = .type "tuple" ∧ o.dict = none
mutual
inductive Dr (K : Kx) (F : Hp) : V → D → Prop
  | non : Dr K F .non .none
  | bl (b : Bool) : Dr K F (.bl b) (.bool b)
  | int (i : Int) : Dr K F (.int i) (.int i)
  | str (x : Str) : Dr K F (.str x) (.str x)
  | lst {a : Addr} {xs : List V} {ds : List D} : F a = some (.lst xs) → Drs K F xs ds → Dr K F (.ref a) (.list ds)
  | tup {a : Addr} {xs : List V} {ds : List D} : SqT K.K F a xs → (strsB ds = true → NoD K.K F a) → Drs K F xs ds → Dr K F (.ref a) (.tuple ds)
  | dct {a : Addr} {kvs : List (Key × V)} {ds : List (D × D)} : F a = some (.dK kvs) → Drk K F kvs ds → Dr K F (.ref a) (.dict ds)
  | err {a e C : Addr} {f : Str} {v : V} {c : Nat} {d : D} : K.ec[c]? = some (C, f) → F a = some (ErO (.ref C) e a) → F e = some (.xd [(f, v)]) → Dr K F v d → Dr K F (.ref a) (errD c d)
  | erp {a C : Addr} {c : Nat} : K.ec[c]? = some (C, ("" : Str)) → F a = some (ExO (.ref C) a) → Dr K F (.ref a) (errD c .none)
inductive Drs (K : Kx) (F : Hp) : List V → List D → Prop
  | nil : Drs K F [] []
  | cons {v : V} {vs : List V} {d : D} {ds : List D} : Dr K F v d → Drs K F vs ds → Drs K F (v :: vs) (d :: ds)
inductive Drk (K : Kx) (F : Hp) : List (Key × V) → List (D × D) → Prop
  | nil : Drk K F [] []
  | cons {k : Key} {v : V} {kvs : List (Key × V)} {e d : D} {ds : List (D × D)} : Dr K F (kV k) e → Dr K F v d → Drk K F kvs ds → Drk K F ((k, v) :: kvs) ((e, d) :: ds)
end

theorem Same.rd {F H : Hp} (s : Same F H) {a : Addr} {u : HO} (h : L2.Rd F a u) : L2.Rd H a u := by
  rcases h with h | ⟨o, h⟩
  · exact .inl (s _ _ h)
  · exact .inr ⟨o, s _ _ h⟩
theorem Same.sqL {K : PySem.W.Frag} {F H : Hp} (s : Same F H) {a : Addr} {xs : List V} (h : SqL K F a xs) : SqL K H a xs := h.imp (Same.rd s) id
theorem Same.sqT {K : PySem.W.Frag} {F H : Hp} (s : Same F H) {a : Addr} {xs : List V} (h : SqT K F a xs) : SqT K H a xs := h.imp (Same.rd s) id
theorem Same.noD {K : PySem.W.Frag} {F H : Hp} (s : Same F H) {a : Addr} (h : NoD K F a) : NoD K H a := h.imp (fun ⟨o, xs, e, q⟩ => ⟨o, xs, s _ _ e, q⟩) id

mutual
theorem Dr.mono {K : Kx} {F H : Hp} (s : Same F H) : ∀ (d : D) (v : V), Dr K F v d → Dr K H v d
  | .none, _, h => by cases h; exact .non
  | .bool b, _, h => by cases h; exact .bl b
  | .int b, _, h => by cases h; exact .int b
  | .str b, _, h => by cases h; exact .str b
  | .list ds, _, h => by
    cases h with
    | lst a b => exact .lst (s _ _ a) (Drs.mono s ds _ b)
  | .tuple ds, _, h => by
    cases h with
    | tup a n b => exact .tup (Same.sqT s a) (fun h => Same.noD s (n h)) (Drs.mono s ds _ b)
  | .dict ds, v, h => by
    generalize hq : PyData.dict ds = q at h ⊢
    cases h with
    | dct a b => cases hq; exact .dct (s _ _ a) (Drk.mono s ds _ b)
    | err a b x r => exact .err a (s _ _ b) (s _ _ x) (Dr1.mono s ds _ (PyData.dict.inj hq) r)
    | erp a b => exact .erp a (s _ _ b)
    | non => cases hq
    | bl => cases hq
    | int => cases hq
    | str => cases hq
    | lst => cases hq
    | tup => cases hq
theorem Dr1.mono {K : Kx} {F H : Hp} (s : Same F H) : ∀ (ds : List (D × D)) (v : V) {e d : D}, ds = [(e, d)] → Dr K F v d → Dr K H v d
  | [], _, _, _, q, _ => by cases q
  | (e', d') :: ds, v, e, d, q, h => by
    have z : d' = d := by cases q; rfl
    exact z ▸ Dr.mono s d' v (z ▸ h)
theorem Drs.mono {K : Kx} {F H : Hp} (s : Same F H) : ∀ (ds : List D) (vs : List V), Drs K F vs ds → Drs K H vs ds
  | [], _, h => by cases h; exact .nil
  | d :: ds, _, h => by
    cases h with
    | cons a b => exact .cons (Dr.mono s d _ a) (Drs.mono s ds _ b)
theorem Drk.mono {K : Kx} {F H : Hp} (s : Same F H) : ∀ (ds : List (D × D)) (vs : List (Key × V)), Drk K F vs ds → Drk K H vs ds
  | [], _, h => by cases h; exact .nil
  | (e, d) :: ds, _, h => by
    cases h with
    | cons a b c => exact .cons (Dr.mono s e _ a) (Dr.mono s d _ b) (Drk.mono s ds _ c)
end

mutual
/-- data without dicts, as the library's deep == reads it -/
theorem Dr.dp {K : Kx} {F H : Hp} (s : Same F H) : ∀ (d : D) (v : V), d.hasDict = false → Dr K F v d → Dp K.K H v d
  | .none, _, _, h => by cases h; exact .non
  | .bool b, _, _, h => by cases h; exact .bl b
  | .int b, _, _, h => by cases h; exact .int b
  | .str b, _, _, h => by cases h; exact .str b
  | .list ds, _, n, h => by
    cases h with
    | lst a b => exact .lst (SqL.of (s _ _ a)) (Drs.dp s ds _ (by simpa [PyData.hasDict] using n) b)
  | .tuple ds, _, n, h => by
    cases h with
    | tup a _ b => exact .tup (Same.sqT s a) (Drs.dp s ds _ (by simpa [PyData.hasDict] using n) b)
  | .dict ds, _, n, h => by simp [PyData.hasDict] at n
theorem Drs.dp {K : Kx} {F H : Hp} (s : Same F H) : ∀ (ds : List D) (vs : List V), PyData.hasDictAll ds = false → Drs K F vs ds → DpAll K.K H vs ds
  | [], _, _, h => by cases h; exact .nil
  | d :: ds, _, n, h => by
    have n' : d.hasDict = false ∧ PyData.hasDictAll ds = false := by simpa [PyData.hasDictAll] using n
    cases h with
    | cons a b => exact .cons (Dr.dp s d _ n'.1 a) (Drs.dp s ds _ n'.2 b)
end
theorem noDict {d : D} (h : SeqAt.shaped d = true) : d.hasDict = false := PyData.hasDict_of_canLay d (SeqAt.canLay_of_shaped h)
theorem Drs.len {K : Kx} {F : Hp} : ∀ {vs : List V} {ds : List D}, Drs K F vs ds → vs.length = ds.length
  | _, _, .nil => rfl
  | _, _, .cons _ t => by simp [Drs.len t]
theorem Drs.get {K : Kx} {F : Hp} : ∀ {vs : List V} {ds : List D} {i : Nat} {x : V}, Drs K F vs ds → vs[i]? = some x → ∃ d, ds[i]? = some d ∧ Dr K F x d
  | _, _, _, _, .nil, e => by simp at e
  | _, _, 0, _, .cons r _, e => by simp at e; subst e; exact ⟨_, rfl, r⟩
  | _, _, i + 1, x, .cons _ t, e => by
    obtain ⟨u, h1, h2⟩ := Drs.get (i := i) (x := x) t (by simpa using e)
    exact ⟨u, by simpa using h1, h2⟩
theorem Drs.getD {K : Kx} {F : Hp} : ∀ {vs : List V} {ds : List D} {i : Nat} {d : D}, Drs K F vs ds → ds[i]? = some d → ∃ x, vs[i]? = some x ∧ Dr K F x d
  | _, _, _, _, .nil, e => by simp at e
  | _, _, 0, _, .cons r _, e => by simp at e; subst e; exact ⟨_, rfl, r⟩
  | _, _, i + 1, x, .cons _ t, e => by
    obtain ⟨u, h1, h2⟩ := Drs.getD (i := i) (d := x) t (by simpa using e)
    exact ⟨u, by simpa using h1, h2⟩
theorem Drs.append {K : Kx} {F : Hp} : ∀ {xs ys : List V} {us ws : List D}, Drs K F xs us → Drs K F ys ws → Drs K F (xs ++ ys) (us ++ ws)
  | _, _, _, _, .nil, s => s
  | _, _, _, _, .cons r t, s => .cons r (Drs.append t s)
theorem Drs.take {K : Kx} {F : Hp} : ∀ {xs : List V} {us : List D} (n : Nat), Drs K F xs us → Drs K F (xs.take n) (us.take n)
  | _, _, 0, _ => .nil
  | _, _, _ + 1, .nil => .nil
  | _, _, n + 1, .cons r t => .cons r (Drs.take n t)
theorem Drs.drop {K : Kx} {F : Hp} : ∀ {xs : List V} {us : List D} (n : Nat), Drs K F xs us → Drs K F (xs.drop n) (us.drop n)
  | _, _, 0, r => r
  | _, _, _ + 1, .nil => .nil
  | _, _, n + 1, .cons _ t => Drs.drop n t
theorem Drs.set {K : Kx} {F : Hp} {x : V} {u : D} (r : Dr K F x u) : ∀ {xs : List V} {us : List D} (i : Nat), Drs K F xs us → Drs K F (xs.set i x) (us.set i u)
  | _, _, _, .nil => .nil
  | _, _, 0, .cons _ t => .cons r t
  | _, _, i + 1, .cons q t => .cons q (Drs.set r i t)
theorem Drs.rev {K : Kx} {F : Hp} : ∀ {xs : List V} {us : List D}, Drs K F xs us → Drs K F xs.reverse us.reverse
  | _, _, .nil => .nil
  | _, _, .cons r t => by
    rw [List.reverse_cons, List.reverse_cons]
    exact Drs.append (Drs.rev t) (.cons r .nil)
theorem Drs.rep {K : Kx} {F : Hp} {xs : List V} {us : List D} (h : Drs K F xs us) : ∀ k : Nat, Drs K F (List.replicate k xs).flatten (List.replicate k us).flatten
  | 0 => .nil
  | k + 1 => by
    rw [List.replicate_succ, List.replicate_succ, List.flatten_cons, List.flatten_cons]
    exact Drs.append h (Drs.rep h k)

/-! ### containers, values, slots -/
/-- what a changeable container holds -/
inductive Cn where
  | lst (ds : List D)
  | dk (kvs : List (Key × D))
/-- a value -/
inductive Val where
  /-- data that never changes any more -/
  | dat (d : D)
  /-- a container of its own: fresh, or held by one name alone -/
  | fr (c : Cn)
  /-- a container that somebody else holds, read only -/
  | bor (c : Cn)
  /-- an object of the store -/
  | obj (n : Nat)
  /-- a list of the caller's that the object itself is told of (the script) -/
  | scr (ds : List D)
def Drv (K : Kx) (F : Hp) : List (Key × V) → List (Key × D) → Prop := Paired fun p q => p.1 = q.1 ∧ Dr K F p.2 q.2
inductive CnR (K : Kx) (F : Hp) : HO → Cn → Prop
  | lst {xs : List V} {ds : List D} : Drs K F xs ds → CnR K F (.lst xs) (.lst ds)
  | dk {kvs : List (Key × V)} {ds : List (Key × D)} : Drv K F kvs ds → CnR K F (.dK kvs) (.dk ds)
theorem Paired.mapR {α β : Type} {R S : α → β → Prop} (f : ∀ a b, R a b → S a b) : ∀ {l : List α} {m : List β}, Paired R l m → Paired S l m
  | _, _, .nil => .nil
  | _, _, .cons r t => .cons (f _ _ r) (Paired.mapR f t)
theorem CnR.mono {K : Kx} {F H : Hp} (s : Same F H) {o : HO} {c : Cn} (h : CnR K F o c) : CnR K H o c := by
  cases h with
  | lst a => exact .lst (Drs.mono s _ _ a)
  | dk a => exact .dk (Paired.mapR (fun p q r => ⟨r.1, Dr.mono s _ _ r.2⟩) a)

/-- an error's class and own dict, made of d -/
def ErD (X : Kx) (F : Hp) (cls : Value) (dd : Option Addr) (c : Nat) (d : D) : Prop := ∃ (C : Addr) (f : Str) (e : Addr) (v : V), X.ec[c]? = some (C, f) ∧ cls = .ref C ∧ dd = some e ∧ F e = some (.xd [(f, v)]) ∧ Dr X F v d

abbrev Env := List (Option Val)
/-- a value in the heap -/
inductive VR (X : Kx) (F : Hp) (os : List Addr) (H : Hp) : V → Val → Prop
  | dat {v : V} {d : D} : Dr X F v d → VR X F os H v (.dat d)
  | fr {p : Addr} {o : HO} {c : Cn} : F p = none → p ∉ os → H p = some o → CnR X F o c → VR X F os H (.ref p) (.fr c)
  | bor {p : Addr} {o : HO} {c : Cn} : F p = none → p ∉ os → H p = some o → CnR X F o c → VR X F os H (.ref p) (.bor c)
  | obj {p : Addr} {n : Nat} : os[n]? = some p → VR X F os H (.ref p) (.obj n)
  | scr {p : Addr} {xs : List V} {ds : List D} : SqL X.K F p xs → Drs X F xs ds → VR X F os H (.ref p) (.scr ds)

/-- the store, and the frozen part within the heap -/
structure StOk (X : Kx) (F : Hp) (os : List Addr) (H : Hp) (st : List Cn) : Prop where
  sub : Same F H
  len : os.length = st.length
  stv : ∀ (n : Nat) (a : Addr) (c : Cn), os[n]? = some a → st[n]? = some c → F a = none ∧ ∃ o, H a = some o ∧ CnR X F o c
  nd : os.Nodup
/-- from one heap to a later one: what is frozen and what stands but the objects stays, what is newly frozen was not there -/
structure Ext (F : Hp) (os : List Addr) (H F' : Hp) (os' : List Addr) (H' : Hp) : Prop where
  fz : Same F F'
  keep : ∀ a o, H a = some o → a ∉ os → H' a = some o
  new : ∀ a o, F' a = some o → F a = some o ∨ H a = none
  os : ∃ m, os' = os ++ m ∧ ∀ a ∈ m, H a = none
  dom : ∀ a, H a ≠ none → H' a ≠ none
theorem Ext.refl (F : Hp) (os : List Addr) (H : Hp) : Ext F os H F os H := ⟨Same.refl F, fun _ _ h _ => h, fun _ _ h => .inl h, ⟨[], by simp, fun a h => by simp at h⟩, fun _ h => h⟩
theorem Ext.nn {F H F' H' : Hp} {os os' : List Addr} (e : Ext F os H F' os' H') {a : Addr} (h : H' a = Option.none) : H a = Option.none := Classical.byContradiction fun q => e.dom a q h
theorem Ext.trans {F H F1 H1 F2 H2 : Hp} {os os1 os2 : List Addr} (a : Ext F os H F1 os1 H1) (b : Ext F1 os1 H1 F2 os2 H2) : Ext F os H F2 os2 H2 where
  fz := a.fz.trans b.fz
  keep := fun x o h n => b.keep x o (a.keep x o h n) fun hm => by
    obtain ⟨m, e, hn⟩ := a.os
    rw [e] at hm
    rcases List.mem_append.mp hm with q | q
    · exact n q
    · rw [hn x q] at h; cases h
  new := fun x o h => by
    rcases b.new x o h with q | q
    · exact a.new x o q
    · exact .inr (a.nn q)
  os := by
    obtain ⟨m, e, hn⟩ := a.os
    obtain ⟨m', e', hn'⟩ := b.os
    refine ⟨m ++ m', by rw [e', e, List.append_assoc], fun x hx => ?_⟩
    rcases List.mem_append.mp hx with q | q
    · exact hn x q
    · exact a.nn (hn' x q)
  dom := fun x h => b.dom x (a.dom x h)
theorem Ext.fnone {F H F' H' : Hp} {os os' : List Addr} (e : Ext F os H F' os' H') {p : Addr} {o : HO} (hf : F p = Option.none) (hp : H p = some o) : F' p = Option.none := by
  cases q : F' p with
  | none => rfl
  | some u =>
    rcases e.new p u q with r | r
    · rw [hf] at r; cases r
    · rw [hp] at r; cases r
theorem Ext.nos {F H F' H' : Hp} {os os' : List Addr} (e : Ext F os H F' os' H') {p : Addr} {o : HO} (hf : p ∉ os) (hp : H p = some o) : p ∉ os' := by
  obtain ⟨m, e, hn⟩ := e.os
  rw [e]
  intro q
  rcases List.mem_append.mp q with q | q
  · exact hf q
  · rw [hn p q] at hp; cases hp
theorem VR.ext {X : Kx} {F H F' H' : Hp} {os os' : List Addr} (e : Ext F os H F' os' H') {v : V} {x : Val} (h : VR X F os H v x) : VR X F' os' H' v x := by
  cases h with
  | dat r => exact .dat (Dr.mono e.fz _ _ r)
  | fr a b c d => exact .fr (e.fnone a c) (e.nos b c) (e.keep _ _ c b) (d.mono e.fz)
  | bor a b c d => exact .bor (e.fnone a c) (e.nos b c) (e.keep _ _ c b) (d.mono e.fz)
  | obj a =>
    obtain ⟨m, q, _⟩ := e.os
    refine .obj ?_
    rw [q, List.getElem?_append_left (List.getElem?_eq_some_iff.mp a).1]
    exact a
  | scr a b => exact .scr (Same.sqL e.fz a) (Drs.mono e.fz _ _ b)

/-- the entry -/
structure Bs where
  F : Hp
  os : List Addr
  H : Hp
  /-- what has to stay -/
  P : Hp
structure Rel (X : Kx) (B : Bs) (F : Hp) (os : List Addr) (σ : L2.St) (H : Hp) (env : Env) (st : List Cn) : Prop where
  ok : StOk X F os H st
  len : env.length = σ.length
  slv : ∀ (i : Nat) (x : Val), env[i]? = some (some x) → ∃ v, σ[i]? = some (some v) ∧ VR X F os H v x
  own : ∀ (i j : Nat) (c c' : Cn) (p : Addr), i ≠ j → env[i]? = some (some (.fr c)) → env[j]? = some (some (.fr c')) → σ[i]? = some (some (.ref p)) → σ[j]? ≠ some (some (.ref p))
  ownB : ∀ (i : Nat) (c : Cn) (p : Addr), env[i]? = some (some (.fr c)) → σ[i]? = some (some (.ref p)) → B.H p = none
  borB : ∀ (i : Nat) (c : Cn) (p : Addr), env[i]? = some (some (.bor c)) → σ[i]? = some (some (.ref p)) → B.H p ≠ none
  bs : Ext B.F B.os B.H F os H
  pin : Same B.P F
theorem Rel.ext {X : Kx} {B : Bs} {F H F' H' : Hp} {os os' : List Addr} {σ : L2.St} {env : Env} {st st' : List Cn} (r : Rel X B F os σ H env st) (e : Ext F os H F' os' H') (k : StOk X F' os' H' st') : Rel X B F' os' σ H' env st' where
  ok := k
  len := r.len
  slv := fun i x h => by
    obtain ⟨v, a, b⟩ := r.slv i x h
    exact ⟨v, a, b.ext e⟩
  own := r.own
  ownB := r.ownB
  borB := r.borB
  bs := r.bs.trans e
  pin := r.pin.trans e.fz
end Pl

set_option Elab.async false
set_option linter.all false
set_option maxRecDepth 100000
set_option maxHeartbeats 4000000
namespace Pl
open PySem PySem.Spec PyProof.Rows L2

/-! ### what an expression comes to -/
inductive Ou where
  | stk
  | ok (v : Val) (st : List Cn)
  | exc (c : Nat) (d : D) (st : List Cn)
abbrev EM := Env → List Cn → Ou
def Ou.bind (o : Ou) (k : Val → List Cn → Ou) : Ou := match o with
  | .stk => .stk
  | .ok v st => k v st
  | .exc c d st => .exc c d st
def Ou.of (st : List Cn) : Option Val → Ou
  | none => .stk
  | some v => .ok v st
@[simp] theorem Ou.bind_stk (k) : Ou.stk.bind k = .stk := rfl
@[simp] theorem Ou.bind_ok (v st k) : (Ou.ok v st).bind k = k v st := rfl
@[simp] theorem Ou.bind_exc (c d st k) : (Ou.exc c d st).bind k = .exc c d st := rfl
@[simp] theorem Ou.of_some (st v) : Ou.of st (some v) = .ok v st := rfl
@[simp] theorem Ou.of_none (st) : Ou.of st none = .stk := rfl

/-- a fresh container is not of the elder heap -/
def Frs (H : Hp) (x : V) (v : Val) : Prop := ∀ c p, v = .fr c → x = .ref p → H p = none
def Po (X : Kx) (W : WX) (σ : L2.St) (F : Hp) (os : List Addr) (H : Hp) (o : Ou) (Q : VK) : Prop := match o with
  | .stk => False
  | .ok v st => ∀ x F' os' H', Ext F os H F' os' H' → StOk X F' os' H' st → VR X F' os' H' x v → Frs H x v → Q x H'
  | .exc c d st => ∀ cls dd F' os' H', Ext F os H F' os' H' → StOk X F' os' H' st → ErD X F' cls dd c d → W cls dd σ H'
def tM (X : Kx) (W : WX) (m : EM) : TE := fun σ H Q => ∃ B F os env st, Rel X B F os σ H env st ∧ Po X W σ F os H (m env st) Q

theorem _root_.L2.PE.imp {X : Cx} {e : Expr} {t t' : TE} (h : PE X e t) (i : ∀ σ H Q, t' σ H Q → t σ H Q) : PE X e t' := ⟨fun pins s σ H Q I q => h.run pins s σ H Q I (i _ _ _ q)⟩
theorem _root_.L2.PT.imp {X : Cx} {e : Expr} {t t' : TT} (h : PT X e t) (i : ∀ σ H Q, t' σ H Q → t σ H Q) : PT X e t' := ⟨fun pins s σ H Q I q => h.run pins s σ H Q I (i _ _ _ q)⟩
theorem _root_.L2.PW.imp {X : Cx} {e : Expr} {t t' : TT} (h : PW X e t) (i : ∀ σ H Q, t' σ H Q → t σ H Q) : PW X e t' := ⟨fun wh pins s σ H Q I q => h.run wh pins s σ H Q I (i _ _ _ q)⟩
theorem _root_.L2.PA.imp {X : Cx} {e : List Expr} {t t' : TA} (h : PA X e t) (i : ∀ σ H Q, t' σ H Q → t σ H Q) : PA X e t' := ⟨fun pos pins s σ H Q I q => h.run pos pins s σ H Q I (i _ _ _ q)⟩
theorem _root_.L2.PS.imp {X : Cx} {e : Stmt} {t t' : TS} (h : PS X e t) (i : ∀ D σ H, t' D σ H → t D σ H) : PS X e t' := ⟨fun pins s σ H D I q => h.run pins s σ H D I (i _ _ _ q)⟩
theorem _root_.L2.PSs.imp {X : Cx} {e : List Stmt} {t t' : TS} (h : PSs X e t) (i : ∀ D σ H, t' D σ H → t D σ H) : PSs X e t' := ⟨fun pins s σ H D I q => h.run pins s σ H D I (i _ _ _ q)⟩

section
variable {X : Kx} {W : WX} {σ : L2.St} {F F' H H' : Hp} {os os' : List Addr} {st : List Cn}
theorem StOk.live (k : StOk X F os H st) {a : Addr} (h : a ∈ os) : ∃ o, H a = some o ∧ F a = none := by
  obtain ⟨n, hn, e⟩ := List.getElem_of_mem h
  have h1 : os[n]? = some a := by rw [List.getElem?_eq_getElem hn, e]
  have h2 : n < st.length := by rw [← k.len]; exact hn
  obtain ⟨f, o, q, _⟩ := k.stv n a st[n] h1 (List.getElem?_eq_getElem h2)
  exact ⟨o, q, f⟩
theorem StOk.free (k : StOk X F os H st) {a : Addr} (h : H a = none) : a ∉ os ∧ F a = none := by
  refine ⟨fun q => ?_, L2.Same.free k.sub h⟩
  obtain ⟨o, e, _⟩ := k.live q
  rw [h] at e
  cases e
theorem Po.shift (e : Ext F os H F' os' H') {o : Ou} {Q : VK} (h : Po X W σ F os H o Q) : Po X W σ F' os' H' o Q := by
  cases o with
  | stk => exact h
  | ok v st => exact fun x F2 os2 H2 e2 k r f => h x F2 os2 H2 (e.trans e2) k r fun c p ev ex => e.nn (f c p ev ex)
  | exc c d st => exact fun cls dd F2 os2 H2 e2 k r => h cls dd F2 os2 H2 (e.trans e2) k r
theorem Po.bind {o : Ou} {k : Val → List Cn → Ou} {Q Q1 : VK} (h : Po X W σ F os H (o.bind k) Q)
    (hk : ∀ v st1 x F1 os1 H1, o = .ok v st1 → Ext F os H F1 os1 H1 → StOk X F1 os1 H1 st1 → VR X F1 os1 H1 x v → Frs H x v → Po X W σ F os H (k v st1) Q → Q1 x H1) : Po X W σ F os H o Q1 := by
  cases o with
  | stk => exact h
  | ok v st => exact fun x F1 os1 H1 e q r f => hk v st x F1 os1 H1 rfl e q r f h
  | exc c d st => exact h
theorem Po.mono {o : Ou} {Q Q1 : VK} (h : Po X W σ F os H o Q) (hq : ∀ x H', Q x H' → Q1 x H') : Po X W σ F os H o Q1 := by
  cases o with
  | stk => exact h
  | ok v st => exact fun x F1 os1 H1 e q r f => hq _ _ (h x F1 os1 H1 e q r f)
  | exc c d st => exact h
/-- the end of a pure step -/
theorem Po.of {z : Option Val} {Q : VK} (h : Po X W σ F os H (Ou.of st z) Q) : ∃ v, z = some v ∧ ∀ x F' os' H', Ext F os H F' os' H' → StOk X F' os' H' st → VR X F' os' H' x v → Frs H x v → Q x H' := by
  cases z with
  | none => exact False.elim h
  | some v => exact ⟨v, rfl, h⟩

/-! ### new objects -/
theorem upd_none {a : Addr} {o : HO} {b : Addr} (h : upd H a o b = none) : H b = none ∧ b ≠ a := by
  by_cases e : b = a
  · subst e; rw [upd_same] at h; cases h
  · rw [upd_ne e] at h; exact ⟨h, e⟩
theorem upd_ne_none {a : Addr} {o : HO} {b : Addr} (h : H b ≠ none) : upd H a o b ≠ none := by
  by_cases e : b = a
  · subst e; rw [upd_same]; exact fun z => nomatch z
  · rw [upd_ne e]; exact h
theorem same_upd {a : Addr} {o : HO} (h : H a = none) : Same H (upd H a o) := fun b u e => by
  rw [upd_ne (ne_of_none e h)]; exact e
/-- a new frozen object -/
theorem Ext.newF {p : Addr} {o : HO} (k : StOk X F os H st) (hp : H p = none) : Ext F os H (upd F p o) os (upd H p o) where
  fz := same_upd (k.free hp).2
  keep := fun a u h _ => same_upd hp _ _ h
  new := fun a u h => by
    by_cases e : a = p
    · exact .inr (e ▸ hp)
    · rw [upd_ne e] at h; exact .inl h
  os := ⟨[], by simp, fun a h => by simp at h⟩
  dom := fun a h => upd_ne_none h
theorem StOk.newF {p : Addr} {o : HO} (k : StOk X F os H st) (hp : H p = none) : StOk X (upd F p o) os (upd H p o) st where
  sub := fun a u h => by
    by_cases e : a = p
    · subst e; rw [upd_same] at h ⊢; exact h
    · rw [upd_ne e] at h ⊢; exact k.sub _ _ h
  len := k.len
  stv := fun n a c h1 h2 => by
    obtain ⟨f, u, q, r⟩ := k.stv n a c h1 h2
    have ne : a ≠ p := ne_of_none q hp
    exact ⟨by rw [upd_ne ne]; exact f, u, by rw [upd_ne ne]; exact q, r.mono (same_upd (k.free hp).2)⟩
  nd := k.nd
/-- a new object of its own -/
theorem Ext.newO {p : Addr} {o : HO} (k : StOk X F os H st) (hp : H p = none) : Ext F os H F os (upd H p o) where
  fz := L2.Same.refl F
  keep := fun a u h _ => same_upd hp _ _ h
  new := fun a u h => .inl h
  os := ⟨[], by simp, fun a h => by simp at h⟩
  dom := fun a h => upd_ne_none h
theorem StOk.newO {p : Addr} {o : HO} (k : StOk X F os H st) (hp : H p = none) : StOk X F os (upd H p o) st where
  sub := k.sub.trans (same_upd hp)
  len := k.len
  stv := fun n a c h1 h2 => by
    obtain ⟨f, u, q, r⟩ := k.stv n a c h1 h2
    exact ⟨f, u, same_upd hp _ _ q, r⟩
  nd := k.nd
theorem VR.newTup {p : Addr} {xs : List V} {ds : List D} (k : StOk X F os H st) (hp : H p = none) (r : Drs X F xs ds) (hs : strsB ds = false) : VR X (upd F p (.tup xs)) os (upd H p (.tup xs)) (.ref p) (.dat (.tuple ds)) :=
  .dat (.tup (SqT.of upd_same) (fun h => by rw [hs] at h; cases h) (Drs.mono (same_upd (k.free hp).2) _ _ r))
/-- a tuple's object, without a dict -/
def NdO (ob : Obj) : Prop := ob.cls = .type "tuple" ∧ ob.dict = none
theorem VR.newTupN {p : Addr} {ob : Obj} {xs : List V} {ds : List D} (k : StOk X F os H st) (hp : H p = none) (hn : NdO ob) (r : Drs X F xs ds) : VR X (upd F p (.frz ob (.tup xs))) os (upd H p (.frz ob (.tup xs))) (.ref p) (.dat (.tuple ds)) :=
  .dat (.tup (.inl (.inr ⟨ob, upd_same⟩)) (fun _ => .inl ⟨ob, xs, upd_same, hn⟩) (Drs.mono (same_upd (k.free hp).2) _ _ r))
theorem VR.newLst {p : Addr} {xs : List V} {ds : List D} (k : StOk X F os H st) (hp : H p = none) (r : Drs X F xs ds) : VR X F os (upd H p (.lst xs)) (.ref p) (.fr (.lst ds)) :=
  .fr (k.free hp).2 (k.free hp).1 upd_same (.lst r)
theorem Frs.dat {x : V} {d : D} : Frs H x (.dat d) := fun _ _ h _ => nomatch h
theorem Frs.new {p : Addr} {v : Val} (hp : H p = none) : Frs H (.ref p) v := fun _ q _ h => by cases h; exact hp

/-! ### freezing -/
def kyD : Key → D
  | .inl i => .int i
  | .inr x => .str x
def cnD : Cn → D
  | .lst ds => .list ds
  | .dk kvs => .dict (kvs.map fun p => (kyD p.1, p.2))
def asDat : Val → Option D
  | .dat d => some d
  | .fr c => some (cnD c)
  | _ => none
def Val.frz : Val → Option Val
  | .dat d => some (.dat d)
  | .fr c => some (.dat (cnD c))
  | .obj n => some (.obj n)
  | .bor c => some (.bor c)
  | .scr ds => some (.scr ds)
theorem kyD_ok {K : Kx} {F : Hp} : ∀ k : Key, Dr K F (kV k) (kyD k)
  | .inl i => .int i
  | .inr x => .str x
theorem drk_of {K : Kx} {F : Hp} : ∀ {kvs : List (Key × V)} {ds : List (Key × D)}, Drv K F kvs ds → Drk K F kvs (ds.map fun p => (kyD p.1, p.2))
  | _, _, .nil => .nil
  | _, _, .cons (a := p) (b := q) r t => by
    obtain ⟨k, v⟩ := p
    obtain ⟨k', d⟩ := q
    obtain ⟨e, r⟩ := r
    dsimp only at e r
    subst e
    exact .cons (kyD_ok k) r (drk_of t)
theorem CnR.dr {K : Kx} {F : Hp} {p : Addr} {o : HO} {c : Cn} (h : F p = some o) (r : CnR K F o c) : Dr K F (.ref p) (cnD c) := by
  cases r with
  | lst r => exact .lst h r
  | dk r => exact .dct h (drk_of r)
/-- what is fresh is frozen -/
theorem freeze {F0 H0 : Hp} {os0 : List Addr} (e : Ext F0 os0 H0 F os H) (k : StOk X F os H st) {p : Addr} {o : HO} {c : Cn} (hp : H p = some o) (h0 : H0 p = none) (hf : F p = none) (ho : p ∉ os) (r : CnR X F o c) :
    Ext F0 os0 H0 (upd F p o) os H ∧ StOk X (upd F p o) os H st ∧ Dr X (upd F p o) (.ref p) (cnD c) := by
  have s := same_upd (o := o) hf
  refine ⟨⟨e.fz.trans s, e.keep, fun a u h => ?_, e.os, e.dom⟩, ⟨fun a u h => ?_, k.len, fun n a c h1 h2 => ?_, k.nd⟩, (r.mono s).dr upd_same⟩
  · by_cases q : a = p
    · exact .inr (q ▸ h0)
    · rw [upd_ne q] at h; exact e.new a u h
  · by_cases q : a = p
    · subst q; rw [upd_same] at h; cases h; exact hp
    · rw [upd_ne q] at h; exact k.sub _ _ h
  · obtain ⟨f, u, q, r'⟩ := k.stv n a c h1 h2
    have ne : a ≠ p := fun z => ho (z ▸ List.mem_of_getElem? h1)
    exact ⟨by rw [upd_ne ne]; exact f, u, q, r'.mono s⟩
/-- a value handed on: what is fresh is frozen -/
def frzM (m : EM) : EM := fun env st => (m env st).bind fun v st1 => Ou.of st1 v.frz
theorem tM_frz {m : EM} {Q : VK} (h : tM X W (frzM m) σ H Q) : tM X W m σ H Q := by
  obtain ⟨B, F, os, env, st, R, h⟩ := h
  refine ⟨B, F, os, env, st, R, h.bind ?_⟩
  intro v st1 x F1 os1 H1 ev e k r f p
  obtain ⟨z, hz, q⟩ := p.of
  cases r with
  | dat r => cases hz; exact q _ _ _ _ e k (.dat r) Frs.dat
  | fr a b c d =>
    cases hz
    obtain ⟨e2, k2, r2⟩ := freeze e k c (f _ _ rfl rfl) a b d
    exact q _ _ _ _ e2 k2 (.dat r2) Frs.dat
  | bor a b c d => cases hz; exact q _ _ _ _ e k (.bor a b c d) fun _ _ h _ => nomatch h
  | obj a => cases hz; exact q _ _ _ _ e k (.obj a) fun _ _ h _ => nomatch h
  | scr a b => cases hz; exact q _ _ _ _ e k (.scr a b) fun _ _ h _ => nomatch h
end

section
variable {X : Cx} {ec : List (Addr × Str)} {W : WX} {e a b : Expr} {ma mb m : EM} {pos : Pos}
abbrev kx (X : Cx) (ec : List (Addr × Str)) : Kx := ⟨X.K, ec⟩
theorem pe_frz (h : PE X e (tM (kx X ec) W m)) : PE X e (tM (kx X ec) W (frzM m)) := h.imp fun _ _ _ => tM_frz

/-! ### names, constants -/
def varM (i : Nat) : EM := fun env st => match env[i]? with
  | some (some (.fr c)) => .ok (.bor c) st
  | some (some v) => .ok v st
  | _ => .stk
theorem var_ok {K : Kx} {i : Nat} {σ : L2.St} {H : Hp} {Q : VK} (h : tM K W (varM i) σ H Q) : tVar i σ H Q := by
  obtain ⟨B, F, os, env, st, R, h⟩ := h
  unfold varM at h
  split at h
  · rename_i c hc
    obtain ⟨x, e, r⟩ := R.slv i _ hc
    cases r with
    | fr a b c d => exact ⟨_, e, h _ _ _ _ (Ext.refl _ _ _) R.ok (.bor a b c d) fun _ _ h _ => nomatch h⟩
  · rename_i v hn hv
    obtain ⟨x, e, r⟩ := R.slv i _ hv
    refine ⟨_, e, h _ _ _ _ (Ext.refl _ _ _) R.ok r fun c p ev _ => ?_⟩
    subst ev
    exact absurd rfl (hn c)
  · exact False.elim h
theorem pe_v (i : Nat) {x : Str} {pos : Pos} (hN : X.N[i]? = some x := by rfl) (hv : Vis X.env.scope x := by first | exact Or.inl rfl | exact Or.inr (Or.inl rfl) | exact Or.inr (Or.inr rfl)) (hd : (x == ("__debug__" : Str)) = false := by decide)
    (hcd : (x == ("__classdict__" : Str)) = false := by decide) : PE X (.Name x pos) (tM (kx X ec) W (varM i)) := (pv i hN hv hd hcd).imp fun _ _ _ => var_ok
def cstM (d : D) : EM := fun _ st => .ok (.dat d) st
theorem cst_ok {K : Kx} {v : V} {d : D} (r : ∀ F, Dr K F v d) {σ : L2.St} {H : Hp} {Q : VK} (h : tM K W (cstM d) σ H Q) : tC v σ H Q := by
  obtain ⟨B, F, os, env, st, R, h⟩ := h
  exact h _ _ _ _ (Ext.refl _ _ _) R.ok (.dat (r F)) Frs.dat
theorem pe_ci {i : Int} {j pos} : PE X (.Constant (.int i) j pos) (tM (kx X ec) W (cstM (.int i))) := pe_int.imp fun _ _ _ => cst_ok fun _ => .int i
theorem pe_cb {b : Bool} {j pos} : PE X (.Constant (.bool b) j pos) (tM (kx X ec) W (cstM (.bool b))) := pe_bl.imp fun _ _ _ => cst_ok fun _ => .bl b
theorem pe_cn {j pos} : PE X (.Constant .none j pos) (tM (kx X ec) W (cstM .none)) := pe_non.imp fun _ _ _ => cst_ok fun _ => .non
theorem pe_cs {x : Str} {j pos} : PE X (.Constant (.str x) j pos) (tM (kx X ec) W (cstM (.str x))) := L2.pe_str.imp fun _ _ _ => cst_ok fun _ => .str x
/-- a constant of the module -/
theorem pe_gi {x : Str} {i : Int} {t : Tok} {pos : Pos} (hg : Gl X x) (hm : X.mg x = some (.int i t)) (hd : (x == ("__debug__" : Str)) = false := by decide) : PE X (.Name x pos) (tM (kx X ec) W (cstM (.int i))) :=
  (pe_glob hg hm (v := .int i) ⟨_, rfl⟩ hd).imp fun _ _ _ => cst_ok fun _ => .int i

/-! ### two operands -/
def binM (g : Val → Val → Option Val) (ma mb : EM) : EM := fun env st => (ma env st).bind fun v st1 => (mb env st1).bind fun w st2 => Ou.of st2 (g v w)
/-- by values: r serves what g tells -/
def Snd2 (K : Kx) (r : R2) (g : Val → Val → Option Val) : Prop := ∀ F os H st x y v w z Q, StOk K F os H st → VR K F os H x v → VR K F os H y w → g v w = some z →
  (∀ x' F' H', Ext F os H F' os H' → StOk K F' os H' st → VR K F' os H' x' z → Frs H x' z → Q x' H') → r x y H Q
theorem Snd2.or {K : Kx} {r r' : R2} {g g' : Val → Val → Option Val} (h : Snd2 K r g) (h' : Snd2 K r' g') : Snd2 K (fun x y H Q => r x y H Q ∨ r' x y H Q) (fun v w => (g v w).or (g' v w)) := by
  intro F os H st x y v w z Q k rx ry e q
  cases eg : g v w with
  | some u =>
    have e' : u = z := by
      dsimp only at e
      rw [eg] at e
      simpa using e
    subst e'
    exact .inl (h F os H st x y v w u Q k rx ry eg q)
  | none =>
    have e' : g' v w = some z := by
      dsimp only at e
      rw [eg] at e
      simpa using e
    exact .inr (h' F os H st x y v w z Q k rx ry e' q)
theorem bin_ok {K : Kx} {r : R2} {g : Val → Val → Option Val} (hs : Snd2 K r g) {σ : L2.St} {H : Hp} {Q : VK} (h : tM K W (binM g ma mb) σ H Q) : tOp r (tM K W ma) (tM K W mb) σ H Q := by
  obtain ⟨B, F, os, env, st, R, h⟩ := h
  refine ⟨B, F, os, env, st, R, h.bind ?_⟩
  intro v st1 x F1 os1 H1 ev e1 k1 r1 f1 p1
  refine ⟨B, F1, os1, env, st1, R.ext e1 k1, (p1.shift e1).bind ?_⟩
  intro w st2 y F2 os2 H2 ew e2 k2 r2 f2 p2
  obtain ⟨z, hz, q⟩ := p2.of
  refine hs F2 os2 H2 st2 x y v w z Q k2 (r1.ext e2) r2 hz fun x' F' H' e k r f => q x' F' os2 H' (e2.trans e) k r fun c p ev ex => e2.nn (f c p ev ex)
theorem pe_bin {op : Operator} {r : R2} {g : Val → Val → Option Val} (ho : OpR X (binaryOp op) r) (hs : Snd2 (kx X ec) r g) (ha : PE X a (tM (kx X ec) W ma)) (hb : PE X b (tM (kx X ec) W mb)) : PE X (.BinOp a op b pos) (tM (kx X ec) W (binM g ma mb)) :=
  (pe_op ho ha hb).imp fun _ _ _ => bin_ok hs
theorem pe_cmpb {op : CmpOp} {r : R2} {g : Val → Val → Option Val} (ho : OpR X (compareOp op) r) (hs : Snd2 (kx X ec) r g) (ha : PE X a (tM (kx X ec) W ma)) (hb : PE X b (tM (kx X ec) W mb)) (hm : behindInMarks op b = false) : PE X (.Compare a [op] [b] pos) (tM (kx X ec) W (binM g ma mb)) :=
  (pe_cmpR ho ha hb hm).imp fun _ _ _ => bin_ok hs
theorem pe_sub {r : R2} {g : Val → Val → Option Val} (ho : IxR X r) (hs : Snd2 (kx X ec) r g) (ha : PE X a (tM (kx X ec) W ma)) (hb : PE X b (tM (kx X ec) W mb)) (hp : PlainIx b) : PE X (.Subscript a b pos) (tM (kx X ec) W (binM g ma mb)) :=
  (pe_ix ho ha hb hp).imp fun _ _ _ => bin_ok hs
/-! ### one operand -/
def unM (g : Val → Option Val) (ma : EM) : EM := fun env st => (ma env st).bind fun v st1 => Ou.of st1 (g v)
def Snd1 (K : Kx) (r : V → Hp → VK → Prop) (g : Val → Option Val) : Prop := ∀ F os H st x v z Q, StOk K F os H st → VR K F os H x v → g v = some z →
  (∀ x' F' H', Ext F os H F' os H' → StOk K F' os H' st → VR K F' os H' x' z → Frs H x' z → Q x' H') → r x H Q
theorem un_ok {K : Kx} {r : V → Hp → VK → Prop} {g : Val → Option Val} (hs : Snd1 K r g) {σ : L2.St} {H : Hp} {Q : VK} (h : tM K W (unM g ma) σ H Q) : tM K W ma σ H fun x H1 => r x H1 Q := by
  obtain ⟨B, F, os, env, st, R, h⟩ := h
  refine ⟨B, F, os, env, st, R, h.bind ?_⟩
  intro v st1 x F1 os1 H1 ev e1 k1 r1 f1 p1
  obtain ⟨z, hz, q⟩ := p1.of
  exact hs F1 os1 H1 st1 x v z Q k1 r1 hz fun x' F' H' e k r f => q x' F' os1 H' (e1.trans e) k r fun c p ev ex => e1.nn (f c p ev ex)
theorem pe_unM {op : UnaryOp} {r : V → Hp → VK → Prop} {g : Val → Option Val} (ho : UnR X (unaryOp op) r) (hs : Snd1 (kx X ec) r g) (ha : PE X a (tM (kx X ec) W ma)) : PE X (.UnaryOp op a pos) (tM (kx X ec) W (unM g ma)) :=
  (pe_un ho ha).imp fun _ _ _ => un_ok hs

/-! ### arguments -/
inductive OuL where
  | stk
  | ok (vs : List Val) (st : List Cn)
  | exc (c : Nat) (d : D) (st : List Cn)
abbrev AM := Env → List Cn → OuL
def OuL.bind (o : OuL) (k : List Val → List Cn → Ou) : Ou := match o with
  | .stk => .stk
  | .ok v st => k v st
  | .exc c d st => .exc c d st
def Ou.bindL (o : Ou) (k : Val → List Cn → OuL) : OuL := match o with
  | .stk => .stk
  | .ok v st => k v st
  | .exc c d st => .exc c d st
def OuL.bindL (o : OuL) (k : List Val → List Cn → OuL) : OuL := match o with
  | .stk => .stk
  | .ok v st => k v st
  | .exc c d st => .exc c d st
@[simp] theorem OuL.bind_stk (k) : OuL.stk.bind k = .stk := rfl
@[simp] theorem OuL.bind_ok (v st k) : (OuL.ok v st).bind k = k v st := rfl
@[simp] theorem OuL.bind_exc (c d st k) : (OuL.exc c d st).bind k = .exc c d st := rfl
@[simp] theorem Ou.bindL_stk (k) : Ou.stk.bindL k = .stk := rfl
@[simp] theorem Ou.bindL_ok (v st k) : (Ou.ok v st).bindL k = k v st := rfl
@[simp] theorem Ou.bindL_exc (c d st k) : (Ou.exc c d st).bindL k = .exc c d st := rfl
@[simp] theorem OuL.bindL_stk (k) : OuL.stk.bindL k = .stk := rfl
@[simp] theorem OuL.bindL_ok (v st k) : (OuL.ok v st).bindL k = k v st := rfl
@[simp] theorem OuL.bindL_exc (c d st k) : (OuL.exc c d st).bindL k = .exc c d st := rfl
inductive VRs (K : Kx) (F : Hp) (os : List Addr) (H : Hp) : List V → List Val → Prop
  | nil : VRs K F os H [] []
  | cons {x xs v vs} : VR K F os H x v → VRs K F os H xs vs → VRs K F os H (x :: xs) (v :: vs)
theorem VRs.ext {K : Kx} {F H F' H' : Hp} {os os' : List Addr} (e : Ext F os H F' os' H') : ∀ {vs : List V} {xs : List Val}, VRs K F os H vs xs → VRs K F' os' H' vs xs
  | _, _, .nil => .nil
  | _, _, .cons r t => .cons (r.ext e) (VRs.ext e t)
def nofr : Val → Bool
  | .fr _ => false
  | _ => true
def PoL (K : Kx) (W : WX) (σ : L2.St) (F : Hp) (os : List Addr) (H : Hp) (o : OuL) (Q : List V → Hp → Prop) : Prop := match o with
  | .stk => False
  | .ok vs st => ∀ xs F' os' H', Ext F os H F' os' H' → StOk K F' os' H' st → VRs K F' os' H' xs vs → vs.all nofr = true → Q xs H'
  | .exc c d st => ∀ cls dd F' os' H', Ext F os H F' os' H' → StOk K F' os' H' st → ErD K F' cls dd c d → W cls dd σ H'
def tA (K : Kx) (W : WX) (m : AM) : TA := fun σ H Q => ∃ B F os env st, Rel K B F os σ H env st ∧ PoL K W σ F os H (m env st) Q
theorem PoL.shift {K : Kx} {σ : L2.St} {F H F' H' : Hp} {os os' : List Addr} (e : Ext F os H F' os' H') {o : OuL} {Q : List V → Hp → Prop} (h : PoL K W σ F os H o Q) : PoL K W σ F' os' H' o Q := by
  cases o with
  | stk => exact h
  | ok v st => exact fun x F2 os2 H2 e2 k r f => h x F2 os2 H2 (e.trans e2) k r f
  | exc c d st => exact fun cls dd F2 os2 H2 e2 k r => h cls dd F2 os2 H2 (e.trans e2) k r
theorem PoL.bind {K : Kx} {σ : L2.St} {F H : Hp} {os : List Addr} {o : OuL} {k : List Val → List Cn → Ou} {Q : VK} {Q1 : List V → Hp → Prop} (h : Po K W σ F os H (o.bind k) Q)
    (hk : ∀ v st1 x F1 os1 H1, o = .ok v st1 → Ext F os H F1 os1 H1 → StOk K F1 os1 H1 st1 → VRs K F1 os1 H1 x v → v.all nofr = true → Po K W σ F os H (k v st1) Q → Q1 x H1) : PoL K W σ F os H o Q1 := by
  cases o with
  | stk => exact h
  | ok v st => exact fun x F1 os1 H1 e q r f => hk v st x F1 os1 H1 rfl e q r f h
  | exc c d st => exact h
def anil : AM := fun _ st => .ok [] st
def acons (m : EM) (r : AM) : AM := fun env st => (m env st).bindL fun v st1 => match v.frz with
  | none => .stk
  | some w => (r env st1).bindL fun vs st2 => .ok (w :: vs) st2
theorem pa_n : PA X [] (tA (kx X ec) W anil) := pa_nil.imp fun σ H Q h => by
  obtain ⟨B, F, os, env, st, R, h⟩ := h
  exact h [] F os H (Ext.refl _ _ _) R.ok .nil rfl
theorem frz_nofr {v w : Val} (h : v.frz = some w) : nofr w = true := by
  cases v <;> simp only [Val.frz] at h <;> cases h <;> rfl
theorem acons_ok {K : Kx} {r : AM} {σ : L2.St} {H : Hp} {Q : List V → Hp → Prop} (h : tA K W (acons m r) σ H Q) : tCons (tM K W (frzM m)) (tA K W r) σ H Q := by
  obtain ⟨B, F, os, env, st, R, h⟩ := h
  refine ⟨B, F, os, env, st, R, ?_⟩
  unfold acons at h
  unfold frzM
  cases hm : m env st with
  | stk => rw [hm] at h; exact h
  | exc c d st1 => rw [hm] at h; exact h
  | ok v st1 =>
    rw [hm] at h
    dsimp only [Ou.bindL, Ou.bind] at h ⊢
    cases hv : v.frz with
    | none => rw [hv] at h; exact h
    | some w =>
      rw [hv] at h
      intro x F1 os1 H1 e1 k1 r1 f1
      refine ⟨B, F1, os1, env, st1, R.ext e1 k1, ?_⟩
      dsimp only at h
      cases hr : r env st1 with
      | stk => rw [hr] at h; exact h
      | exc c d st2 =>
        rw [hr] at h
        exact fun cls dd F2 os2 H2 e2 k2 r2 => h cls dd F2 os2 H2 (e1.trans e2) k2 r2
      | ok vs st2 =>
        rw [hr] at h
        exact fun xs F2 os2 H2 e2 k2 r2 f2 => h (x :: xs) F2 os2 H2 (e1.trans e2) k2 (.cons (r1.ext e2) r2) (by rw [List.all_cons, frz_nofr hv, f2]; rfl)
theorem pa_c {r : AM} {es : List Expr} (he : PE X e (tM (kx X ec) W m)) (hr : PA X es (tA (kx X ec) W r)) (hs : starEach (e :: es) X.env = (false, eval e X.env) :: starEach es X.env := by rfl) : PA X (e :: es) (tA (kx X ec) W (acons m r)) :=
  (pa_cons (pe_frz he) hr hs).imp fun _ _ _ => acons_ok

/-! ### displays -/
def dats : List Val → Option (List D)
  | [] => some []
  | .dat d :: r => (dats r).map (d :: ·)
  | _ :: _ => none
theorem dats_ok {K : Kx} {F H : Hp} {os : List Addr} : ∀ {vs : List Val} {xs : List V} {ds : List D}, VRs K F os H xs vs → dats vs = some ds → Drs K F xs ds
  | [], _, _, .nil, h => by cases h; exact .nil
  | .dat d :: r, _, ds, .cons (.dat a) b, h => by
    simp only [dats] at h
    cases e : dats r with
    | none => rw [e] at h; cases h
    | some es => rw [e] at h; cases h; exact .cons a (dats_ok b e)
def tupM (r : AM) : EM := fun env st => (r env st).bind fun vs st1 => Ou.of st1 (match dats vs with | some ds => if ds.length ≤ sizeLine then some (.dat (.tuple ds)) else none | none => none)
def lstM (r : AM) : EM := fun env st => (r env st).bind fun vs st1 => Ou.of st1 (match dats vs with | some ds => if ds.length ≤ sizeLine then some (.fr (.lst ds)) else none | none => none)
/-- a display, its object without a dict -/
def tTupN (t : TA) : TE := fun σ H Q => t σ H fun xs H1 => xs.length ≤ sizeLine ∧ ∀ p ob, H1 p = none → NdO ob → Q (.ref p) (upd H1 p (.frz ob (.tup xs)))
theorem pe_tupN {t : TA} {es : List Expr} {x1} (h : PA X es t) : PE X (.Tuple es x1 pos) (tTupN t) := by
  constructor
  intro pins s σ H Q I hq
  apply wpAny_Tuple_spliced
  refine thn (h.run pos pins s σ H _ I hq) ?_
  rintro us s1 ⟨ys, G, J, rv, hl, q⟩
  have hf : G s1.heap.objs.size = none := J.hok.fresh (Nat.le_refl _)
  have hg : (s1.heap.push ({ cls := .type "tuple", data := .seq us.toArray } : Obj)).get? s1.heap.objs.size = some { cls := .type "tuple", data := .seq us.toArray } := Heap.get?_push_size _ rfl
  refine ⟨by rw [← rv.length]; exact hl, .ref s1.heap.objs.size, upd G s1.heap.objs.size (.frz { cls := .type "tuple", data := .seq us.toArray } (.tup ys)), ?_, rfl, q _ _ hf ⟨rfl, rfl⟩⟩
  exact J.laid (t' := s1.toks) (fun c o z => Heap.get?_push_of_some _ z) (Nat.le_refl _) ⟨hg, hl, us, rv, ⟨_, hg, rfl, _, rfl⟩⟩
theorem pe_tu {r : AM} {es : List Expr} {x1} (h : PA X es (tA (kx X ec) W r)) : PE X (.Tuple es x1 pos) (tM (kx X ec) W (tupM r)) := (pe_tupN h).imp fun σ H Q h => by
  obtain ⟨B, F, os, env, st, R, h⟩ := h
  refine ⟨B, F, os, env, st, R, PoL.bind h ?_⟩
  intro vs st1 xs F1 os1 H1 ev e1 k1 r1 n1 p1
  obtain ⟨z, hz, q⟩ := p1.of
  cases hd : dats vs with
  | none => rw [hd] at hz; cases hz
  | some ds =>
    rw [hd] at hz
    dsimp only at hz
    split at hz
    · rename_i hl
      cases hz
      have rd := dats_ok r1 hd
      refine ⟨by rw [rd.len]; exact hl, fun p ob hp hn => q _ _ _ _ (e1.trans (Ext.newF k1 hp)) (k1.newF hp) (VR.newTupN k1 hp hn rd) Frs.dat⟩
    · cases hz
theorem pe_ls {r : AM} {es : List Expr} (h : PA X es (tA (kx X ec) W r)) : PE X (.List es pos) (tM (kx X ec) W (lstM r)) := (pe_lst h).imp fun σ H Q h => by
  obtain ⟨B, F, os, env, st, R, h⟩ := h
  refine ⟨B, F, os, env, st, R, PoL.bind h ?_⟩
  intro vs st1 xs F1 os1 H1 ev e1 k1 r1 n1 p1
  obtain ⟨z, hz, q⟩ := p1.of
  cases hd : dats vs with
  | none => rw [hd] at hz; cases hz
  | some ds =>
    rw [hd] at hz
    dsimp only at hz
    split at hz
    · rename_i hl
      cases hz
      have rd := dats_ok r1 hd
      refine ⟨by rw [rd.len]; exact hl, fun p hp => q _ _ _ _ (e1.trans (Ext.newO k1 hp)) (k1.newO hp) (VR.newLst k1 hp rd) (Frs.new (e1.nn hp))⟩
    · cases hz

/-! ### calls of what is built in -/
def callM (g : List Val → Option Val) (r : AM) : EM := fun env st => (r env st).bind fun vs st1 => Ou.of st1 (g vs)
def SndN (K : Kx) (r : List V → Hp → VK → Prop) (g : List Val → Option Val) : Prop := ∀ F os H st xs vs z Q, StOk K F os H st → VRs K F os H xs vs → g vs = some z →
  (∀ x' F' H', Ext F os H F' os H' → StOk K F' os H' st → VR K F' os H' x' z → Frs H x' z → Q x' H') → r xs H Q
theorem SndN.or {K : Kx} {r r' : List V → Hp → VK → Prop} {g g' : List Val → Option Val} (h : SndN K r g) (h' : SndN K r' g') : SndN K (fun xs H Q => r xs H Q ∨ r' xs H Q) (fun v => (g v).or (g' v)) := by
  intro F os H st xs v z Q k rx e q
  cases eg : g v with
  | some u =>
    have e' : u = z := by
      dsimp only at e
      rw [eg] at e
      simpa using e
    subst e'
    exact .inl (h F os H st xs v u Q k rx eg q)
  | none =>
    have e' : g' v = some z := by
      dsimp only at e
      rw [eg] at e
      simpa using e
    exact .inr (h' F os H st xs v z Q k rx e' q)
theorem call_ok {K : Kx} {g : List Val → Option Val} {r : List V → Hp → VK → Prop} {ra : AM} (hs : SndN K r g) {σ : L2.St} {H : Hp} {Q : VK} (h : tM K W (callM g ra) σ H Q) : tCB r (tA K W ra) σ H Q := by
  obtain ⟨B, F, os, env, st, R, h⟩ := h
  refine ⟨B, F, os, env, st, R, PoL.bind h ?_⟩
  intro vs st1 xs F1 os1 H1 ev e1 k1 r1 n1 p1
  obtain ⟨z, hz, q⟩ := p1.of
  exact hs F1 os1 H1 st1 xs vs z Q k1 r1 hz fun x' F' H' e k r f => q x' F' os1 H' (e1.trans e) k r fun c p ev ex => e1.nn (f c p ev ex)
theorem pe_cB {id : String} {g : List Val → Option Val} {r : List V → Hp → VK → Prop} {x : Str} {p : Pos} {es : List Expr} {ra : AM} (hc : CallR X (.builtin id) r) (hs : SndN (kx X ec) r g) (hg : Gl X x) (hm : X.mg x = none) (hv : bootBuiltins x = some (.builtin id)) (ha : PA X (e :: es) (tA (kx X ec) W ra))
    (hn : x ≠ "__name__" := by decide) (hdb : (x == ("__debug__" : Str)) = false := by decide)
    (he : starEach (e :: es) X.env = (false, eval e X.env) :: starEach es X.env := by rfl) (hpl : (backTo pos (starEach es X.env)).any (·.1) = false := by rfl) : PE X (.Call (.Name x p) (e :: es) [] pos) (tM (kx X ec) W (callM g ra)) :=
  (pe_callB hc hg hm hv ha hn hdb he hpl).imp fun _ _ _ => call_ok hs
theorem pe_cT {T : String} {g : List Val → Option Val} {r : List V → Hp → VK → Prop} {x : Str} {p : Pos} {es : List Expr} {ra : AM} (hc : CallR X (.type T) r) (hs : SndN (kx X ec) r g) (hg : Gl X x) (hm : X.mg x = none) (hv : bootBuiltins x = some (.type T)) (ha : PA X (e :: es) (tA (kx X ec) W ra))
    (hn : x ≠ "__name__" := by decide) (hdb : (x == ("__debug__" : Str)) = false := by decide)
    (he : starEach (e :: es) X.env = (false, eval e X.env) :: starEach es X.env := by rfl) (hpl : (backTo pos (starEach es X.env)).any (·.1) = false := by rfl) : PE X (.Call (.Name x p) (e :: es) [] pos) (tM (kx X ec) W (callM g ra)) :=
  (pe_callTy hc hg hm hv ha hn hdb he hpl).imp fun _ _ _ => call_ok hs
theorem pe_cF {id : String} {g : List Val → Option Val} {r : List V → Hp → VK → Prop} {x : Str} {p : Pos} {es : List Expr} {ra : AM} (hc : CallR X (.builtin id) r) (hs : SndN (kx X ec) r g) (hg : Gl X x) (hm : X.mg x = some (.builtin id)) (ha : PA X (e :: es) (tA (kx X ec) W ra)) (hdb : (x == ("__debug__" : Str)) = false := by decide)
    (he : starEach (e :: es) X.env = (false, eval e X.env) :: starEach es X.env := by rfl) (hpl : (backTo pos (starEach es X.env)).any (·.1) = false := by rfl) : PE X (.Call (.Name x p) (e :: es) [] pos) (tM (kx X ec) W (callM g ra)) :=
  (pe_callBfun hc hg hm ha hdb he hpl).imp fun _ _ _ => call_ok hs
end
end Pl

set_option Elab.async false
set_option linter.all false
set_option maxRecDepth 100000
set_option maxHeartbeats 4000000
namespace Pl
open PySem PySem.Spec PyProof.Rows L2

/-! ### views -/
def asList : Val → Option (List D)
  | .dat (.list ds) => some ds
  | .fr (.lst ds) => some ds
  | .bor (.lst ds) => some ds
  | _ => none
def asTup : Val → Option (List D)
  | .dat (.tuple ds) => some ds
  | _ => none
def asView : Val → Option D
  | .dat d => some d
  | .fr (.lst ds) => some (.list ds)
  | .bor (.lst ds) => some (.list ds)
  | _ => none
section
variable {K : Kx} {F H : Hp} {os : List Addr} {st : List Cn} {x : V} {v : Val}
theorem VR.list (k : StOk K F os H st) (r : VR K F os H x v) {ds : List D} (e : asList v = some ds) : ∃ p xs, x = .ref p ∧ H p = some (.lst xs) ∧ Drs K F xs ds := by
  cases r with
  | dat r =>
    cases r <;> simp only [asList] at e <;> try cases e
    rename_i a b
    exact ⟨_, _, rfl, k.sub _ _ a, b⟩
  | fr a b c d =>
    cases d with
    | lst d => cases e; exact ⟨_, _, rfl, c, d⟩
    | dk d => cases e
  | bor a b c d =>
    cases d with
    | lst d => cases e; exact ⟨_, _, rfl, c, d⟩
    | dk d => cases e
  | obj a => cases e
  | scr a b => cases e
theorem VR.tup (k : StOk K F os H st) (r : VR K F os H x v) {ds : List D} (e : asTup v = some ds) : v = .dat (.tuple ds) ∧ ∃ p xs, x = .ref p ∧ SqT K.K H p xs ∧ Drs K F xs ds := by
  cases r with
  | dat r =>
    cases r <;> simp only [asTup] at e <;> try cases e
    rename_i a n b
    exact ⟨rfl, _, _, rfl, Same.sqT k.sub a, b⟩
  | fr a b c d => cases e
  | bor a b c d => cases e
  | obj a => cases e
  | scr a b => cases e
theorem VR.view (k : StOk K F os H st) (r : VR K F os H x v) {d : D} (e : asView v = some d) (n : d.hasDict = false) : Dp K.K H x d := by
  cases r with
  | dat r => cases e; exact Dr.dp k.sub _ _ n r
  | fr a b c r =>
    cases r with
    | lst r => cases e; exact .lst (SqL.of c) (Drs.dp k.sub _ _ (by simpa [PyData.hasDict] using n) r)
    | dk r => cases e
  | bor a b c r =>
    cases r with
    | lst r => cases e; exact .lst (SqL.of c) (Drs.dp k.sub _ _ (by simpa [PyData.hasDict] using n) r)
    | dk r => cases e
  | obj a => cases e
  | scr a b => cases e
theorem VR.int {i : Int} (r : VR K F os H x (.dat (.int i))) : x = .int i := by cases r with | dat r => cases r; rfl
theorem VR.bool {i : Bool} (r : VR K F os H x (.dat (.bool i))) : x = .bl i := by cases r with | dat r => cases r; rfl
theorem VR.str {i : Str} (r : VR K F os H x (.dat (.str i))) : x = .str i := by cases r with | dat r => cases r; rfl
end

/-! ### int, text arithmetic -/
def gII (c : Int → Int → Bool) (f : Int → Int → Int) : Val → Val → Option Val
  | .dat (.int i), .dat (.int j) => if c i j then some (.dat (.int (f i j))) else none
  | _, _ => none
def gIB (f : Int → Int → Bool) : Val → Val → Option Val
  | .dat (.int i), .dat (.int j) => some (.dat (.bool (f i j)))
  | _, _ => none
section
variable {K : Kx}
theorem snd_rI {C : Int → Int → Prop} {c : Int → Int → Bool} {f : Int → Int → Int} (hc : ∀ i j, c i j = true → C i j) : Snd2 K (rI C fun i j => .int (f i j)) (gII c f) := by
  intro F os H st x y v w z Q k rx ry e q
  unfold gII at e
  split at e
  · rename_i i j
    split at e
    · rename_i hcc
      cases e
      exact ⟨i, j, rx.int, ry.int, hc i j hcc, q _ F H (Ext.refl _ _ _) k (.dat (.int _)) Frs.dat⟩
    · cases e
  · cases e
theorem snd_rI0 {f : Int → Int → Int} : Snd2 K (rI0 fun i j => .int (f i j)) (gII (fun _ _ => true) f) := by
  intro F os H st x y v w z Q k rx ry e q
  unfold gII at e
  split at e
  · rename_i i j
    rw [if_pos rfl] at e
    cases e
    exact ⟨i, j, rx.int, ry.int, q _ F H (Ext.refl _ _ _) k (.dat (.int _)) Frs.dat⟩
  · cases e
theorem snd_rIB {f : Int → Int → Bool} : Snd2 K (rI0 fun i j => .bl (f i j)) (gIB f) := by
  intro F os H st x y v w z Q k rx ry e q
  unfold gIB at e
  split at e
  · rename_i i j
    cases e
    exact ⟨i, j, rx.int, ry.int, q _ F H (Ext.refl _ _ _) k (.dat (.bl _)) Frs.dat⟩
  · cases e
def gAddS : Val → Val → Option Val
  | .dat (.str i), .dat (.str j) => if i.length + j.length ≤ sizeLine then some (.dat (.str (i ++ j))) else none
  | _, _ => none
theorem snd_addS : Snd2 K (fun x y H Q => ∃ i j, x = .str i ∧ y = .str j ∧ i.length + j.length ≤ sizeLine ∧ Q (.str (i ++ j)) H) gAddS := by
  intro F os H st x y v w z Q k rx ry e q
  unfold gAddS at e
  split at e
  · rename_i i j
    split at e
    · rename_i hl
      cases e
      exact ⟨i, j, rx.str, ry.str, hl, q _ F H (Ext.refl _ _ _) k (.dat (.str _)) Frs.dat⟩
    · cases e
  · cases e
/-! ### lists and tuples put together -/
def gCatL (v w : Val) : Option Val := match asList v, asList w with
  | some a, some b => if a.length + b.length ≤ sizeLine then some (.fr (.lst (a ++ b))) else none
  | _, _ => none
theorem snd_catL : Snd2 K rCat gCatL := by
  intro F os H st x y v w z Q k rx ry e q
  unfold gCatL at e
  split at e
  · rename_i a b ha hb
    split at e
    · rename_i hl
      cases e
      obtain ⟨p, xs, rfl, h1, d1⟩ := rx.list k ha
      obtain ⟨p2, ys, rfl, h2, d2⟩ := ry.list k hb
      exact ⟨p, p2, xs, ys, rfl, rfl, h1, h2, by rw [d1.len, d2.len]; exact hl, fun r hr => q _ F _ (Ext.newO k hr) (k.newO hr) (VR.newLst k hr (d1.append d2)) (Frs.new hr)⟩
    · cases e
  · cases e
def gCatT (v w : Val) : Option Val := match asTup v, asTup w with
  | some a, some b => if a.length + b.length ≤ sizeLine then some (.dat (.tuple (a ++ b))) else none
  | _, _ => none
theorem Drs.nilD {K : Kx} {F : Hp} {ds : List D} (h : Drs K F [] ds) : ds = [] := by cases h; rfl
/-- t + u: a new one without a dict, or one of both -/
def rCatN (K : PySem.W.Frag) : R2 := fun x y H Q => ∃ a b xs ys, x = .ref a ∧ y = .ref b ∧ SqT K H a xs ∧ SqT K H b ys ∧ xs.length + ys.length ≤ sizeLine ∧
  (xs = [] → Q (.ref b) H) ∧ (xs ≠ [] → ys = [] → Q (.ref a) H) ∧ (xs ≠ [] → ys ≠ [] → ∀ p ob, H p = none → NdO ob → Q (.ref p) (upd H p (.frz ob (.tup (xs ++ ys)))))
theorem op_catN {X : Cx} : OpR X (binaryOp .Add) (rCatN X.K) := by
  intro pins s σ H x y v u Q I rx ry h
  obtain ⟨a, b, xs, ys, rfl, rfl, ha, hb, hz, q0, q1, q2⟩ := h
  by_cases hx : xs = []
  · exact op_catA pins s σ H _ _ v u Q I rx ry ⟨a, b, xs, ys, rfl, rfl, ha, hb, hz, q0, fun n => absurd hx n, fun n => absurd hx n⟩
  · by_cases hy : ys = []
    · exact op_catA pins s σ H _ _ v u Q I rx ry ⟨a, b, xs, ys, rfl, rfl, ha, hb, hz, q0, q1, fun _ n => absurd hy n⟩
    · cases rx
      cases ry
      obtain ⟨us, ru, pu, _⟩ := I.tuple ha
      obtain ⟨ws, rw, pw, _⟩ := I.tuple hb
      refine HT.cat_tup pu pw (fun z => hx (ru.nil_iff.mp z)) (fun z => absurd (rw.nil_iff.mp z) hy) (fun z => ?_) (by rw [← ru.length, ← rw.length]; exact hz)
      have hf := I.hok.fresh (Nat.le_refl s.heap.objs.size)
      refine ⟨.ref s.heap.objs.size, _, I.laid (t' := s.toks) (o := .frz _ (.tup (xs ++ ys))) (fun c o z => Heap.get?_push_of_some _ z) (Nat.le_refl _) ⟨Heap.get?_push_size _ rfl, ?_⟩, rfl, q2 hx hy _ _ hf ⟨rfl, rfl⟩⟩
      exact ⟨by rw [List.length_append]; exact hz, _, ru.append rw, IsTup.new _ _⟩
theorem snd_catT : Snd2 K (rCatN K.K) gCatT := by
  intro F os H st x y v w z Q k rx ry e q
  unfold gCatT at e
  split at e
  · rename_i a b ha hb
    split at e
    · rename_i hl
      cases e
      obtain ⟨e1, p, xs, rfl, h1, d1⟩ := rx.tup k ha
      obtain ⟨e2, p2, ys, rfl, h2, d2⟩ := ry.tup k hb
      subst e1 e2
      refine ⟨p, p2, xs, ys, rfl, rfl, h1, h2, by rw [d1.len, d2.len]; exact hl, fun hx => ?_, fun hx hy => ?_, fun hx hy r ob hr hn => q _ _ _ (Ext.newF k hr) (k.newF hr) (VR.newTupN k hr hn (d1.append d2)) Frs.dat⟩
      · subst hx
        have := d1.nilD
        subst this
        exact q _ F H (Ext.refl _ _ _) k ry Frs.dat
      · subst hy
        have := d2.nilD
        subst this
        rw [List.append_nil] at q
        exact q _ F H (Ext.refl _ _ _) k rx Frs.dat
    · cases e
  · cases e
/-- from -2 ^ 62 up to 2 ^ 62, so told that nothing is reckoned with where the number is a letter -/
def inb (j : Int) : Bool := match j with
  | .ofNat n => Nat.ble n 4611686018427387903
  | .negSucc n => Nat.ble n 4611686018427387903
theorem inb_ok {j : Int} (h : inb j = true) : -(2 ^ 62) ≤ j ∧ j < 2 ^ 62 := by
  cases j with
  | ofNat n =>
    have : n ≤ 4611686018427387903 := Nat.le_of_ble_eq_true h
    have e : Int.ofNat n = (n : Int) := rfl
    rw [e]
    omega
  | negSucc n =>
    have : n ≤ 4611686018427387903 := Nat.le_of_ble_eq_true h
    rw [Int.negSucc_eq]
    omega
theorem inb_nat {n : Nat} (h : n ≤ 4611686018427387903) : inb (n : Int) = true := Nat.ble_eq_true_of_le h
theorem inb_mk {j : Int} (h1 : -(2 ^ 62) ≤ j) (h2 : j < 2 ^ 62) : inb j = true := by
  cases j with
  | ofNat n =>
    have e : Int.ofNat n = (n : Int) := rfl
    rw [e] at h2
    exact Nat.ble_eq_true_of_le (by omega)
  | negSucc n =>
    rw [Int.negSucc_eq] at h1
    exact Nat.ble_eq_true_of_le (by omega)
def gRepL : Val → Val → Option Val
  | v, .dat (.int n) => match asList v with
    | some a => if (inb n && Nat.ble (a.length * n.toNat) 16777216) = true then some (.fr (.lst (List.replicate n.toNat a).flatten)) else none
    | none => none
  | _, _ => none
theorem snd_repL : Snd2 K rRep gRepL := by
  intro F os H st x y v w z Q k rx ry e q
  unfold gRepL at e
  split at e
  · rename_i v n
    split at e
    · rename_i a ha
      split at e
      · rename_i hn
        cases e
        obtain ⟨p, xs, rfl, h1, d1⟩ := rx.list k ha
        rw [Bool.and_eq_true] at hn
        have hb := inb_ok hn.1
        exact ⟨p, n, xs, rfl, ry.int, h1, by omega, by omega, by rw [d1.len, sizeLine_eq]; exact Nat.le_of_ble_eq_true hn.2, fun r hr => q _ F _ (Ext.newO k hr) (k.newO hr) (VR.newLst k hr (d1.rep _)) (Frs.new hr)⟩
      · cases e
    · cases e
  · cases e
theorem strsB_all {ds : List D} : strsB ds = false → ds ≠ [] → ds.all isS = false := by
  intro h n
  cases ds with
  | nil => exact absurd rfl n
  | cons d r => exact h
theorem strsB_rep {a : List D} (h : a ≠ []) (hs : strsB a = false) (n : Nat) : strsB (List.replicate n a).flatten = false := by
  have ha := strsB_all hs h
  cases n with
  | zero => rfl
  | succ n =>
    have e : ((List.replicate (n + 1) a).flatten).all isS = false := by
      rw [List.replicate_succ, List.flatten_cons, List.all_append, ha]
      rfl
    cases hq : (List.replicate (n + 1) a).flatten with
    | nil => rfl
    | cons d r => rw [hq] at e; exact e
def gRepT : Val → Val → Option Val
  | .dat (.tuple a), .dat (.int n) => if a ≠ [] ∧ 2 ≤ n ∧ n ≤ 1000 ∧ a.length ≤ 1000 ∧ strsB a = false then some (.dat (.tuple (List.replicate n.toNat a).flatten)) else none
  | _, _ => none
theorem snd_repT : Snd2 K (rRepT K.K) gRepT := by
  intro F os H st x y v w z Q k rx ry e q
  unfold gRepT at e
  split at e
  · rename_i a n
    split at e
    · rename_i hn
      cases e
      obtain ⟨_, p, xs, rfl, h1, d1⟩ := rx.tup k rfl
      refine ⟨p, n, xs, rfl, ry.int, h1, fun z => hn.1 (by subst z; exact d1.nilD), hn.2.1, hn.2.2.1, by rw [d1.len]; exact hn.2.2.2.1, fun r hr => q _ _ _ (Ext.newF k hr) (k.newF hr) (VR.newTup k hr (d1.rep _) (strsB_rep hn.1 hn.2.2.2.2 _)) Frs.dat⟩
    · cases e
  · cases e

/-- t * 1 is t itself -/
theorem mul_self (l : Addr) (items : Array Value) (n : Nat) (dd : Option Addr) (sl : Array (Option Value)) (x : Int) (u : Tok) (c0 : (decide (x < -(2 ^ 63)) || decide (x ≥ 2 ^ 63)) = false) (c1 : (items.isEmpty || x == 1) = true) :
    Meets (Builtin.«tuple.__mul__» ⟨[.ref l, .int x u], []⟩) (fun _ R s => s.heap.get? l = some { cls := .type "tuple", dict := dd, data := .seq items n, slots := sl } ∧ R (.ok (.ret (Value.ref l))) s) :=
  .of_wp fun prog w A R s h => by
    obtain ⟨hp, g, d, tk, os⟩ := s
    obtain ⟨hl, h⟩ := h
    have f1 := AutoSeq1.idx_int
    wp_walk using wpAny_loadPart' hl
    repeat (first
      | (refine wpAny_ite_false (decide_eq_false (by rw [c0]; exact Bool.false_ne_true)) ?_; wp_walk using wpAny_loadPart' hl)
      | (refine wpAny_ite_true (decide_eq_true c1) ?_; wp_walk using wpAny_loadPart' hl))
    exact ⟨_, rfl, h⟩
def rRep1 (K : PySem.W.Frag) : R2 := fun x y H Q => ∃ l xs, x = .ref l ∧ y = .int 1 ∧ SqT K H l xs ∧ Q (.ref l) H
theorem op_rep1 {X : Cx} : OpR X (binaryOp .Mult) (rRep1 X.K) := by
  intro pins s σ H x y v u Q I rx ry h
  obtain ⟨l, xs, rfl, rfl, hT, q⟩ := h
  cases rx
  obtain ⟨t, rfl⟩ := ry
  obtain ⟨us, r, ⟨⟨c, dd, dat, so⟩, ho, hc, n, hd⟩, _⟩ := I.tuple hT
  simp only at hc hd
  subst hc hd
  have c1 : (us.toArray.isEmpty || ((1 : Int) == 1)) = true := by
    rw [show ((1 : Int) == 1) = true from rfl, Bool.or_true]
  exact wpAny_binaryOp_repeat_ref (T := "tuple") (U := "int") (by decide) ⟨_, ho, rfl⟩ (fun s' => typeIs_int s' 1 t) noFill_tuple_mul F.fills_int_mul F.slot_int_rmul repeat_tuple F.slot_int_index.lookup
    (call_meets F.slot_int_rmul (typeIs_int s 1 t) F.entry_int_rmul (F.args_int_rmul_2 _ _) (int_rmul_tuple 1 t l us.toArray n dd so)
      ⟨ho, rfl, ⟨_, ho, rfl⟩, call_meets F.slot_tuple_mul ⟨_, ho, rfl⟩ F.entry_tuple_mul (F.args_tuple_mul_2 _ _) (mul_self l us.toArray n dd so 1 t (by decide) c1) ⟨ho, ⟨.ref l, H, I, rfl, q⟩⟩⟩)
def gRep1 : Val → Val → Option Val
  | .dat (.tuple a), .dat (.int 1) => some (.dat (.tuple a))
  | _, _ => none
theorem snd_rep1 : Snd2 K (rRep1 K.K) gRep1 := by
  intro F os H st x y v w z Q k rx ry e q
  unfold gRep1 at e
  split at e
  · rename_i a
    cases e
    obtain ⟨_, p, xs, rfl, h1, d1⟩ := rx.tup k rfl
    exact ⟨p, xs, rfl, ry.int, h1, q _ F H (Ext.refl _ _ _) k rx Frs.dat⟩
  · cases e

/-! ### comparisons -/
def gEq (v w : Val) : Option Val := match asView v, asView w with
  | some d, some e => if SeqAt.shaped d = true ∧ SeqAt.shaped e = true then some (.dat (.bool (PyData.eqv d e))) else none
  | _, _ => none
def gNe (v w : Val) : Option Val := match asView v, asView w with
  | some d, some e => if SeqAt.shaped d = true ∧ SeqAt.shaped e = true then some (.dat (.bool (!PyData.eqv d e))) else none
  | _, _ => none
theorem snd_eq : Snd2 K (rEqD K.K) gEq := by
  intro F os H st x y v w z Q k rx ry e q
  unfold gEq at e
  split at e
  · rename_i d1 d2 h1 h2
    split at e
    · rename_i hs
      cases e
      exact ⟨d1, d2, rx.view k h1 (noDict hs.1), ry.view k h2 (noDict hs.2), hs.1, hs.2, q _ F H (Ext.refl _ _ _) k (.dat (.bl _)) Frs.dat⟩
    · cases e
  · cases e
theorem snd_ne : Snd2 K (rNeD K.K) gNe := by
  intro F os H st x y v w z Q k rx ry e q
  unfold gNe at e
  split at e
  · rename_i d1 d2 h1 h2
    split at e
    · rename_i hs
      cases e
      exact ⟨d1, d2, rx.view k h1 (noDict hs.1), ry.view k h2 (noDict hs.2), hs.1, hs.2, q _ F H (Ext.refl _ _ _) k (.dat (.bl _)) Frs.dat⟩
    · cases e
  · cases e
def gSS (f : Str → Str → Bool) : Val → Val → Option Val
  | .dat (.str i), .dat (.str j) => some (.dat (.bool (f i j)))
  | _, _ => none
def strLt (i j : Str) : Bool := decide (i.cps.toList < j.cps.toList)
theorem snd_SS {f : Str → Str → Bool} : Snd2 K (fun x y H Q => ∃ i j, x = .str i ∧ y = .str j ∧ Q (.bl (f i j)) H) (gSS f) := by
  intro F os H st x y v w z Q k rx ry e q
  unfold gSS at e
  split at e
  · rename_i i j
    cases e
    exact ⟨i, j, rx.str, ry.str, q _ F H (Ext.refl _ _ _) k (.dat (.bl _)) Frs.dat⟩
  · cases e
def isNon : Val → Bool
  | .dat .none => true
  | _ => false
/-- x is None -/
def gIsN (f : Bool → Bool) : Val → Val → Option Val
  | v, .dat .none => some (.dat (.bool (f (isNon v))))
  | _, _ => none
theorem VR.isN {F H : Hp} {os : List Addr} {x : V} {v : Val} (r : VR K F os H x v) : decide (x = .non) = isNon v := by
  cases r with
  | dat r => cases r <;> simp [isNon, errD]
  | fr a b c d => simp [isNon]
  | bor a b c d => simp [isNon]
  | obj a => simp [isNon]
  | scr a b => simp [isNon]
theorem snd_isN : Snd2 K (fun x y H Q => y = .non ∧ Q (.bl (decide (x = .non))) H) (gIsN id) := by
  intro F os H st x y v w z Q k rx ry e q
  unfold gIsN at e
  split at e
  · cases e
    have hy : y = .non := by cases ry with | dat r => cases r; rfl
    exact ⟨hy, by rw [rx.isN]; exact q _ F H (Ext.refl _ _ _) k (.dat (.bl _)) Frs.dat⟩
  · cases e
theorem snd_notN : Snd2 K (fun x y H Q => y = .non ∧ Q (.bl (!decide (x = .non))) H) (gIsN (!·)) := by
  intro F os H st x y v w z Q k rx ry e q
  unfold gIsN at e
  split at e
  · cases e
    have hy : y = .non := by cases ry with | dat r => cases r; rfl
    exact ⟨hy, by rw [rx.isN]; exact q _ F H (Ext.refl _ _ _) k (.dat (.bl _)) Frs.dat⟩
  · cases e
/-- x is True, where x is a bool -/
def gIsB (f : Bool → Bool) : Val → Val → Option Val
  | .dat (.bool a), .dat (.bool b) => some (.dat (.bool (f (decide (a = b)))))
  | _, _ => none
theorem snd_isB : Snd2 K rIsB (gIsB id) := by
  intro F os H st x y v w z Q k rx ry e q
  unfold gIsB at e
  split at e
  · rename_i i j
    cases e
    exact ⟨i, j, rx.bool, ry.bool, q _ F H (Ext.refl _ _ _) k (.dat (.bl _)) Frs.dat⟩
  · cases e
theorem snd_notB : Snd2 K rNotB (gIsB (!·)) := by
  intro F os H st x y v w z Q k rx ry e q
  unfold gIsB at e
  split at e
  · rename_i i j
    cases e
    exact ⟨i, j, rx.bool, ry.bool, q _ F H (Ext.refl _ _ _) k (.dat (.bl _)) Frs.dat⟩
  · cases e

/-! ### x in xs -/
def flatD : D → Bool
  | .none | .bool _ | .int _ | .str _ => true
  | _ => false
def asSeq (v : Val) : Option (List D) := (asList v).or (asTup v)
def gIn (neg : Bool) (v w : Val) : Option Val := match asView v, asSeq w with
  | some d, some ds => if flatD d = true ∧ ds.all flatD = true then some (.dat (.bool (if neg then !ds.any (fun e => PyData.eqv e d) else ds.any (fun e => PyData.eqv e d)))) else none
  | _, _ => none
theorem flat_ok {F : Hp} {x : V} {d : D} (r : Dr K F x d) (f : flatD d = true) : flatV x = true := by
  cases r <;> first | rfl | simp [flatD, errD] at f
theorem flat_all {F : Hp} : ∀ {xs : List V} {ds : List D}, Drs K F xs ds → ds.all flatD = true → xs.all flatV = true
  | _, _, .nil, _ => rfl
  | _, _, .cons r t, f => by
    rw [List.all_cons, Bool.and_eq_true] at f
    rw [List.all_cons, flat_ok r f.1, flat_all t f.2]; rfl
theorem eqV_eqv {F : Hp} {x y : V} {d e : D} (r : Dr K F x d) (s : Dr K F y e) (f : flatD d = true) (g : flatD e = true) : eqV y x = PyData.eqv e d := by
  cases r <;> cases s <;> first | rfl | simp [flatD, errD] at f | simp [flatD] at g | skip
  all_goals simp [eqV, PyData.eqv, Bool.beq_eq_decide_eq, eq_comm]
theorem any_ok {F : Hp} {x : V} {d : D} (r : Dr K F x d) (f : flatD d = true) : ∀ {xs : List V} {ds : List D}, Drs K F xs ds → ds.all flatD = true → inV x xs = ds.any (fun e => PyData.eqv e d)
  | _, _, .nil, _ => rfl
  | _, _, .cons s t, g => by
    rw [List.all_cons, Bool.and_eq_true] at g
    show (_ || _) = (_ || _)
    dsimp only
    rw [eqV_eqv r s f g.1, ← any_ok r f t g.2]
    rfl
theorem VR.seq {F H : Hp} {os : List Addr} {st : List Cn} {x : V} {v : Val} (k : StOk K F os H st) (r : VR K F os H x v) {ds : List D} (e : asSeq v = some ds) : ∃ p xs, x = .ref p ∧ (SqL K.K H p xs ∨ SqT K.K H p xs) ∧ Drs K F xs ds := by
  unfold asSeq at e
  cases h : asList v with
  | some a =>
    rw [h] at e
    cases e
    obtain ⟨p, xs, rfl, h1, d1⟩ := r.list k h
    exact ⟨p, xs, rfl, .inl (SqL.of h1), d1⟩
  | none =>
    rw [h] at e
    obtain ⟨_, p, xs, rfl, h1, d1⟩ := r.tup k (show asTup v = some ds from by simpa using e)
    exact ⟨p, xs, rfl, .inr h1, d1⟩
theorem VR.viewF {F H : Hp} {os : List Addr} {x : V} {v : Val} {d : D} (r : VR K F os H x v) (e : asView v = some d) (f : flatD d = true) : Dr K F x d := by
  cases r with
  | dat r => cases e; exact r
  | fr a b c r =>
    cases r with
    | lst r => cases e; simp [flatD] at f
    | dk r => cases e
  | bor a b c r =>
    cases r with
    | lst r => cases e; simp [flatD] at f
    | dk r => cases e
  | obj a => cases e
  | scr a b => cases e
theorem snd_in {neg : Bool} : Snd2 K (rIn K.K neg) (gIn neg) := by
  intro F os H st x y v w z Q k rx ry e q
  unfold gIn at e
  split at e
  · rename_i d ds h1 h2
    split at e
    · rename_i hf
      cases e
      obtain ⟨p, xs, rfl, h3, d3⟩ := ry.seq k h2
      have rd := rx.viewF h1 hf.1
      refine ⟨p, xs, rfl, h3, flat_ok rd hf.1, flat_all d3 hf.2, ?_⟩
      rw [any_ok rd hf.1 d3 hf.2]
      exact q _ F H (Ext.refl _ _ _) k (.dat (.bl _)) Frs.dat
    · cases e
  · cases e

/-! ### subscripts -/
def gIx : Val → Val → Option Val
  | v, .dat (.int i) => match asSeq v with
    | some ds => (atI ds i).map .dat
    | none => none
  | _, _ => none
theorem atI_ok {F : Hp} {xs : List V} {ds : List D} {i : Int} {d : D} (r : Drs K F xs ds) (h : atI ds i = some d) : ∃ x, atI xs i = some x ∧ Dr K F x d := by
  unfold atI at h ⊢
  rw [r.len]
  cases e : ixN ds.length i with
  | none => rw [e] at h; cases h
  | some j =>
    rw [e] at h
    exact r.getD h
theorem snd_ix : Snd2 K (rIx K.K) gIx := by
  intro F os H st x y v w z Q k rx ry e q
  unfold gIx at e
  split at e
  · rename_i v i
    split at e
    · rename_i ds h1
      cases h : atI ds i with
      | none => rw [h] at e; cases e
      | some d =>
        rw [h] at e
        cases e
        obtain ⟨p, xs, rfl, h3, d3⟩ := rx.seq k h1
        obtain ⟨x, hx, rd⟩ := atI_ok d3 h
        rcases h3 with h3 | h3
        · exact .inl ⟨p, xs, i, x, rfl, ry.int, h3, hx, q _ F H (Ext.refl _ _ _) k (.dat rd) Frs.dat⟩
        · exact .inr (.inl ⟨p, xs, i, x, rfl, ry.int, h3, hx, q _ F H (Ext.refl _ _ _) k (.dat rd) Frs.dat⟩)
    · cases e
  · cases e

/-! ### calls -/
def gInt : List Val → Option Val
  | [.dat (.int i)] => some (.dat (.int i))
  | [.dat (.bool b)] => some (.dat (.int (if b then 1 else 0)))
  | _ => none
theorem snd_int : SndN K (fun xs H Q => (∃ i, xs = [.int i] ∧ Q (.int i) H) ∨ ∃ k, xs = [.bl k] ∧ Q (.int (if k then 1 else 0)) H) gInt := by
  intro F os H st xs vs z Q k r e q
  unfold gInt at e
  split at e
  · cases e
    cases r with
    | cons a b =>
      cases b
      exact .inl ⟨_, by rw [a.int], q _ F H (Ext.refl _ _ _) k (.dat (.int _)) Frs.dat⟩
  · cases e
    cases r with
    | cons a b =>
      cases b
      exact .inr ⟨_, by rw [a.bool], q _ F H (Ext.refl _ _ _) k (.dat (.int _)) Frs.dat⟩
  · cases e
def gLen : List Val → Option Val
  | [.dat (.str x)] => if x.length ≤ sizeLine then some (.dat (.int (x.length : Nat))) else none
  | [.scr ds] => some (.dat (.int (ds.length : Nat)))
  | [v] => (asSeq v).map fun ds => .dat (.int (ds.length : Nat))
  | _ => none
theorem snd_len : SndN K (fun xs H Q => ∃ x n, xs = [x] ∧ LenV K.K x H n ∧ Q (.int n) H) gLen := by
  intro F os H st xs vs z Q k r e q
  unfold gLen at e
  split at e
  · split at e
    · rename_i hl
      cases e
      cases r with
      | cons a b =>
        cases b
        have := a.str
        subst this
        exact ⟨_, _, rfl, ⟨hl, rfl⟩, q _ F H (Ext.refl _ _ _) k (.dat (.int _)) Frs.dat⟩
    · cases e
  · cases e
    cases r with
    | cons a b =>
      cases b
      cases a with
      | scr a b =>
        refine ⟨_, _, rfl, .inl ⟨_, Same.sqL k.sub a, rfl⟩, ?_⟩
        rw [b.len]
        exact q _ F H (Ext.refl _ _ _) k (.dat (.int _)) Frs.dat
  · rename_i v h1 h2
    cases h : asSeq v with
    | none => rw [h] at e; cases e
    | some ds =>
      rw [h] at e
      cases e
      cases r with
      | cons a b =>
        cases b
        obtain ⟨p, xs, rfl, h3, d3⟩ := a.seq k h
        refine ⟨_, xs.length, rfl, ?_, by rw [d3.len]; exact q _ F H (Ext.refl _ _ _) k (.dat (.int _)) Frs.dat⟩
        rcases h3 with h3 | h3
        · exact .inl ⟨xs, h3, rfl⟩
        · exact .inr ⟨xs, h3, rfl⟩
  · cases e
def gMin : List Val → Option Val
  | [.dat (.int i), .dat (.int j)] => some (.dat (.int (if j < i then j else i)))
  | _ => none
def gMax : List Val → Option Val
  | [.dat (.int i), .dat (.int j)] => some (.dat (.int (if j > i then j else i)))
  | _ => none
theorem snd_min : SndN K (fun xs H Q => ∃ i j, xs = [.int i, .int j] ∧ Q (.int (if j < i then j else i)) H) gMin := by
  intro F os H st xs vs z Q k r e q
  unfold gMin at e
  split at e
  · cases e
    cases r with
    | cons a b =>
      cases b with
      | cons c d =>
        cases d
        exact ⟨_, _, by rw [a.int, c.int], q _ F H (Ext.refl _ _ _) k (.dat (.int _)) Frs.dat⟩
  · cases e
theorem snd_max : SndN K (fun xs H Q => ∃ i j, xs = [.int i, .int j] ∧ Q (.int (if j > i then j else i)) H) gMax := by
  intro F os H st xs vs z Q k r e q
  unfold gMax at e
  split at e
  · cases e
    cases r with
    | cons a b =>
      cases b with
      | cons c d =>
        cases d
        exact ⟨_, _, by rw [a.int, c.int], q _ F H (Ext.refl _ _ _) k (.dat (.int _)) Frs.dat⟩
  · cases e
def gList : List Val → Option Val
  | [.scr ds] => some (.fr (.lst ds))
  | [v] => (asSeq v).map fun ds => .fr (.lst ds)
  | _ => none
theorem snd_list : SndN K (fun xs H Q => ∃ p ys, xs = [.ref p] ∧ (SqL K.K H p ys ∨ SqT K.K H p ys) ∧ ∀ l, H l = none → Q (.ref l) (upd H l (.lst ys))) gList := by
  intro F os H st xs vs z Q k r e q
  unfold gList at e
  split at e
  · cases e
    cases r with
    | cons a b =>
      cases b
      cases a with
      | scr a b => exact ⟨_, _, rfl, .inl (Same.sqL k.sub a), fun r hr => q _ F _ (Ext.newO k hr) (k.newO hr) (VR.newLst k hr b) (Frs.new hr)⟩
  · rename_i v h1
    cases h : asSeq v with
    | none => rw [h] at e; cases e
    | some ds =>
      rw [h] at e
      cases e
      cases r with
      | cons a b =>
        cases b
        obtain ⟨p, xs, rfl, h3, d3⟩ := a.seq k h
        exact ⟨_, _, rfl, h3, fun r hr => q _ F _ (Ext.newO k hr) (k.newO hr) (VR.newLst k hr d3) (Frs.new hr)⟩
  · cases e
def gTuple : List Val → Option Val
  | [v] => (asSeq v).map fun ds => .dat (.tuple ds)
  | _ => none
/-- tuple(x): a new one without a dict, of a list -/
def rTupN (K : PySem.W.Frag) : List V → Hp → VK → Prop := fun xs H Q => ∃ p ys, xs = [.ref p] ∧ ((SqL K H p ys ∧ ∀ l ob, H l = none → NdO ob → Q (.ref l) (upd H l (.frz ob (.tup ys)))) ∨ (SqT K H p ys ∧ Q (.ref p) H))
theorem call_tupleN {X : Cx} : CallR X (.type "tuple") (rTupN X.K) := by
  intro pins s σ H xs us Q I r h
  obtain ⟨p, ys, rfl, h⟩ := h
  obtain ⟨u, rfl, ru⟩ := vals1 r
  cases ru
  rcases h with ⟨hl, q⟩ | ht
  · obtain ⟨its, rv, pl, hz⟩ := I.list hl
    have hn := rv.length
    have hs : its.toArray.size ≤ sizeLine := by rw [List.size_toArray, ← hn]; exact hz
    refine call_tuple_list pl.isList (fun g kp => ?_) (by first | exact hs | (simp only [List.size_toArray]; omega))
    have J := I.kept (t' := s.toks) kp
    have hg : (g.push ({ cls := .type "tuple", data := .seq its.toArray } : Obj)).get? g.objs.size = some { cls := .type "tuple", data := .seq its.toArray } := Heap.get?_push_size _ rfl
    refine ⟨.ref g.objs.size, upd H g.objs.size (.frz { cls := .type "tuple", data := .seq its.toArray } (.tup ys)), ?_, rfl, q _ _ (J.hok.fresh (Nat.le_refl _)) ⟨rfl, rfl⟩⟩
    exact J.laid (t' := s.toks) (fun c o z => Heap.get?_push_of_some _ z) (Nat.le_refl _) ⟨hg, hz, its, rv, ⟨_, hg, rfl, _, rfl⟩⟩
  · obtain ⟨its, _, pl, _⟩ := I.tuple ht.1
    exact call_tuple_same pl ⟨.ref p, H, I, rfl, ht.2⟩
theorem snd_tuple : SndN K (rTupN K.K) gTuple := by
  intro F os H st xs vs z Q k r e q
  unfold gTuple at e
  split at e
  · rename_i v
    cases h : asSeq v with
    | none => rw [h] at e; cases e
    | some ds =>
      rw [h] at e
      cases e
      cases r with
      | cons a b =>
        cases b
        unfold asSeq at h
        cases h2 : asList v with
        | some a2 =>
          rw [h2] at h
          cases h
          obtain ⟨p, xs, rfl, h3, d3⟩ := a.list k h2
          exact ⟨p, xs, rfl, .inl ⟨SqL.of h3, fun r ob hr hn => q _ _ _ (Ext.newF k hr) (k.newF hr) (VR.newTupN k hr hn d3) Frs.dat⟩⟩
        | none =>
          rw [h2] at h
          obtain ⟨e1, p, xs, rfl, h3, d3⟩ := a.tup k (show asTup v = some ds from by simpa using h)
          subst e1
          exact ⟨p, xs, rfl, .inr ⟨h3, q _ F H (Ext.refl _ _ _) k a Frs.dat⟩⟩
  · cases e
/-- the ints of data -/
def ints? : List D → Option (List Int)
  | [] => some []
  | .int i :: r => (ints? r).map (i :: ·)
  | _ :: _ => none
theorem ints_ok {F : Hp} : ∀ {ds : List D} {xs : List V} {ns : List Int}, Drs K F xs ds → ints? ds = some ns → xs = ns.map V.int
  | [], _, _, .nil, h => by cases h; rfl
  | .int i :: r, _, ns, .cons a b, h => by
    cases a
    simp only [ints?] at h
    cases e : ints? r with
    | none => rw [e] at h; cases h
    | some es => rw [e] at h; cases h; rw [ints_ok b e]; rfl
def bools? : List D → Option (List Bool)
  | [] => some []
  | .bool i :: r => (bools? r).map (i :: ·)
  | _ :: _ => none
theorem bools_ok {F : Hp} : ∀ {ds : List D} {xs : List V} {ns : List Bool}, Drs K F xs ds → bools? ds = some ns → xs = ns.map V.bl
  | [], _, _, .nil, h => by cases h; rfl
  | .bool i :: r, _, ns, .cons a b, h => by
    cases a
    simp only [bools?] at h
    cases e : bools? r with
    | none => rw [e] at h; cases h
    | some es => rw [e] at h; cases h; rw [bools_ok b e]; rfl
def gSum : List Val → Option Val
  | [v] => match asSeq v with
    | some ds => (ints? ds).map fun ns => .dat (.int ns.sum)
    | none => none
  | _ => none
def gAll : List Val → Option Val
  | [v] => match asList v with
    | some ds => (bools? ds).map fun bs => .dat (.bool (bs.all id))
    | none => none
  | _ => none
def gAny : List Val → Option Val
  | [v] => match asList v with
    | some ds => (bools? ds).map fun bs => .dat (.bool (bs.any id))
    | none => none
  | _ => none
def rSumA (K : PySem.W.Frag) : List V → Hp → VK → Prop := fun vs H Q => ∃ (a : Addr) (ns : List Int), vs = [V.ref a] ∧ (SqL K H a (ns.map V.int) ∨ SqT K H a (ns.map V.int)) ∧ Q (.int ns.sum) H
theorem cr_sumA {X : Cx} (hc : X.calm = true) : CallR X (.builtin "sum") (rSumA X.K) := by
  intro pins s σ H vs us Q I r h
  obtain ⟨a, ns, rfl, h1 | h1, q⟩ := h
  · exact cr_sum hc pins s σ H _ us Q I r ⟨a, ns, rfl, h1, q⟩
  · cases Vals.ref1 r
    obtain ⟨its, rv, p1, _⟩ := I.tuple h1
    have hi := rv.ints
    obtain ⟨o, ho, hcl, n, hdt⟩ := id p1
    obtain ⟨xs, e⟩ := hi.allInts.items
    have hn : numsOf (intItems xs).toList = ns := by rw [← e]; exact hi.numsOf
    rw [nums_intItems] at hn
    have hl : s.heap.IsTuple a its.toArray := ⟨o, ho, hcl, n, hdt⟩
    rw [e] at hl
    refine PySem.W.ktm_sumG (I.ok.hd hc) hl fun h' tk t' hk => ⟨.int _, H, I.kept (t' := tk) hk, ⟨_, rfl⟩, ?_⟩
    rw [preSum_eq, List.take_of_length_le (by simp), hn]
    exact q
theorem snd_sum : SndN K (rSumA K.K) gSum := by
  intro F os H st xs vs z Q k r e q
  unfold gSum at e
  split at e
  · rename_i v
    split at e
    · rename_i ds h
      cases h2 : ints? ds with
      | none => rw [h2] at e; cases e
      | some ns =>
        rw [h2] at e
        cases e
        cases r with
        | cons a b =>
          cases b
          obtain ⟨p, xs, rfl, h3, d3⟩ := a.seq k h
          have := ints_ok d3 h2
          subst this
          exact ⟨p, ns, rfl, h3, q _ F H (Ext.refl _ _ _) k (.dat (.int _)) Frs.dat⟩
    · cases e
  · cases e
theorem snd_all : SndN K (rAll K.K) gAll := by
  intro F os H st xs vs z Q k r e q
  unfold gAll at e
  split at e
  · rename_i v
    split at e
    · rename_i ds h
      cases h2 : bools? ds with
      | none => rw [h2] at e; cases e
      | some ns =>
        rw [h2] at e
        cases e
        cases r with
        | cons a b =>
          cases b
          obtain ⟨p, xs, rfl, h3, d3⟩ := a.list k h
          have := bools_ok d3 h2
          subst this
          exact ⟨p, ns, rfl, SqL.of h3, q _ F H (Ext.refl _ _ _) k (.dat (.bl _)) Frs.dat⟩
    · cases e
  · cases e
theorem snd_any : SndN K (rAny K.K) gAny := by
  intro F os H st xs vs z Q k r e q
  unfold gAny at e
  split at e
  · rename_i v
    split at e
    · rename_i ds h
      cases h2 : bools? ds with
      | none => rw [h2] at e; cases e
      | some ns =>
        rw [h2] at e
        cases e
        cases r with
        | cons a b =>
          cases b
          obtain ⟨p, xs, rfl, h3, d3⟩ := a.list k h
          have := bools_ok d3 h2
          subst this
          exact ⟨p, ns, rfl, SqL.of h3, q _ F H (Ext.refl _ _ _) k (.dat (.bl _)) Frs.dat⟩
    · cases e
  · cases e
def gGcd : List Val → Option Val
  | [.dat (.int i), .dat (.int j)] => some (.dat (.int ((Nat.gcd i.natAbs j.natAbs : Nat) : Int)))
  | _ => none
theorem snd_gcd : SndN K rGcd gGcd := by
  intro F os H st xs vs z Q k r e q
  unfold gGcd at e
  split at e
  · cases e
    cases r with
    | cons a b =>
      cases b with
      | cons c d =>
        cases d
        exact ⟨_, _, by rw [a.int, c.int], q _ F H (Ext.refl _ _ _) k (.dat (.int _)) Frs.dat⟩
  · cases e
end
end Pl

set_option Elab.async false
set_option linter.all false
set_option maxRecDepth 100000
set_option maxHeartbeats 4000000
namespace Pl
open PySem PySem.Spec PyProof.Rows L2

/-! ### tests: what comes is a bool -/
def PoT (X : Kx) (W : WX) (σ : L2.St) (F : Hp) (os : List Addr) (H : Hp) (o : Ou) (Q : Bool → Hp → Prop) : Prop := match o with
  | .stk => False
  | .ok v st => ∃ b, v = .dat (.bool b) ∧ ∀ F' os' H', Ext F os H F' os' H' → StOk X F' os' H' st → Q b H'
  | .exc c d st => ∀ cls dd F' os' H', Ext F os H F' os' H' → StOk X F' os' H' st → ErD X F' cls dd c d → W cls dd σ H'
def tT (X : Kx) (W : WX) (m : EM) : TT := fun σ H Q => ∃ B F os env st, Rel X B F os σ H env st ∧ PoT X W σ F os H (m env st) Q
theorem PoT.shift {K : Kx} {W : WX} {σ : L2.St} {F F' H H' : Hp} {os os' : List Addr} (e : Ext F os H F' os' H') {o : Ou} {Q : Bool → Hp → Prop} (h : PoT K W σ F os H o Q) : PoT K W σ F' os' H' o Q := by
  cases o with
  | stk => exact h
  | ok v st => obtain ⟨b, e1, q⟩ := h; exact ⟨b, e1, fun F2 os2 H2 e2 k => q F2 os2 H2 (e.trans e2) k⟩
  | exc c d st => exact fun cls dd F2 os2 H2 e2 k r => h cls dd F2 os2 H2 (e.trans e2) k r
theorem PoT.bind {K : Kx} {W : WX} {σ : L2.St} {F H : Hp} {os : List Addr} {o : Ou} {k : Val → List Cn → Ou} {Q : Bool → Hp → Prop} {Q1 : VK} (h : PoT K W σ F os H (o.bind k) Q)
    (hk : ∀ v st1 x F1 os1 H1, o = .ok v st1 → Ext F os H F1 os1 H1 → StOk K F1 os1 H1 st1 → VR K F1 os1 H1 x v → Frs H x v → PoT K W σ F os H (k v st1) Q → Q1 x H1) : Po K W σ F os H o Q1 := by
  cases o with
  | stk => exact h
  | ok v st => exact fun x F1 os1 H1 e q r f => hk v st x F1 os1 H1 rfl e q r f h
  | exc c d st => exact h
theorem PoT.toPo {K : Kx} {W : WX} {σ : L2.St} {F H : Hp} {os : List Addr} {o : Ou} {Q : Bool → Hp → Prop} (h : PoT K W σ F os H o Q) : Po K W σ F os H o (fun x H' => ∃ k, x = .bl k ∧ Q k H') := by
  cases o with
  | stk => exact h
  | ok v st =>
    obtain ⟨b, e1, q⟩ := h
    subst e1
    exact fun x F1 os1 H1 e k r f => ⟨b, r.bool, q F1 os1 H1 e k⟩
  | exc c d st => exact h
theorem tT_tM {K : Kx} {W : WX} {m : EM} {σ : L2.St} {H : Hp} {Q : Bool → Hp → Prop} (h : tT K W m σ H Q) : tM K W m σ H (fun x H' => ∃ k, x = .bl k ∧ Q k H') := by
  obtain ⟨B, F, os, env, st, R, h⟩ := h
  exact ⟨B, F, os, env, st, R, h.toPo⟩
def truth : Val → Option Bool
  | .dat .none => some false
  | .dat (.bool b) => some b
  | .dat (.int i) => some (i != 0)
  | .dat (.str x) => if x.length ≤ sizeLine then some ((x.length : Int) != 0) else none
  | v => (asSeq v).map fun ds => !ds.isEmpty
def truM (m : EM) : EM := fun env st => (m env st).bind fun v st1 => Ou.of st1 ((truth v).map fun b => .dat (.bool b))
theorem isEmpty_len {α β : Type} {xs : List α} {ys : List β} (h : xs.length = ys.length) : xs.isEmpty = ys.isEmpty := by
  cases xs <;> cases ys <;> simp_all
theorem VR.truth {K : Kx} {F H : Hp} {os : List Addr} {st : List Cn} {x : V} {v : Val} (k : StOk K F os H st) (r : VR K F os H x v) {b : Bool} (e : truth v = some b) : TruV K.K x H b := by
  unfold Pl.truth at e
  split at e
  · cases r with | dat r => cases r; cases e; rfl
  · have := r.bool
    subst this
    cases e; rfl
  · have := r.int
    subst this
    cases e; rfl
  · split at e
    · rename_i hl
      have := r.str
      subst this
      cases e
      exact ⟨hl, rfl⟩
    · cases e
  · cases h : asSeq v with
    | none => rw [h] at e; cases e
    | some ds =>
      rw [h] at e
      cases e
      obtain ⟨p, xs, rfl, h3 | h3, d3⟩ := r.seq k h
      · exact .inl ⟨xs, h3, by rw [isEmpty_len d3.len]⟩
      · exact .inr (.inl ⟨xs, h3, by rw [isEmpty_len d3.len]⟩)

section
variable {X : Cx} {ec : List (Addr × Str)} {W : WX} {e a b c : Expr} {ma mb mc m : EM} {pos : Pos}
theorem pt_tru (h : PE X e (tM (kx X ec) W m)) (he : ∀ whole, isTrue e X.env whole = (do let v ← whole; standAt e.pos; holding [v] (truthy v)) := by intro _; rfl) : PT X e (tT (kx X ec) W (truM m)) :=
  (pt_truth h he).imp fun σ H Q h => by
    obtain ⟨B, F, os, env, st, R, h⟩ := h
    refine ⟨B, F, os, env, st, R, h.bind ?_⟩
    intro v st1 x F1 os1 H1 ev e1 k1 r1 f1 p1
    cases ht : truth v with
    | none => rw [ht] at p1; exact False.elim p1
    | some bb =>
      rw [ht] at p1
      obtain ⟨b2, eb, q⟩ := p1
      cases eb
      exact ⟨bb, r1.truth k1 ht, q F1 os1 H1 e1 k1⟩
theorem pt_cmpb {op : CmpOp} {r : R2} {g : Val → Val → Option Val} (ho : OpR X (compareOp op) r) (hs : Snd2 (kx X ec) r g) (ha : PE X a (tM (kx X ec) W ma)) (hb : PE X b (tM (kx X ec) W mb)) (hm : behindInMarks op b = false) : PT X (.Compare a [op] [b] pos) (tT (kx X ec) W (binM g ma mb)) :=
  (pt_cmpR ho ha hb hm).imp fun _ _ _ h => bin_ok hs (tT_tM h)
/-- any expression that gives a bool -/
theorem pt_bool (h : PE X e (tM (kx X ec) W m)) (he : ∀ whole, isTrue e X.env whole = (do let v ← whole; standAt e.pos; holding [v] (truthy v)) := by intro _; rfl) : PT X e (tT (kx X ec) W m) :=
  (pt_val h he).imp fun σ H Q h => tT_tM h
/-! ### not, and, or, the conditional expression -/
def notM (m : EM) : EM := fun env st => (m env st).bind fun v st1 => Ou.of st1 (match v with | .dat (.bool b) => some (.dat (.bool (!b))) | _ => none)
theorem pt_n (h : PT X e (tT (kx X ec) W m)) : PT X (.UnaryOp .Not e pos) (tT (kx X ec) W (notM m)) := (pt_not h).imp fun σ H Q h => by
  obtain ⟨B, F, os, env, st, R, h⟩ := h
  refine ⟨B, F, os, env, st, R, ?_⟩
  unfold notM at h
  cases hm : m env st with
  | stk => rw [hm] at h; exact h
  | exc c d st1 => rw [hm] at h; exact h
  | ok v st1 =>
    rw [hm] at h
    dsimp only [Ou.bind] at h
    split at h
    · rename_i b0
      obtain ⟨b, e1, q⟩ := h
      cases e1
      exact ⟨b0, rfl, q⟩
    · exact False.elim h
theorem pe_n (h : PE X e (tM (kx X ec) W m)) : PE X (.UnaryOp .Not e pos) (tM (kx X ec) W (notM (truM m))) := (pe_notT h).imp fun σ H Q h => by
  obtain ⟨B, F, os, env, st, R, h⟩ := h
  refine ⟨B, F, os, env, st, R, ?_⟩
  unfold notM truM at h
  cases hm : m env st with
  | stk => rw [hm] at h; exact h
  | exc c d st1 => rw [hm] at h; exact h
  | ok v st1 =>
    rw [hm] at h
    dsimp only [Ou.bind] at h
    intro x F1 os1 H1 e1 k1 r1 f1
    cases ht : truth v with
    | none => rw [ht] at h; exact False.elim h
    | some bb =>
      rw [ht] at h
      exact ⟨bb, r1.truth k1 ht, h _ _ _ _ e1 k1 (.dat (.bl _)) Frs.dat⟩
/-- a and b, as a test -/
def andM (ma mb : EM) : EM := fun env st => (ma env st).bind fun v st1 => match v with
  | .dat (.bool true) => mb env st1
  | .dat (.bool false) => .ok (.dat (.bool false)) st1
  | _ => .stk
def orM (ma mb : EM) : EM := fun env st => (ma env st).bind fun v st1 => match v with
  | .dat (.bool true) => .ok (.dat (.bool true)) st1
  | .dat (.bool false) => mb env st1
  | _ => .stk
theorem and_ok {K : Kx} {σ : L2.St} {H : Hp} {Q : Bool → Hp → Prop} (h : tT K W (andM ma mb) σ H Q) : tAnd (tT K W ma) (tT K W mb) σ H Q := by
  obtain ⟨B, F, os, env, st, R, h⟩ := h
  refine ⟨B, F, os, env, st, R, ?_⟩
  unfold andM at h
  cases hm : ma env st with
  | stk => rw [hm] at h; exact h
  | exc c d st1 => rw [hm] at h; exact h
  | ok v st1 =>
    rw [hm] at h
    dsimp only [Ou.bind] at h
    split at h
    · refine ⟨true, rfl, fun F1 os1 H1 e1 k1 => ?_⟩
      refine iteT ?_
      exact ⟨B, F1, os1, env, _, R.ext e1 k1, h.shift e1⟩
    · obtain ⟨b, e1, q⟩ := h
      cases e1
      refine ⟨false, rfl, fun F1 os1 H1 e1 k1 => ?_⟩
      refine iteF ?_
      exact q F1 os1 H1 e1 k1
    · exact False.elim h
theorem or_ok {K : Kx} {σ : L2.St} {H : Hp} {Q : Bool → Hp → Prop} (h : tT K W (orM ma mb) σ H Q) : tOr (tT K W ma) (tT K W mb) σ H Q := by
  obtain ⟨B, F, os, env, st, R, h⟩ := h
  refine ⟨B, F, os, env, st, R, ?_⟩
  unfold orM at h
  cases hm : ma env st with
  | stk => rw [hm] at h; exact h
  | exc c d st1 => rw [hm] at h; exact h
  | ok v st1 =>
    rw [hm] at h
    dsimp only [Ou.bind] at h
    split at h
    · obtain ⟨b, e1, q⟩ := h
      cases e1
      refine ⟨true, rfl, fun F1 os1 H1 e1 k1 => ?_⟩
      refine iteT ?_
      exact q F1 os1 H1 e1 k1
    · refine ⟨false, rfl, fun F1 os1 H1 e1 k1 => ?_⟩
      refine iteF ?_
      exact ⟨B, F1, os1, env, _, R.ext e1 k1, h.shift e1⟩
    · exact False.elim h
theorem pw_a1 (ha : PT X a (tT (kx X ec) W ma)) : PW X (.BoolOp .And [a] pos) (tT (kx X ec) W ma) := pw_and1 ha
theorem pw_o1 (ha : PT X a (tT (kx X ec) W ma)) : PW X (.BoolOp .Or [a] pos) (tT (kx X ec) W ma) := pw_or1 ha
theorem pw_a {rest : List Expr} (ha : PT X a (tT (kx X ec) W ma)) (hb : PW X (.BoolOp .And (b :: rest) pos) (tT (kx X ec) W mb)) : PW X (.BoolOp .And (a :: b :: rest) pos) (tT (kx X ec) W (andM ma mb)) := (pw_and ha hb).imp fun _ _ _ => and_ok
theorem pw_o {rest : List Expr} (ha : PT X a (tT (kx X ec) W ma)) (hb : PW X (.BoolOp .Or (b :: rest) pos) (tT (kx X ec) W mb)) : PW X (.BoolOp .Or (a :: b :: rest) pos) (tT (kx X ec) W (orM ma mb)) := (pw_or ha hb).imp fun _ _ _ => or_ok
/-- a and b as a value, a by its truth -/
def andV (ma mb : EM) : EM := fun env st => (ma env st).bind fun v st1 => match truth v with
  | some true => mb env st1
  | some false => .ok v st1
  | none => .stk
def orV (ma mb : EM) : EM := fun env st => (ma env st).bind fun v st1 => match truth v with
  | some true => .ok v st1
  | some false => mb env st1
  | none => .stk
theorem pe_1 {op} (h : PE X a (tM (kx X ec) W m)) : PE X (.BoolOp op [a] pos) (tM (kx X ec) W m) := pe_one h
theorem pe_a {rest : List Expr} (ha : PE X a (tM (kx X ec) W ma)) (hb : PE X (.BoolOp .And (b :: rest) pos) (tM (kx X ec) W mb)) : PE X (.BoolOp .And (a :: b :: rest) pos) (tM (kx X ec) W (andV ma mb)) := (pe_andT ha hb).imp fun σ H Q h => by
  obtain ⟨B, F, os, env, st, R, h⟩ := h
  refine ⟨B, F, os, env, st, R, ?_⟩
  unfold andV at h
  cases hm : ma env st with
  | stk => rw [hm] at h; exact h
  | exc c d st1 => rw [hm] at h; exact h
  | ok v st1 =>
    rw [hm] at h
    dsimp only [Ou.bind] at h
    intro x F1 os1 H1 e1 k1 r1 f1
    cases ht : truth v with
    | none => rw [ht] at h; exact False.elim h
    | some bb =>
      rw [ht] at h
      refine ⟨bb, r1.truth k1 ht, ?_⟩
      cases bb with
      | true =>
        refine iteT ?_
        exact ⟨B, F1, os1, env, _, R.ext e1 k1, Po.shift e1 h⟩
      | false =>
        refine iteF ?_
        exact h _ _ _ _ e1 k1 r1 f1
theorem pe_o {rest : List Expr} (ha : PE X a (tM (kx X ec) W ma)) (hb : PE X (.BoolOp .Or (b :: rest) pos) (tM (kx X ec) W mb)) : PE X (.BoolOp .Or (a :: b :: rest) pos) (tM (kx X ec) W (orV ma mb)) := (pe_orT ha hb).imp fun σ H Q h => by
  obtain ⟨B, F, os, env, st, R, h⟩ := h
  refine ⟨B, F, os, env, st, R, ?_⟩
  unfold orV at h
  cases hm : ma env st with
  | stk => rw [hm] at h; exact h
  | exc c d st1 => rw [hm] at h; exact h
  | ok v st1 =>
    rw [hm] at h
    dsimp only [Ou.bind] at h
    intro x F1 os1 H1 e1 k1 r1 f1
    cases ht : truth v with
    | none => rw [ht] at h; exact False.elim h
    | some bb =>
      rw [ht] at h
      refine ⟨bb, r1.truth k1 ht, ?_⟩
      cases bb with
      | true =>
        refine iteT ?_
        exact h _ _ _ _ e1 k1 r1 f1
      | false =>
        refine iteF ?_
        exact ⟨B, F1, os1, env, _, R.ext e1 k1, Po.shift e1 h⟩
def ifM (mc ma mb : EM) : EM := fun env st => (mc env st).bind fun v st1 => match v with
  | .dat (.bool true) => ma env st1
  | .dat (.bool false) => mb env st1
  | _ => .stk
theorem pe_if (hc : PT X c (tT (kx X ec) W mc)) (ha : PE X a (tM (kx X ec) W ma)) (hb : PE X b (tM (kx X ec) W mb)) : PE X (.IfExp c a b pos) (tM (kx X ec) W (ifM mc ma mb)) := (pe_ifExp hc ha hb).imp fun σ H Q h => by
  obtain ⟨B, F, os, env, st, R, h⟩ := h
  refine ⟨B, F, os, env, st, R, ?_⟩
  unfold ifM at h
  cases hm : mc env st with
  | stk => rw [hm] at h; exact h
  | exc c d st1 => rw [hm] at h; exact h
  | ok v st1 =>
    rw [hm] at h
    dsimp only [Ou.bind] at h
    split at h
    · refine ⟨true, rfl, fun F1 os1 H1 e1 k1 => ?_⟩
      refine iteT ?_
      exact ⟨B, F1, os1, env, _, R.ext e1 k1, Po.shift e1 h⟩
    · refine ⟨false, rfl, fun F1 os1 H1 e1 k1 => ?_⟩
      refine iteF ?_
      exact ⟨B, F1, os1, env, _, R.ext e1 k1, Po.shift e1 h⟩
    · exact False.elim h
theorem pt_if (hc : PT X c (tT (kx X ec) W mc)) (ha : PE X a (tM (kx X ec) W ma)) (hb : PE X b (tM (kx X ec) W mb)) (he : ∀ whole, isTrue (.IfExp c a b pos) X.env whole = (do let v ← whole; standAt (Expr.IfExp c a b pos).pos; holding [v] (truthy v)) := by intro _; rfl) : PT X (.IfExp c a b pos) (tT (kx X ec) W (truM (ifM mc ma mb))) :=
  pt_tru (pe_if hc ha hb) he
/-! ### a op b op c -/
def chM (g g' : Val → Val → Option Val) (ma mb mc : EM) : EM := fun env st => (ma env st).bind fun v st1 => (mb env st1).bind fun w st2 => match g v w with
  | some (.dat (.bool true)) => (mc env st2).bind fun u st3 => Ou.of st3 (g' w u)
  | some (.dat (.bool false)) => .ok (.dat (.bool false)) st2
  | _ => .stk
theorem ch_ok {K : Kx} {r r' : R2} {g g' : Val → Val → Option Val} (hs : Snd2 K r g) (hs' : Snd2 K r' g') {σ : L2.St} {H : Hp} {Q : VK} (h : tM K W (chM g g' ma mb mc) σ H Q) : tChain r r' (tM K W ma) (tM K W mb) (tM K W mc) σ H Q := by
  obtain ⟨B, F, os, env, st, R, h⟩ := h
  refine ⟨B, F, os, env, st, R, h.bind ?_⟩
  intro v st1 x F1 os1 H1 ev e1 k1 r1 f1 p1
  refine ⟨B, F1, os1, env, st1, R.ext e1 k1, (p1.shift e1).bind ?_⟩
  intro w st2 y F2 os2 H2 ew e2 k2 r2 f2 p2
  have R2 := (R.ext e1 k1).ext e2 k2
  cases hg : g v w with
  | none => rw [hg] at p2; exact False.elim p2
  | some z =>
    rw [hg] at p2
    refine hs F2 os2 H2 st2 x y v w z _ k2 (r1.ext e2) r2 hg fun x' F' H' e3 k3 r3 f3 => ?_
    split at p2
    · rename_i hz
      cases hz
      refine ⟨true, r3.bool, ?_⟩
      refine iteT ?_
      refine ⟨B, F', os2, env, st2, R2.ext e3 k3, (p2.shift (e2.trans e3)).bind ?_⟩
      intro u st4 w4 F4 os4 H4 ew4 e4 k4 r4 f4 p4
      obtain ⟨z4, hz4, q4⟩ := p4.of
      exact hs' F4 os4 H4 st4 y w4 w u z4 Q k4 ((r2.ext e3).ext e4) r4 hz4 fun x' F' H' e k r f => q4 x' F' os4 H' (e4.trans e) k r fun c p ev ex => e4.nn (f c p ev ex)
    · rename_i hz
      cases hz
      refine ⟨false, r3.bool, ?_⟩
      refine iteF ?_
      exact p2 _ _ _ _ (e2.trans e3) k3 (.dat (.bl _)) Frs.dat
    · exact False.elim p2
theorem pe_ch {op op' : CmpOp} {r r' : R2} {g g' : Val → Val → Option Val} (ho : OpR X (compareOp op) r) (hs : Snd2 (kx X ec) r g) (ho' : OpR X (compareOp op') r') (hs' : Snd2 (kx X ec) r' g') (ha : PE X a (tM (kx X ec) W ma)) (hb : PE X b (tM (kx X ec) W mb)) (hc : PE X c (tM (kx X ec) W mc))
    (hm : lastMarks [op, op'] [b, c] = false := by with_unfolding_all rfl) : PE X (.Compare a [op, op'] [b, c] pos) (tM (kx X ec) W (chM g g' ma mb mc)) := (pe_chain ho ho' ha hb hc hm).imp fun _ _ _ => ch_ok hs hs'
theorem pt_ch {op op' : CmpOp} {r r' : R2} {g g' : Val → Val → Option Val} (ho : OpR X (compareOp op) r) (hs : Snd2 (kx X ec) r g) (ho' : OpR X (compareOp op') r') (hs' : Snd2 (kx X ec) r' g') (ha : PE X a (tM (kx X ec) W ma)) (hb : PE X b (tM (kx X ec) W mb)) (hc : PE X c (tM (kx X ec) W mc))
    (hm : lastMarks [op, op'] [b, c] = false := by with_unfolding_all rfl) : PT X (.Compare a [op, op'] [b, c] pos) (tT (kx X ec) W (chM g g' ma mb mc)) := (pt_chain ho ho' ha hb hc hm).imp fun _ _ _ h => ch_ok hs hs' (tT_tM h)

/-! ### slices -/
def cutD (ds : List D) (lo hi : Option Int) : List D := (ds.drop (HT.sIx ds.length 0 lo)).take (HT.sIx ds.length ds.length hi - HT.sIx ds.length 0 lo)
def gCut (v : Val) (lo hi : Option Int) : Option Val := match v with
  | .dat (.str x) => if x.length ≤ sizeLine then some (.dat (.str (cutS x lo hi))) else none
  | v => match asList v with
    | some ds => some (.fr (.lst (cutD ds lo hi)))
    | none => (asTup v).map fun ds => .dat (.tuple (cutD ds lo hi))
/-- a part of a slice -/
def poM (m : EM) : Env → List Cn → Option (Option Int × List Cn) → Prop := fun _ _ _ => True
inductive PaM where
  | no
  | som (m : EM)
def tPO (K : Kx) (W : WX) : PaM → TO
  | .no => tNoPart
  | .som m => tPart (tM K W m)
theorem po_n : PO X none (tPO (kx X ec) W .no) := po_none
theorem po_s (h : PE X e (tM (kx X ec) W m)) : PO X (some e) (tPO (kx X ec) W (.som m)) := po_some h
def paBind (p : PaM) (env : Env) (st : List Cn) (k : Option Int → List Cn → Ou) : Ou := match p with
  | .no => k none st
  | .som m => (m env st).bind fun v st1 => match v with
    | .dat (.int i) => k (some i) st1
    | _ => .stk
def sliM (m : EM) (lo hi : PaM) : EM := fun env st => (m env st).bind fun v st1 => paBind lo env st1 fun l st2 => paBind hi env st2 fun h st3 => Ou.of st3 (gCut v l h)
/-- t[lo:hi]: t itself, or a new one without a dict -/
def rSlN (K : PySem.W.Frag) : V → Option Int → Option Int → Hp → VK → Prop := fun x lo hi H Q => ∃ a xs, x = .ref a ∧ SqT K H a xs ∧
  (HT.sIx xs.length 0 lo = 0 ∧ HT.sIx xs.length xs.length hi = xs.length → Q (.ref a) H) ∧ (¬ (HT.sIx xs.length 0 lo = 0 ∧ HT.sIx xs.length xs.length hi = xs.length) → ∀ p ob, H p = none → NdO ob → Q (.ref p) (upd H p (.frz ob (.tup (cutV xs lo hi)))))
theorem sl_tupN {X : Cx} : SlR X (rSlN X.K) := by
  intro pins s σ H x v vl vu lo hi sl Q I rx hs pl pu h
  obtain ⟨a, xs, rfl, hx, q1, q2⟩ := h
  by_cases hw : HT.sIx xs.length 0 lo = 0 ∧ HT.sIx xs.length xs.length hi = xs.length
  · exact sl_tupA pins s σ H _ v vl vu lo hi sl Q I rx hs pl pu ⟨a, xs, rfl, hx, fun _ => q1 hw, fun n => absurd hw n⟩
  · cases rx
    obtain ⟨its, rv, ht, hz⟩ := I.tuple hx
    have hn : its.toArray.size = xs.length := by rw [List.size_toArray]; exact rv.length.symm
    refine ⟨"tuple", _, PyProof.Rows.slot_tuple_getitem.lookup, ht.typeIs, HT.getItem_tuple_cut ht hs pl pu (by rw [hn]; exact hw) ?_ (by rw [hn]; exact hz)⟩
    rw [hn]
    have hf := I.hok.fresh (Nat.le_refl s.heap.objs.size)
    refine ⟨.ref s.heap.objs.size, _, I.laid (t' := s.toks) (o := .frz _ (.tup (cutV xs lo hi))) (fun c o z => Heap.get?_push_of_some _ z) (Nat.le_refl _) ⟨Heap.get?_push_size _ rfl, ?_⟩, rfl, q2 hw _ _ hf ⟨rfl, rfl⟩⟩
    exact ⟨Nat.le_trans (cutV_length xs lo hi) hz, _, (rv.drop (HT.sIx xs.length 0 lo)).take (HT.sIx xs.length xs.length hi - HT.sIx xs.length 0 lo), IsTup.new _ _⟩
def rCutA (K : PySem.W.Frag) : V → Option Int → Option Int → Hp → VK → Prop := fun x lo hi H Q => rSlS x lo hi H Q ∨ (rSlL K x lo hi H Q ∨ rSlN K x lo hi H Q)
theorem sl_any : SlR X (rCutA X.K) := (sl_str).or (sl_list.or sl_tupN)
theorem cut_ok {K : Kx} {F H : Hp} {os : List Addr} {st : List Cn} {x : V} {v z : Val} {lo hi : Option Int} {Q : VK} (k : StOk K F os H st) (r : VR K F os H x v) (e : gCut v lo hi = some z)
    (q : ∀ x' F' H', Ext F os H F' os H' → StOk K F' os H' st → VR K F' os H' x' z → Frs H x' z → Q x' H') : rCutA K.K x lo hi H Q := by
  unfold gCut at e
  split at e
  · split at e
    · rename_i hl
      cases e
      have := r.str
      subst this
      exact .inl ⟨_, rfl, hl, q _ F H (Ext.refl _ _ _) k (.dat (.str _)) Frs.dat⟩
    · cases e
  · split at e
    · rename_i ds h
      cases e
      obtain ⟨p, xs, rfl, h1, d1⟩ := r.list k h
      refine .inr (.inl ⟨p, xs, rfl, SqL.of h1, fun r hr => q _ F _ (Ext.newO k hr) (k.newO hr) (VR.newLst k hr ?_) (Frs.new hr)⟩)
      unfold cutV cutD
      rw [d1.len]
      exact (d1.drop _).take _
    · cases h : asTup v with
      | none => rw [h] at e; cases e
      | some ds =>
        rw [h] at e
        cases e
        obtain ⟨e1, p, xs, rfl, h1, d1⟩ := r.tup k h
        subst e1
        refine .inr (.inr ⟨p, xs, rfl, h1, fun hw => ?_, fun hw r ob hr hn => q _ _ _ (Ext.newF k hr) (k.newF hr) (VR.newTupN k hr hn ?_) Frs.dat⟩)
        · have ec : cutD ds lo hi = ds := by
            unfold cutD
            rw [d1.len] at hw
            rw [hw.1, hw.2]
            simp
          dsimp only at q
          rw [ec] at q
          exact q _ F H (Ext.refl _ _ _) k r Frs.dat
        · unfold cutV cutD
          rw [d1.len]
          exact (d1.drop _).take _
theorem pa_bind {K : Kx} {B : Bs} {p : PaM} {k : Option Int → List Cn → Ou} {σ : L2.St} {F H : Hp} {os : List Addr} {env : Env} {st : List Cn} {Q : VK} {Q1 : Option Int → Hp → Prop} (R : Rel K B F os σ H env st) (h : Po K W σ F os H (paBind p env st k) Q)
    (hk : ∀ l st1 F1 os1 H1, Ext F os H F1 os1 H1 → StOk K F1 os1 H1 st1 → Po K W σ F os H (k l st1) Q → Q1 l H1) : tPO K W p σ H Q1 := by
  cases p with
  | no => exact hk none st F os H (Ext.refl _ _ _) R.ok h
  | som m =>
    refine ⟨B, F, os, env, st, R, Po.bind h ?_⟩
    intro v st1 x F1 os1 H1 ev e1 k1 r1 f1 p1
    split at p1
    · rename_i i
      exact ⟨i, r1.int, hk _ _ _ _ _ e1 k1 p1⟩
    · exact False.elim p1
theorem pe_sl {lo hi : Option Expr} {ml mh : PaM} {p2 : Pos} (he : PE X e (tM (kx X ec) W m)) (hl : PO X lo (tPO (kx X ec) W ml)) (hh : PO X hi (tPO (kx X ec) W mh)) : PE X (.Subscript e (.Slice lo hi none p2) pos) (tM (kx X ec) W (sliM m ml mh)) :=
  (pe_slice sl_any he hl hh).imp fun σ H Q h => by
    obtain ⟨B, F, os, env, st, R, h⟩ := h
    refine ⟨B, F, os, env, st, R, h.bind ?_⟩
    intro v st1 x F1 os1 H1 ev e1 k1 r1 f1 p1
    refine pa_bind (R.ext e1 k1) (p1.shift e1) fun l st2 F2 os2 H2 e2 k2 p2 => ?_
    refine pa_bind ((R.ext e1 k1).ext e2 k2) (p2.shift e2) fun h st3 F3 os3 H3 e3 k3 p3 => ?_
    obtain ⟨z, hz, q⟩ := p3.of
    exact cut_ok k3 ((r1.ext e2).ext e3) hz fun x' F' H' e k r f => q x' F' os3 H' (e3.trans e) k r fun c p ev ex => e3.nn (f c p ev ex)

/-! ### d[k] of an object of the store, of a dict of one's own -/
def keyD : D → Option Key
  | .int i => some (.inl i)
  | .str x => some (.inr x)
  | _ => none
def dlook (kvs : List (Key × D)) (k : Key) : Option D := (kvs.find? fun kv => decide (kv.1 = k)).map (·.2)
theorem keyD_ok {K : Kx} {F : Hp} {x : V} {d : D} {k : Key} (r : Dr K F x d) (h : keyD d = some k) : x = kV k := by
  cases r <;> simp only [keyD] at h <;> first | (cases h; rfl) | cases h
theorem drv_look {K : Kx} {F : Hp} {k : Key} {d : D} : ∀ {kvs : List (Key × V)} {ds : List (Key × D)}, Drv K F kvs ds → dlook ds k = some d → ∃ v, valV kvs k = some v ∧ Dr K F v d
  | _, _, .nil, h => by cases h
  | _, _, .cons (a := p) (b := q) r t, h => by
    unfold dlook at h
    rw [List.find?_cons] at h
    by_cases e : q.1 = k
    · rw [decide_eq_true e] at h
      cases h
      exact ⟨p.2, valV_pos (r.1.trans e), r.2⟩
    · rw [decide_eq_false e] at h
      obtain ⟨v, h1, h2⟩ := drv_look t h
      exact ⟨v, (valV_neg (fun z => e (r.1.symm.trans z))).trans h1, h2⟩
theorem drv_len {K : Kx} {F : Hp} : ∀ {kvs : List (Key × V)} {ds : List (Key × D)}, Drv K F kvs ds → kvs.length = ds.length
  | _, _, .nil => rfl
  | _, _, .cons r t => by simp [drv_len t]
def asDk (st : List Cn) : Val → Option (List (Key × D))
  | .obj n => match st[n]? with
    | some (.dk kvs) => some kvs
    | _ => none
  | .fr (.dk kvs) => some kvs
  | .bor (.dk kvs) => some kvs
  | _ => none
theorem VR.dk {K : Kx} {F H : Hp} {os : List Addr} {st : List Cn} {x : V} {v : Val} (k : StOk K F os H st) (r : VR K F os H x v) {kvs : List (Key × D)} (e : asDk st v = some kvs) : ∃ p kvs', x = .ref p ∧ H p = some (.dK kvs') ∧ Drv K F kvs' kvs := by
  cases r with
  | dat r => cases e
  | fr a b c d =>
    cases d with
    | lst d => cases e
    | dk d => cases e; exact ⟨_, _, rfl, c, d⟩
  | bor a b c d =>
    cases d with
    | lst d => cases e
    | dk d => cases e; exact ⟨_, _, rfl, c, d⟩
  | obj a =>
    simp only [asDk] at e
    split at e
    · rename_i kvs' h
      cases e
      obtain ⟨f, o, h1, h2⟩ := k.stv _ _ _ a h
      cases h2 with
      | dk d => exact ⟨_, _, rfl, h1, d⟩
    · cases e
  | scr a b => cases e
def getM (ma mb : EM) : EM := fun env st => (ma env st).bind fun v st1 => (mb env st1).bind fun w st2 => Ou.of st2 (match asDk st2 v, w with
  | some kvs, .dat d => (keyD d).bind fun k => (dlook kvs k).map .dat
  | _, _ => none)
theorem pe_get (hu : X.A.units + 1 < cLine) (ha : PE X a (tM (kx X ec) W ma)) (hb : PE X b (tM (kx X ec) W mb)) (hs : NoSl b) : PE X (.Subscript a b pos) (tM (kx X ec) W (getM ma mb)) :=
  (pe_dget hu ha hb hs).imp fun σ H Q h => by
    obtain ⟨B, F, os, env, st, R, h⟩ := h
    refine ⟨B, F, os, env, st, R, h.bind ?_⟩
    intro v st1 x F1 os1 H1 ev e1 k1 r1 f1 p1
    refine ⟨B, F1, os1, env, st1, R.ext e1 k1, (p1.shift e1).bind ?_⟩
    intro w st2 y F2 os2 H2 ew e2 k2 r2 f2 p2
    obtain ⟨z, hz, q⟩ := p2.of
    split at hz
    · rename_i kvs d h1
      cases hk : keyD d with
      | none => rw [hk] at hz; cases hz
      | some kk =>
        rw [hk] at hz
        cases hl : dlook kvs kk with
        | none => simp [hl] at hz
        | some d' =>
          simp [hl] at hz
          subst hz
          obtain ⟨p, kvs', rfl, hp, dv⟩ := (r1.ext e2).dk k2 h1
          obtain ⟨v', hv, rv⟩ := drv_look dv hl
          cases r2 with
          | dat r2 =>
            have := keyD_ok r2 hk
            subst this
            exact ⟨p, v', rfl, by rw [← hv]; exact DGet.k hp, q _ _ _ _ e2 k2 (.dat rv) Frs.dat⟩
    · cases hz

/-! ### calls of one's own defs -/
abbrev FM := List Val → List Cn → Ou
def spOf (K : Kx) (n : Nat) (fm : FM) : Sp := fun vs H Q E => ∃ F os vals st, StOk K F os H st ∧ VRs K F os H vs vals ∧ vals.all nofr = true ∧ vs.length = n ∧ (match fm vals st with
  | .stk => False
  | .ok v st' => ∀ x F' os' H', Ext F os H F' os' H' → StOk K F' os' H' st' → VR K F' os' H' x v → Frs H x v → Q x H'
  | .exc c d st' => ∀ cls dd F' os' H', Ext F os H F' os' H' → StOk K F' os' H' st' → ErD K F' cls dd c d → E cls dd H')
def callF (n : Nat) (fm : FM) (ra : AM) : EM := fun env st => (ra env st).bind fun vs st1 => if vs.length = n then fm vs st1 else .stk
theorem VRs.len {K : Kx} {F H : Hp} {os : List Addr} : ∀ {vs : List V} {xs : List Val}, VRs K F os H vs xs → vs.length = xs.length
  | _, _, .nil => rfl
  | _, _, .cons _ t => by simp [VRs.len t]
end
end Pl

set_option Elab.async false
set_option linter.all false
set_option maxRecDepth 100000
set_option maxHeartbeats 4000000
namespace Pl
open PySem PySem.Spec PyProof.Rows L2

/-! ### what a statement comes to -/
inductive Os where
  | stk
  | nx (env : Env) (st : List Cn)
  | ret (v : Val) (st : List Cn)
  | brk (env : Env) (st : List Cn)
  | cnt (env : Env) (st : List Cn)
  | exc (c : Nat) (d : D) (env : Env) (st : List Cn)
abbrev SM := Env → List Cn → Os
def Ou.bindS (o : Ou) (env : Env) (k : Val → List Cn → Os) : Os := match o with
  | .stk => .stk
  | .ok v st => k v st
  | .exc c d st => .exc c d env st
@[simp] theorem Ou.bindS_stk (e k) : Ou.stk.bindS e k = .stk := rfl
@[simp] theorem Ou.bindS_ok (v st e k) : (Ou.ok v st).bindS e k = k v st := rfl
@[simp] theorem Ou.bindS_exc (c d st e k) : (Ou.exc c d st).bindS e k = .exc c d e st := rfl
def PoS (X : Kx) (W : WX) (B : Bs) (o : Os) (E : Ends) : Prop := match o with
  | .stk => False
  | .nx env st => ∀ F os σ H, Rel X B F os σ H env st → E.nx σ H
  | .brk env st => ∀ F os σ H, Rel X B F os σ H env st → E.bk σ H
  | .cnt env st => ∀ F os σ H, Rel X B F os σ H env st → E.ct σ H
  | .ret v st => ∀ x F os H, Ext B.F B.os B.H F os H → StOk X F os H st → VR X F os H x v → Frs B.H x v → E.rt x H
  | .exc c d env st => ∀ cls dd F os σ H, Rel X B F os σ H env st → ErD X F cls dd c d → W cls dd σ H
def tS (X : Kx) (W : WX) (m : SM) : TS := fun E σ H => ∃ B F os env st, Rel X B F os σ H env st ∧ PoS X W B (m env st) E
section
variable {X : Kx} {W : WX} {B : Bs} {σ : L2.St} {F H : Hp} {os : List Addr} {env : Env} {st : List Cn}
theorem PoS.bind {o : Ou} {k : Val → List Cn → Os} {E : Ends} {Q1 : VK} (R : Rel X B F os σ H env st) (h : PoS X W B (o.bindS env k) E)
    (hk : ∀ v st1 x F1 os1 H1, o = .ok v st1 → Ext F os H F1 os1 H1 → Rel X B F1 os1 σ H1 env st1 → VR X F1 os1 H1 x v → Frs H x v → PoS X W B (k v st1) E → Q1 x H1) : Po X W σ F os H o Q1 := by
  cases o with
  | stk => exact h
  | ok v st1 => exact fun x F1 os1 H1 e q r f => hk v st1 x F1 os1 H1 rfl e (R.ext e q) r f h
  | exc c d st1 => exact fun cls dd F1 os1 H1 e q r => h cls dd F1 os1 σ H1 (R.ext e q) r
theorem PoS.bindT {o : Ou} {k : Val → List Cn → Os} {E : Ends} {Q1 : Bool → Hp → Prop} (R : Rel X B F os σ H env st) (h : PoS X W B (o.bindS env k) E)
    (hb : ∀ v st1, o = .ok v st1 → PoS X W B (k v st1) E → ∃ b, v = .dat (.bool b))
    (hk : ∀ b st1 F1 os1 H1, o = .ok (.dat (.bool b)) st1 → Rel X B F1 os1 σ H1 env st1 → PoS X W B (k (.dat (.bool b)) st1) E → Q1 b H1) : PoT X W σ F os H o Q1 := by
  cases o with
  | stk => exact h
  | ok v st1 =>
    obtain ⟨b, e⟩ := hb v st1 rfl h
    subst e
    exact ⟨b, rfl, fun F1 os1 H1 e q => hk b st1 F1 os1 H1 rfl (R.ext e q) h⟩
  | exc c d st1 => exact fun cls dd F1 os1 H1 e q r => h cls dd F1 os1 σ H1 (R.ext e q) r

/-! ### names stored -/
def nobor : Val → Bool
  | .bor _ => false
  | _ => true
theorem Rel.set {i : Nat} {x : V} {v : Val} (R : Rel X B F os σ H env st) (r : VR X F os H x v) (hb : nobor v = true)
    (hf : ∀ c p, v = .fr c → x = .ref p → B.H p = none ∧ ∀ j c', j ≠ i → env[j]? = some (some (.fr c')) → σ[j]? ≠ some (some (.ref p))) : Rel X B F os (σ.set i (some x)) H (env.set i (some v)) st where
  ok := R.ok
  len := by simp [R.len]
  slv := fun j u h => by
    by_cases e : j = i
    · subst e
      have hl : j < env.length := by
        have := (List.getElem?_eq_some_iff.mp h).1
        simpa using this
      rw [List.getElem?_set_self hl] at h
      cases h
      exact ⟨x, by rw [List.getElem?_set_self (by rw [← R.len]; exact hl)], r⟩
    · rw [List.getElem?_set_ne (Ne.symm e)] at h
      obtain ⟨y, a, b⟩ := R.slv j u h
      exact ⟨y, by rw [List.getElem?_set_ne (Ne.symm e)]; exact a, b⟩
  own := fun j k c c' p ne h1 h2 h3 h4 => by
    by_cases e : j = i
    · subst e
      have hl : j < env.length := by
        have := (List.getElem?_eq_some_iff.mp h1).1
        simpa using this
      rw [List.getElem?_set_self hl] at h1
      rw [List.getElem?_set_self (by rw [← R.len]; exact hl)] at h3
      cases h1
      cases h3
      rw [List.getElem?_set_ne ne] at h2 h4
      exact (hf c p rfl rfl).2 k c' (Ne.symm ne) h2 h4
    · rw [List.getElem?_set_ne (Ne.symm e)] at h1 h3
      by_cases e2 : k = i
      · subst e2
        have hl : k < env.length := by
          have := (List.getElem?_eq_some_iff.mp h2).1
          simpa using this
        rw [List.getElem?_set_self hl] at h2
        rw [List.getElem?_set_self (by rw [← R.len]; exact hl)] at h4
        cases h2
        cases h4
        exact (hf c' p rfl rfl).2 j c ne h1 h3
      · rw [List.getElem?_set_ne (Ne.symm e2)] at h2 h4
        exact R.own j k c c' p ne h1 h2 h3 h4
  ownB := fun j c p h1 h3 => by
    by_cases e : j = i
    · subst e
      have hl : j < env.length := by
        have := (List.getElem?_eq_some_iff.mp h1).1
        simpa using this
      rw [List.getElem?_set_self hl] at h1
      rw [List.getElem?_set_self (by rw [← R.len]; exact hl)] at h3
      cases h1
      cases h3
      exact (hf c p rfl rfl).1
    · rw [List.getElem?_set_ne (Ne.symm e)] at h1 h3
      exact R.ownB j c p h1 h3
  borB := fun j c p h1 h3 => by
    by_cases e : j = i
    · subst e
      have hl : j < env.length := by
        have := (List.getElem?_eq_some_iff.mp h1).1
        simpa using this
      rw [List.getElem?_set_self hl] at h1
      cases h1
      cases hb
    · rw [List.getElem?_set_ne (Ne.symm e)] at h1 h3
      exact R.borB j c p h1 h3
  bs := R.bs
  pin := R.pin
/-- what is fresh of an elder heap at which the relation held -/
theorem Rel.frs {F0 H0 : Hp} {os0 : List Addr} {st0 : List Cn} {x : V} {v : Val} (R0 : Rel X B F0 os0 σ H0 env st0) (f : Frs H0 x v) (i : Nat) :
    ∀ c p, v = .fr c → x = .ref p → B.H p = none ∧ ∀ j c', j ≠ i → env[j]? = some (some (.fr c')) → σ[j]? ≠ some (some (.ref p)) := fun c p e1 e2 => by
  have hp := f c p e1 e2
  refine ⟨R0.bs.nn hp, fun j c' _ h1 h2 => ?_⟩
  obtain ⟨y, a, b⟩ := R0.slv j _ h1
  rw [h2] at a
  cases a
  cases b with
  | fr _ _ q _ => rw [hp] at q; cases q
theorem Rel.setF {F0 H0 : Hp} {os0 : List Addr} {st0 : List Cn} {i : Nat} {x : V} {v : Val} (R : Rel X B F os σ H env st) (R0 : Rel X B F0 os0 σ H0 env st0) (r : VR X F os H x v) (hb : nobor v = true) (f : Frs H0 x v) : Rel X B F os (σ.set i (some x)) H (env.set i (some v)) st :=
  R.set r hb (R0.frs f i)
/-- a container of one's own is written -/
theorem Rel.write {i : Nat} {p : Addr} {o' : HO} {c c' : Cn} (R : Rel X B F os σ H env st) (he : env[i]? = some (some (.fr c))) (hs : σ[i]? = some (some (.ref p))) (hc : CnR X F o' c') : Rel X B F os σ (upd H p o') (env.set i (some (.fr c'))) st := by
  obtain ⟨y, a, b⟩ := R.slv i _ he
  rw [hs] at a
  cases a
  cases b with
  | @fr _ o _ hf ho hp _ =>
  have hB := R.ownB i c p he hs
  have hl := (List.getElem?_eq_some_iff.mp he).1
  refine ⟨⟨fun a u h => ?_, R.ok.len, fun n a k h1 h2 => ?_, R.ok.nd⟩, by simp [R.len], fun j u h => ?_, fun j k d d' q ne h1 h2 h3 h4 => ?_, fun j d q h1 h3 => ?_, fun j d q h1 h3 => ?_, ⟨R.bs.fz, fun a u h hn => ?_, R.bs.new, R.bs.os, fun a h => upd_ne_none (R.bs.dom a h)⟩, R.pin⟩
  · rw [upd_ne (fun z => by rw [z, hf] at h; cases h)]; exact R.ok.sub _ _ h
  · obtain ⟨f, u, q, r⟩ := R.ok.stv n a k h1 h2
    have ne : a ≠ p := fun z => ho (z ▸ List.mem_of_getElem? h1)
    exact ⟨f, u, by rw [upd_ne ne]; exact q, r⟩
  · by_cases e : j = i
    · subst e
      rw [List.getElem?_set_self hl] at h
      cases h
      exact ⟨_, hs, .fr hf ho upd_same hc⟩
    · rw [List.getElem?_set_ne (Ne.symm e)] at h
      obtain ⟨y, a, b⟩ := R.slv j u h
      refine ⟨y, a, ?_⟩
      cases b with
      | dat r => exact .dat r
      | @fr q u d f1 o1 h1 r1 =>
        have ne : q ≠ p := fun z => R.own i j c d p (Ne.symm e) he h hs (by rw [a, z])
        exact .fr f1 o1 (by rw [upd_ne ne]; exact h1) r1
      | @bor q u d f1 o1 h1 r1 =>
        have ne : q ≠ p := fun z => R.borB j d q h a (by rw [z]; exact hB)
        exact .bor f1 o1 (by rw [upd_ne ne]; exact h1) r1
      | obj r => exact .obj r
      | scr r s => exact .scr r s
  · by_cases e : j = i
    · subst e
      rw [List.getElem?_set_self hl] at h1
      cases h1
      rw [List.getElem?_set_ne ne] at h2
      exact R.own j k c d' q ne he h2 h3 h4
    · rw [List.getElem?_set_ne (Ne.symm e)] at h1
      by_cases e2 : k = i
      · subst e2
        rw [List.getElem?_set_self hl] at h2
        cases h2
        exact R.own j k d c q ne h1 he h3 h4
      · rw [List.getElem?_set_ne (Ne.symm e2)] at h2
        exact R.own j k d d' q ne h1 h2 h3 h4
  · by_cases e : j = i
    · subst e
      exact R.ownB j c q he h3
    · rw [List.getElem?_set_ne (Ne.symm e)] at h1
      exact R.ownB j d q h1 h3
  · by_cases e : j = i
    · subst e
      rw [List.getElem?_set_self hl] at h1
      cases h1
    · rw [List.getElem?_set_ne (Ne.symm e)] at h1
      exact R.borB j d q h1 h3
  · rw [upd_ne (fun z => by rw [z, hB] at h; cases h)]; exact R.bs.keep _ _ h hn
/-- an object of the store is written -/
theorem Rel.writeO {n : Nat} {p : Addr} {o' : HO} {c' : Cn} (R : Rel X B F os σ H env st) (ho : os[n]? = some p) (hc : CnR X F o' c') : Rel X B F os σ (upd H p o') env (st.set n c') := by
  have hm : p ∈ os := List.mem_of_getElem? ho
  obtain ⟨o, hp, hf⟩ := R.ok.live hm
  have hn : n < st.length := by rw [← R.ok.len]; exact (List.getElem?_eq_some_iff.mp ho).1
  refine ⟨⟨fun a u h => ?_, by simp [R.ok.len], fun k a d h1 h2 => ?_, R.ok.nd⟩, R.len, fun j u h => ?_, R.own, R.ownB, R.borB, ⟨R.bs.fz, fun a u h hno => ?_, R.bs.new, R.bs.os, fun a h => upd_ne_none (R.bs.dom a h)⟩, R.pin⟩
  · rw [upd_ne (fun z => by rw [z, hf] at h; cases h)]; exact R.ok.sub _ _ h
  · by_cases e : k = n
    · subst e
      rw [ho] at h1
      cases h1
      rw [List.getElem?_set_self hn] at h2
      cases h2
      exact ⟨hf, o', upd_same, hc⟩
    · rw [List.getElem?_set_ne (Ne.symm e)] at h2
      obtain ⟨f, u, q, r⟩ := R.ok.stv k a d h1 h2
      have ne : a ≠ p := fun z => by
        subst z
        obtain ⟨l1, e1⟩ := List.getElem?_eq_some_iff.mp h1
        obtain ⟨l2, e2⟩ := List.getElem?_eq_some_iff.mp ho
        exact e ((List.getElem_inj R.ok.nd).mp (e1.trans e2.symm))
      exact ⟨f, u, by rw [upd_ne ne]; exact q, r⟩
  · obtain ⟨y, a, b⟩ := R.slv j u h
    refine ⟨y, a, ?_⟩
    cases b with
    | dat r => exact .dat r
    | @fr q u d f1 o1 h1 r1 => 
      have ne : q ≠ p := fun z => o1 (by rw [z]; exact hm)
      exact .fr f1 o1 (by rw [upd_ne ne]; exact h1) r1
    | @bor q u d f1 o1 h1 r1 => 
      have ne : q ≠ p := fun z => o1 (by rw [z]; exact hm)
      exact .bor f1 o1 (by rw [upd_ne ne]; exact h1) r1
    | obj r => exact .obj r
    | scr r s => exact .scr r s
  · by_cases e : a = p
    · subst e
      obtain ⟨m, e1, e2⟩ := R.bs.os
      rw [e1] at hm
      rcases List.mem_append.mp hm with z | z
      · exact absurd z hno
      · rw [e2 _ z] at h; cases h
    · rw [upd_ne e]; exact R.bs.keep _ _ h hno
/-- a name's container is frozen -/
theorem Rel.freeze {i : Nat} {c : Cn} (R : Rel X B F os σ H env st) (he : env[i]? = some (some (.fr c))) : ∃ F', Rel X B F' os σ H (env.set i (some (.dat (cnD c)))) st := by
  obtain ⟨y, a, b⟩ := R.slv i _ he
  cases b with
  | @fr p o _ hf ho hp r =>
  have hB := R.ownB i _ p he a
  have hl := (List.getElem?_eq_some_iff.mp he).1
  obtain ⟨e2, k2, r2⟩ := Pl.freeze R.bs R.ok hp hB hf ho r
  have s := same_upd (o := o) hf
  refine ⟨upd F p o, ⟨k2, by simp [R.len], fun j u h => ?_, fun j k d d' q ne h1 h2 h3 h4 => ?_, fun j d q h1 h3 => ?_, fun j d q h1 h3 => ?_, e2, R.pin.trans s⟩⟩
  · by_cases e : j = i
    · subst e
      rw [List.getElem?_set_self hl] at h
      cases h
      exact ⟨_, a, .dat r2⟩
    · rw [List.getElem?_set_ne (Ne.symm e)] at h
      obtain ⟨y, a', b⟩ := R.slv j u h
      refine ⟨y, a', ?_⟩
      cases b with
      | dat r => exact .dat (Dr.mono s _ _ r)
      | @fr q u d f1 o1 h1 r1 =>
        have ne : q ≠ p := fun z => R.own i j _ d p (Ne.symm e) he h a (by rw [a', z])
        exact .fr (by rw [upd_ne ne]; exact f1) o1 h1 (r1.mono s)
      | @bor q u d f1 o1 h1 r1 =>
        have ne : q ≠ p := fun z => R.borB j d q h a' (by rw [z]; exact hB)
        exact .bor (by rw [upd_ne ne]; exact f1) o1 h1 (r1.mono s)
      | obj r => exact .obj r
      | scr r s' => exact .scr (Same.sqL s r) (Drs.mono s _ _ s')
  · by_cases e : j = i
    · subst e
      rw [List.getElem?_set_self hl] at h1
      cases h1
    · rw [List.getElem?_set_ne (Ne.symm e)] at h1
      by_cases e2 : k = i
      · subst e2
        rw [List.getElem?_set_self hl] at h2
        cases h2
      · rw [List.getElem?_set_ne (Ne.symm e2)] at h2
        exact R.own j k d d' q ne h1 h2 h3 h4
  · by_cases e : j = i
    · subst e
      rw [List.getElem?_set_self hl] at h1
      cases h1
    · rw [List.getElem?_set_ne (Ne.symm e)] at h1
      exact R.ownB j d q h1 h3
  · by_cases e : j = i
    · subst e
      rw [List.getElem?_set_self hl] at h1
      cases h1
    · rw [List.getElem?_set_ne (Ne.symm e)] at h1
      exact R.borB j d q h1 h3
end

section
variable {X : Cx} {ec : List (Addr × Str)} {W : WX} {e a b c : Expr} {ma mb mc m : EM} {pos : Pos} {s : Stmt} {ss : List Stmt} {ms mt mu : SM}
/-- i is frozen ahead of the statement -/
def fzM (i : Nat) (m : SM) : SM := fun env st => match env[i]? with
  | some (some (.fr c)) => m (env.set i (some (.dat (cnD c)))) st
  | _ => m env st
theorem fz_ok {K : Kx} {i : Nat} {E : Ends} {σ : L2.St} {H : Hp} (h : tS K W (fzM i ms) E σ H) : tS K W ms E σ H := by
  obtain ⟨B, F, os, env, st, R, h⟩ := h
  unfold fzM at h
  split at h
  · rename_i ds he
    obtain ⟨F', R'⟩ := R.freeze he
    exact ⟨B, F', os, _, st, R', h⟩
  · exact ⟨B, F, os, env, st, R, h⟩
theorem ps_fz (i : Nat) (h : PS X s (tS (kx X ec) W ms)) : PS X s (tS (kx X ec) W (fzM i ms)) := h.imp fun _ _ _ => fz_ok
theorem pss_fz (i : Nat) (h : PSs X ss (tS (kx X ec) W ms)) : PSs X ss (tS (kx X ec) W (fzM i ms)) := h.imp fun _ _ _ => fz_ok

/-! ### blocks -/
def nilM : SM := fun env st => .nx env st
def seqM (m1 m2 : SM) : SM := fun env st => match m1 env st with
  | .nx env' st' => m2 env' st'
  | o => o
theorem pss_n : PSs X [] (tS (kx X ec) W nilM) := pss_nil.imp fun E σ H h => by
  obtain ⟨B, F, os, env, st, R, h⟩ := h
  exact h F os σ H R
theorem seq_ok {K : Kx} {E : Ends} {σ : L2.St} {H : Hp} (h : tS K W (seqM ms mt) E σ H) : tSeq (tS K W ms) (tS K W mt) E σ H := by
  obtain ⟨B, F, os, env, st, R, h⟩ := h
  refine ⟨B, F, os, env, st, R, ?_⟩
  unfold seqM at h
  cases hm : ms env st <;> rw [hm] at h
  case nx env' st' => exact fun F1 os1 σ1 H1 R1 => ⟨B, F1, os1, env', st', R1, h⟩
  all_goals exact h
theorem pss_c (h1 : PS X s (tS (kx X ec) W ms)) (h2 : PSs X ss (tS (kx X ec) W mt)) : PSs X (s :: ss) (tS (kx X ec) W (seqM ms mt)) := (pss_cons h1 h2).imp fun _ _ _ => seq_ok
theorem pss_1 (h1 : PS X s (tS (kx X ec) W ms)) : PSs X [s] (tS (kx X ec) W ms) := pss_one h1
theorem ps_p : PS X (.Pass pos) (tS (kx X ec) W nilM) := ps_pass.imp fun E σ H h => by
  obtain ⟨B, F, os, env, st, R, h⟩ := h
  exact h F os σ H R
def brkM : SM := fun env st => .brk env st
def cntM : SM := fun env st => .cnt env st
theorem ps_b : PS X (.Break pos) (tS (kx X ec) W brkM) := ps_break.imp fun E σ H h => by
  obtain ⟨B, F, os, env, st, R, h⟩ := h
  exact h F os σ H R
theorem ps_ct : PS X (.Continue pos) (tS (kx X ec) W cntM) := ps_continue.imp fun E σ H h => by
  obtain ⟨B, F, os, env, st, R, h⟩ := h
  exact h F os σ H R
theorem ps_d {x j pos pos'} : PS X (.Expr (.Constant (.str x) j pos) pos') (tS (kx X ec) W nilM) := ps_doc.imp fun E σ H h => by
  obtain ⟨B, F, os, env, st, R, h⟩ := h
  exact h F os σ H R

/-! ### assignments -/
def setM (i : Nat) (m : EM) : SM := fun env st => (m env st).bindS env fun v st1 => if nobor v = true then .nx (env.set i (some v)) st1 else .stk
theorem set_ok {K : Kx} {i : Nat} {E : Ends} {σ : L2.St} {H : Hp} (h : tS K W (setM i m) E σ H) : tAsg (tM K W m) (gName i) E σ H := by
  obtain ⟨B, F, os, env, st, R, h⟩ := h
  refine ⟨B, F, os, env, st, R, PoS.bind R h ?_⟩
  intro v st1 x F1 os1 H1 ev e1 R1 r1 f1 p1
  split at p1
  · rename_i hb
    exact p1 F1 os1 _ H1 (R1.setF R r1 hb f1)
  · exact False.elim p1
theorem ps_s {i : Nat} {x : Str} {pos' : Pos} (hN : X.N.Nodup) (hi : X.N[i]? = some x) (hx : Loc X.env.scope x) (he : PE X e (tM (kx X ec) W m)) (hs : swapsWith e (some (.Name x pos')) pos.line X.env = pure false := by rfl) (hf : X.fn x = true ∨ X.env.scope.names.lookup x = some .local := by first | exact .inl rfl | exact .inr rfl | assumption) :
    PS X (.Assign [.Name x pos'] e pos) (tS (kx X ec) W (setM i m)) := (ps_set hN hi hx he hs hf).imp fun _ _ _ => set_ok
/-- a, b = .., .. -/
def parM (i j : Nat) (ma mb : EM) : SM := fun env st => (ma env st).bindS env fun v st1 => (mb env st1).bindS env fun w st2 => if nobor v = true ∧ nobor w = true then .nx ((env.set i (some v)).set j (some w)) st2 else .stk
theorem par_ok {K : Kx} {i j : Nat} (hij : i ≠ j) {E : Ends} {σ : L2.St} {H : Hp} (h : tS K W (parM i j ma mb) E σ H) : tPar i j (tCons (tM K W ma) (tCons (tM K W mb) tNil)) E σ H := by
  obtain ⟨B, F, os, env, st, R, h⟩ := h
  refine ⟨B, F, os, env, st, R, PoS.bind R h ?_⟩
  intro v st1 x F1 os1 H1 ev e1 R1 r1 f1 p1
  refine ⟨B, F1, os1, env, st1, R1, PoS.bind R1 p1 ?_⟩
  intro w st2 y F2 os2 H2 ew e2 R2 r2 f2 p2
  split at p2
  · rename_i hb
    refine ⟨x, y, rfl, p2 F2 os2 _ H2 ?_⟩
    have q1 : Rel K B F2 os2 (σ.set i (some x)) H2 (env.set i (some v)) st2 := R2.setF R (r1.ext e2) hb.1 f1
    refine q1.set r2 hb.2 fun c p ev ex => ?_
    have hp := f2 c p ev ex
    refine ⟨R1.bs.nn hp, fun k c' ne h1 h2 => ?_⟩
    by_cases e : k = i
    · subst e
      have hl : k < env.length := by
        have := (List.getElem?_eq_some_iff.mp h1).1
        simpa using this
      rw [List.getElem?_set_self hl] at h1
      rw [List.getElem?_set_self (by rw [← R.len]; exact hl)] at h2
      cases h1
      cases h2
      cases r1 with
      | fr _ _ q _ => rw [hp] at q; cases q
    · rw [List.getElem?_set_ne (Ne.symm e)] at h1 h2
      exact (R1.frs f2 j c p ev ex).2 k c' ne h1 h2
  · exact False.elim p2
theorem ps_pr {i j : Nat} {x y : Str} {px py pt : Pos} {kt k2 pt2} (hc : X.calm = true) (hN : X.N.Nodup) (hi : X.N[i]? = some x) (hj : X.N[j]? = some y) (hij : i ≠ j)
    (hx : X.env.scope.names.lookup x = some .local) (hy : X.env.scope.names.lookup y = some .local) (ha : PE X a (tM (kx X ec) W ma)) (hb : PE X b (tM (kx X ec) W mb))
    (hw : swappedStores [.Tuple [.Name x px, .Name y py] kt pt] (.Tuple [a, b] k2 pt2) X.env = pure (some [x, y]))
    (hs : swapsWithSole [.Tuple [.Name x px, .Name y py] kt pt] (.Tuple [a, b] k2 pt2) pos.line X.env = pure false := by rfl)
    (h1 : starEach [a, b] X.env = (false, eval a X.env) :: starEach [b] X.env := by rfl) (h2 : starEach [b] X.env = (false, eval b X.env) :: starEach [] X.env := by rfl) :
    PS X (.Assign [.Tuple [.Name x px, .Name y py] kt pt] (.Tuple [a, b] k2 pt2) pos) (tS (kx X ec) W (parM i j ma mb)) :=
  (ps_par hc hN hi hj hij hx hy (pa_cons ha (pa_cons hb pa_nil h2) h1) hw hs).imp fun _ _ _ => par_ok hij
/-- x op= e, x data -/
def augM (i : Nat) (g : Val → Val → Option Val) (m : EM) : SM := fun env st => match env[i]? with
  | some (some (.dat d)) => (m env st).bindS env fun w st1 => match g (.dat d) w with
    | some z => if nobor z = true then .nx (env.set i (some z)) st1 else .stk
    | none => .stk
  | _ => .stk
theorem aug_ok {K : Kx} {i : Nat} {r : R2} {g : Val → Val → Option Val} (hsn : Snd2 K r g) {E : Ends} {σ : L2.St} {H : Hp} (h : tS K W (augM i g m) E σ H) : tAug i (tM K W m) r E σ H := by
  obtain ⟨B, F, os, env, st, R, h⟩ := h
  unfold augM at h
  split at h
  · rename_i d hd
    obtain ⟨x, hx, rx⟩ := R.slv i _ hd
    refine ⟨x, hx, B, F, os, env, st, R, PoS.bind R h ?_⟩
    intro w st1 y F1 os1 H1 ew e1 R1 r1 f1 p1
    cases hg : g (.dat d) w with
    | none => rw [hg] at p1; exact False.elim p1
    | some z =>
      rw [hg] at p1
      dsimp only at p1
      split at p1
      · rename_i hb
        refine hsn F1 os1 H1 st1 x y (.dat d) w z _ R1.ok (rx.ext e1) r1 hg fun x' F' H' e k r f => ?_
        exact p1 F' os1 _ H' ((R1.ext e k).setF R1 r hb f)
      · exact False.elim p1
  · exact False.elim h
theorem ps_au {i : Nat} {x : Str} {op : Operator} {r : R2} {g : Val → Val → Option Val} {pos' : Pos} (ho : OpR X (inplaceOp op) r) (hsn : Snd2 (kx X ec) r g) (hN : X.N.Nodup) (hi : X.N[i]? = some x) (hx : Loc X.env.scope x) (he : PE X e (tM (kx X ec) W m)) (hf : X.fn x = true ∨ X.env.scope.names.lookup x = some .local := by first | exact .inl rfl | exact .inr rfl | assumption) :
    PS X (.AugAssign (.Name x pos') op e pos) (tS (kx X ec) W (augM i g m)) := (ps_aug hN hi hx he (fun pins s σ H x y v u Q I rx ry q => ho pins s σ H x y v u Q I rx ry q) hf).imp fun _ _ _ => aug_ok hsn
/-- an expression alone -/
def exM (m : EM) : SM := fun env st => (m env st).bindS env fun _ st1 => .nx env st1
theorem ps_ex (he : PE X e (tM (kx X ec) W m)) (hs : swapsWith e none pos.line X.env = pure false := by rfl) : PS X (.Expr e pos) (tS (kx X ec) W (exM m)) := (ps_expr he hs).imp fun E σ H h => by
  obtain ⟨B, F, os, env, st, R, h⟩ := h
  exact ⟨B, F, os, env, st, R, PoS.bind R h fun v st1 x F1 os1 H1 ev e1 R1 r1 f1 p1 => p1 F1 os1 σ H1 R1⟩
def retM (m : EM) : SM := fun env st => (m env st).bindS env fun v st1 => if nobor v = true then .ret v st1 else .stk
theorem ps_r (he : PE X e (tM (kx X ec) W m)) : PS X (.Return (some e) pos) (tS (kx X ec) W (retM m)) := (ps_ret he).imp fun E σ H h => by
  obtain ⟨B, F, os, env, st, R, h⟩ := h
  refine ⟨B, F, os, env, st, R, PoS.bind R h fun v st1 x F1 os1 H1 ev e1 R1 r1 f1 p1 => ?_⟩
  split at p1
  · exact p1 x F1 os1 H1 R1.bs R1.ok r1 fun c p ev ex => R.bs.nn (f1 c p ev ex)
  · exact False.elim p1
def retN : SM := fun _ st => .ret (.dat .none) st
theorem ps_rn : PS X (.Return none pos) (tS (kx X ec) W retN) := ps_retN.imp fun E σ H h => by
  obtain ⟨B, F, os, env, st, R, h⟩ := h
  exact h _ F os H R.bs R.ok (.dat .non) Frs.dat
def ifS (mc : EM) (mt mu : SM) : SM := fun env st => (mc env st).bindS env fun v st1 => match v with
  | .dat (.bool true) => mt env st1
  | .dat (.bool false) => mu env st1
  | _ => .stk
theorem ps_i {ts us : List Stmt} (hc : PT X c (tT (kx X ec) W mc)) (ht : PSs X ts (tS (kx X ec) W mt)) (hu : PSs X us (tS (kx X ec) W mu)) : PS X (.If c ts us pos) (tS (kx X ec) W (ifS mc mt mu)) := (ps_if hc ht hu).imp fun E σ H h => by
  obtain ⟨B, F, os, env, st, R, h⟩ := h
  refine ⟨B, F, os, env, st, R, PoS.bindT R h (fun v st1 _ p => ?_) fun b st1 F1 os1 H1 _ R1 p => ?_⟩
  · split at p
    · exact ⟨_, rfl⟩
    · exact ⟨_, rfl⟩
    · exact False.elim p
  · cases b with
    | true => exact iteT ⟨B, F1, os1, env, st1, R1, p⟩
    | false => exact iteF ⟨B, F1, os1, env, st1, R1, p⟩

/-! ### changes in place -/
/-- xs.append(e), xs a container of one's own -/
def appM (i : Nat) (m : EM) : SM := fun env st => match env[i]? with
  | some (some (.fr (.lst ds))) => (m env st).bindS env fun v st1 => match asDat v with
    | some d => if ds.length < sizeLine then .nx (env.set i (some (.fr (.lst (ds ++ [d]))))) st1 else .stk
    | none => .stk
  | _ => .stk
theorem frz_asDat {v : Val} {d : D} (h : asDat v = some d) : v.frz = some (.dat d) := by
  cases v with
  | dat e => cases h; rfl
  | fr c => cases h; rfl
  | bor c => cases h
  | obj n => cases h
  | scr ds => cases h
/-- the value is handed on as data -/
theorem Po.dat {K : Kx} {σ : L2.St} {F H : Hp} {os : List Addr} {o : Ou} {Q : VK}
    (h : Po K W σ F os H (o.bind fun v st1 => Ou.of st1 ((asDat v).map .dat)) Q) : Po K W σ F os H o Q := by
  refine h.bind ?_
  intro v st1 x F1 os1 H1 ev e k r f p
  obtain ⟨z, hz, q⟩ := p.of
  cases hd : asDat v with
  | none => rw [hd] at hz; cases hz
  | some d =>
    rw [hd] at hz
    cases hz
    cases r with
    | dat r => cases hd; exact q _ _ _ _ e k (.dat r) Frs.dat
    | fr a b c r =>
      cases hd
      obtain ⟨e2, k2, r2⟩ := Pl.freeze e k c (f _ _ rfl rfl) a b r
      exact q _ _ _ _ e2 k2 (.dat r2) Frs.dat
    | bor a b c r => cases hd
    | obj a => cases hd
    | scr a b => cases hd
theorem ps_ap {i : Nat} {x : Str} {p1 p2 p3 p4 : Pos} (hN : X.N[i]? = some x) (hv : Vis X.env.scope x) (he : PE X e (tM (kx X ec) W m)) (hd : (x == ("__debug__" : Str)) = false := by decide)
    (hcd : (x == ("__classdict__" : Str)) = false := by decide) (hs : swapsWith (.Call (.Attribute (.Name x p1) "append" p2) [e] [] p3) none p4.line X.env = pure false := by rfl)
    (h1 : attributeBase (.Name x p1) "append" X.env (eval (.Name x p1) X.env) = eval (.Name x p1) X.env := by rfl)
    (h2 : ((backTo p3 (starEach [e] X.env)).all (fun x => !x.1) && (backToKw p3 (keywordEach [] X.env)).all (fun x => x.1.isSome) && decide ([e].length + ([] : List Keyword).length + (if ([] : List Keyword).isEmpty then 0 else 1) < 30)) = true := by rfl)
    (h3 : (p2.endLine == p3.line) = true := by rfl) (h4 : starEach [e] X.env = (false, eval e X.env) :: starEach [] X.env := by rfl) (h5 : (backTo p3 (starEach [] X.env)).any (·.1) = false := by rfl) :
    PS X (.Expr (.Call (.Attribute (.Name x p1) "append" p2) [e] [] p3) p4) (tS (kx X ec) W (appM i m)) :=
  (ps_expr (pe_bm PySem.F.plainAttrs_list PySem.F.slot_list_append PySem.F.type_list_append mt_append (pv i hN hv hd hcd) (pa_cons he pa_nil h4) h1 h2 h3 h4 h5) hs).imp fun E σ H h => by
    obtain ⟨B, F, os, env, st, R, h⟩ := h
    unfold appM at h
    split at h
    · rename_i ds hd
      obtain ⟨y, hy, ry⟩ := R.slv i _ hd
      cases ry with
      | @fr p o _ hf ho hp r =>
      cases r with
      | @lst xs _ r =>
      refine ⟨_, hy, .inl ⟨rfl, xs, SqL.of hp⟩, ⟨B, F, os, env, st, R, Po.dat ?_⟩⟩
      cases hm : m env st with
      | stk => rw [hm] at h; exact h
      | exc c d st1 =>
        rw [hm] at h
        exact fun cls dd F1 os1 H1 e k r => h cls dd F1 os1 σ H1 (R.ext e k) r
      | ok v st1 =>
        rw [hm] at h
        dsimp only [Ou.bindS, Ou.bind] at h ⊢
        cases ha : asDat v with
        | none => rw [ha] at h; exact False.elim h
        | some d =>
          rw [ha] at h
          dsimp only at h
          split at h
          · rename_i hl
            intro x' F1 os1 H1 e k rx f
            have R1 := R.ext e k
            have hp1 := e.keep _ _ hp ho
            refine ⟨p, xs, x', rfl, rfl, hp1, by rw [r.len]; exact hl, ?_⟩
            cases rx with
            | dat rx => exact h _ _ _ _ (R1.write hd hy (.lst ((Drs.mono e.fz _ _ r).append (.cons rx .nil))))
          · exact False.elim h
    · exact False.elim h
/-- xs[k] = e, xs a list of one's own -/
def stM (i : Nat) (mk : EM) (m : EM) : SM := fun env st => (m env st).bindS env fun v st1 => match asDat v with
  | some d => match env[i]? with
    | some (some (.fr (.lst ds))) => (mk env st1).bindS env fun w st2 => match w with
      | .dat (.int k) => match ixN ds.length k with
        | some j => .nx (env.set i (some (.fr (.lst (ds.set j d))))) st2
        | none => .stk
      | _ => .stk
    | _ => .stk
  | none => .stk
theorem ps_st {i : Nat} {x : Str} {px pt : Pos} {ek : Expr} {mk : EM} (hN : X.N[i]? = some x) (hv : Vis X.env.scope x) (he : PE X e (tM (kx X ec) W m)) (hk : PE X ek (tM (kx X ec) W mk)) (hd : (x == ("__debug__" : Str)) = false := by decide)
    (hcd : (x == ("__classdict__" : Str)) = false := by decide)
    (ha : ∀ v, assign (.Subscript (.Name x px) ek pt) X.env v = (do
      let ov ← holding [v] (eval (.Name x px) X.env)
      let iv ← holding [v, ov] (eval ek X.env)
      standAt pt
      holding [v, ov, iv] (setItem ov iv v)
      release [v, ov, iv] []) := by intro _; rfl)
    (hs : swapsWithSole [.Subscript (.Name x px) ek pt] e pos.line X.env = pure false := by rfl) (hw : swappedStores [.Subscript (.Name x px) ek pt] e X.env = pure none := by rfl)
    (h1 : (assignEach [.Subscript (.Name x px) ek pt] X.env).map (·.2) = [assign (.Subscript (.Name x px) ek pt) X.env] := by rfl) :
    PS X (.Assign [.Subscript (.Name x px) ek pt] e pos) (tS (kx X ec) W (stM i mk m)) :=
  (ps_asg he (pg_sub (pv i hN hv hd hcd) hk set_list ha) hs hw h1).imp fun E σ H h => by
    obtain ⟨B, F, os, env, st, R, h⟩ := h
    refine ⟨B, F, os, env, st, R, Po.dat ?_⟩
    unfold stM at h
    cases hm : m env st with
    | stk => rw [hm] at h; exact h
    | exc c d st1 =>
      rw [hm] at h
      exact fun cls dd F1 os1 H1 e k r => h cls dd F1 os1 σ H1 (R.ext e k) r
    | ok v st1 =>
      rw [hm] at h
      dsimp only [Ou.bindS, Ou.bind] at h ⊢
      cases ha : asDat v with
      | none => rw [ha] at h; exact False.elim h
      | some d =>
        rw [ha] at h
        dsimp only at h
        split at h
        · rename_i ds hds
          intro x' F1 os1 H1 e k rx f
          have R1 := R.ext e k
          obtain ⟨y, hy, ry⟩ := R1.slv i _ hds
          refine ⟨y, hy, B, F1, os1, env, st1, R1, PoS.bind R1 h ?_⟩
          intro w st2 z F2 os2 H2 ew e2 R2 r2 f2 p2
          split at p2
          · rename_i kk
            cases hj : ixN ds.length kk with
            | none => rw [hj] at p2; exact False.elim p2
            | some j =>
              rw [hj] at p2
              have rz := r2.int
              subst rz
              cases ry.ext e2 with
              | @fr p o _ hf ho hp r =>
              cases r with
              | @lst xs _ r =>
              refine ⟨p, xs, kk, j, rfl, rfl, hp, by rw [r.len]; exact hj, ?_⟩
              cases rx with
              | dat rx => exact p2 _ _ _ _ (R2.write hds hy (.lst (r.set (Dr.mono e2.fz _ _ rx) j)))
          · exact False.elim p2
        · exact False.elim h
/-- d[k] = e, d an object of the store -/
def dput (kvs : List (Key × D)) (k : Key) (v : D) : List (Key × D) :=
  if (kvs.any fun kv => decide (kv.1 = k)) = true then kvs.map (fun kv => if kv.1 = k then (kv.1, v) else kv) else kvs ++ [(k, v)]
theorem drv_any {K : Kx} {F : Hp} {k : Key} : ∀ {kvs : List (Key × V)} {ds : List (Key × D)}, Drv K F kvs ds → (kvs.any fun kv => decide (kv.1 = k)) = (ds.any fun kv => decide (kv.1 = k))
  | _, _, .nil => rfl
  | _, _, .cons r t => by rw [List.any_cons, List.any_cons, drv_any t, r.1]
theorem drv_map {K : Kx} {F : Hp} {k : Key} {v : V} {d : D} (rv : Dr K F v d) : ∀ {kvs : List (Key × V)} {ds : List (Key × D)}, Drv K F kvs ds → Drv K F (kvs.map fun kv => if kv.1 = k then (kv.1, v) else kv) (ds.map fun kv => if kv.1 = k then (kv.1, d) else kv)
  | _, _, .nil => .nil
  | _, _, .cons (a := p) (b := q) r t => by
    rw [List.map_cons, List.map_cons]
    refine .cons ?_ (drv_map rv t)
    rw [r.1]
    by_cases e : q.1 = k
    · rw [if_pos e, if_pos e]; exact ⟨rfl, rv⟩
    · rw [if_neg e, if_neg e]; exact r
theorem drv_app {K : Kx} {F : Hp} {k : Key} {v : V} {d : D} (rv : Dr K F v d) : ∀ {kvs : List (Key × V)} {ds : List (Key × D)}, Drv K F kvs ds → Drv K F (kvs ++ [(k, v)]) (ds ++ [(k, d)])
  | _, _, .nil => .cons ⟨rfl, rv⟩ .nil
  | _, _, .cons r t => .cons r (drv_app rv t)
theorem drv_put {K : Kx} {F : Hp} {k : Key} {v : V} {d : D} (rv : Dr K F v d) {kvs : List (Key × V)} {ds : List (Key × D)} (r : Drv K F kvs ds) : Drv K F (putK kvs k v) (dput ds k d) := by
  unfold putK dput
  rw [drv_any r]
  split
  · exact drv_map rv r
  · exact drv_app rv r
def putM (mo mk m : EM) : SM := fun env st => (m env st).bindS env fun v st1 => match asDat v with
  | some d => (mo env st1).bindS env fun o st2 => match o with
    | .obj n => (mk env st2).bindS env fun w st3 => match w, st3[n]? with
      | .dat kd, some (.dk kvs) => match keyD kd with
        | some kk => if kvs.length < sizeLine then .nx env (st3.set n (.dk (dput kvs kk d))) else .stk
        | none => .stk
      | _, _ => .stk
    | _ => .stk
  | none => .stk
theorem ps_pt {eo ek : Expr} {mo mk : EM} {pt : Pos} (hu : X.A.units + 1 < cLine) (ho : PE X eo (tM (kx X ec) W mo)) (hk : PE X ek (tM (kx X ec) W mk)) (he : PE X e (tM (kx X ec) W m)) (hs : swapsWith e (some (.Subscript eo ek pt)) pos.line X.env = pure false := by rfl) :
    PS X (.Assign [.Subscript eo ek pt] e pos) (tS (kx X ec) W (putM mo mk m)) :=
  (ps_dput hu ho hk he hs).imp fun E σ H h => by
    obtain ⟨B, F, os, env, st, R, h⟩ := h
    refine ⟨B, F, os, env, st, R, Po.dat ?_⟩
    unfold putM at h
    cases hm : m env st with
    | stk => rw [hm] at h; exact h
    | exc c d st1 =>
      rw [hm] at h
      exact fun cls dd F1 os1 H1 e k r => h cls dd F1 os1 σ H1 (R.ext e k) r
    | ok v st1 =>
      rw [hm] at h
      dsimp only [Ou.bindS, Ou.bind] at h ⊢
      cases ha : asDat v with
      | none => rw [ha] at h; exact False.elim h
      | some d =>
        rw [ha] at h
        dsimp only at h
        intro x' F1 os1 H1 e k rx f
        have R1 := R.ext e k
        refine ⟨B, F1, os1, env, st1, R1, PoS.bind R1 h ?_⟩
        intro o st2 y F2 os2 H2 eo2 e2 R2 r2 f2 p2
        split at p2
        · rename_i n
          refine ⟨B, F2, os2, env, st2, R2, PoS.bind R2 p2 ?_⟩
          intro w st3 z F3 os3 H3 ew e3 R3 r3 f3 p3
          split at p3
          · rename_i kd kvs hn
            cases hkk : keyD kd with
            | none => rw [hkk] at p3; exact False.elim p3
            | some kk =>
              rw [hkk] at p3
              dsimp only at p3
              split at p3
              · rename_i hl
                cases r2.ext e3 with
                | @obj p _ hp =>
                obtain ⟨ff, oo, h1, h2⟩ := R3.ok.stv n p _ hp hn
                cases h2 with
                | @dk kvs' _ dv =>
                cases rx with
                | dat rx =>
                cases r3 with
                | dat r3 =>
                have := keyD_ok r3 hkk
                subst this
                exact ⟨p, _, rfl, DPut.k h1 (by rw [drv_len dv]; exact hl), p3 _ _ _ _ (R3.writeO hp (.dk (drv_put (Dr.mono (e2.fz.trans e3.fz) _ _ rx) dv)))⟩
              · exact False.elim p3
          · exact False.elim p3
        · exact False.elim p2

/-! ### while -/
def whlM (mc : EM) (mt : SM) : Nat → SM
  | 0 => fun _ _ => .stk
  | n + 1 => fun env st => (mc env st).bindS env fun v st1 => match v with
    | .dat (.bool true) => match mt env st1 with
      | .nx env' st' => whlM mc mt n env' st'
      | .cnt env' st' => whlM mc mt n env' st'
      | .brk env' st' => .nx env' st'
      | o => o
    | .dat (.bool false) => .nx env st1
    | _ => .stk
theorem whl_ok {K : Kx} {n : Nat} {E : Ends} {σ : L2.St} {H : Hp} (h : tS K W (whlM mc mt n) E σ H) : tWhile (tT K W mc) (tS K W mt) E σ H := by
  refine ⟨fun n σ H => tS K W (whlM mc mt n) E σ H, ⟨n, h⟩, ?_⟩
  rintro n σ H ⟨B, F, os, env, st, R, h⟩
  cases n with
  | zero => exact False.elim h
  | succ n =>
    unfold whlM at h
    refine ⟨B, F, os, env, st, R, PoS.bindT R h (fun v st1 _ p => ?_) fun b st1 F1 os1 H1 _ R1 p => ?_⟩
    · split at p
      · exact ⟨_, rfl⟩
      · exact ⟨_, rfl⟩
      · exact False.elim p
    · cases b with
      | false => exact iteF (p F1 os1 σ H1 R1)
      | true =>
        refine iteT ⟨fun σ' H' => tS K W (whlM mc mt n) E σ' H', fun σ' H' q => ⟨n, Nat.lt_succ_self n, q⟩, B, F1, os1, env, st1, R1, ?_⟩
        dsimp only at p
        cases hm : mt env st1 <;> rw [hm] at p
        case nx env' st' => exact fun F2 os2 σ2 H2 R2 => ⟨B, F2, os2, env', st', R2, p⟩
        case cnt env' st' => exact fun F2 os2 σ2 H2 R2 => ⟨B, F2, os2, env', st', R2, p⟩
        case brk env' st' => exact p
        all_goals exact p
theorem ps_w (n : Nat) {ts : List Stmt} (hp : PassesOwn (model X.prog X.w) X.A X.env X.xe) (hc : PT X c (tT (kx X ec) W mc)) (ht : PSs X ts (tS (kx X ec) W mt)) : PS X (.While c ts [] pos) (tS (kx X ec) W (whlM mc mt n)) := (ps_while hp hc ht).imp fun _ _ _ => whl_ok
end
end Pl

set_option Elab.async false
set_option linter.all false
set_option maxRecDepth 100000
set_option maxHeartbeats 4000000
namespace Pl
open PySem PySem.Spec PyProof.Rows L2

/-! ### what is walked -/
/-- what a turn gives: data as it stands, or a new pair of two -/
def Yd (pr : Bool) (K : Kx) (F : Hp) (H : Hp) (x : V) (H' : Hp) (d : D) : Prop :=
  (H' = H ∧ Dr K F x d) ∨ ∃ T y z dy dz, x = .ref T ∧ H T = none ∧ H' = upd H T (.tup [y, z]) ∧ d = .tuple [dy, dz] ∧ Dr K F y dy ∧ Dr K F z dz ∧ (pr = true ∨ strsB [dy, dz] = false)
/-- what the loop leaves as it is: within a block all but the objects, else what is frozen -/
def Stays (blk : Bool) (F : Hp) (os : List Addr) (H : Hp) (H' : Hp) : Prop := if blk = true then ∀ a o, H a = some o → a ∉ os → H' a = some o else Same F H'
def ItOk (pr : Bool) (K : Kx) (blk : Bool) (F : Hp) (os : List Addr) (H : Hp) (J : It) (items : List D) : Prop :=
  ∃ (G : Hp → Prop) (Y : Nat → Hp → V → Hp → Prop), Walk J items.length G Y ∧ (∀ H', Stays blk F os H H' → G H') ∧
    ∀ i H1 x H2, i < items.length → Stays blk F os H H1 → Y i H1 x H2 → ∃ d, items[i]? = some d ∧ Yd pr K F H1 x H2 d
inductive Oi where
  | stk
  | ok (items : List D) (st : List Cn)
  | exc (c : Nat) (d : D) (st : List Cn)
abbrev IM := Env → List Cn → Oi
def PoI (pr : Bool) (X : Kx) (blk : Bool) (W : WX) (σ : L2.St) (F : Hp) (os : List Addr) (H : Hp) (o : Oi) (R : It → Hp → Prop) : Prop := match o with
  | .stk => False
  | .ok items st => ∀ J F' os' H', Ext F os H F' os' H' → StOk X F' os' H' st → ItOk pr X blk F' os' H' J items → R J H'
  | .exc c d st => ∀ cls dd F' os' H', Ext F os H F' os' H' → StOk X F' os' H' st → ErD X F' cls dd c d → W cls dd σ H'
def tI (pr : Bool) (X : Kx) (blk : Bool) (W : WX) (m : IM) : TI := fun σ H R => ∃ B F os env st, Rel X B F os σ H env st ∧ PoI pr X blk W σ F os H (m env st) R
theorem _root_.L2.PI.imp {X : Cx} {tg e : Expr} {t t' : TI} (h : PI X tg e t) (i : ∀ σ H Q, t' σ H Q → t σ H Q) : PI X tg e t' := ⟨fun pins s σ H Q I q => h.run pins s σ H Q I (i _ _ _ q)⟩
def Ou.bindI (o : Ou) (k : Val → List Cn → Oi) : Oi := match o with
  | .stk => .stk
  | .ok v st => k v st
  | .exc c d st => .exc c d st
@[simp] theorem Ou.bindI_stk (k) : Ou.stk.bindI k = .stk := rfl
@[simp] theorem Ou.bindI_ok (v st k) : (Ou.ok v st).bindI k = k v st := rfl
@[simp] theorem Ou.bindI_exc (c d st k) : (Ou.exc c d st).bindI k = .exc c d st := rfl
theorem stays_same {blk : Bool} {X : Kx} {F : Hp} {os : List Addr} {H H' : Hp} {st : List Cn} (k : StOk X F os H st) (h : Stays blk F os H H') : Same F H' := by
  cases blk with
  | false => exact h
  | true =>
    intro a o e
    refine h a o (k.sub _ _ e) fun hm => ?_
    obtain ⟨u, _, f⟩ := k.live hm
    rw [e] at f; cases f
section
variable {pr : Bool} {X : Kx} {blk : Bool} {F H : Hp} {os : List Addr} {st : List Cn} {p q : Addr} {xs ys : List V} {ds es : List D}
theorem yd_at (r : Drs X F xs ds) {i : Nat} {H1 H2 : Hp} {x : V} (y : YAt xs i H1 x H2) : ∃ d, ds[i]? = some d ∧ Yd pr X F H1 x H2 d := by
  obtain ⟨e, hx⟩ := y
  obtain ⟨d, hd, rd⟩ := r.get hx
  exact ⟨d, hd, .inl ⟨e, rd⟩⟩
theorem itok_list (k : StOk X F os H st) (hp : F p = some (.lst xs)) (r : Drs X F xs ds) : ItOk pr X blk F os H (Itl X.K p) ds := by
  have w := @walk_list X.K p xs
  rw [r.len] at w
  exact ⟨_, _, w, fun H' h => SqL.of (stays_same k h _ _ hp), fun i H1 x H2 _ h y => yd_at r y⟩
theorem itok_bor (hp : H p = some (.lst xs)) (ho : p ∉ os) (r : Drs X F xs ds) : ItOk pr X true F os H (Itl X.K p) ds := by
  have w := @walk_list X.K p xs
  rw [r.len] at w
  exact ⟨_, _, w, fun H' h => SqL.of ((show ∀ a o, H a = some o → a ∉ os → H' a = some o from h) _ _ hp ho), fun i H1 x H2 _ h y => yd_at r y⟩
theorem itok_scr (k : StOk X F os H st) (hp : SqL X.K F p xs) (r : Drs X F xs ds) : ItOk pr X blk F os H (Itl X.K p) ds := by
  have w := @walk_list X.K p xs
  rw [r.len] at w
  exact ⟨_, _, w, fun H' h => Same.sqL (stays_same k h) hp, fun i H1 x H2 _ h y => yd_at r y⟩
theorem itok_tup (k : StOk X F os H st) (hp : SqT X.K F p xs) (r : Drs X F xs ds) : ItOk pr X blk F os H (Itt X.K p) ds := by
  have w := @walk_tup X.K p xs
  rw [r.len] at w
  exact ⟨_, _, w, fun H' h => Same.sqT (stays_same k h) hp, fun i H1 x H2 _ h y => yd_at r y⟩
def signs (x : Str) : List D := x.cps.toList.map fun c => .str ⟨#[c]⟩
theorem itok_str {x : Str} : ItOk pr X blk F os H (Its x) (signs x) := by
  have w := @walk_str x
  have e : (signs x).length = x.cps.size := by simp [signs]
  rw [← e] at w
  refine ⟨_, _, w, fun H' h => True.intro, fun i H1 v H2 _ h y => ?_⟩
  obtain ⟨e, c, hc, rfl⟩ := y
  refine ⟨.str ⟨#[c]⟩, ?_, .inl ⟨e, .str _⟩⟩
  unfold signs
  rw [List.getElem?_map]
  simp [hc]
def intsD (lo : Int) (n : Nat) : List D := (List.range n).map fun (i : Nat) => .int (lo + (i : Int))
theorem itok_range {lo : Int} {n : Nat} : ItOk pr X blk F os H (Itr lo n) (intsD lo n) := by
  have w := @walk_range lo n
  have e : (intsD lo n).length = n := by simp [intsD]
  have w2 : Walk (Itr lo n) (intsD lo n).length (fun _ => True) (YFn fun i => .int (lo + i)) := by rw [e]; exact w
  refine ⟨_, _, w2, fun H' h => True.intro, fun i H1 v H2 hi h y => ?_⟩
  obtain ⟨e1, rfl⟩ := y
  refine ⟨.int (lo + i), ?_, .inl ⟨e1, .int _⟩⟩
  rw [e] at hi
  unfold intsD
  rw [List.getElem?_map, List.getElem?_range hi]
  rfl
end

/-! ### the sources -/
section
variable {pr : Bool} {X : Cx} {ec : List (Addr × Str)} {W : WX} {blk : Bool} {tg e a b : Expr} {m ma mb : EM} {pos : Pos}
/-- a list, a tuple, a text -/
def seqI (blk : Bool) (m : EM) : IM := fun env st => (m env st).bindI fun v st1 => match v with
  | .dat (.list ds) => .ok ds st1
  | .dat (.tuple ds) => .ok ds st1
  | .dat (.str x) => .ok (signs x) st1
  | .fr (.lst ds) => .ok ds st1
  | .scr ds => .ok ds st1
  | .bor (.lst ds) => if blk = true then .ok ds st1 else .stk
  | _ => .stk
theorem PoI.bind {K : Kx} {σ : L2.St} {F H : Hp} {os : List Addr} {o : Ou} {k : Val → List Cn → Oi} {R : It → Hp → Prop} {Q1 : VK} (h : PoI pr K blk W σ F os H (o.bindI k) R)
    (hk : ∀ v st1 x F1 os1 H1, o = .ok v st1 → Ext F os H F1 os1 H1 → StOk K F1 os1 H1 st1 → VR K F1 os1 H1 x v → Frs H x v → PoI pr K blk W σ F os H (k v st1) R → Q1 x H1) : Po K W σ F os H o Q1 := by
  cases o with
  | stk => exact h
  | ok v st => exact fun x F1 os1 H1 e q r f => hk v st x F1 os1 H1 rfl e q r f h
  | exc c d st => exact h
theorem PoI.shift {K : Kx} {σ : L2.St} {F F' H H' : Hp} {os os' : List Addr} (e : Ext F os H F' os' H') {o : Oi} {R : It → Hp → Prop} (h : PoI pr K blk W σ F os H o R) : PoI pr K blk W σ F' os' H' o R := by
  cases o with
  | stk => exact h
  | ok v st => exact fun x F2 os2 H2 e2 k r => h x F2 os2 H2 (e.trans e2) k r
  | exc c d st => exact fun cls dd F2 os2 H2 e2 k r => h cls dd F2 os2 H2 (e.trans e2) k r
/-- what pyIter makes of a list, a tuple, a text -/
def iAny (K : PySem.W.Frag) (te : TE) : TI := fun σ H R => te σ H fun v H1 => (∃ a xs, v = .ref a ∧ SqL K H1 a xs ∧ R (Itl K a) H1) ∨ (∃ a xs, v = .ref a ∧ SqT K H1 a xs ∧ R (Itt K a) H1) ∨ ∃ x, v = .str x ∧ R (Its x) H1
theorem iter_val {pins : List (Addr × Obj)} {s1 : Shared} {σ : L2.St} {H1 : Hp} {R : It → Hp → Prop} {x : V} {v : Value} (I1 : Inv X pins σ H1 s1) (r1 : RelV x v)
    (q1 : (∃ a xs, x = .ref a ∧ SqL X.K H1 a xs ∧ R (Itl X.K a) H1) ∨ (∃ a xs, x = .ref a ∧ SqT X.K H1 a xs ∧ R (Itt X.K a) H1) ∨ ∃ z, x = .str z ∧ R (Its z) H1) :
    wpAny (model X.prog X.w) X.A (pyIter v) (PIE X pins σ tg R) X.xe s1 := by
  have fresh : ∀ b, b ∈ [s1.heap.objs.size] → FpOk X pins H1 b := fun b hb => by
    have eb : b = s1.heap.objs.size := by simpa using hb
    rw [eb]
    exact I1.fpOk (Nat.le_refl _) (I1.hok.fresh (Nat.le_refl _))
  rcases q1 with ⟨a, xs, ex, hq, q⟩ | ⟨a, xs, ex, hq, q⟩ | ⟨z, ex, q⟩
  · subst ex
    have ev : v = Value.ref a := r1
    subst ev
    obtain ⟨its, rv, p, hz⟩ := I1.list hq
    exact wpAny_pyIter_list p.isList ⟨_, [s1.heap.objs.size], _, _, H1, rfl, I1.kept (t' := s1.toks) fun b o h => Heap.get?_push_of_some _ h, turn_list a _, ⟨_, Heap.get?_push_size _ rfl, rfl, rfl⟩, fresh, q⟩
  · subst ex
    have ev : v = Value.ref a := r1
    subst ev
    obtain ⟨its, rv, p, hz⟩ := I1.tuple hq
    exact wpAny_pyIter_tuple (show s1.heap.IsTuple a its.toArray from p) ⟨_, [s1.heap.objs.size], _, _, H1, rfl, I1.kept (t' := s1.toks) fun b o h => Heap.get?_push_of_some _ h, turn_tuple a _, ⟨_, Heap.get?_push_size _ rfl, rfl, rfl⟩, fresh, q⟩
  · subst ex
    obtain ⟨t, ev⟩ := r1
    subst ev
    by_cases ha : z.cps.all (· < 128) = true
    · exact wpAny_pyIter_ascii ha (pi_one (tk := s1.toks) I1 _ (turn_str _ z t "str_ascii_iterator" (.inl rfl)) ⟨_, Heap.get?_push_size _ rfl, rfl, rfl⟩ q)
    · exact wpAny_pyIter_wide (by simpa using ha) (pi_one (tk := s1.toks) I1 _ (turn_str _ z t "str_iterator" (.inr rfl)) ⟨_, Heap.get?_push_size _ rfl, rfl, rfl⟩ q)
theorem pi_any0 {te : TE} (he : PE X e te) : PI X tg e (iAny X.K te) :=
  ⟨fun pins s σ H R I h => thn (he.run pins s σ H _ I h) fun v s1 ⟨x, H1, I1, r1, q1⟩ => iter_val I1 r1 q1⟩
theorem pi_any (he : PE X e (tM (kx X ec) W m)) : PI X tg e (tI pr (kx X ec) blk W (seqI blk m)) := (pi_any0 he).imp fun σ H R h => by
  obtain ⟨B, F, os, env, st, Rl, h⟩ := h
  refine ⟨B, F, os, env, st, Rl, PoI.bind h ?_⟩
  intro v st1 x F1 os1 H1 ev e1 k1 r1 f1 p1
  unfold seqI at p1
  split at p1
  · cases r1 with
    | dat r1 =>
      cases r1 with
      | lst a b => exact .inl ⟨_, _, rfl, SqL.of (k1.sub _ _ a), p1 _ _ _ _ e1 k1 (itok_list k1 a b)⟩
  · cases r1 with
    | dat r1 =>
      cases r1 with
      | tup a _ b => exact .inr (.inl ⟨_, _, rfl, Same.sqT k1.sub a, p1 _ _ _ _ e1 k1 (itok_tup k1 a b)⟩)
  · cases r1 with
    | dat r1 =>
      cases r1 with
      | str z => exact .inr (.inr ⟨_, rfl, p1 _ _ _ _ e1 k1 itok_str⟩)
  · cases r1 with
    | fr a b c r =>
      cases r with
      | lst r =>
        obtain ⟨e2, k2, r2⟩ := Pl.freeze e1 k1 c (f1 _ _ rfl rfl) a b (.lst r)
        cases r2 with
        | lst a2 b2 => exact .inl ⟨_, _, rfl, SqL.of c, p1 _ _ _ _ e2 k2 (itok_list k2 a2 b2)⟩
  · cases r1 with
    | scr a b => exact .inl ⟨_, _, rfl, Same.sqL k1.sub a, p1 _ _ _ _ e1 k1 (itok_scr k1 a b)⟩
  · split at p1
    · rename_i hb
      subst hb
      cases r1 with
      | bor a b c r =>
        cases r with
        | lst r => exact .inl ⟨_, _, rfl, SqL.of c, p1 _ _ _ _ e1 k1 (itok_bor c b r)⟩
    · exact False.elim p1
  · exact False.elim p1
/-- range(n), range(a, b) -/
def OuL.bindI (o : OuL) (k : List Val → List Cn → Oi) : Oi := match o with
  | .stk => .stk
  | .ok v st => k v st
  | .exc c d st => .exc c d st
@[simp] theorem OuL.bindI_stk (k) : OuL.stk.bindI k = .stk := rfl
@[simp] theorem OuL.bindI_ok (v st k) : (OuL.ok v st).bindI k = k v st := rfl
@[simp] theorem OuL.bindI_exc (c d st k) : (OuL.exc c d st).bindI k = .exc c d st := rfl
theorem PoI.bindL {K : Kx} {σ : L2.St} {F H : Hp} {os : List Addr} {o : OuL} {k : List Val → List Cn → Oi} {R : It → Hp → Prop} {Q1 : List V → Hp → Prop} (h : PoI pr K blk W σ F os H (o.bindI k) R)
    (hk : ∀ v st1 x F1 os1 H1, o = .ok v st1 → Ext F os H F1 os1 H1 → StOk K F1 os1 H1 st1 → VRs K F1 os1 H1 x v → PoI pr K blk W σ F os H (k v st1) R → Q1 x H1) : PoL K W σ F os H o Q1 := by
  cases o with
  | stk => exact h
  | ok v st => exact fun x F1 os1 H1 e q r f => hk v st x F1 os1 H1 rfl e q r h
  | exc c d st => exact h
def rng1I (r : AM) : IM := fun env st => (r env st).bindI fun vs st1 => match vs with
  | [.dat (.int j)] => if inb j = true then .ok (intsD 0 j.toNat) st1 else .stk
  | _ => .stk
def rng2I (r : AM) : IM := fun env st => (r env st).bindI fun vs st1 => match vs with
  | [.dat (.int i), .dat (.int j)] => if (inb i && inb j) = true then .ok (intsD i (j - i).toNat) st1 else .stk
  | _ => .stk
theorem pi_rg1 {r : AM} {p : Pos} (hg : Gl X "range") (hm : X.mg "range" = none) (ha : PA X [a] (tA (kx X ec) W r)) (hs : starEach [a] X.env = [(false, eval a X.env)] := by rfl) : PI X tg (.Call (.Name "range" p) [a] [] pos) (tI pr (kx X ec) blk W (rng1I r)) :=
  (pi_range1 hg hm ha hs).imp fun σ H R h => by
    obtain ⟨B, F, os, env, st, Rl, h⟩ := h
    refine ⟨B, F, os, env, st, Rl, PoI.bindL h ?_⟩
    intro v st1 x F1 os1 H1 ev e1 k1 r1 p1
    split at p1
    · rename_i j
      split at p1
      · rename_i hb
        cases r1 with
        | cons a b =>
          cases b
          exact ⟨j, by rw [a.int], (inb_ok hb).1, (inb_ok hb).2, p1 _ _ _ _ e1 k1 itok_range⟩
      · exact False.elim p1
    · exact False.elim p1
theorem pi_rg2 {r : AM} {p : Pos} (hg : Gl X "range") (hm : X.mg "range" = none) (ha : PA X [a, b] (tA (kx X ec) W r)) (hs : starEach [a, b] X.env = [(false, eval a X.env), (false, eval b X.env)] := by rfl) (hs2 : starEach [b] X.env = [(false, eval b X.env)] := by rfl) : PI X tg (.Call (.Name "range" p) [a, b] [] pos) (tI pr (kx X ec) blk W (rng2I r)) :=
  (pi_range2 hg hm ha hs hs2).imp fun σ H R h => by
    obtain ⟨B, F, os, env, st, Rl, h⟩ := h
    refine ⟨B, F, os, env, st, Rl, PoI.bindL h ?_⟩
    intro v st1 x F1 os1 H1 ev e1 k1 r1 p1
    split at p1
    · rename_i i j
      split at p1
      · rename_i hb
        cases r1 with
        | cons a b =>
          cases b with
          | cons c d =>
            cases d
            rw [Bool.and_eq_true] at hb
            exact ⟨i, j, by rw [a.int, c.int], ⟨(inb_ok hb.1).1, (inb_ok hb.1).2, (inb_ok hb.2).1, (inb_ok hb.2).2⟩, p1 _ _ _ _ e1 k1 itok_range⟩
      · exact False.elim p1
    · exact False.elim p1
end

/-! ### targets -/
inductive Tg where
  | nm (i : Nat)
  | tp (is : List Nat)
def bindAll : List Nat → List D → Env → Option Env
  | [], [], env => some env
  | i :: is, d :: ds, env => bindAll is ds (env.set i (some (.dat d)))
  | _, _, _ => none
def bindT : Tg → D → Env → Option Env
  | .nm i, d, env => some (env.set i (some (.dat d)))
  | .tp is, .tuple ds, env => bindAll is ds env
  | _, _, _ => none
/-- data, or a new pair (where it is unpacked at once) -/
def DrP (pr : Bool) (K : Kx) (F : Hp) (x : V) (d : D) : Prop := Dr K F x d ∨ (pr = true ∧ ∃ T xs ds, x = .ref T ∧ SqT K.K F T xs ∧ d = .tuple ds ∧ Drs K F xs ds)
/-- a target serves what bindT tells -/
def TgOk (pr : Bool) (X : Cx) (ec : List (Addr × Str)) (tg : Tg) (g : TG) : Prop := ∀ B F os σ H env st x d env' Q, Rel (kx X ec) B F os σ H env st → DrP pr (kx X ec) F x d → bindT tg d env = some env' →
  (∀ σ', Rel (kx X ec) B F os σ' H env' st → (∀ (i : Nat), (match tg with | .nm j => i ≠ j | .tp is => i ∉ is) → σ'[i]? = σ[i]?) → Q σ' H) → g x σ H Q
section
variable {pr : Bool} {X : Cx} {ec : List (Addr × Str)} {W : WX} {blk : Bool} {tg e a b : Expr} {m ma mb : EM} {pos : Pos}
theorem tg_nm {i : Nat} : TgOk false X ec (.nm i) (gName i) := by
  intro B F os σ H env st x d env' Q R r h q
  have r : Dr (kx X ec) F x d := r.resolve_right fun z => nomatch z.1
  cases h
  exact q _ (R.set (.dat r) rfl fun _ _ h _ => nomatch h) fun j hj => List.getElem?_set_ne (Ne.symm hj)
def gNames : List Nat → TGs
  | [] => gNil
  | i :: is => gCons (gName i) (gNames is)
theorem names_ok : ∀ (is : List Nat) {B F os σ H env st} {xs : List V} {ds : List D} {env' : Env} {Q : L2.St → Hp → Prop}, Rel (kx X ec) B F os σ H env st → Drs (kx X ec) F xs ds → bindAll is ds env = some env' →
    (∀ σ', Rel (kx X ec) B F os σ' H env' st → (∀ (i : Nat), i ∉ is → σ'[i]? = σ[i]?) → Q σ' H) → gNames is xs σ H Q
  | [], _, _, _, _, _, _, _, _, ds, _, _, R, r, h, q => by
    cases ds with
    | nil =>
      cases r
      cases h
      exact ⟨rfl, q _ R fun _ _ => rfl⟩
    | cons d ds => cases h
  | i :: is, _, _, _, _, _, _, _, _, ds, _, _, R, r, h, q => by
    cases ds with
    | nil => cases h
    | cons d ds =>
      cases r with
      | cons r rs =>
        refine ⟨_, _, rfl, ?_⟩
        refine names_ok is (R.set (.dat r) rfl fun _ _ h _ => nomatch h) rs h fun σ' R' hk => q σ' R' fun j hj => ?_
        have h1 : j ≠ i := fun z => hj (by rw [z]; exact List.mem_cons_self)
        have h2 : j ∉ is := fun z => hj (List.mem_cons_of_mem _ z)
        rw [hk j h2, List.getElem?_set_ne (Ne.symm h1)]
theorem tg_tp {is : List Nat} : TgOk true X ec (.tp is) (gTup X.K is.length (gNames is)) := by
  intro B F os σ H env st x d env' Q R r h q
  cases d with
  | tuple ds =>
    have r : ∃ T xs, x = .ref T ∧ SqT X.K F T xs ∧ Drs (kx X ec) F xs ds := by
      rcases r with r | ⟨_, T, xs, ds', ex, sq, ed, rs⟩
      · cases r with
        | tup a _ b => exact ⟨_, _, rfl, a, b⟩
      · cases ed
        exact ⟨T, xs, ex, sq, rs⟩
    obtain ⟨T, xs, ex, a, b⟩ := r
    subst ex
    · 
      have hl : is.length = ds.length := by
        have aux : ∀ (is : List Nat) (ds : List D) (env env' : Env), bindAll is ds env = some env' → is.length = ds.length := by
          intro is
          induction is with
          | nil => intro ds env env' h; cases ds with | nil => rfl | cons d ds => cases h
          | cons i is ih => intro ds env env' h; cases ds with | nil => cases h | cons d ds => simp [ih _ _ _ h]
        exact aux _ _ _ _ h
      exact ⟨_, _, rfl, Same.sqT R.ok.sub a, by rw [b.len, hl], names_ok is R b h q⟩
  | _ => cases h

/-! ### for -/
def forM (tg : Tg) (mt : SM) : List D → SM
  | [] => fun env st => .nx env st
  | d :: ds => fun env st => match bindT tg d env with
    | none => .stk
    | some env1 => match mt env1 st with
      | .nx env' st' => forM tg mt ds env' st'
      | .cnt env' st' => forM tg mt ds env' st'
      | .brk env' st' => .nx env' st'
      | o => o
def frM (im : IM) (tg : Tg) (mt : SM) : SM := fun env st => match im env st with
  | .stk => .stk
  | .exc c d st1 => .exc c d env st1
  | .ok items st1 => forM tg mt items env st1
/-- what a turn gives is data of a later heap -/
theorem yd_ok {K : Kx} {B : Bs} {F1 F : Hp} {os : List Addr} {σ : L2.St} {H : Hp} {env : Env} {st : List Cn} {x : V} {H' : Hp} {d : D} (R : Rel K B F os σ H env st) (s : Same F1 F) (y : Yd pr K F1 H x H' d) :
    ∃ F', Ext F os H F' os H' ∧ Rel K B F' os σ H' env st ∧ DrP pr K F' x d := by
  rcases y with ⟨e, r⟩ | ⟨T, y, z, dy, dz, ex, hT, e, ed, ry, rz, hpr⟩
  · subst e
    exact ⟨F, Ext.refl _ _ _, R, .inl (Dr.mono s _ _ r)⟩
  · subst ex e ed
    have e := Ext.newF (o := .tup [y, z]) R.ok hT
    have rs : Drs K (upd F T (.tup [y, z])) [y, z] [dy, dz] := .cons (Dr.mono (s.trans e.fz) _ _ ry) (.cons (Dr.mono (s.trans e.fz) _ _ rz) .nil)
    refine ⟨_, e, R.ext e (R.ok.newF hT), ?_⟩
    cases pr with
    | true => exact .inr ⟨rfl, T, _, _, rfl, SqT.of upd_same, rfl, rs⟩
    | false =>
      have hn : strsB [dy, dz] = false := hpr.resolve_left fun z => nomatch z
      exact .inl (.tup (SqT.of upd_same) (fun h => by rw [hn] at h; cases h) rs)
theorem Rel.repin {K : Kx} {B : Bs} {P F : Hp} {os : List Addr} {σ : L2.St} {H : Hp} {env : Env} {st : List Cn} (R : Rel K B F os σ H env st) (s : Same P F) : Rel K ⟨B.F, B.os, B.H, P⟩ F os σ H env st :=
  ⟨R.ok, R.len, R.slv, R.own, R.ownB, R.borB, R.bs, s⟩
theorem PoS.repin {K : Kx} {B : Bs} {P : Hp} {o : Os} {E : Ends} (hP : Same B.P P) (h : PoS K W B o E) : PoS K W ⟨B.F, B.os, B.H, P⟩ o E := by
  have back : ∀ {F os σ H env st}, Rel K ⟨B.F, B.os, B.H, P⟩ F os σ H env st → Rel K B F os σ H env st := fun R => ⟨R.ok, R.len, R.slv, R.own, R.ownB, R.borB, R.bs, hP.trans R.pin⟩
  cases o with
  | stk => exact h
  | nx env st => exact fun F os σ H R => h F os σ H (back R)
  | brk env st => exact fun F os σ H R => h F os σ H (back R)
  | cnt env st => exact fun F os σ H R => h F os σ H (back R)
  | ret v st => exact h
  | exc c d env st => exact fun cls dd F os σ H R r => h cls dd F os σ H (back R) r
theorem for_ok {im : IM} {tgt : Tg} {g : TG} {mt : SM} (hg : TgOk pr X ec tgt g) {E : Ends} {σ : L2.St} {H : Hp} (h : tS (kx X ec) W (frM im tgt mt) E σ H) : tFor (tI pr (kx X ec) false W im) g (tS (kx X ec) W mt) E σ H := by
  obtain ⟨B, F, os, env, st, R, h⟩ := h
  refine ⟨B, F, os, env, st, R, ?_⟩
  unfold frM at h
  cases hi : im env st with
  | stk => rw [hi] at h; exact h
  | exc c d st1 =>
    rw [hi] at h
    exact fun cls dd F1 os1 H1 e k r => h cls dd F1 os1 σ H1 (R.ext e k) r
  | ok items st1 =>
    rw [hi] at h
    intro J F1 os1 H1 e1 k1 it
    obtain ⟨G, Y, w, hG, hY⟩ := it
    have R1 := R.ext e1 k1
    refine for_it w (fun i σ H => ∃ F os env st, Rel (kx X ec) ⟨B.F, B.os, B.H, F1⟩ F os σ H env st ∧ PoS (kx X ec) W ⟨B.F, B.os, B.H, F1⟩ (forM tgt mt (items.drop i) env st) E) ⟨F1, os1, env, st1, R1.repin (L2.Same.refl _), PoS.repin R1.pin h⟩ ?_ ?_ ?_
    · rintro i σ H _ ⟨F, os, env, st, R, p⟩
      exact hG H (R.pin.trans R.ok.sub)
    · rintro i x σ H H' hlt ⟨F, os, env, st, R, p⟩ y
      obtain ⟨d, hd, yd⟩ := hY i H x H' hlt (R.pin.trans R.ok.sub) y
      obtain ⟨F2, e2, R2, rd⟩ := yd_ok R R.pin yd
      have hdrop : items.drop i = d :: items.drop (i + 1) := by
        obtain ⟨hl, he⟩ := List.getElem?_eq_some_iff.mp hd
        rw [← he]
        exact List.drop_eq_getElem_cons hl
      rw [hdrop] at p
      unfold forM at p
      cases hb : bindT tgt d env with
      | none => rw [hb] at p; exact False.elim p
      | some env1 =>
        rw [hb] at p
        dsimp only at p
        refine hg _ F2 os σ H' env st x d env1 _ R2 rd hb fun σ' R3 _ => ⟨_, F2, os, env1, st, R3, ?_⟩
        cases hm : mt env1 st <;> rw [hm] at p
        case nx env' st' => exact fun F4 os4 σ4 H4 R4 => ⟨F4, os4, env', st', R4, p⟩
        case cnt env' st' => exact fun F4 os4 σ4 H4 R4 => ⟨F4, os4, env', st', R4, p⟩
        case brk env' st' => exact p
        all_goals exact p
    · rintro σ H ⟨F, os, env, st, R, p⟩
      rw [List.drop_length] at p
      exact p F os σ H R
theorem ps_f {iter te : Expr} {im : IM} {tgt : Tg} {g : TG} {mt : SM} {body : List Stmt} (hp : PassesOwn (model X.prog X.w) X.A X.env X.xe) (hc : X.calm = true) (hi : PI X te iter (tI pr (kx X ec) false W im)) (hgp : PG X te g) (hg : TgOk pr X ec tgt g)
    (hb : PSs X body (tS (kx X ec) W mt)) (hs : ∀ x, foldedSetIterable iter X.env x = pure x := by intro _; rfl) : PS X (.For te iter body [] pos) (tS (kx X ec) W (frM im tgt mt)) := (ps_for hp hc hi hgp hb hs).imp fun _ _ _ => for_ok hg

/-! ### list comprehensions -/
def wipeE (env : Env) : List Nat → Env
  | [] => env
  | v :: vs => (wipeE env vs).set v none
/-- no error may leave a comprehension -/
abbrev W0 : WX := fun _ _ _ _ => False
def lcM (tg : Tg) (mc me : EM) : List D → List D → EM
  | [], acc => fun _ st => .ok (.fr (.lst acc)) st
  | d :: ds, acc => fun env st => match bindT tg d env with
    | none => .stk
    | some env1 => match mc env1 st with
      | .ok (.dat (.bool true)) st1 => match me env1 st1 with
        | .ok v st2 => match asDat v with
          | some z => if acc.length < sizeLine then lcM tg mc me ds (acc ++ [z]) env st2 else .stk
          | none => .stk
        | _ => .stk
      | .ok (.dat (.bool false)) st1 => lcM tg mc me ds acc env st1
      | _ => .stk
def compM (im : IM) (own : List Nat) (tg : Tg) (mc me : EM) : EM := fun env st => match im env st with
  | .stk => .stk
  | .exc c d st1 => .exc c d st1
  | .ok items st1 => lcM tg mc me items [] (wipeE env own) st1
def yesM : EM := fun _ st => .ok (.dat (.bool true)) st
theorem tYes_ok {K : Kx} {σ : L2.St} {H : Hp} {Q : Bool → Hp → Prop} (h : tT K W0 yesM σ H Q) : tYes σ H Q := by
  obtain ⟨B, F, os, env, st, R, b, e, q⟩ := h
  cases e
  exact q F os H (Ext.refl _ _ _) R.ok
theorem _root_.L2.PTs.imp {X : Cx} {e : List Expr} {t t' : TT} (h : PTs X e t) (i : ∀ σ H Q, t' σ H Q → t σ H Q) : PTs X e t' := ⟨fun pins s σ H Q I q => h.run pins s σ H Q I (i _ _ _ q)⟩
theorem pts_n : PTs X [] (tT (kx X ec) W0 yesM) := pts_nil.imp fun _ _ _ => tYes_ok
theorem unset_ne {α : Type} {l : List (Option α)} {v i : Nat} {x : α} (h : (l.set v none)[i]? = some (some x)) : v ≠ i := fun e => by
  subst e
  by_cases hl : v < l.length
  · rw [List.getElem?_set_self hl] at h; cases h
  · rw [List.getElem?_eq_none (by simpa using hl)] at h; cases h
theorem Rel.unset {K : Kx} {B : Bs} {F : Hp} {os : List Addr} {σ : L2.St} {H : Hp} {env : Env} {st : List Cn} (R : Rel K B F os σ H env st) (v : Nat) : Rel K B F os (σ.set v none) H (env.set v none) st := by
  refine ⟨R.ok, by simp [R.len], fun i x h => ?_, fun i j c c' p ne h1 h2 h3 h4 => ?_, fun i c p h1 h3 => ?_, fun i c p h1 h3 => ?_, R.bs, R.pin⟩
  · have n := unset_ne h
    rw [List.getElem?_set_ne n] at h ⊢
    exact R.slv i x h
  · have n1 := unset_ne h1
    have n2 := unset_ne h2
    rw [List.getElem?_set_ne n1] at h1 h3
    rw [List.getElem?_set_ne n2] at h2 h4
    exact R.own i j c c' p ne h1 h2 h3 h4
  · have n1 := unset_ne h1
    rw [List.getElem?_set_ne n1] at h1 h3
    exact R.ownB i c p h1 h3
  · have n1 := unset_ne h1
    rw [List.getElem?_set_ne n1] at h1 h3
    exact R.borB i c p h1 h3
theorem Rel.wipe {K : Kx} {B : Bs} {F : Hp} {os : List Addr} {σ : L2.St} {H : Hp} {env : Env} {st : List Cn} (R : Rel K B F os σ H env st) : ∀ vs : List Nat, Rel K B F os (L2.wipe σ vs) H (wipeE env vs) st
  | [] => R
  | v :: vs => (Rel.wipe R vs).unset v
theorem wipe_get {σ : L2.St} {i : Nat} : ∀ {vs : List Nat}, i ∈ vs → i < σ.length → (L2.wipe σ vs)[i]? = some none
  | v :: vs, hm, hl => by
    unfold L2.wipe
    by_cases e : v = i
    · subst e
      rw [List.getElem?_set_self (by rw [wipe_length]; exact hl)]
    · rw [List.getElem?_set_ne e]
      rcases List.mem_cons.mp hm with q | q
      · exact absurd q.symm e
      · exact wipe_get q hl
theorem wipe_other {σ : L2.St} {i : Nat} : ∀ {vs : List Nat}, i ∉ vs → (L2.wipe σ vs)[i]? = σ[i]?
  | [], _ => rfl
  | v :: vs, h => by
    unfold L2.wipe
    rw [List.getElem?_set_ne (fun e => h (by rw [e]; exact List.mem_cons_self))]
    exact wipe_other fun q => h (List.mem_cons_of_mem _ q)
theorem wipe_same {σ σ2 : L2.St} {vs : List Nat} (hl : σ2.length = σ.length) (h : ∀ i, i ∉ vs → σ2[i]? = (L2.wipe σ vs)[i]?) : L2.wipe σ2 vs = L2.wipe σ vs := by
  apply List.ext_getElem?
  intro i
  by_cases e : i ∈ vs
  · by_cases q : i < σ.length
    · rw [wipe_get e (by rw [hl]; exact q), wipe_get e q]
    · rw [List.getElem?_eq_none (by rw [wipe_length, hl]; omega), List.getElem?_eq_none (by rw [wipe_length]; omega)]
  · rw [wipe_other e, h i e]
/-- a new object that no name holds is written -/
theorem Rel.writeN {K : Kx} {B : Bs} {F F0 : Hp} {os os0 : List Addr} {σ : L2.St} {H H0 : Hp} {env : Env} {st st0 : List Cn} {p : Addr} {o : HO} (R0 : Rel K B F0 os0 σ H0 env st0) (h0 : H0 p = none) (R : Rel K B F os σ H env st) (hf : F p = none) (ho : p ∉ os) : Rel K B F os σ (upd H p o) env st := by
  have hB := R0.bs.nn h0
  refine ⟨⟨fun a u h => ?_, R.ok.len, fun n a c h1 h2 => ?_, R.ok.nd⟩, R.len, fun i x h => ?_, R.own, R.ownB, R.borB, ⟨R.bs.fz, fun a u h hn => ?_, R.bs.new, R.bs.os, fun a h => upd_ne_none (R.bs.dom a h)⟩, R.pin⟩
  · rw [upd_ne (fun z => by rw [z, hf] at h; cases h)]; exact R.ok.sub _ _ h
  · obtain ⟨f, u, q, r⟩ := R.ok.stv n a c h1 h2
    exact ⟨f, u, by rw [upd_ne (fun z => ho (by rw [← z]; exact List.mem_of_getElem? h1))]; exact q, r⟩
  · obtain ⟨y, a, b⟩ := R.slv i x h
    obtain ⟨y0, a0, b0⟩ := R0.slv i x h
    rw [a] at a0
    cases a0
    refine ⟨y, a, ?_⟩
    cases b with
    | dat r => exact .dat r
    | fr f1 o1 h1 r1 =>
      cases b0 with
      | fr _ _ h2 _ => exact .fr f1 o1 (by rw [upd_ne (fun z => by rw [z, h0] at h2; cases h2)]; exact h1) r1
    | bor f1 o1 h1 r1 =>
      cases b0 with
      | bor _ _ h2 _ => exact .bor f1 o1 (by rw [upd_ne (fun z => by rw [z, h0] at h2; cases h2)]; exact h1) r1
    | obj r => exact .obj r
    | scr r s => exact .scr r s
  · rw [upd_ne (fun z => by rw [z, hB] at h; cases h)]; exact R.bs.keep _ _ h hn
def tgIx : Tg → List Nat
  | .nm i => [i]
  | .tp is => is
theorem comp_ok {im : IM} {tgt : Tg} {g : TG} {mc me : EM} {own : List Nat} (hg : TgOk pr X ec tgt g) (hin : ∀ i ∈ tgIx tgt, i ∈ own) {σ : L2.St} {H : Hp} {Q : VK} (h : tM (kx X ec) W (compM im own tgt mc me) σ H Q) :
    tLc (tI pr (kx X ec) true W im) g (tT (kx X ec) W0 mc) (tM (kx X ec) W0 me) own σ H Q := by
  obtain ⟨B, F0, os0, env, st0, R0, h⟩ := h
  refine ⟨B, F0, os0, env, st0, R0, ?_⟩
  unfold compM at h
  cases hi : im env st0 with
  | stk => rw [hi] at h; exact h
  | exc c d st1 => rw [hi] at h; exact h
  | ok items st1 =>
    rw [hi] at h
    intro J F1 os1 H1 e1 k1 it p hp
    obtain ⟨G, Y, w, hG, hY⟩ := it
    have R1 := (R0.ext e1 k1).wipe own
    have e2 := Ext.newO (o := .lst []) k1 hp
    have k2 := k1.newO (o := .lst []) hp
    refine lc_it w (fun i H2 => ∃ F os st acc xs, Rel (kx X ec) B F os (L2.wipe σ own) H2 (wipeE env own) st ∧ Ext F1 os1 H1 F os H2 ∧ H2 p = some (.lst xs) ∧ F p = none ∧ p ∉ os ∧ Drs (kx X ec) F xs acc ∧
      Po (kx X ec) W σ F0 os0 H (lcM tgt mc me (items.drop i) acc (wipeE env own) st) Q) ⟨F1, os1, st1, [], [], R1.ext e2 k2, e2, upd_same, (k1.free hp).2, (k1.free hp).1, .nil, h⟩ ?_ ?_ ?_
    · rintro i H2 _ ⟨F, os, st, acc, xs, R, e, _⟩
      exact hG H2 fun a o h1 h2 => e.keep a o h1 h2
    · rintro i x H2 H3 hlt ⟨F, os, st, acc, xs, R, e, hpx, hpF, hpo, rx, po⟩ y
      obtain ⟨d, hd, yd⟩ := hY i H2 x H3 hlt (fun a o h1 h2 => e.keep a o h1 h2) y
      obtain ⟨F3, e3, R3, rd⟩ := yd_ok R e.fz yd
      have hdrop : items.drop i = d :: items.drop (i + 1) := by
        obtain ⟨hl, he⟩ := List.getElem?_eq_some_iff.mp hd
        rw [← he]
        exact List.drop_eq_getElem_cons hl
      rw [hdrop] at po
      unfold lcM at po
      cases hb : bindT tgt d (wipeE env own) with
      | none => rw [hb] at po; exact False.elim po
      | some env1 =>
        rw [hb] at po
        dsimp only at po
        refine hg B F3 os (L2.wipe σ own) H3 (wipeE env own) st x d env1 _ R3 rd hb fun σ2 R4 hk => ⟨?_, ?_⟩
        · refine wipe_same ?_ fun i hi => hk i ?_
          · have l1 := R4.len
            have l2 : env1.length = (wipeE env own).length := by
              have aux : ∀ (is : List Nat) (ds : List D) (env env' : Env), bindAll is ds env = some env' → env'.length = env.length := by
                intro is
                induction is with
                | nil => intro ds env env' h; cases ds with | nil => cases h; rfl | cons d ds => cases h
                | cons i is ih => intro ds env env' h; cases ds with | nil => cases h | cons d ds => simpa using ih _ _ _ h
              cases tgt with
              | nm i => cases hb; simp
              | tp is => cases d with
                | tuple ds => exact aux _ _ _ _ hb
                | _ => cases hb
            have l3 := R3.len
            rw [wipe_length] at l3
            omega
          · cases tgt with
            | nm j => exact fun z => hi (hin _ (by rw [z]; exact List.mem_cons_self))
            | tp is => exact fun z => hi (hin _ z)
        · refine ⟨B, F3, os, env1, st, R4, ?_⟩
          cases hmc : mc env1 st with
          | stk => rw [hmc] at po; exact False.elim po
          | exc c d st2 => rw [hmc] at po; exact False.elim po
          | ok v st2 =>
            rw [hmc] at po
            split at po
            · rename_i st3 hv
              cases hv
              refine ⟨true, rfl, fun F5 os5 H5 e5 k5 => iteT ⟨B, F5, os5, env1, _, R4.ext e5 k5, Po.dat ?_⟩⟩
              cases hme : me env1 st2 with
              | stk => rw [hme] at po; exact False.elim po
              | exc c d st4 => rw [hme] at po; exact False.elim po
              | ok u st4 =>
                rw [hme] at po
                dsimp only [Ou.bind] at po ⊢
                cases hz : asDat u with
                | none => rw [hz] at po; exact False.elim po
                | some z =>
                  rw [hz] at po
                  dsimp only at po
                  split at po
                  · rename_i hlen
                    intro y F6 os6 H6 e6 k6 r6 f6
                    have ee := (e3.trans e5).trans e6
                    have hp6 := ee.keep _ _ hpx hpo
                    have ef := ee.fnone hpF hpx
                    have eo := ee.nos hpo hpx
                    have E6 := e.trans ee
                    have R6 : Rel (kx X ec) B F6 os6 (L2.wipe σ own) H6 (wipeE env own) st4 := R.ext ee k6
                    refine ⟨xs, hp6, by rw [rx.len]; exact hlen, F6, os6, st4, acc ++ [z], xs ++ [y], R1.writeN hp R6 ef eo, ⟨E6.fz, fun a o h1 h2 => ?_, E6.new, E6.os, fun a h => upd_ne_none (E6.dom a h)⟩, upd_same, ef, eo, ?_, po⟩
                    · rw [upd_ne (ne_of_none h1 hp)]; exact E6.keep a o h1 h2
                    · cases r6 with
                      | dat r6 => exact (Drs.mono ee.fz _ _ rx).append (.cons r6 .nil)
                  · exact False.elim po
            · rename_i hv
              cases hv
              refine ⟨false, rfl, fun F5 os5 H5 e5 k5 => iteF ?_⟩
              have ee := e3.trans e5
              exact ⟨F5, os5, _, acc, xs, R.ext ee k5, e.trans ee, ee.keep _ _ hpx hpo, ee.fnone hpF hpx, ee.nos hpo hpx, Drs.mono ee.fz _ _ rx, po⟩
            · exact False.elim po
    · rintro H2 ⟨F, os, st, acc, xs, R, e, hpx, hpF, hpo, rx, po⟩
      rw [List.drop_length] at po
      exact po (.ref p) F os H2 (e1.trans e) R.ok (.fr hpF hpo hpx (.lst rx)) (Frs.new (e1.nn hp))
theorem pe_comp {elt te iter : Expr} {ifs : List Expr} {scope : Scope} {own : List (Str × Nat)} {im : IM} {tgt : Tg} {g : TG} {mc me : EM} (hc : X.calm = true) (hN : X.N.Nodup) (hi : PI X te iter (tI pr (kx X ec) true W im)) (ok : BlkOk X.N X.env.scope scope own)
    (hgp : ∀ (s : Shared) (H : Hp) (C : Addr) (cl : List (Str × Addr)) (fp : List Addr), PG (X.blk s H scope (compEnvC scope cl C X.env) fp) te g) (ht : ∀ (s : Shared) (H : Hp) (C : Addr) (cl : List (Str × Addr)) (fp : List Addr), PTs (X.blk s H scope (compEnvC scope cl C X.env) fp) ifs (tT (kx X ec) W0 mc))
    (he : ∀ (s : Shared) (H : Hp) (C : Addr) (cl : List (Str × Addr)) (fp : List Addr), PE (X.blk s H scope (compEnvC scope cl C X.env) fp) elt (tM (kx X ec) W0 me)) (hg : TgOk pr X ec tgt g) (hin : ∀ i ∈ tgIx tgt, i ∈ own.map (·.2)) (hs : ∀ x, foldedSetIterable iter X.env x = pure x := by intro _; rfl) :
    PE X (.ListComp elt [⟨te, iter, ifs, 0⟩] scope pos) (tM (kx X ec) W (compM im (own.map (·.2)) tgt mc me)) := (pe_lc hc hN hi ok hgp ht he hs).imp fun _ _ _ => comp_ok hg hin
/-- x = [..] -/
theorem ps_comp {i : Nat} {y : Str} {py : Pos} {elt te iter : Expr} {ifs : List Expr} {scope : Scope} {own : List (Str × Nat)} {spos : Pos} {im : IM} {tgt : Tg} {g : TG} {mc me : EM} (hc : X.calm = true) (hN : X.N.Nodup) (hy : X.N[i]? = some y) (hyl : X.env.scope.names.lookup y = some .local)
    (hsw : swapsWith (.ListComp elt [⟨te, iter, ifs, 0⟩] scope pos) (some (.Name y py)) spos.line X.env = pure true) (hi : PI X te iter (tI pr (kx X ec) true W im)) (ok : BlkOk X.N X.env.scope scope own)
    (hgp : ∀ (s : Shared) (H : Hp) (C : Addr) (cl : List (Str × Addr)) (fp : List Addr), PG (X.blk s H scope (compEnvC scope cl C X.env) fp) te g) (ht : ∀ (s : Shared) (H : Hp) (C : Addr) (cl : List (Str × Addr)) (fp : List Addr), PTs (X.blk s H scope (compEnvC scope cl C X.env) fp) ifs (tT (kx X ec) W0 mc))
    (he : ∀ (s : Shared) (H : Hp) (C : Addr) (cl : List (Str × Addr)) (fp : List Addr), PE (X.blk s H scope (compEnvC scope cl C X.env) fp) elt (tM (kx X ec) W0 me)) (hg : TgOk pr X ec tgt g) (hin : ∀ i ∈ tgIx tgt, i ∈ own.map (·.2)) (hs : ∀ x, foldedSetIterable iter X.env x = pure x := by intro _; rfl) :
    PS X (.Assign [.Name y py] (.ListComp elt [⟨te, iter, ifs, 0⟩] scope pos) spos) (tS (kx X ec) W (setM i (compM im (own.map (·.2)) tgt mc me))) := (ps_setLc hc hN hy hyl hsw hi ok hgp ht he hs).imp fun E σ H h => by
  obtain ⟨B, F, os, env, st, R, h⟩ := h
  have h2 : tAsg (tM (kx X ec) W (compM im (own.map (·.2)) tgt mc me)) (gName i) E σ H := set_ok ⟨B, F, os, env, st, R, h⟩
  exact comp_ok hg hin h2
end
end Pl

set_option Elab.async false
set_option linter.all false
set_option maxRecDepth 100000
set_option maxHeartbeats 4000000
namespace Pl
open PySem PySem.Spec PyProof.Rows L2

/-! ### the promise of a def, told where no repr is under way (the guards are known to be none) -/
structure FnG (P : Program) (w : World) (K : PySem.W.Frag) (mg : Str → Option Value) (base : Heap) (CX : CXT) (k : Nat) (f : Addr) (fd : FuncData) (ps : List Str) (sp : Sp) : Prop where
  len : ∀ {vs H Q E}, sp vs H Q E → vs.length = ps.length
  run : ∀ {A : Around} {outer : List PySem.Env} {s : Shared} {H : Hp} {args : Args} {us : List Value} {vs : List V} {Q : VK} {E : XK}, Room k A → A.guards = some [] → Env0 P w K mg base A outer s H →
    BindsTo s fd args (ps.zip us) → Vals vs us → sp vs H Q E → codeAny (model P w) A (.call (.ref f) args) (CR CX outer P w H s Q E) s
section
variable {P : Program} {w : World} {K : PySem.W.Frag} {mg : Str → Option Value} {base : Heap} {CX : CXT} {f : Addr} {fd : FuncData} {ps : List Str} {sp : Sp}
theorem FnG.up {j k : Nat} (G : FnG P w K mg base CX j f fd ps sp) (h : j ≤ k) : FnG P w K mg base CX k f fd ps sp := ⟨G.len, fun hr => G.run (hr.mono h)⟩
/-- by the body: the frame is laid, the body's reading is run, its end is read -/
theorem FnG.of {x qual : Str} {st : Stmt} {N : List Str} {k : Nat} (F : Fun K x qual st f fd) (S : FnScope N ps (defScope st)) (len : ∀ {vs H Q E}, sp vs H Q E → vs.length = ps.length)
    (hbody : ∀ (cdv : Value) (A : Around) (outer : List PySem.Env) (s : Shared) (H : Hp) (vs : List V) (Q : VK) (E : XK), Room k (A.deeper (envOfC qual (defScope st) s.heap.objs.size f cdv)) → A.guards = some [] → sp vs H Q E →
      ∃ t, PSs (cxOf CX P w K mg base N qual (defScope st) f cdv A outer s H E) (defBody st) t ∧ t { nx := fun _ H' => Q .non H', rt := Q } (L2.start N vs) H) : FnG P w K mg base CX (k + 1) f fd ps sp := by
  obtain ⟨oc, od, kV, doc, pm, an, cdv, ct, osl, efd, lk, hcd⟩ := F.ex
  subst efd
  refine ⟨len, ?_⟩
  intro A outer s H args us vs Q E hr hg e0 hb r hsp
  have up : ∀ b o, base.get? b = some o → s.heap.get? b = some o := fun b o z => (e0.bs b o z).1
  have inK := e0.mod.kin.keeps up
  have kinds : ∀ y ∈ ps.zip us, (defScope st).names.lookup y.1 = some .local ∨ ((defScope st).names.lookup y.1 = some .cell ∧ ((cellsFrom (s.heap.objs.size + 1) (defScope st).names []).lookup y.1).isSome = true) := by
    rintro ⟨n, v⟩ hy
    cases S.par n (List.of_mem_zip hy).1 with
    | inl q => exact Or.inl q
    | inr q => exact Or.inr ⟨q, PySem.W.cellsFrom_some _ _ _ (Or.inl q)⟩
  obtain ⟨t, ht, hq⟩ := hbody cdv A outer s H vs Q E (hr.deeper _) hg hsp
  refine codeAny_call_function hr.depth (inK _ _ lk) rfl S.co S.gen rfl (PySem.W.codeRec_of inK hcd) (hb _ _ _ _ (wpAny_newFunctionEnv_cells S.kind kinds ?_))
  intro env he s1 x
  subst he
  refine ⟨(e0.mod.nolimit.keeps up).keeps x.toInCall.keep, codeAny_func (wpAny_mono (ht.run [] s1 _ H _ (inv_start S hr.hd e0 (len hsp) r x) hq) ?_ fun _ _ z => z)⟩
  rintro fl s' hs
  cases fl with
  | next =>
    obtain ⟨σ', H', J, q⟩ := hs
    exact ⟨.non, H', J.os, J.bare, J.base, J.hok, rfl, q⟩
  | ret u =>
    obtain ⟨v, σ', H', J, rv, q⟩ := hs
    exact ⟨v, H', J.os, J.bare, J.base, J.hok, rv, q⟩
  | brk => exact hs.elim fun _ z => z.elim fun _ z => z.2.elim
  | cont => exact hs.elim fun _ z => z.elim fun _ z => z.2.elim
end

/-! ### a def by its body -/
def Os.fin : Os → Ou
  | .nx _ st => .ok (.dat .none) st
  | .ret v st => .ok v st
  | .exc c d _ st => .exc c d st
  | _ => .stk
def envOf (n : Nat) (vs : List Val) : Env := vs.map some ++ List.replicate (n - vs.length) none
def fnM (n : Nat) (m : SM) : FM := fun vs st => (m (envOf n vs) st).fin
section
variable {P : Program} {w : World} {K : PySem.W.Frag} {mg : Str → Option Value} {base : Heap} {ec : List (Addr × Str)}
theorem env_get {n : Nat} {vs : List Val} {i : Nat} {x : Val} (h : (envOf n vs)[i]? = some (some x)) : vs[i]? = some x := by
  unfold envOf at h
  by_cases hi : i < vs.length
  · rw [List.getElem?_append_left (by simpa using hi), List.getElem?_map] at h
    cases e : vs[i]? with
    | none => rw [e] at h; cases h
    | some u => rw [e] at h; simpa using h
  · rw [List.getElem?_append_right (by simpa using hi)] at h
    by_cases h2 : i - (vs.map some).length < n - vs.length
    · rw [List.getElem?_replicate_of_lt h2] at h; cases h
    · rw [List.getElem?_eq_none (by simpa using h2)] at h; cases h
theorem start_get {N : List Str} {vs : List V} {i : Nat} {x : V} (h : vs[i]? = some x) : (L2.start N vs)[i]? = some (some x) := by
  unfold L2.start
  have hi := (List.getElem?_eq_some_iff.mp h).1
  rw [List.getElem?_append_left (by simpa using hi), List.getElem?_map, h]
  rfl
theorem VRs.get {X : Kx} {F H : Hp} {os : List Addr} : ∀ {vs : List V} {xs : List Val} {i : Nat} {x : Val}, VRs X F os H vs xs → xs[i]? = some x → ∃ v, vs[i]? = some v ∧ VR X F os H v x
  | _, _, _, _, .nil, e => by simp at e
  | _, _, 0, _, .cons r _, e => by simp at e; subst e; exact ⟨_, rfl, r⟩
  | _, _, i + 1, x, .cons _ t, e => by
    obtain ⟨u, h1, h2⟩ := VRs.get (i := i) (x := x) t (by simpa using e)
    exact ⟨u, by simpa using h1, h2⟩
theorem rel_start {X : Kx} {F H : Hp} {os : List Addr} {st : List Cn} {vs : List V} {xs : List Val} {N : List Str} (k : StOk X F os H st) (r : VRs X F os H vs xs) (hn : xs.all nofr = true) : Rel X ⟨F, os, H, fun _ => none⟩ F os (L2.start N vs) H (envOf N.length xs) st where
  ok := k
  len := by
    unfold envOf L2.start
    simp [r.len]
  slv := fun i x h => by
    obtain ⟨v, h1, h2⟩ := r.get (env_get h)
    exact ⟨v, start_get h1, h2⟩
  own := fun i j c c' p _ h1 _ _ => by
    have := List.all_eq_true.mp hn _ (List.mem_of_getElem? (env_get h1))
    cases this
  ownB := fun i c p h1 _ => by
    have := List.all_eq_true.mp hn _ (List.mem_of_getElem? (env_get h1))
    cases this
  borB := fun i c p h1 h3 => by
    obtain ⟨v, h2, r2⟩ := r.get (env_get h1)
    rw [start_get h2] at h3
    cases h3
    cases r2 with
    | bor _ _ q _ => exact fun z => by rw [show H p = none from z] at q; cases q
  bs := Ext.refl _ _ _
  pin := fun _ _ h => nomatch h
/-- what is wanted of an error that leaves the def -/
abbrev WL (E : XK) : WX := fun cls d _ H => E cls d H
theorem fn_ok {x qual : Str} {st : Stmt} {f : Addr} {fd : FuncData} {N ps : List Str} {k : Nat} {mb : SM} (F : Fun K x qual st f fd) (S : FnScope N ps (defScope st))
    (hbody : ∀ (cdv : Value) (A : Around) (outer : List PySem.Env) (s : Shared) (H : Hp) (E : XK), Room k (A.deeper (envOfC qual (defScope st) s.heap.objs.size f cdv)) → A.guards = some [] →
      PSs (cxOf (L2.CX P w) P w K mg base N qual (defScope st) f cdv A outer s H E) (defBody st) (tS ⟨K, ec⟩ (WL E) mb)) :
    FnG P w K mg base (L2.CX P w) (k + 1) f fd ps (spOf ⟨K, ec⟩ ps.length (fnM N.length mb)) := by
  refine FnG.of F S (fun {vs H Q E} h => ?_) (fun cdv A outer s H vs Q E hr hg h => ⟨_, hbody cdv A outer s H E hr hg, ?_⟩)
  · obtain ⟨_, _, _, _, _, _, _, hl, _⟩ := h
    exact hl
  · obtain ⟨F0, os, vals, st0, k0, r0, n0, hl, h⟩ := h
    refine ⟨_, F0, os, _, st0, rel_start k0 r0 n0, ?_⟩
    unfold fnM at h
    cases hm : mb (envOf N.length vals) st0 <;> rw [hm] at h
    case nx env' st' => exact fun F1 os1 σ1 H1 R1 => h _ _ _ _ R1.bs R1.ok (.dat .non) Frs.dat
    case ret v st' => exact fun x F1 os1 H1 e k r f => h x F1 os1 H1 e k r f
    case exc c d env' st' => exact fun cls dd F1 os1 σ1 H1 R1 r => h cls dd F1 os1 H1 R1.bs R1.ok r
    all_goals exact False.elim h
theorem fn_tk {N : List Str} {qual : Str} {sc : Scope} {f : Addr} {cdv : Value} {A : Around} {outer : List PySem.Env} {s : Shared} {H : Hp} {E : XK} : Takes (cxOf (L2.CX P w) P w K mg base N qual sc f cdv A outer s H E) (WL E) := takes_of rfl rfl rfl rfl
theorem fn_po {N : List Str} {qual : Str} {sc : Scope} {f : Addr} {cdv : Value} {A : Around} {outer : List PySem.Env} {s : Shared} {H : Hp} {E : XK} :
    PassesOwn (model P w) (cxOf (L2.CX P w) P w K mg base N qual sc f cdv A outer s H E).A (cxOf (L2.CX P w) P w K mg base N qual sc f cdv A outer s H E).env (cxOf (L2.CX P w) P w K mg base N qual sc f cdv A outer s H E).xe := passes_of (X := cxOf (L2.CX P w) P w K mg base N qual sc f cdv A outer s H E) rfl
end

/-! ### its calls -/
section
variable {X : Cx} {ec : List (Addr × Str)} {W : WX} {e : Expr} {pos : Pos}
theorem call_fn {k n : Nat} {f : Addr} {fd : FuncData} {ps : List Str} {x : Str} {p : Pos} {es : List Expr} {kws : List Keyword} {fm : FM} (G : FnG X.prog X.w X.K X.mg X.base (L2.CX X.prog X.w) k f fd ps (spOf (kx X ec) n fm)) (hr : Room k X.A) (hgd : X.A.guards = some [])
    (hb : Binds X.K fd ps []) (tk : Takes X W) {pins : List (Addr × Obj)} {σ : L2.St} {H1 : Hp} {s1 : Shared} {us : List Value} {vs : List V} {Q : VK} (I1 : Inv X pins σ H1 s1) (r1 : Vals vs us)
    (q : spOf (kx X ec) n fm vs H1 Q fun cls dd H' => W cls dd σ H') : wpAny (model X.prog X.w) X.A (call (.ref f) us) (EP X pins σ Q) X.xe s1 := by
  have hlen : us.length = ps.length := by rw [← r1.length]; exact G.len q
  have hbt := hb s1 us I1.kIn (by rw [List.append_nil]; exact hlen)
  rw [List.append_nil] at hbt
  refine wpAny_call (codeAny_mono (G.run hr hgd I1.env0 hbt r1 q) fun r s' hq => ?_)
  cases r with
  | error u => exact (L2.passAt tk σ) pins H1 s1 u s' I1 hq
  | ok fl =>
    cases fl with
    | ret u => exact I1.after hq
    | next => exact hq.elim
    | brk => exact hq.elim
    | cont => exact hq.elim
theorem pe_fn {k n : Nat} {f : Addr} {fd : FuncData} {ps : List Str} {x : Str} {p : Pos} {es : List Expr} {fm : FM} {ra : AM} (G : FnG X.prog X.w X.K X.mg X.base (L2.CX X.prog X.w) k f fd ps (spOf (kx X ec) n fm)) (hr : Room k X.A) (hgd : X.A.guards = some []) (hg : Gl X x) (hm : X.mg x = some (.ref f))
    (hk : PySem.W.keepIn X.K (.ref f) = true) (hb : Binds X.K fd ps []) (tk : Takes X W) (ha : PA X (e :: es) (tA (kx X ec) W ra)) (hdb : (x == ("__debug__" : Str)) = false := by decide) (he : starEach (e :: es) X.env = (false, eval e X.env) :: starEach es X.env := by rfl)
    (hpl : (backTo pos (starEach es X.env)).any (·.1) = false := by rfl) : PE X (.Call (.Name x p) (e :: es) [] pos) (tM (kx X ec) W (callF n fm ra)) := by
  refine ⟨?_⟩
  rintro pins s σ H Q I ⟨B, F, os, env, st, R, h⟩
  have h2 : tA (kx X ec) W ra σ H fun vs H1 => spOf (kx X ec) n fm vs H1 Q fun cls dd H' => W cls dd σ H' := by
    refine ⟨B, F, os, env, st, R, PoL.bind h ?_⟩
    intro vs st1 xs F1 os1 H1 ev e1 k1 r1 n1 p1
    by_cases hl : vs.length = n
    · rw [if_pos hl] at p1
      exact ⟨F1, os1, vs, st1, k1, r1, n1, r1.len.trans hl, p1.shift e1⟩
    · rw [if_neg hl] at p1
      exact p1.elim
  refine wpAny_Call_Name_kw (ld_glob I hg hm ?_ hdb)
  refine PySem.W.callWith_K (h₀ := X.base) I.ok.mod.kin hk (thn (ha.run pos pins s σ H _ I h2) ?_) he hpl
  rintro us s1 ⟨vs, H1, I1, r1, q⟩
  exact ⟨I1.kIn, call_fn (x := x) (p := p) (es := es) (kws := []) G hr hgd hb tk I1 r1 q⟩
end
end Pl

set_option Elab.async false
set_option linter.all false
set_option maxRecDepth 100000
set_option maxHeartbeats 4000000
namespace Pl
open PySem PySem.Spec PyProof.Rows L2

/-! ### the operators, whatever they stand between -/
section
variable {X : Cx} {ec : List (Addr × Str)} {W : WX} {e a b c : Expr} {ma mb mc m : EM} {pos : Pos}
def gAdd (v w : Val) : Option Val := (gII (fun _ _ => true) (· + ·) v w).or ((gAddS v w).or ((gCatL v w).or (gCatT v w)))
theorem pe_add (ha : PE X a (tM (kx X ec) W ma)) (hb : PE X b (tM (kx X ec) W mb)) : PE X (.BinOp a .Add b pos) (tM (kx X ec) W (binM gAdd ma mb)) :=
  pe_bin (op_add.or (op_add_str.or (op_cat.or op_catN))) (snd_rI0.or (snd_addS.or (snd_catL.or snd_catT))) ha hb
def gSub : Val → Val → Option Val := gII (fun _ _ => true) (· - ·)
theorem pe_sb (ha : PE X a (tM (kx X ec) W ma)) (hb : PE X b (tM (kx X ec) W mb)) : PE X (.BinOp a .Sub b pos) (tM (kx X ec) W (binM gSub ma mb)) := pe_bin op_sub snd_rI0 ha hb
def cMul (i j : Int) : Bool := Nat.ble i.natAbs 18446744073709551615 || Nat.ble j.natAbs 18446744073709551615
theorem cMul_ok (i j : Int) (h : cMul i j = true) : CMul i j := by
  unfold cMul at h
  rw [Bool.or_eq_true] at h
  rcases h with h | h
  · have := Nat.le_of_ble_eq_true h
    exact .inl ⟨by omega, by omega⟩
  · have := Nat.le_of_ble_eq_true h
    exact .inr ⟨by omega, by omega⟩
theorem cMul_l {i j : Int} (h : i.natAbs ≤ 18446744073709551615) : cMul i j = true := by
  unfold cMul
  rw [Nat.ble_eq_true_of_le h]
  rfl
theorem cMul_r {i j : Int} (h : j.natAbs ≤ 18446744073709551615) : cMul i j = true := by
  unfold cMul
  rw [Nat.ble_eq_true_of_le h, Bool.or_true]
/-- a text n times -/
def strRep (x : Str) (n : Int) : Str := ⟨(List.replicate n.toNat x.cps).foldl (· ++ ·) #[]⟩
def gRepS : Val → Val → Option Val
  | .dat (.str x), .dat (.int n) => if 0 ≤ n ∧ n ≤ 1000 ∧ x.length = 1 then some (.dat (.str (strRep x n))) else none
  | _, _ => none
def rRepS : R2 := fun x y H Q => ∃ z n, x = .str z ∧ y = .int n ∧ (0 ≤ n ∧ n ≤ 1000 ∧ z.length = 1) ∧ Q (.str (strRep z n)) H
theorem op_repS : OpR X (binaryOp .Mult) rRepS := by
  intro pins s σ H x y v u Q I rx ry h
  obtain ⟨z, n, rfl, rfl, ⟨h0, h1, hz⟩, q⟩ := h
  obtain ⟨t, rfl⟩ := rx
  obtain ⟨t', rfl⟩ := ry
  by_cases hn : n < 1
  · have e : n = 0 := by omega
    subst e
    exact PySem.P.mul_str_none hn (by omega) ⟨.str _, H, I.tok _, ⟨_, rfl⟩, q⟩
  · refine PySem.P.mul_str ?_ (fun _ _ => ?_) (fun _ _ => ?_) ?_
    · have a1 : ¬ n < -(2 ^ 63 : Int) := by omega
      have a2 : ¬ n ≥ 2 ^ 63 := by omega
      rw [decide_eq_false a1, decide_eq_false a2]; rfl
    · rw [hz]
      have : (1 : Int) ≤ (2 ^ 63 - 1) / n := by
        rw [Int.le_ediv_iff_mul_le (by omega)]
        omega
      omega
    · rw [hz, Nat.one_mul]
      have : ¬ n.toNat > 2 ^ 24 := by omega
      simpa [Builtin.Str.tooLong, sizeLine] using this
    · rw [if_neg hn]
      by_cases h2 : (n == 1 || z.length == 0) = true
      · rw [if_pos h2]
        have e : n = 1 := by
          rw [hz] at h2
          simpa using h2
        subst e
        refine ⟨.str z, H, I, ⟨_, rfl⟩, ?_⟩
        have e2 : strRep z 1 = z := by
          show (⟨#[] ++ z.cps⟩ : Str) = z
          rw [Array.empty_append]
        rw [e2] at q
        exact q
      · rw [if_neg h2]
        refine ⟨?_, .str _, H, I.tok _, ⟨_, rfl⟩, q⟩
        have aux : ∀ (m : Nat) (acc : Array Nat), ((List.replicate m z.cps).foldl (· ++ ·) acc).size = acc.size + m * z.cps.size := by
          intro m
          induction m with
          | zero => intro acc; simp
          | succ m ih => intro acc; rw [List.replicate_succ, List.foldl_cons, ih, Array.size_append]; rw [Nat.succ_mul]; omega
        show ((List.replicate n.toNat z.cps).foldl (· ++ ·) #[]).size ≤ sizeLine
        rw [aux, show z.cps.size = 1 from hz, sizeLine_eq]
        simp
        omega
theorem snd_repS {K : Kx} : Snd2 K rRepS gRepS := by
  intro F os H st x y v w z Q k rx ry e q
  unfold gRepS at e
  split at e
  · split at e
    · rename_i hl
      cases e
      exact ⟨_, _, rx.str, ry.int, hl, q _ F H (Ext.refl _ _ _) k (.dat (.str _)) Frs.dat⟩
    · cases e
  · cases e
def gMul (v w : Val) : Option Val := (gII cMul (· * ·) v w).or ((gRepL v w).or ((gRepT v w).or ((gRepS v w).or (gRep1 v w))))
theorem pe_ml (ha : PE X a (tM (kx X ec) W ma)) (hb : PE X b (tM (kx X ec) W mb)) : PE X (.BinOp a .Mult b pos) (tM (kx X ec) W (binM gMul ma mb)) :=
  pe_bin (op_mul.or (op_rep.or (op_repT.or (op_repS.or op_rep1)))) ((snd_rI cMul_ok).or (snd_repL.or (snd_repT.or (snd_repS.or snd_rep1)))) ha hb
def gMod : Val → Val → Option Val := gII (fun _ j => decide (0 < j)) (· % ·)
theorem pe_md (ha : PE X a (tM (kx X ec) W ma)) (hb : PE X b (tM (kx X ec) W mb)) : PE X (.BinOp a .Mod b pos) (tM (kx X ec) W (binM gMod ma mb)) :=
  pe_bin op_mod (snd_rI fun _ _ h => of_decide_eq_true h) ha hb
def gDiv : Val → Val → Option Val := gII (fun _ j => decide (0 < j ∧ j < 1073741824)) (· / ·)
theorem pe_fd (ha : PE X a (tM (kx X ec) W ma)) (hb : PE X b (tM (kx X ec) W mb)) : PE X (.BinOp a .FloorDiv b pos) (tM (kx X ec) W (binM gDiv ma mb)) :=
  pe_bin op_fdiv (snd_rI fun i j h => show CDiv i j from of_decide_eq_true (p := 0 < j ∧ j < 1073741824) h) ha hb
def gPow : Val → Val → Option Val := gII (fun i j => decide (0 ≤ j ∧ j ≤ 1000000 ∧ i.natAbs < 2 ^ 64)) (fun i j => i ^ j.toNat)
theorem pe_pw (ha : PE X a (tM (kx X ec) W ma)) (hb : PE X b (tM (kx X ec) W mb)) : PE X (.BinOp a .Pow b pos) (tM (kx X ec) W (binM gPow ma mb)) :=
  pe_bin op_pow (snd_rI fun i j h => show CPow i j from of_decide_eq_true (p := 0 ≤ j ∧ j ≤ 1000000 ∧ i.natAbs < 2 ^ 64) h) ha hb
def gNeg : Val → Option Val
  | .dat (.int i) => some (.dat (.int (-i)))
  | _ => none
theorem snd_neg {K : Kx} : Snd1 K (rU fun i => .int (-i)) gNeg := by
  intro F os H st x v z Q k rx e q
  unfold gNeg at e
  split at e
  · cases e
    exact ⟨_, rx.int, q _ F H (Ext.refl _ _ _) k (.dat (.int _)) Frs.dat⟩
  · cases e
theorem pe_ng (ha : PE X a (tM (kx X ec) W ma)) : PE X (.UnaryOp .USub a pos) (tM (kx X ec) W (unM gNeg ma)) := pe_unM un_neg snd_neg ha

/-! ### the comparisons -/
def gEqS : Val → Val → Option Val
  | .dat (.str a), .dat (.str b) => some (.dat (.bool (decide (a = b))))
  | _, _ => none
theorem snd_eqS {K : Kx} : Snd2 K L2.rEq gEqS := by
  intro F os H st x y v w z Q k rx ry e q
  unfold gEqS at e
  split at e
  · rename_i a b
    cases e
    have hx := rx.str
    have hy := ry.str
    subst hx hy
    refine ⟨rfl, ?_⟩
    have : decide (V.str a = V.str b) = decide (a = b) := by
      by_cases h : a = b
      · subst h; simp
      · rw [decide_eq_false h, decide_eq_false (fun z => h (V.str.inj z))]
    rw [this]
    exact q _ F H (Ext.refl _ _ _) k (.dat (.bl _)) Frs.dat
  · cases e
def gEqq (v w : Val) : Option Val := (gEqS v w).or (gEq v w)
theorem pe_eq (hu : X.A.units + 64 < cLine) (ha : PE X a (tM (kx X ec) W ma)) (hb : PE X b (tM (kx X ec) W mb)) : PE X (.Compare a [.Eq] [b] pos) (tM (kx X ec) W (binM gEqq ma mb)) := pe_cmpb (op_eq.or (op_eqD hu)) (snd_eqS.or snd_eq) ha hb (nomark b)
theorem pt_eq (hu : X.A.units + 64 < cLine) (ha : PE X a (tM (kx X ec) W ma)) (hb : PE X b (tM (kx X ec) W mb)) : PT X (.Compare a [.Eq] [b] pos) (tT (kx X ec) W (binM gEqq ma mb)) := pt_cmpb (op_eq.or (op_eqD hu)) (snd_eqS.or snd_eq) ha hb (nomark b)
def gNeS : Val → Val → Option Val
  | .dat (.str a), .dat (.str b) => some (.dat (.bool (!decide (a = b))))
  | _, _ => none
theorem snd_neS {K : Kx} : Snd2 K L2.rNe gNeS := by
  intro F os H st x y v w z Q k rx ry e q
  unfold gNeS at e
  split at e
  · rename_i a b
    cases e
    have hx := rx.str
    have hy := ry.str
    subst hx hy
    refine ⟨rfl, ?_⟩
    have : decide (V.str a = V.str b) = decide (a = b) := by
      by_cases h : a = b
      · subst h; simp
      · rw [decide_eq_false h, decide_eq_false (fun z => h (V.str.inj z))]
    rw [this]
    exact q _ F H (Ext.refl _ _ _) k (.dat (.bl _)) Frs.dat
  · cases e
def gNeq (v w : Val) : Option Val := (gNeS v w).or (gNe v w)
theorem pe_ne (hu : X.A.units + 64 < cLine) (ha : PE X a (tM (kx X ec) W ma)) (hb : PE X b (tM (kx X ec) W mb)) : PE X (.Compare a [.NotEq] [b] pos) (tM (kx X ec) W (binM gNeq ma mb)) := pe_cmpb (op_ne.or (op_neD hu)) (snd_neS.or snd_ne) ha hb (nomark b)
theorem pt_ne (hu : X.A.units + 64 < cLine) (ha : PE X a (tM (kx X ec) W ma)) (hb : PE X b (tM (kx X ec) W mb)) : PT X (.Compare a [.NotEq] [b] pos) (tT (kx X ec) W (binM gNeq ma mb)) := pt_cmpb (op_ne.or (op_neD hu)) (snd_neS.or snd_ne) ha hb (nomark b)
def strLe (i j : Str) : Bool := !decide (j.cps.toList < i.cps.toList)
def gLt (v w : Val) : Option Val := (gIB (fun i j => decide (i < j)) v w).or (gSS strLt v w)
def gLe (v w : Val) : Option Val := (gIB (fun i j => decide (i ≤ j)) v w).or (gSS strLe v w)
def gGt : Val → Val → Option Val := gIB (fun i j => decide (j < i))
def gGe : Val → Val → Option Val := gIB (fun i j => decide (j ≤ i))
abbrev rLt : R2 := fun x y H Q => (rI0 (fun i j => .bl (decide (i < j)))) x y H Q ∨ (∃ i j, x = .str i ∧ y = .str j ∧ Q (.bl (decide (i.cps.toList < j.cps.toList))) H)
theorem o_lt : OpR X (compareOp .Lt) rLt := op_lt.or op_lt_str
theorem s_lt {K : Kx} : Snd2 K rLt gLt := snd_rIB.or (snd_SS (f := strLt))
theorem pe_lt (ha : PE X a (tM (kx X ec) W ma)) (hb : PE X b (tM (kx X ec) W mb)) : PE X (.Compare a [.Lt] [b] pos) (tM (kx X ec) W (binM gLt ma mb)) := pe_cmpb o_lt s_lt ha hb (nomark b)
theorem pt_lt (ha : PE X a (tM (kx X ec) W ma)) (hb : PE X b (tM (kx X ec) W mb)) : PT X (.Compare a [.Lt] [b] pos) (tT (kx X ec) W (binM gLt ma mb)) := pt_cmpb o_lt s_lt ha hb (nomark b)
abbrev rLe : R2 := fun x y H Q => (rI0 (fun i j => .bl (decide (i ≤ j)))) x y H Q ∨ (∃ i j, x = .str i ∧ y = .str j ∧ Q (.bl (!decide (j.cps.toList < i.cps.toList))) H)
theorem o_le : OpR X (compareOp .LtE) rLe := op_le.or (op_le_str)
theorem s_le {K : Kx} : Snd2 K rLe gLe := snd_rIB.or (snd_SS (f := strLe))
theorem pe_le (ha : PE X a (tM (kx X ec) W ma)) (hb : PE X b (tM (kx X ec) W mb)) : PE X (.Compare a [.LtE] [b] pos) (tM (kx X ec) W (binM gLe ma mb)) := pe_cmpb o_le s_le ha hb (nomark b)
theorem pt_le (ha : PE X a (tM (kx X ec) W ma)) (hb : PE X b (tM (kx X ec) W mb)) : PT X (.Compare a [.LtE] [b] pos) (tT (kx X ec) W (binM gLe ma mb)) := pt_cmpb o_le s_le ha hb (nomark b)
theorem pe_gt (ha : PE X a (tM (kx X ec) W ma)) (hb : PE X b (tM (kx X ec) W mb)) : PE X (.Compare a [.Gt] [b] pos) (tM (kx X ec) W (binM gGt ma mb)) := pe_cmpb op_gt snd_rIB ha hb (nomark b)
theorem pt_gt (ha : PE X a (tM (kx X ec) W ma)) (hb : PE X b (tM (kx X ec) W mb)) : PT X (.Compare a [.Gt] [b] pos) (tT (kx X ec) W (binM gGt ma mb)) := pt_cmpb op_gt snd_rIB ha hb (nomark b)
theorem pe_ge (ha : PE X a (tM (kx X ec) W ma)) (hb : PE X b (tM (kx X ec) W mb)) : PE X (.Compare a [.GtE] [b] pos) (tM (kx X ec) W (binM gGe ma mb)) := pe_cmpb op_ge snd_rIB ha hb (nomark b)
theorem pt_ge (ha : PE X a (tM (kx X ec) W ma)) (hb : PE X b (tM (kx X ec) W mb)) : PT X (.Compare a [.GtE] [b] pos) (tT (kx X ec) W (binM gGe ma mb)) := pt_cmpb op_ge snd_rIB ha hb (nomark b)
theorem pe_lele (ha : PE X a (tM (kx X ec) W ma)) (hb : PE X b (tM (kx X ec) W mb)) (hc : PE X c (tM (kx X ec) W mc)) (hm : lastMarks [.LtE, .LtE] [b, c] = false := by with_unfolding_all rfl) : PE X (.Compare a [.LtE, .LtE] [b, c] pos) (tM (kx X ec) W (chM gLe gLe ma mb mc)) :=
  pe_ch o_le s_le o_le s_le ha hb hc hm
theorem pt_lele (ha : PE X a (tM (kx X ec) W ma)) (hb : PE X b (tM (kx X ec) W mb)) (hc : PE X c (tM (kx X ec) W mc)) (hm : lastMarks [.LtE, .LtE] [b, c] = false := by with_unfolding_all rfl) : PT X (.Compare a [.LtE, .LtE] [b, c] pos) (tT (kx X ec) W (chM gLe gLe ma mb mc)) :=
  pt_ch o_le s_le o_le s_le ha hb hc hm
def gIs (f : Bool → Bool) (v w : Val) : Option Val := (gIsN f v w).or (gIsB f v w)
theorem pe_is (ha : PE X a (tM (kx X ec) W ma)) (hb : PE X b (tM (kx X ec) W mb)) : PE X (.Compare a [.Is] [b] pos) (tM (kx X ec) W (binM (gIs id) ma mb)) := pe_cmpb (op_isN.or op_isBl) (snd_isN.or snd_isB) ha hb (nomark b)
theorem pt_is (ha : PE X a (tM (kx X ec) W ma)) (hb : PE X b (tM (kx X ec) W mb)) : PT X (.Compare a [.Is] [b] pos) (tT (kx X ec) W (binM (gIs id) ma mb)) := pt_cmpb (op_isN.or op_isBl) (snd_isN.or snd_isB) ha hb (nomark b)
theorem pe_isn (ha : PE X a (tM (kx X ec) W ma)) (hb : PE X b (tM (kx X ec) W mb)) : PE X (.Compare a [.IsNot] [b] pos) (tM (kx X ec) W (binM (gIs (!·)) ma mb)) := pe_cmpb (op_notN.or op_notBl) (snd_notN.or snd_notB) ha hb (nomark b)
theorem pt_isn (ha : PE X a (tM (kx X ec) W ma)) (hb : PE X b (tM (kx X ec) W mb)) : PT X (.Compare a [.IsNot] [b] pos) (tT (kx X ec) W (binM (gIs (!·)) ma mb)) := pt_cmpb (op_notN.or op_notBl) (snd_notN.or snd_notB) ha hb (nomark b)
theorem pe_in (ha : PE X a (tM (kx X ec) W ma)) (hb : PE X b (tM (kx X ec) W mb)) (hm : behindInMarks .In b = false := by rfl) : PE X (.Compare a [.In] [b] pos) (tM (kx X ec) W (binM (gIn false) ma mb)) := pe_cmpb op_in_seq snd_in ha hb hm
theorem pt_in (ha : PE X a (tM (kx X ec) W ma)) (hb : PE X b (tM (kx X ec) W mb)) (hm : behindInMarks .In b = false := by rfl) : PT X (.Compare a [.In] [b] pos) (tT (kx X ec) W (binM (gIn false) ma mb)) := pt_cmpb op_in_seq snd_in ha hb hm
theorem pe_nin (ha : PE X a (tM (kx X ec) W ma)) (hb : PE X b (tM (kx X ec) W mb)) (hm : behindInMarks .NotIn b = false := by rfl) : PE X (.Compare a [.NotIn] [b] pos) (tM (kx X ec) W (binM (gIn true) ma mb)) := pe_cmpb op_notIn_seq snd_in ha hb hm
theorem pt_nin (ha : PE X a (tM (kx X ec) W ma)) (hb : PE X b (tM (kx X ec) W mb)) (hm : behindInMarks .NotIn b = false := by rfl) : PT X (.Compare a [.NotIn] [b] pos) (tT (kx X ec) W (binM (gIn true) ma mb)) := pt_cmpb op_notIn_seq snd_in ha hb hm
theorem pe_ixx (ha : PE X a (tM (kx X ec) W ma)) (hb : PE X b (tM (kx X ec) W mb)) (hp : PlainIx b := by exact fun _ _ => rfl) : PE X (.Subscript a b pos) (tM (kx X ec) W (binM gIx ma mb)) := pe_sub ix_seq snd_ix ha hb hp

/-! ### dicts written out -/
theorem Ext.over {K : Kx} {F0 H0 F H : Hp} {os0 os : List Addr} (e : Ext F0 os0 H0 F os H) {p : Addr} {o : HO} (h0 : H0 p = none) : Ext F0 os0 H0 F os (upd H p o) :=
  ⟨e.fz, fun a u h n => by rw [upd_ne (ne_of_none h h0)]; exact e.keep a u h n, e.new, e.os, fun a h => upd_ne_none (e.dom a h)⟩
theorem StOk.over {K : Kx} {F H : Hp} {os : List Addr} {st : List Cn} (k : StOk K F os H st) {p : Addr} {o : HO} (hf : F p = none) (ho : p ∉ os) : StOk K F os (upd H p o) st := by
  refine ⟨fun a u h => ?_, k.len, fun n a c h1 h2 => ?_, k.nd⟩
  · rw [upd_ne (fun z => by rw [z, hf] at h; cases h)]; exact k.sub _ _ h
  · obtain ⟨f, u, q, r⟩ := k.stv n a c h1 h2
    exact ⟨f, u, by rw [upd_ne (fun z => ho (by rw [← z]; exact List.mem_of_getElem? h1))]; exact q, r⟩
def dctM (ks : List Str) (r : AM) : EM := fun env st => (r env st).bind fun vs st1 => Ou.of st1 (match dats vs with
  | some ds => if ds.length = ks.length ∧ ds.length ≤ 15 then some (.fr (.dk ((ks.zip ds).foldl (fun acc kv => dput acc (.inr kv.1) kv.2) []))) else none
  | none => none)
/-- the readings of the pairs -/
def prs (K : Kx) (W : WX) : List Str → List EM → List (TE × TE)
  | k :: ks, m :: ms => (tM K W (cstM (.str k)), tM K W (frzM m)) :: prs K W ks ms
  | _, _ => []
def aof : List EM → AM
  | [] => anil
  | m :: ms => acons m (aof ms)
theorem drv_merge {K : Kx} {F : Hp} : ∀ {ks : List Str} {xs : List V} {ds : List D} {kvs : List (Key × V)} {es : List (Key × D)}, Drs K F xs ds → Drv K F kvs es →
    Drv K F (((ks.zip xs).map fun p => ((Sum.inr p.1 : Key), p.2)).foldl (fun acc kv => putK acc kv.1 kv.2) kvs) ((ks.zip ds).foldl (fun acc kv => dput acc (.inr kv.1) kv.2) es)
  | [], _, _, _, _, _, r => r
  | k :: ks, _, _, _, _, .nil, r => r
  | k :: ks, _, _, _, _, .cons a b, r => drv_merge (ks := ks) b (drv_put a r)
theorem pairs_ok {K : Kx} {B : Bs} {σ : L2.St} : ∀ (ks : List Str) (ms : List EM) {F H : Hp} {os : List Addr} {env : Env} {st : List Cn} {Q1 : List (V × V) → Hp → Prop}, ks.length = ms.length → Rel K B F os σ H env st → PoL K W σ F os H (aof ms env st) (fun _ _ => True) →
    (∀ vs st1 xs F1 os1 H1, aof ms env st = .ok vs st1 → Ext F os H F1 os1 H1 → StOk K F1 os1 H1 st1 → VRs K F1 os1 H1 xs vs → xs.length = ks.length → Q1 ((ks.zip xs).map fun p => (.str p.1, p.2)) H1) → tPairs (prs K W ks ms) σ H Q1
  | [], [], F, H, os, env, st, Q1, _, R, h, hk => hk [] st [] F os H rfl (Ext.refl _ _ _) R.ok .nil rfl
  | key :: ks, m :: ms, F, H, os, env, st, Q1, hl, R, h, hk => by
    refine ⟨B, F, os, env, st, R, ?_⟩
    intro kv F1 os1 H1 e1 k1 r1 f1
    have ekv := r1.str
    subst ekv
    have R1 := R.ext e1 k1
    have h1 := h.shift e1
    refine ⟨B, F1, os1, env, st, R1, ?_⟩
    have hk2 := hk
    unfold aof acons at h1 hk2
    unfold frzM
    cases hm : m env st with
    | stk => rw [hm] at h1; exact h1
    | exc c d st2 => rw [hm] at h1; exact h1
    | ok v st2 =>
      rw [hm] at h1 hk2
      dsimp only [Ou.bindL, Ou.bind] at h1 hk2 ⊢
      cases hv : v.frz with
      | none => rw [hv] at h1; exact False.elim h1
      | some w =>
        rw [hv] at h1 hk2
        intro x F2 os2 H2 e2 k2 r2 f2
        dsimp only at h1 hk2
        have h2 : PoL K W σ F2 os2 H2 (aof ms env st2) fun _ _ => True := by
          have h3 := h1.shift e2
          cases ha : aof ms env st2 with
          | stk => rw [ha] at h3; exact h3
          | ok vs st3 => exact fun _ _ _ _ _ _ _ _ => trivial
          | exc c d st3 => rw [ha] at h3; exact h3
        refine pairs_ok ks ms (by simpa using hl) (R1.ext e2 k2) h2 fun vs st3 xs F3 os3 H3 ea e3 k3 r3 l3 => ?_
        exact hk2 (w :: vs) st3 (x :: xs) F3 os3 H3 (by rw [ea]; rfl) ((e1.trans e2).trans e3) k3 (.cons (r2.ext e3) r3) (by simp [l3])
  | [], _ :: _, _, _, _, _, _, _, hl, _, _, _ => by simp at hl
  | _ :: _, [], _, _, _, _, _, _, hl, _, _, _ => by simp at hl
theorem zip_len {α β : Type} {ks : List α} {xs : List β} (h : xs.length = ks.length) : (ks.zip xs).length = ks.length := by
  rw [List.length_zip, h, Nat.min_self]
theorem pe_dct {keys : List (Option Expr)} {values : List Expr} {ks : List Str} {ms : List EM} (hp : PPs X pos keys values (prs (kx X ec) W ks ms)) (hl : ks.length = ms.length) (hall : keys.all (·.isSome) = true := by rfl) (hkv : keys.length = values.length := by rfl) (h0 : keys ≠ [] := by exact fun z => nomatch z)
    (h15 : keys.length ≤ 15 := by decide) : PE X (.Dict keys values pos) (tM (kx X ec) W (dctM ks (aof ms))) := (pe_disp hp hall hkv h0 h15).imp fun σ H Q h => by
  obtain ⟨B, F, os, env, st, R, h⟩ := h
  intro p hp
  have e0 := Ext.newO (o := .dK []) R.ok hp
  have k0 := R.ok.newO (o := .dK []) hp
  have f0 := R.ok.free hp
  have R0 := R.ext e0 k0
  unfold dctM at h
  refine pairs_ok ks ms hl R0 ?_ ?_
  · cases ha : aof ms env st with
    | stk => rw [ha] at h; exact h
    | exc c d st1 => rw [ha] at h; exact fun cls dd F1 os1 H1 e k r => h cls dd F1 os1 H1 (e0.trans e) k r
    | ok vs st1 => exact fun _ _ _ _ _ _ _ _ => trivial
  · intro vs st1 xs F1 os1 H1 ea e1 k1 r1 l1
    have hp1 := e1.keep p _ upd_same f0.1
    have hF1 := e1.fnone f0.2 upd_same
    have ho1 := e1.nos f0.1 upd_same
    rw [ea] at h
    dsimp only [OuL.bind] at h
    obtain ⟨z, hz, q⟩ := Po.of h
    cases hd : dats vs with
    | none => rw [hd] at hz; cases hz
    | some ds =>
      rw [hd] at hz
      dsimp only at hz
      split at hz
      · rename_i hle
        cases hz
        have rd := dats_ok r1 hd
        refine ⟨hp1, (ks.zip xs).map fun p => ((Sum.inr p.1 : Key), p.2), by rw [List.map_map]; rfl, ?_, ?_⟩
        · rw [List.length_map, zip_len l1, ← hle.1]; exact hle.2
        · refine q _ _ _ _ ((e0.trans e1).over (K := kx X ec) hp) (k1.over hF1 ho1) (.fr hF1 ho1 upd_same (.dk ?_)) (Frs.new hp)
          exact drv_merge rd .nil
      · cases hz
end
end Pl

set_option Elab.async false
set_option linter.all false
set_option maxRecDepth 100000
set_option maxHeartbeats 4000000
namespace Pl
open PySem PySem.Spec PyProof.Rows L2

/-! ### a container becomes an object of the store -/
section
variable {pr : Bool} {X : Cx} {ec : List (Addr × Str)} {W : WX} {e a b : Expr} {m ma mb : EM} {pos : Pos}
def setO (i : Nat) (m : EM) : SM := fun env st => (m env st).bindS env fun v st1 => match v with
  | .fr c => .nx (env.set i (some (.obj st1.length))) (st1 ++ [c])
  | _ => .stk
theorem Rel.newObj {K : Kx} {B : Bs} {F F0 : Hp} {os os0 : List Addr} {σ : L2.St} {H H0 : Hp} {env : Env} {st st0 : List Cn} {p : Addr} {o : HO} {c : Cn} (R0 : Rel K B F0 os0 σ H0 env st0) (h0 : H0 p = none) (R : Rel K B F os σ H env st) (hf : F p = none) (ho : p ∉ os) (hp : H p = some o) (hc : CnR K F o c) :
    Rel K B F (os ++ [p]) σ H env (st ++ [c]) := by
  have hB := R0.bs.nn h0
  refine ⟨⟨R.ok.sub, by simp [R.ok.len], fun n a d h1 h2 => ?_, ?_⟩, R.len, fun i x h => ?_, R.own, R.ownB, R.borB, ⟨R.bs.fz, R.bs.keep, R.bs.new, ?_, R.bs.dom⟩, R.pin⟩
  · by_cases hn : n < os.length
    · rw [List.getElem?_append_left hn] at h1
      rw [List.getElem?_append_left (by rw [← R.ok.len]; exact hn)] at h2
      exact R.ok.stv n a d h1 h2
    · have e : n = os.length := by
        have := (List.getElem?_eq_some_iff.mp h1).1
        simp at this
        omega
      subst e
      have e2 : os.length = st.length := R.ok.len
      rw [List.getElem?_append_right (Nat.le_refl _)] at h1
      rw [List.getElem?_append_right (by omega)] at h2
      simp at h1
      rw [e2] at h2
      simp at h2
      subst h1 h2
      exact ⟨hf, o, hp, hc⟩
  · rw [List.nodup_append]
    exact ⟨R.ok.nd, by simp, fun a ha b hb e => by
      have : b = p := by simpa using hb
      subst this
      subst e
      exact ho ha⟩
  · obtain ⟨y, a, b⟩ := R.slv i x h
    obtain ⟨y0, a0, b0⟩ := R0.slv i x h
    rw [a] at a0
    cases a0
    refine ⟨y, a, ?_⟩
    have nin : ∀ {q : Addr} {u : HO}, q ∉ os → H0 q = some u → q ∉ os ++ [p] := fun {q u} h1 h2 h3 => by
      rcases List.mem_append.mp h3 with z | z
      · exact h1 z
      · have : q = p := by simpa using z
        subst this
        rw [h0] at h2; cases h2
    cases b with
    | dat r => exact .dat r
    | fr f1 o1 h1 r1 =>
      cases b0 with
      | fr _ _ h2 _ => exact .fr f1 (nin o1 h2) h1 r1
    | bor f1 o1 h1 r1 =>
      cases b0 with
      | bor _ _ h2 _ => exact .bor f1 (nin o1 h2) h1 r1
    | obj r => exact .obj (by rw [List.getElem?_append_left (List.getElem?_eq_some_iff.mp r).1]; exact r)
    | scr r s => exact .scr r s
  · obtain ⟨m, e1, e2⟩ := R.bs.os
    refine ⟨m ++ [p], by rw [e1, List.append_assoc], fun a ha => ?_⟩
    rcases List.mem_append.mp ha with z | z
    · exact e2 a z
    · have : a = p := by simpa using z
      subst this
      exact hB
theorem setO_ok {K : Kx} {i : Nat} {E : Ends} {σ : L2.St} {H : Hp} (h : tS K W (setO i m) E σ H) : tAsg (tM K W m) (gName i) E σ H := by
  obtain ⟨B, F, os, env, st, R, h⟩ := h
  refine ⟨B, F, os, env, st, R, PoS.bind R h ?_⟩
  intro v st1 x F1 os1 H1 ev e1 R1 r1 f1 p1
  split at p1
  · rename_i c
    cases r1 with
    | @fr p o _ hf ho hp r =>
    have h0 := f1 _ _ rfl rfl
    have R2 := R.newObj h0 R1 hf ho hp r
    refine p1 F1 _ _ H1 (R2.set (.obj ?_) rfl fun _ _ h _ => nomatch h)
    have e2 : os1.length = st1.length := R1.ok.len
    rw [List.getElem?_append_right (by omega), ← e2]
    simp
  · exact False.elim p1
theorem ps_so {i : Nat} {x : Str} {pos' : Pos} (hN : X.N.Nodup) (hi : X.N[i]? = some x) (hx : Loc X.env.scope x) (he : PE X e (tM (kx X ec) W m)) (hs : swapsWith e (some (.Name x pos')) pos.line X.env = pure false := by rfl) (hf : X.fn x = true ∨ X.env.scope.names.lookup x = some .local := by first | exact .inl rfl | exact .inr rfl | assumption) :
    PS X (.Assign [.Name x pos'] e pos) (tS (kx X ec) W (setO i m)) := (ps_set hN hi hx he hs hf).imp fun _ _ _ => setO_ok
/-- a, b, .. = a tuple -/
def unpM (tg : Tg) (m : EM) : SM := fun env st => (m env st).bindS env fun v st1 => match v with
  | .dat d => match bindT tg d env with
    | some env' => .nx env' st1
    | none => .stk
  | _ => .stk
theorem ps_un {tgt : Tg} {g : TG} {tge : Expr} (he : PE X e (tM (kx X ec) W m)) (hgp : PG X tge g) (hg : TgOk pr X ec tgt g) (hs : swapsWithSole [tge] e pos.line X.env = pure false := by rfl) (hw : swappedStores [tge] e X.env = pure none := by rfl)
    (h1 : (assignEach [tge] X.env).map (·.2) = [assign tge X.env] := by rfl) : PS X (.Assign [tge] e pos) (tS (kx X ec) W (unpM tgt m)) := (ps_asg he hgp hs hw h1).imp fun E σ H h => by
  obtain ⟨B, F, os, env, st, R, h⟩ := h
  refine ⟨B, F, os, env, st, R, PoS.bind R h ?_⟩
  intro v st1 x F1 os1 H1 ev e1 R1 r1 f1 p1
  split at p1
  · rename_i d
    cases r1 with
    | dat r1 =>
      cases hb : bindT tgt d env with
      | none => rw [hb] at p1; exact False.elim p1
      | some env' =>
        rw [hb] at p1
        exact hg B F1 os1 σ H1 env st1 x d env' _ R1 (.inl r1) hb fun σ' R' _ => p1 F1 os1 σ' H1 R'
  · exact False.elim p1

/-! ### repr -/
/-- the place of sys.modules is the module's own and no list -/
def SysM (base : Heap) : Prop := ∃ o, base.get? sysModules = some o
theorem pairs_kv {P : Program} {w : World} : ∀ {es : List DictEntry} {kvs : List (Key × V)} {vs : List (Key × Value)}, Pairs (mixKind P w) es vs → KV kvs vs → Vals (kvs.map fun kv => kV kv.1) (es.map (·.key)) ∧ Vals (kvs.map (·.2)) (es.map (·.val))
  | _, _, _, .nil, .nil => ⟨.nil, .nil⟩
  | _, _, _, .cons a b c, .cons d e => by
    obtain ⟨h1, h2⟩ := pairs_kv c e
    refine ⟨.cons ?_ h1, .cons ?_ h2⟩
    · dsimp only; rw [d.1]; exact relV_key a
    · dsimp only; rw [b]; exact d.2
theorem dct_reads {pins : List (Addr × Obj)} {σ : L2.St} {H : Hp} {s : Shared} (I : Inv X pins σ H s) {p : Addr} {kvs : List (Key × V)} (hp : H p = some (.dK kvs)) :
    (p == sysModules) = false ∧ ∃ (o : Obj) (es : Array DictEntry) (ep : Nat), s.heap.get? p = some o ∧ o.cls = .type "dict" ∧ o.data = .dict es ep ∧
      Vals (kvs.map fun kv => kV kv.1) (es.toList.map (·.key)) ∧ Vals (kvs.map (·.2)) (es.toList.map (·.val)) := by
  obtain ⟨hl, hs, vs, r, o, es, ep, h1, h2, h3, h4, h5, h6⟩ := (show ObjOk X.prog X.w H s.heap p (.dK kvs) from I.hok p _ hp)
  obtain ⟨q1, q2⟩ := pairs_kv h5 r
  exact ⟨hs, o, es, ep, h1, h2.1, h3, q1, q2⟩
theorem drk_split {K : Kx} {F : Hp} : ∀ {kvs : List (Key × V)} {ds : List (D × D)}, Drk K F kvs ds → Drs K F (kvs.map fun kv => kV kv.1) (ds.map (·.1)) ∧ Drs K F (kvs.map (·.2)) (ds.map (·.2))
  | _, _, .nil => ⟨.nil, .nil⟩
  | _, _, .cons a b c => ⟨.cons a (drk_split c).1, .cons b (drk_split c).2⟩
def notL : D → Bool
  | .list _ => false
  | _ => true
mutual
/-- no error anywhere within -/
def okD : D → Bool
  | .list ds => okDs ds
  | .tuple ds => okDs ds
  | .dict ds => okDk ds
  | _ => true
def okDs : List D → Bool
  | [] => true
  | d :: ds => okD d && okDs ds
def okDk : List (D × D) → Bool
  | [] => true
  | (k, d) :: ds => notL k && (okD k && (okD d && okDk ds))
end
mutual
theorem Dr.reads {pins : List (Addr × Obj)} {σ : L2.St} {H : Hp} {s : Shared} (I : Inv X pins σ H s) (hsys : SysM X.base) : ∀ (d : D) (v : V) (u : Value), okD d = true → Dr (kx X ec) H v d → RelV v u → ∃ as, Reads s.heap u d as ∧ sysModules ∉ as
  | .none, _, _, _, h, r => by
    cases h
    cases r
    exact ⟨_, Reads.none, by simp⟩
  | .bool b, _, _, _, h, r => by
    cases h
    cases r
    exact ⟨_, Reads.bool b, by simp⟩
  | .int i, _, _, _, h, r => by
    cases h
    obtain ⟨t, rfl⟩ := r
    exact ⟨_, Reads.int i t, by simp⟩
  | .str x, _, _, _, h, r => by
    cases h
    obtain ⟨t, rfl⟩ := r
    exact ⟨_, Reads.str x t, by simp⟩
  | .list ds, _, _, o, h, r => by
    cases h with
    | @lst a xs _ hs ha =>
      cases r
      have od := o
      obtain ⟨its, rv, ⟨o, n, ho, hc, _, hd⟩, _⟩ := I.list (SqL.of hs)
      obtain ⟨as, hr, hn⟩ := Drs.reads I hsys ds _ its (by simpa [okD] using od) ha rv
      refine ⟨_, Reads.list ho hc hd hr, ?_⟩
      obtain ⟨o2, h2⟩ := hsys
      have ne : sysModules ≠ a := fun z => by
        have q := (I.bs _ _ h2).2
        rw [z, hs] at q
        cases q
      simp only [List.mem_cons, not_or]
      exact ⟨ne, hn⟩
  | .tuple ds, _, _, od, h, r => by
    cases h with
    | tup hs _ ha =>
      cases r
      obtain ⟨its, rv, ⟨o, ho, hc, n, hd⟩, _⟩ := I.tuple hs
      obtain ⟨as, hr, hn⟩ := Drs.reads I hsys ds _ its (by simpa [okD] using od) ha rv
      exact ⟨_, Reads.tuple ho hc hd hr, hn⟩
  | .dict ds, _, _, od, h, r => by
    cases h with
    | err a b x q => simp [okD, okDk, notL] at od
    | erp a b => simp [okD, okDk, notL] at od
    | @dct a kvs _ hs ha =>
      cases r
      obtain ⟨hsm, o, es, ep, h1, h2, h3, q1, q2⟩ := dct_reads I hs
      obtain ⟨as, bs, hr1, hr2, n1, n2⟩ := Drk.reads I hsys ds _ _ _ (by simpa [okD] using od) ha q1 q2
      refine ⟨_, Reads.dict h1 h2 h3 hr1 hr2, ?_⟩
      have ne : sysModules ≠ a := fun z => by
        rw [z] at hsm
        simp at hsm
      simp only [List.cons_append, List.mem_cons, List.mem_append, not_or]
      exact ⟨ne, n1, n2⟩
theorem Drs.reads {pins : List (Addr × Obj)} {σ : L2.St} {H : Hp} {s : Shared} (I : Inv X pins σ H s) (hsys : SysM X.base) : ∀ (ds : List D) (vs : List V) (us : List Value), okDs ds = true → Drs (kx X ec) H vs ds → Vals vs us → ∃ as, ReadsAll s.heap us ds as ∧ sysModules ∉ as
  | [], _, _, _, h, r => by
    cases h
    cases r
    exact ⟨_, ReadsAll.nil, by simp⟩
  | d :: ds, _, _, od, h, r => by
    have od' : okD d = true ∧ okDs ds = true := by simpa [okDs] using od
    cases h with
    | cons h1 h2 =>
      cases r with
      | cons r1 r2 =>
        obtain ⟨as, q1, n1⟩ := Dr.reads I hsys d _ _ od'.1 h1 r1
        obtain ⟨bs, q2, n2⟩ := Drs.reads I hsys ds _ _ od'.2 h2 r2
        refine ⟨_, ReadsAll.cons q1 q2, ?_⟩
        simp only [List.mem_append, not_or]
        exact ⟨n1, n2⟩
theorem Drk.reads {pins : List (Addr × Obj)} {σ : L2.St} {H : Hp} {s : Shared} (I : Inv X pins σ H s) (hsys : SysM X.base) : ∀ (ds : List (D × D)) (kvs : List (Key × V)) (ks vs : List Value), okDk ds = true → Drk (kx X ec) H kvs ds → Vals (kvs.map fun kv => kV kv.1) ks → Vals (kvs.map (·.2)) vs →
    ∃ as bs, ReadsAll s.heap ks (ds.map (·.1)) as ∧ ReadsAll s.heap vs (ds.map (·.2)) bs ∧ sysModules ∉ as ∧ sysModules ∉ bs
  | [], _, _, _, _, h, r1, r2 => by
    cases h
    cases r1
    cases r2
    exact ⟨_, _, ReadsAll.nil, ReadsAll.nil, by simp, by simp⟩
  | (e, d) :: ds, _, _, _, od, h, r1, r2 => by
    have od' : notL e = true ∧ okD e = true ∧ okD d = true ∧ okDk ds = true := by simpa [okDk] using od
    cases h with
    | cons h1 h2 h3 =>
      cases r1 with
      | cons p1 p2 =>
        cases r2 with
        | cons q1 q2 =>
          obtain ⟨as, a1, a2⟩ := Dr.reads I hsys e _ _ od'.2.1 h1 p1
          obtain ⟨bs, b1, b2⟩ := Dr.reads I hsys d _ _ od'.2.2.1 h2 q1
          obtain ⟨cs, es, c1, c2, c3, c4⟩ := Drk.reads I hsys ds _ _ _ od'.2.2.2 h3 p2 q2
          refine ⟨_, _, ReadsAll.cons a1 c1, ReadsAll.cons b1 c2, ?_, ?_⟩
          · simp only [List.mem_append, not_or]; exact ⟨a2, c3⟩
          · simp only [List.mem_append, not_or]; exact ⟨b2, c4⟩
end
def rRepr (K : Kx) : List V → Hp → VK → Prop := fun xs H Q => ∃ x d, xs = [x] ∧ Dr K H x d ∧ okD d = true ∧ d.showable = true ∧ d.depth ≤ 60 ∧ d.shown.length ≤ sizeLine ∧ Q (.str d.shown) H
theorem call_repr (hsys : SysM X.base) (hgd : X.A.guards = some []) (hu : X.A.units + 64 < cLine) : CallR X (.builtin "repr") (rRepr (kx X ec)) := by
  intro pins s σ H xs us Q I r h
  obtain ⟨x, d, rfl, hd, hod, hs, hdp, hz, q⟩ := h
  obtain ⟨u, rfl, ru⟩ := vals1 r
  obtain ⟨as, rd, hn⟩ := Dr.reads I hsys d x u hod hd ru
  have fin : ∀ h' t tk, (∀ b o, s.heap.get? b = some o → h'.get? b = some o) → EP X pins σ Q (.str d.shown t) { s with heap := h', toks := tk } := fun h' t tk hk => ⟨.str d.shown, H, I.kept (t' := tk) hk, ⟨_, rfl⟩, q⟩
  cases hd with
  | non =>
    cases ru
    exact PySem.P.repr_of_none (fin s.heap _ _ fun _ _ z => z)
  | bl b =>
    cases ru
    exact PySem.P.repr_of_bool (fin s.heap _ _ fun _ _ z => z)
  | int i =>
    obtain ⟨t, rfl⟩ := ru
    exact PySem.P.repr_of_int (by simpa [PyData.showable] using hs) (fin s.heap _ _ fun _ _ z => z)
  | str z =>
    obtain ⟨t, rfl⟩ := ru
    exact PySem.P.repr_of_str (fin s.heap _ _ fun _ _ z => z) hz
  | lst a b =>
    cases ru
    exact repr_of_reads' rd hs (fun _ => hn) hgd (by omega) (fun _ _ z => z) (fun h' t tk hk => fin h' t tk hk) hz
  | tup a _ b =>
    cases ru
    exact repr_of_reads' rd hs (fun _ => hn) hgd (by omega) (fun _ _ z => z) (fun h' t tk hk => fin h' t tk hk) hz
  | dct a b =>
    cases ru
    exact repr_of_reads' rd hs (fun _ => hn) hgd (by omega) (fun _ _ z => z) (fun h' t tk hk => fin h' t tk hk) hz
  | err a b x q => simp [errD, okD, okDk, notL] at hod
  | erp a b => simp [errD, okD, okDk, notL] at hod
theorem VR.viewD {K : Kx} {F H : Hp} {os : List Addr} {st : List Cn} {x : V} {v : Val} (k : StOk K F os H st) (r : VR K F os H x v) {d : D} (e : asView v = some d) : Dr K H x d := by
  cases r with
  | dat r => cases e; exact Dr.mono k.sub _ _ r
  | fr a b c r =>
    cases r with
    | lst r => cases e; exact .lst c (Drs.mono k.sub _ _ r)
    | dk r => cases e
  | bor a b c r =>
    cases r with
    | lst r => cases e; exact .lst c (Drs.mono k.sub _ _ r)
    | dk r => cases e
  | obj a => cases e
  | scr a b => cases e
def gRepr : List Val → Option Val
  | [v] => match asView v with
    | some d => if okD d = true ∧ d.showable = true ∧ d.depth ≤ 60 ∧ d.shown.length ≤ sizeLine then some (.dat (.str d.shown)) else none
    | none => none
  | _ => none
theorem snd_repr {K : Kx} : SndN K (rRepr K) gRepr := by
  intro F os H st xs vs z Q k r e q
  unfold gRepr at e
  split at e
  · split at e
    · rename_i d hd
      split at e
      · rename_i hh
        cases e
        cases r with
        | cons a b =>
          cases b
          exact ⟨_, d, rfl, a.viewD k hd, hh.1, hh.2.1, hh.2.2.1, hh.2.2.2, q _ F H (Ext.refl _ _ _) k (.dat (.str _)) Frs.dat⟩
      · cases e
    · cases e
  · cases e

/-! ### isinstance(x, T) -/
def tyN : D → String
  | .none => "NoneType"
  | .bool _ => "bool"
  | .int _ => "int"
  | .str _ => "str"
  | .list _ => "list"
  | .tuple _ => "tuple"
  | .dict _ => "dict"
def isErr : D → Bool
  | .dict [(.list _, _)] => true
  | _ => false
theorem Dr.ty {K : Kx} {H : Hp} {x : V} {d : D} (ne : isErr d = false) (h : Dr K H x d) : TyX K.K H x (.type (tyN d)) := by
  cases h with
  | non => exact .base .non
  | bl b => exact .base (.bl b)
  | int i => exact .base (.int i)
  | str z => exact .base (.str z)
  | lst a b => exact .base (.lst a)
  | tup a _ b =>
    rcases a with (a | ⟨o, a⟩) | ⟨o, its, n, h1, h2, h3⟩
    · exact .base (.tup a)
    · exact .fTuple a
    · exact .kTuple h1 h2
  | dct a b => exact .base (.dK a)
  | err a b x q => simp [errD, isErr] at ne
  | erp a b => simp [errD, isErr] at ne
def isiM (T : String) (m : EM) : EM := fun env st => (m env st).bind fun v st1 => Ou.of st1 (match asView v with
  | some d => if isErr d = false then (kitB (tyN d) T).map fun b => .dat (.bool b) else none
  | none => none)
theorem pe_isi {T : String} {x : Str} {p px : Pos} (he : PE X e (tM (kx X ec) W m)) (hg : Gl X "isinstance") (hm : X.mg "isinstance" = none) (hgx : Gl X x) (hmx : X.mg x = none) (hv : bootBuiltins x = some (.type T)) (hnx : x ≠ "__name__" := by decide) (hdx : (x == ("__debug__" : Str)) = false := by decide)
    (h1 : starEach [e, .Name x px] X.env = (false, eval e X.env) :: starEach [.Name x px] X.env := by rfl) (h2 : starEach [.Name x px] X.env = (false, eval (.Name x px) X.env) :: starEach [] X.env := by rfl) (h3 : (backTo pos (starEach [.Name x px] X.env)).any (·.1) = false := by rfl) :
    PE X (.Call (.Name "isinstance" p) [e, .Name x px] [] pos) (tM (kx X ec) W (isiM T m)) :=
  (pe_callB call_isi hg hm (by decide +kernel) (pa_cons he (pa_cons (pe_bltn (v := .ty T) hgx hmx hv rfl hnx hdx) pa_nil h2) h1) (by decide) (by decide) h1 h3).imp fun σ H Q h => by
    obtain ⟨B, F, os, env, st, R, h⟩ := h
    refine ⟨B, F, os, env, st, R, Po.bind h ?_⟩
    intro v st1 y F1 os1 H1 ev e1 k1 r1 f1 p1
    obtain ⟨z, hz, q⟩ := p1.of
    cases hd : asView v with
    | none => rw [hd] at hz; cases hz
    | some d =>
      rw [hd] at hz
      dsimp only at hz
      by_cases ne : isErr d = false
      case neg => rw [if_neg ne] at hz; cases hz
      rw [if_pos ne] at hz
      cases hb : kitB (tyN d) T with
      | none => rw [hb] at hz; cases hz
      | some bb =>
        rw [hb] at hz
        cases hz
        exact ⟨y, .ty T, .type (tyN d), .type T, bb, rfl, .ty T, (r1.viewD k1 hd).ty ne, kit_ty hb, q _ _ _ _ e1 k1 (.dat (.bl _)) Frs.dat⟩
end
end Pl

set_option Elab.async false
set_option linter.all false
set_option maxRecDepth 100000
set_option maxHeartbeats 4000000
namespace Pl
open PySem PySem.Spec PyProof.Rows L2

/-! ### the law's end: called by nobody, over a heap of which only the script is tracked -/
/-- the script alone, unless the module itself holds it -/
def scrH (K : PySem.W.Frag) (a : Addr) (ob : Obj) (xs : List V) : Hp := fun b => if b = a ∧ K.lookup a = none then some (.frz ob (.lst xs)) else none
section
variable {K : PySem.W.Frag} {a b : Addr} {ob : Obj} {xs : List V}
theorem scrH_some {u : HO} (h : scrH K a ob xs b = some u) : b = a ∧ K.lookup a = none ∧ u = .frz ob (.lst xs) := by
  unfold scrH at h
  split at h
  · rename_i q
    cases h
    exact ⟨q.1, q.2, rfl⟩
  · cases h
theorem scrH_at (h : K.lookup a = none) : scrH K a ob xs a = some (.frz ob (.lst xs)) := if_pos ⟨rfl, h⟩
end
section
variable {P : Program} {w : World} {K : PySem.W.Frag} {mg mb : Str → Option Value} {ec : List (Addr × Str)} {k : Nat} {fa a : Addr} {fd : FuncData} {x : Str} {s₁ : Shared} {vs : List Value} {ns : List Int} {fm : FM}
theorem law_run (KX : K.In s₁.heap) (hns : s₁.heap.Ns mainGlobals mg) (hb : s₁.heap.Ns builtinsNs mb) (hbb : ∀ x : Str, x ≠ "__name__" → mb x = bootBuiltins x) (hlim : s₁.heap.NoLimit) (hg : s₁.gens = #[])
    (ha : s₁.heap.get? a = some { cls := .type "list", data := .seq vs.toArray }) (hi : IntsAre vs ns) (hl : ns.length ≤ sizeLine) (hr : Room k callerA)
    (hsm : ∃ mm, s₁.heap.Ns sysModules mm) (G : ∀ base : Heap, K.In base → base.Ns mainGlobals mg → SysM base → FnG P w K mg base (L2.CX P w) k fa fd [x] (spOf ⟨K, ec⟩ 1 fm)) (hbind : ∀ (s : Shared) (u : Value), BindsTo s fd ⟨[u], []⟩ [(x, u)])
    (law : ∃ st, fm [.scr (ns.map PyData.int)] [] = .ok (.dat (.bool true)) st) :
    codeAny (model P w) callerA (.call (.ref fa) ⟨[.ref a], []⟩) (fun r s' => r = .ok (.ret (.bool true)) ∧ OldK s₁.heap s'.heap ∧ s'.os = s₁.os ∧ AllBare s'.gens) s₁ := by
  have rv : Vals (ns.map V.int) vs := vals_of_ints hi
  have H0 : ∀ {b : Addr} {u : HO}, scrH K a { cls := .type "list", data := .seq vs.toArray } (ns.map V.int) b = some u → b = a ∧ K.lookup a = none ∧ u = .frz { cls := .type "list", data := .seq vs.toArray } (.lst (ns.map V.int)) := fun h => scrH_some h
  have Hn : ∀ {b : Addr}, b ≠ a → scrH K a { cls := .type "list", data := .seq vs.toArray } (ns.map V.int) b = none := fun {b} h => if_neg fun z => h z.1
  have Hk : ∀ {o : Obj}, K.lookup a = some o → ∀ b, scrH K a { cls := .type "list", data := .seq vs.toArray } (ns.map V.int) b = none := fun {o} h b => if_neg fun z => by rw [h] at z; exact nomatch z.2
  generalize hH : scrH K a { cls := .type "list", data := .seq vs.toArray } (ns.map V.int) = H at H0 Hn Hk
  have hok : HOk P w H s₁.heap := fun b u h => by
    obtain ⟨e1, _, e2⟩ := H0 h
    subst e1 e2
    exact ⟨ha, by rw [List.length_map]; exact hl, vs, _, rv, ha⟩
  have seq : SqL K H a (ns.map V.int) := by
    cases hk : K.lookup a with
    | none => exact .inl (.inr ⟨_, by rw [← hH]; exact scrH_at hk⟩)
    | some o =>
      have e := KX a o hk
      rw [ha] at e
      cases e
      exact .inr ⟨_, vs.toArray, _, hk, rfl, rfl, rfl, by rw [List.size_toArray, hi.length]; exact hl, by simpa using rv⟩
  -- what the script is not stands in the base
  have down : ∀ {b : Addr} {o : Obj}, s₁.heap.get? b = some o → b ≠ a ∨ (∃ o', K.lookup a = some o') → (hidT s₁.heap H).get? b = some o := fun {b o} e q => hidT_get e (q.elim (fun z => Hn z) fun ⟨o', z⟩ => Hk z b)
  have dct : ∀ {b : Addr} {o : Obj} {es : Array DictEntry} {ep : Nat}, s₁.heap.get? b = some o → o.data = .dict es ep → b ≠ a := fun {b o es ep} e d z => by
    rw [z, ha] at e
    cases e
    cases (show Data.seq vs.toArray _ = Data.dict es ep from d)
  have nsb : ∀ {b : Addr} {m : Str → Option Value}, s₁.heap.Ns b m → (hidT s₁.heap H).Ns b m := fun {b m} ⟨o, es, ep, e, d, r⟩ => ⟨o, es, ep, down e (.inl (dct e d)), d, r⟩
  have Kb : K.In (hidT s₁.heap H) := fun b o e => down (KX b o e) (by
    by_cases z : b = a
    · exact .inr ⟨o, by rw [← z]; exact e⟩
    · exact .inl z)
  have hsb : SysM (hidT s₁.heap H) := by
    obtain ⟨mm, hmm⟩ := hsm
    obtain ⟨o, es, ep, e, _⟩ := nsb hmm
    exact ⟨o, e⟩
  have md : Mod K mg (hidT s₁.heap H) := ⟨Kb, nsb hns, ⟨mb, nsb hb, hbb⟩, hlim.elim fun mc q => ⟨mc, nsb q.1, q.2⟩⟩
  have e0 : Env0 P w K mg (hidT s₁.heap H) callerA [] s₁ H := ⟨rfl, md, fun b o e => of_hidT e, Nat.le_of_eq (hidT_size _ _), trivial, (fun b z => absurd z (by simp [frs])), hok, .of_eq hg⟩
  obtain ⟨stL, hlaw⟩ := law
  have sp : spOf ⟨K, ec⟩ 1 fm [.ref a] H (fun v _ => v = .bl true) fun _ _ _ => False := by
    have drs : ∀ ns : List Int, Drs ⟨K, ec⟩ H (ns.map V.int) (ns.map PyData.int) := fun ns => by
      induction ns with
      | nil => exact .nil
      | cons n ns ih => exact .cons (.int n) ih
    refine ⟨H, [], [.scr (ns.map PyData.int)], [], ⟨L2.Same.refl H, rfl, fun n a c h _ => by simp at h, List.nodup_nil⟩, .cons (.scr seq (drs ns)) .nil, rfl, rfl, ?_⟩
    rw [hlaw]
    exact fun x' F' os' H' _ _ r _ => r.bool
  refine codeAny_mono ((G _ Kb (nsb hns) hsb).run (us := [.ref a]) (vs := [.ref a]) hr rfl e0 (hbind s₁ (.ref a)) (.cons rfl .nil) sp) fun r s' h => ?_
  cases r with
  | error e =>
    obtain ⟨_, _, _, _, _, _, _, _, _, _, _, _, z⟩ := h
    exact z.elim
  | ok fl =>
    cases fl with
    | next => exact h.elim
    | brk => exact h.elim
    | cont => exact h.elim
    | ret u =>
      obtain ⟨v, H', os, bare, un, hok', r', q⟩ := h
      have q' : v = .bl true := q
      subst q'
      obtain rfl : u = Value.bool true := r'
      refine ⟨rfl, OldK.of_keep fun b o e => ?_, os, bare⟩
      cases q : H b with
      | none => exact un.keep b o e q (fun z => nomatch z) (fun z => nomatch z)
      | some u =>
        obtain ⟨e1, _, e2⟩ := H0 q
        subst e1 e2
        have z := hok' b _ (un.frzs b _ _ q)
        rw [ha] at e
        cases e
        exact z.1
end
theorem sys_ns {h : Heap} (x : h.NoSeer) : ∃ mm, h.Ns sysModules mm := by
  exact x.mods.elim fun mm h => ⟨mm, h.1⟩
/-- the goal that k_head leaves -/
theorem walk_law {l : PySem.W.OpenLaw} {n k : Nat} {q : Program} {loose : List Str} {XP : (Str → Option Value) → Heap → Prop} {YP : World → Heap → Prop} {d : DefRec} {K : Params → PySem.W.Frag} {x : Str} {fm : FM}
    (hn : l.most = some n) (hn2 : n ≤ sizeLine) (hdf : d.params.defaults = []) (himp : importsNone q = true) (hr : Room k callerA) (hY : ∀ (w : World) (h : Heap), YP w h → (K w.params).In h)
    (F : ∀ (w : World) (mg : Str → Option Value) (fa : Addr) (h : Heap), (K w.params).In h → h.Ns mainGlobals mg → mg d.name = some (.ref fa) →
      ∃ (ec : List (Addr × Str)) (fd : FuncData), (∀ (s : Shared) (u : Value), BindsTo s fd ⟨[u], []⟩ [(x, u)]) ∧ ∀ base : Heap, (K w.params).In base → base.Ns mainGlobals mg → SysM base → FnG l.prog w (K w.params) mg base (L2.CX l.prog w) k fa fd [x] (spOf ⟨K w.params, ec⟩ 1 fm))
    (law : ∀ ns : List Int, ns.length ≤ n → ∃ st, fm [.scr (ns.map PyData.int)] [] = .ok (.dat (.bool true)) st) : PySem.W.WalkO q loose XP YP l.row.toRowW d [] (fun f vs => PySem.call f vs) := by
  refine Att.attach_call hn hdf fun w s₀ s₁ mg mb fa o pm cd doc a vs ns G Y ho hd hcd hmg hobj hints hlen hg => ?_
  obtain ⟨ec, fd, hb, hF⟩ := F w mg fa _ (hY w _ Y) G.T.g hmg
  exact law_run (hY w _ Y) G.T.g G.T.b G.T.builtins G.T.nolimit hg hobj hints (Nat.le_trans hlen hn2) hr (sys_ns (G.T.seer himp)) hF hb (law ns hlen)
/-- a def of the text behind the top: its function at f, bound to its name -/
structure Dfn (K : PySem.W.Frag) (mg : Str → Option Value) (x : Str) (st : Stmt) (ps : List Str) (f : Addr) (fd : FuncData) : Prop where
  F : Fun K x x st f fd
  mg : mg x = some (.ref f)
  b : Binds K fd ps []
end Pl

set_option Elab.async false
set_option linter.all false
set_option maxRecDepth 100000
set_option maxHeartbeats 4000000
namespace Pl
open PySem PySem.Spec PyProof.Rows L2 PySem.W PySem.Calls

/-! ### an own error: its class, its __init__ -/
abbrev initS (f : Str) : Scope := { kind := .function, names := [(PySem.Str.ofString "self", .local), (f, .local), (PySem.Str.ofString "__class__", .free), (PySem.Str.ofString "super", .globalImplicit)], isGenerator := false, isCoroutine := false, more := [] }
/-- an error's __init__, as a function -/
abbrev initF (qual f m : Str) (dV kV doc pm ct : Value) (an : Option Addr) (cc cda : Addr) (p1 p2 q0 q1 q2 q3 q4 q5 q6 q7 q8 q9 : Pos) : FuncData := ksFn "__init__" qual { posonlyargs := [], args := [{ arg := "self", annotation := none, pos := p1 }, { arg := f, annotation := none, pos := p2 }], vararg := none, kwonlyargs := [], kw_defaults := [], kwarg := none, defaults := [] }
          [.Expr (.Call (.Attribute (.Call (.Name "super" q0) [] [] q1) "__init__" q2) [.Constant (.str m) 0 q3] [] q4) q5, .Assign [.Attribute (.Name "self" q6) f q7] (.Name f q8) q9] (initS f) dV kV doc pm an (.ref cda) ct cc
/-- what the written part says of an error class at C (made by D's __init__ at fI, one field f) -/
structure ErrC (P : Program) (K : Frag) (C fI : Addr) (f : Str) : Prop where
  base : ∃ (B newId initId : String) (bmB : List Value), ExcBaseFacts B newId initId bmB ∧ StoreFacts B bmB "object.__setattr__" "object" ∧ KxsFacts B initId ∧ excInitIn K C bmB newId = true ∧ excOver K C bmB = true ∧ subIn K (.ref C) (.type B) = some true ∧
    ∃ D, ks_superIn K C D "__init__" = some (some (.builtin initId)) ∧ mroIn K C (.ref D) = some true ∧ (clsIn K D).isSome = true ∧
      ∃ (qual m : Str) (oc dV kV doc pm ct ccl cl : Value) (od an cdd cld : Option Addr) (osl ccs csl : Array (Option Value)) (cc cda : Addr) (vs : Array Value) (file : Str) (tf : Tok) (jj : Option Str) (p1 p2 q0 q1 q2 q3 q4 q5 q6 q7 q8 q9 : Pos),
        K.lookup fI = some ⟨oc, od, .func (initF qual f m dV kV doc pm ct an cc cda p1 p2 q0 q1 q2 q3 q4 q5 q6 q7 q8 q9), osl⟩ ∧
        codeIn K (.ref cda) qual = true ∧ K.lookup cda = some ⟨ccl, cdd, .fields vs, ccs⟩ ∧ vs[2]? = some (.str file tf) ∧ ((P.main.file : Str) == file) = true ∧ K.lookup cc = some ⟨cl, cld, .cell (some (.ref D)), csl⟩ ∧ (q2.endLine == q4.line) = true ∧
        (∀ (s : Shared) (a b : Value), BindsTo s (initF qual f m dV kV doc pm ct an cc cda p1 p2 q0 q1 q2 q3 q4 q5 q6 q7 q8 q9) ⟨[a, b], []⟩ [("self", a), (f, b)]) ∧
        (∀ (s : Shared) (a b : Value), BindsTo s (initF qual f m dV kV doc pm ct an cc cda p1 p2 q0 q1 q2 q3 q4 q5 q6 q7 q8 q9) ⟨[a], [(f, b)]⟩ [("self", a), (f, b)])
  sup : nsIn K mainGlobals "super" = some none
  top : (P.main.scope.names.lookup ("super" : Str)).isSome = false
  any : nsIn K cStatics "thirdparty.any" = some none
  iC : findIn K (.ref C) "__init__" = some (some (.ref fI))
  tC : typeIn K (.ref fI) = some (.type "function")
  sa : findIn K (.ref C) "__setattr__" = some (some (.builtin "object.__setattr__"))
  noN : findIn K (.ref C) f = some none
  hdC : hasDictIn K C = true
  fs : (f == ("self" : Str)) = false
  fdb : (f == ("__debug__" : Str)) = false
  fsu : (("super" : Str) == f) = false
  fcl : (("__class__" : Str) == f) = false

section
variable {prog : Program} {w : World} {A : Around} {E : Value → Shared → Prop} {s : Shared} {h₀ : Heap} {L : Addr} {m mg mb : Str → Option Value} {news : List (Addr × Obj)} {K : Frag} {x C D f cc cda : Addr} {ox : Obj} {odx : Option Obj}
/-- super() in a def of a class: the object of super -/
theorem sup_node {body : List Stmt} {q : Str} {scope : Scope} {p0 p1 : Pos} {attr : Str} {whole : Sem Value} {fd : FuncData} {ar : Arg} {vs : Array Value} {file : Str} {tf : Tok} {oc ccl cl : Value} {od cdd cld : Option Addr} {osl ccs csl : Array (Option Value)} {cdD : ClassData} {Q : Value → Shared → Prop}
    (F : Fr h₀ L s.heap m) (X₀ : K.In h₀) (N : News h₀ L s.heap news) (Tg : h₀.Ns mainGlobals mg) (Tb : h₀.Ns builtinsNs mb) (hmb : ∀ x : Str, x ≠ "__name__" → mb x = bootBuiltins x)
    (hf : K.lookup f = some ⟨oc, od, .func fd, osl⟩) (hp : (fd.params.posonlyargs ++ fd.params.args).head? = some ar) (hv : m ar.arg = some (.ref x)) (I : InstAt s.heap x ox C odx)
    (hcode : K.lookup cda = some ⟨ccl, cdd, .fields vs, ccs⟩) (hvs : vs[2]? = some (.str file tf)) (hfile : ((prog.main.file : Str) == file) = true)
    (hcell : K.lookup cc = some ⟨cl, cld, .cell (some (.ref D)), csl⟩) (hD : clsIn K D = some cdD) (hsub : mroIn K C (.ref D) = some true) (hsuper : nsIn K mainGlobals "super" = some none)
    (hat : (attr == ("__class__" : Str)) = false) (hks : scope.names.lookup ("super" : Str) = some .globalImplicit) (hkc : scope.names.lookup ("__class__" : Str) = some .free) (hka : scope.names.lookup ar.arg = some .local) (hk : scope.kind = .function)
    (htop : (prog.main.scope.names.lookup ("super" : Str)).isSome = false)
    (h : ∀ so h', Fr h₀ L h' m → News h₀ L h' ((so, ks_superObj D x C) :: news) → (∀ p ∈ news, p.1 < so) → Q (.ref so) { s with heap := h' }) :
    _root_.PySem.wpAt (model prog w) A (.func body (ksEnv q scope L f (.ref cda) cc)) (attributeBase (.Call (.Name "super" p0) [] [] p1) attr (ksEnv q scope L f (.ref cda) cc) whole) Q E s := by
  have X : K.In s.heap := X₀.keeps F.keep
  have cls : ∃ oD, s.heap.get? D = some oD ∧ oD.data = .cls cdD := by
    unfold clsIn at hD
    split at hD
    · rename_i ho
      cases hD
      exact ⟨_, X _ _ ho, rfl⟩
    · cases hD
  obtain ⟨oD, e1, e2⟩ := cls
  refine ks_wpAt_super_base (env := ksEnv q scope L f (.ref cda) cc) hks hkc hat rfl (X _ _ hf) rfl hp rfl (X _ _ hcode) rfl hvs hfile htop ?_
  have hboot : bootBuiltins "super" = some (.type "super") := by first | rfl | kernel_rfl
  refine ks_loadName_global hk hks (loadGlobal_builtin (env := ksEnv q scope L f (.ref cda) cc) (Tg.keeps F.keep) (mg_none_of X₀ Tg hsuper) (Tb.keeps F.keep) ((hmb _ (by decide +kernel)).trans hboot) ⟨rfl, ?_⟩)
  refine wpAny_loadName_free hk hkc rfl ⟨_, X _ _ hcell, rfl⟩ ?_
  refine wpAny_loadName_local hk hka F.ns hv ?_
  refine ks_wpAny_isType_cls e1 e2 ⟨rfl, ?_⟩
  obtain ⟨hh, g, d, t, os⟩ := s
  refine ks_wpAny_call_super e1 e2 I.at_ I.cls (fun c e => ?_) (looks_mroIn X hsub) (fun h' e k => ?_)
  · have := I.no
    unfold notCls at this
    rw [e] at this
    cases this
  · obtain ⟨F', N', l'⟩ := ks_newsPush (s := ⟨hh, g, d, t, os⟩) F N rfl e k
    exact h _ _ F' N' l'
end
/-- what __init__ leaves -/
structure InitEnd (h h' : Heap) (x C dx : Addr) (f : Str) (v : Value) : Prop where
  keep : ∀ b o, b ≠ x → h.get? b = some o → h'.get? b = some o
  obj : ∃ t : Addr, h'.get? x = some (excObj C t (some dx) .none)
  dbig : h.objs.size ≤ dx
  dne : dx ≠ x
  ns : h'.Ns1 dx (fun y => if y = f then some v else none)
section
variable {P : Program} {w : World} {A : Around} {R : Result → Shared → Prop} {s : Shared} {K : Frag} {mg mb : Str → Option Value} {h₀ : Heap} {C fI : Addr} {f : Str}
theorem err_init (T : ErrC P K C fI f) {x t : Addr} {v : Value} {hg : Heap} (Xg : K.In hg) (Tg0 : hg.Ns mainGlobals mg) (Tb0 : hg.Ns builtinsNs mb) (hmb : ∀ x : Str, x ≠ "__name__" → mb x = bootBuiltins x) (hlim0 : hg.NoLimit) (kg : ∀ b o, hg.get? b = some o → s.heap.get? b = some o)
    (hg0 : hg.get? x = none) (hx : s.heap.get? x = some (excObj C t none .none)) (hroom : A.depth < recursionLimit) {args : Args} (ha : args = ⟨[.ref x, v], []⟩ ∨ args = ⟨[.ref x], [(f, v)]⟩)
    (hq : ∀ h' tk dx, InitEnd s.heap h' x C dx f v → R (.ok (.ret .none)) { s with heap := h', toks := tk }) :
    codeAny (model P w) A (.call (.ref fI) args) R s := by
  obtain ⟨B, newId, initId, bmB, FB, SF, KF, qi, qo, hB, D, hm, hmro, hcD, qual, m, oc, dV, kV, doc, pm, ct, ccl, cl, od, an, cdd, cld, osl, ccs, csl, cc, cda, vs, file, tf, jj, p1, p2, q0, q1, q2, q3, q4, q5, q6, q7, q8, q9, lk, hcd, lc, hvs, hfile, lcc, hq24, b1, b2⟩ := T.base
  have s1 : (initS f).names.lookup ("self" : Str) = some .local := rfl
  have s2 : (initS f).names.lookup f = some .local := by simp [List.lookup, T.fs]
  have s3 : (initS f).names.lookup ("__class__" : Str) = some .free := by
    have h1 : (("__class__" : Str) == ("self" : Str)) = false := by decide
    simp [List.lookup, T.fcl, h1]
  have s4 : (initS f).names.lookup ("super" : Str) = some .globalImplicit := by
    have h1 : (("super" : Str) == ("self" : Str)) = false := by decide
    have h2 : (("super" : Str) == ("__class__" : Str)) = false := by decide
    simp [List.lookup, T.fsu, h1, h2]
  have s5 : ∀ x ∈ (initS f).names, x.2 ≠ .cell := by simp
  obtain ⟨cdD, hcD⟩ := Option.isSome_iff_exists.mp hcD
  obtain ⟨h₀, eh⟩ : ∃ h₀, h₀ = hideAll s.heap [x] := ⟨_, rfl⟩
  have k1 : ∀ b o, b ≠ x → s.heap.get? b = some o → h₀.get? b = some o := fun b o n e => by rw [eh]; exact hideAll_get _ e (by simpa using n)
  have k0 : ∀ b o, h₀.get? b = some o → s.heap.get? b = some o := fun b o e => by rw [eh] at e; exact of_hideAll _ e
  have hx0 : h₀.get? x = none := by rw [eh]; exact hideAll_none _ (by simp)
  have hsz : h₀.objs.size ≤ s.heap.objs.size := by rw [eh]; exact Nat.le_of_eq (hideAll_size _ _)
  have kk : ∀ b o, hg.get? b = some o → h₀.get? b = some o := fun b o e => k1 b o (fun z => by rw [z, hg0] at e; cases e) (kg b o e)
  have X₀ := Xg.keeps kk
  have Tg := Tg0.keeps kk
  have Tb := Tb0.keeps kk
  have hlim := hlim0.keeps kk
  have X := X₀.keeps k0
  have kz : ∀ b o, s.heap.get? b = some o → b ≠ s.heap.objs.size := fun b o e => Nat.ne_of_lt (Heap.lt_size e)
  have bb : BindsTo s (initF qual f m dV kV doc pm ct an cc cda p1 p2 q0 q1 q2 q3 q4 q5 q6 q7 q8 q9) args [("self", .ref x), (f, v)] := by
    rcases ha with rfl | rfl
    · exact b1 _ _ _
    · exact b2 _ _ _
  refine ks_codeAny_call_defAt (fd := initF qual f m dV kV doc pm ct an cc cda p1 p2 q0 q1 q2 q3 q4 q5 q6 q7 q8 q9) (binds := [("self", .ref x), (f, v)]) hroom (X _ _ lk) rfl (hlim.keeps k0) (codeRec_of X hcd) rfl bb s5 ?_ (fun h1 hns hk1 => ?_)
  · intro y hy
    simp only [List.mem_cons, List.not_mem_nil, or_false] at hy
    rcases hy with rfl | rfl
    · exact s1
    · exact s2
  have fs := T.fs
  have F : Fr h₀ s.heap.objs.size h1 (fun y => List.lookup y ([("self", Value.ref x), (f, v)] : List (Str × Value)).reverse) := ⟨hns, fun b o e => hk1 b o (k0 b o e), hsz⟩
  have N : News h₀ s.heap.objs.size h1 [(x, excObj C t none .none)] := fun p hp => by
    rw [List.mem_singleton] at hp
    subst hp
    exact ⟨hk1 _ _ hx, kz _ _ hx, hx0⟩
  have vself : (fun y => List.lookup y ([("self", Value.ref x), (f, v)] : List (Str × Value)).reverse) "self" = some (.ref x) := by
    have : (("self" : Str) == f) = false := by rw [Bool.eq_false_iff] at fs ⊢; intro z; apply fs; rw [beq_iff_eq] at z ⊢; exact z.symm
    simp [List.lookup, this]
  have vf : (fun y => List.lookup y ([("self", Value.ref x), (f, v)] : List (Str × Value)).reverse) f = some v := by simp [List.lookup]
  generalize henv : callEnv (initF qual f m dV kV doc pm ct an cc cda p1 p2 q0 q1 q2 q3 q4 q5 q6 q7 q8 q9) s.heap.objs.size fI = env
  have he : eval (.Call (.Attribute (.Call (.Name "super" q0) [] [] q1) "__init__" q2) [.Constant (.str m) 0 q3] [] q4) env = (do
      let ov ← attributeBase (.Call (.Name "super" q0) [] [] q1) "__init__" env (eval (.Call (.Name "super" q0) [] [] q1) env)
      standAt q2.atName
      let (f, first) ← holding [ov] (getMethod ov "__init__" (do return (← importBound (.Call (.Name "super" q0) [] [] q1) env).getD true))
      callWith q4 f first (backTo q4 (starEach [.Constant (.str m) 0 q3] env)) []) := by
    have hp : methodCallPos true (.Call (.Name "super" q0) [] [] q1) env q2 q4 = pure q4 := by
      unfold methodCallPos
      rw [if_pos (by simp [hq24])]
    show (do
      let ov ← attributeBase (.Call (.Name "super" q0) [] [] q1) "__init__" env (eval (.Call (.Name "super" q0) [] [] q1) env)
      standAt q2.atName
      let (f, first) ← holding [ov] (getMethod ov "__init__" (do return (← importBound (.Call (.Name "super" q0) [] [] q1) env).getD true))
      let cp ← methodCallPos true (.Call (.Name "super" q0) [] [] q1) env q2 q4
      callWith cp f first (backTo q4 (starEach [.Constant (.str m) 0 q3] env)) []) = _
    rw [hp]
    rfl
  subst henv
  refine ks_wpAt_execs_cons (ks_wpAt_Expr_any (ks_wpAt_MethodCall (he := he) (sup_node F X₀ N Tg Tb hmb lk rfl vself (InstAt.of_exc0 (t := t) (c2 := .none) N (by simp)) lc hvs hfile lcc hcD hmro T.sup (by decide) s4 s3 s1 rfl T.top ?_)))
  intro so h2 F2 N2 l2
  refine kxs_method (x := x) KF F2 X₀ N2 (by simp) (InstAt.of_exc0 (t := t) (c2 := .none) N2 (by simp)) T.any hm hB (by decide) ?_
  intro q h3 F3 N3 l3
  refine kxs_callWith1 (x := x) (i := initId) N3 (by simp) ?_
  show wpAny _ _ (spliced [(false, eval (.Constant (.str m) 0 q3) _)]) _ _ _
  refine Calls.spliced_cons (wpAny_Constant_str (Calls.spliced_nil ⟨kxs_at N3 (by simp), ?_⟩))
  have xso : x ≠ so := Nat.ne_of_lt (l2 (x, excObj C t none .none) (by simp))
  have xq : x ≠ q := Nat.ne_of_lt (l3 (x, excObj C t none .none) (by simp))
  refine kxs_call (x := x) (t := t) (dv := none) (c2 := .none) F3 X₀ N3 FB qi (by simp) (UpdF.tail (Ne.symm xq) (UpdF.tail (Ne.symm xso) (UpdF.head (fun _ z => nomatch z)))) (by rw [sizeLine_eq]; exact (by decide : 1 ≤ 16777216)) ?_
  intro t' h4 F4 N4 l4
  dsimp only at N4
  show PySem.wpAt _ _ _ (execs [_] _) _ _ _
  refine PySem.wpAt_of_wpAny (wpAny_execs_cons (plainObj_wpAny_Assign_Attribute ?_))
  have hx4 := (N4 (x, excObj C t' none .none) (by simp)).1
  have X4 : K.In h4 := X₀.keeps F4.keep
  have hL4 := F4.ns
  refine nameX_L (cs := initS f) (cl := [("__class__", cc)]) F4 vf ?_ rfl s2 T.fdb
  refine nameX_L (cs := initS f) (cl := [("__class__", cc)]) F4 vself ?_ rfl s1
  obtain ⟨cd, hc, hd'⟩ := any_some T.hdC
  refine set_plain X4 (od := none) ⟨hx4, rfl, rfl, trivial⟩ T.sa (osa_openX (od := none) SF X4 ⟨hx4, rfl, rfl, trivial⟩ qo (by unfold takerIn; rw [T.noN]; rfl) fun b => ?_)
  refine wpAny_bind (wpAny_pure (wpAny_bind (instanceDict_exc hx4 (looks_clsIn X4 hc) hd' ?_)))
  have hxs : x ≠ h4.objs.size := Nat.ne_of_lt (Heap.lt_size hx4)
  refine HandSPX.store_in_new (dx := h4.objs.size) ⟨_, #[], _, (Heap.get?_update_ne _ _ _ _ hxs.symm).trans (Heap.get?_push_at rfl rfl), rfl, fun e he => absurd he (by simp), fun _ => rfl⟩ fun h5 tk5 hn5 hs5 => ?_
  have hx5 : h5.get? x = some (excObj C t' (some h4.objs.size) .none) := (hs5.2 x hxs).trans (Heap.get?_update_self _ (Heap.get?_push_of_some _ hx4) rfl)
  have k5 : ∀ b o, b ≠ x → h4.get? b = some o → h5.get? b = some o := fun b o n e => (hs5.2 b (Nat.ne_of_lt (Heap.lt_size e))).trans ((Heap.get?_update_ne _ _ _ _ n).trans (Heap.get?_push_of_some _ e))
  have kA : ∀ b o, b ≠ x → s.heap.get? b = some o → h5.get? b = some o := fun b o n e => k5 b o n (F4.keep b o (k1 b o n e))
  have dn : s.heap.objs.size ≤ h4.objs.size := Nat.le_of_lt F4.ns.lt
  have z := hq h5 tk5 h4.objs.size ⟨kA, ⟨t', hx5⟩, dn, Ne.symm hxs, hn5⟩
  exact wpAny_execs_nil z
/-- a made error -/
structure Made (h h' : Heap) (e C d : Addr) (f : Str) (v : Value) : Prop where
  keep : ∀ b o, h.get? b = some o → h'.get? b = some o
  big : h.objs.size ≤ e
  obj : ∃ t : Addr, h'.get? e = some (excObj C t (some d) .none)
  dbig : h.objs.size ≤ d
  dne : d ≠ e
  ns : h'.Ns1 d (fun y => if y = f then some v else none)
theorem err_made (T : ErrC P K C fI f) {v : Value} {hg : Heap} (Xg : K.In hg) (Tg0 : hg.Ns mainGlobals mg) (Tb0 : hg.Ns builtinsNs mb) (hmb : ∀ x : Str, x ≠ "__name__" → mb x = bootBuiltins x) (hlim0 : hg.NoLimit) (kg : ∀ b o, hg.get? b = some o → s.heap.get? b = some o) (hroom : A.depth + 1 < recursionLimit)
    (hq : ∀ h' tk e d, Made s.heap h' e C d f v → R (.ok (.ret (.ref e))) { s with heap := h', toks := tk }) :
    codeAny (model P w) A (.call (.ref C) ⟨[v], []⟩) R s := by
  obtain ⟨B, newId, initId, bmB, FB, SF, KF, qi, qo, hB, _⟩ := id T.base
  have X := Xg.keeps kg
  obtain ⟨nm, N', qn, bs, bm, hdct, sn, sub, ab, col, dd, k0, k1, k2, k3, k5, hC, hT⟩ := excInit_of X qi
  have tf : ∃ oI, s.heap.get? fI = some oI ∧ oI.cls = .type "function" := by
    have h := T.tC
    cases z : K.lookup fI with
    | none =>
      have : (K.lookup fI).map (·.cls) = some (.type "function") := h
      rw [z] at this; cases this
    | some oI =>
      have : (K.lookup fI).map (·.cls) = some (.type "function") := h
      rw [z] at this
      exact ⟨oI, X _ _ z, Option.some.inj this⟩
  obtain ⟨oI, ho, hc⟩ := tf
  obtain ⟨hp, g, dr, tk, os⟩ := s
  have k : ∀ b o, hp.get? b = some o → ((hp.push (kdv_tup [v])).push (HandSPX.excO C hp.objs.size)).get? b = some o := fun b o e => Heap.get?_push_of_some _ (Heap.get?_push_of_some _ e)
  have hget : ((hp.push (kdv_tup [v])).push (HandSPX.excO C hp.objs.size)).get? (hp.objs.size + 1) = some (HandSPX.excO C hp.objs.size) := by heap_get
  have hng : hg.get? (hp.objs.size + 1) = none := by
    cases e : hg.get? (hp.objs.size + 1) with
    | none => rfl
    | some o => exact absurd (Nat.lt_of_succ_lt (Heap.lt_size (kg _ _ e))) (Nat.lt_irrefl _)
  refine HandSPX.call_own FB hT hC (looks_findIn X T.iC) (fun self => exc_bind ho hc self) (by rw [sizeLine_eq]; exact (by decide : 1 ≤ 16777216)) ?_
  refine err_init (s := ⟨(hp.push (kdv_tup [v])).push (HandSPX.excO C hp.objs.size), g, dr, tk, os⟩) T Xg Tg0 Tb0 hmb hlim0 (fun b o e => k b o (kg b o e)) hng hget hroom (.inl rfl) fun h' tk' dx I => ?_
  have sz : ((hp.push (kdv_tup [v])).push (HandSPX.excO C hp.objs.size)).objs.size = hp.objs.size + 2 := by rw [Heap.size_push, Heap.size_push]
  refine ⟨rfl, hq h' tk' (hp.objs.size + 1) dx ⟨fun b o e => I.keep b o (Nat.ne_of_lt (Nat.lt_succ_of_lt (Heap.lt_size e))) (k b o e), Nat.le_succ _, I.obj, ?_, I.dne, I.ns⟩⟩
  have z := I.dbig
  rw [sz] at z
  exact Nat.le_trans (Nat.le_add_right _ 2) z
end
end Pl

set_option Elab.async false
set_option linter.all false
set_option maxRecDepth 100000
set_option maxHeartbeats 4000000
namespace Pl
open PySem PySem.Spec PyProof.Rows L2 PySem.W PySem.Calls

/-! ### an own error made by the names of its arguments -/
section
variable {M : Model} {prog : Program} {w : World} {A : Around} {E : Value → Shared → Prop} {R : Result → Shared → Prop} {h : Heap} {g : Array GenState} {d : Drawn} {t : Nat} {os : OsState}
variable {nm q : Str} {C N : Addr} {bs bm bmB : List Value} {hdct : Bool} {sn : List Str} {sub : List Value} {ab : Bool} {col : Option Bool} {dd : Option Addr} {k0 k1 k2 k3 k5 : Option Value} {B newId initId : String}
theorem kw_checkCall {rest : List Value} {kw : List (Str × Value)} {Q : Unit → Shared → Prop} (hC : h.get? C = some (excClassObj nm q C N bs bm hdct sn sub ab col dd k0 k1 k2 k3 k5 newId))
    (hq : Q () ⟨h, g, d, t, os⟩) : wpAny M A (checkBuiltinCall "type.__call__" ⟨.ref C :: rest, kw⟩) Q E ⟨h, g, d, t, os⟩ := by
  have z3 := tc_sub
  have zT : (⟨h, g, d, t, os⟩ : Shared).TypeIs (.ref C) "type" := ⟨_, hC, rfl⟩
  simp only [tc_split, tc_kind, checkBuiltinCall]
  repeat (any_goals (first | assumption | (with_reducible refine wpAny_map ?_) | (with_reducible refine wpAny_onRaise ?_) | (with_reducible refine wpAny_loadPart_at hC ?_) | wp_step))
theorem kw_checkNew (FB : ExcBaseFacts B newId initId bmB) (hT : ∀ X : String, bm.contains (.type X) = bmB.contains (.type X)) {rest : List Value} {kw : List (Str × Value)} {Q : Unit → Shared → Prop}
    (hC : h.get? C = some (excClassObj nm q C N bs bm hdct sn sub ab col dd k0 k1 k2 k3 k5 newId)) (hq : Q () ⟨h, g, d, t, os⟩) : wpAny M A (checkBuiltinCall newId ⟨.ref C :: rest, kw⟩) Q E ⟨h, g, d, t, os⟩ := by
  have zB : (Value.ref C :: bm).contains (.type B) = true := by
    rw [List.contains_cons, hT, FB.hasB]
    exact Bool.or_true _
  have zs := FB.noStar
  simp only [FB.newRow, FB.newSplit, FB.newKind, checkBuiltinCall]
  repeat (first | (refine wpAny_madeBy_exc hC ?_) | (refine wpAny_staticBase_exc hC ?_) | (refine wpAny_isSubtype_exc hC ?_; rw [zB]) | (refine wpAny_loadPart_at hC ?_) | (simp only [Bool.false_eq_true, bne_self_eq_false, if_false]) | wp_step)
  exact hq
theorem kw_new (FB : ExcBaseFacts B newId initId bmB) (hT : ∀ X : String, bm.contains (.type X) = bmB.contains (.type X)) {rest : List Value} {kw : List (Str × Value)}
    (hC : h.get? C = some (excClassObj nm q C N bs bm hdct sn sub ab col dd k0 k1 k2 k3 k5 newId)) (hrest : rest.length ≤ sizeLine)
    (hq : R (.ok (.ret (.ref (h.objs.size + 1)))) ⟨(h.push (kdv_tup rest)).push (HandSPX.excO C h.objs.size), g, d, t, os⟩) :
    codeAny (model prog w) A (.builtin newId ⟨.ref C :: rest, kw⟩) R ⟨h, g, d, t, os⟩ := by
  have ze := FB.ends
  have zB : (Value.ref C :: bm).contains (.type B) = true := by
    rw [List.contains_cons, hT, FB.hasB]
    exact Bool.or_true _
  have zA : (Value.ref C :: bm).contains (.type "AttributeError") = false := by
    rw [List.contains_cons, hT, FB.noAttr] <;> rfl
  have zN : (Value.ref C :: bm).contains (.type "NameError") = false := by
    rw [List.contains_cons, hT, FB.noName] <;> rfl
  refine codeAny_builtinAt FB.entry ?_
  unfold Builtin.«BaseException.__new__»
  refine _root_.PySem.wpAt_bind ?_
  show _root_.PySem.wpAt _ _ _ (stack >>= _) _ _ _
  refine _root_.PySem.wpAt_bind (_root_.PySem.wpAt_stack fun p below => _root_.PySem.wpAt_of_wpAny ?_)
  wp_walk
  refine _root_.PySem.wpAt_of_wpAny ?_
  rw [FB.owner]
  repeat (first | (with_reducible refine wpAny_loadPart_at hC ?_) | (with_reducible refine wpAny_madeHere_exc FB.canon hC ?_) | (with_reducible refine wpAny_isSubtype_exc hC ?_; first | rw [zN] | rw [zA] | rw [zB]) | wp_step)
  show R _ _
  rw [Heap.size_push]
  exact hq
theorem kw_typeCall (FB : ExcBaseFacts B newId initId bmB) (hT : ∀ X : String, bm.contains (.type X) = bmB.contains (.type X)) {rest : List Value} {kw : List (Str × Value)} {fI : Addr} {Q : Fin → Shared → Prop}
    (hC : h.get? C = some (excClassObj nm q C N bs bm hdct sn sub ab col dd k0 k1 k2 k3 k5 newId)) (hrest : rest.length ≤ sizeLine)
    (hi : Looks (model prog w) h (typeLookup (.ref C) "__init__") (some (.ref fI))) (hb : ∀ self, Looks (model prog w) h (bindSpecial (.ref fI) self) (.ref fI, [self]))
    (hq : codeAny (model prog w) A (.call (.ref fI) ⟨.ref (h.objs.size + 1) :: rest, kw⟩)
      (fun r s' => match r with | .ok (.ret v) => v = .none ∧ Q (.done (.ret (.ref (h.objs.size + 1)))) s' | .ok _ => False | .error e => E e s')
      ⟨(h.push (kdv_tup rest)).push (HandSPX.excO C h.objs.size), g, d, t, os⟩) :
    wpAny (model prog w) A (Builtin.«type.__call__» ⟨.ref C :: rest, kw⟩) Q E ⟨h, g, d, t, os⟩ := by
  repeat (first | (with_reducible refine wpAny_madeBy_exc hC ?_) | (with_reducible refine wpAny_loadPart_at hC ?_) | wp_step)
  refine codeAny_call_builtin_code (Code.quiet_builtin _ FB.quiet) (kw_checkNew FB hT hC ?_)
  refine kw_new FB hT hC hrest ?_
  show wpAny _ _ _ _ _ _
  have kk : ∀ b o, h.get? b = some o → ((h.push (kdv_tup rest)).push (HandSPX.excO C h.objs.size)).get? b = some o := fun b o e => by
    exact Heap.get?_push_of_some _ (Heap.get?_push_of_some _ e)
  have zC := kk _ _ hC
  have zg : ((h.push (kdv_tup rest)).push (HandSPX.excO C h.objs.size)).get? (h.objs.size + 1) = some (HandSPX.excO C h.objs.size) := by
    heap_get
  have zc : (Value.ref C :: bm).contains (.ref C) = true := by
    simp
  have zi := hi.keeps kk
  have zb := (hb (.ref (h.objs.size + 1))).keeps kk
  unfold isInstance
  repeat (first | (with_reducible refine wpAny_loadPart_at zg ?_) | (with_reducible refine wpAny_isSubtype_exc zC ?_; rw [zc]) | wp_step)
  show wpAny _ _ (typeLookup (.ref C) _) _ _ _
  refine zi.at ?_
  refine wpAny_holding (wpAny_bind (zb.at ?_))
  refine wpAny_bind (wpAny_call (codeAny_mono hq fun r s' z => ?_))
  match r, z with
  | .error e, z => exact z
  | .ok (.ret v), z =>
    obtain ⟨rfl, z⟩ := z
    first
      | exact wpAny_pure (wpAny_pure z)
      | (wp_walk; exact z)
  | .ok .next, z => exact False.elim z
  | .ok .brk, z => exact False.elim z
  | .ok .cont, z => exact False.elim z
theorem kw_call (FB : ExcBaseFacts B newId initId bmB) (hT : ∀ X : String, bm.contains (.type X) = bmB.contains (.type X)) {rest : List Value} {kw : List (Str × Value)} {fI : Addr}
    (hC : h.get? C = some (excClassObj nm q C N bs bm hdct sn sub ab col dd k0 k1 k2 k3 k5 newId)) (hrest : rest.length ≤ sizeLine)
    (hi : Looks (model prog w) h (typeLookup (.ref C) "__init__") (some (.ref fI))) (hb : ∀ self, Looks (model prog w) h (bindSpecial (.ref fI) self) (.ref fI, [self]))
    (hq : codeAny (model prog w) (A.under (.builtin "type.__call__" ⟨.ref C :: rest, kw⟩)) (.call (.ref fI) ⟨.ref (h.objs.size + 1) :: rest, kw⟩) (InitBack (h.objs.size + 1) R)
      ⟨(h.push (kdv_tup rest)).push (HandSPX.excO C h.objs.size), g, d, t, os⟩) :
    codeAny (model prog w) A (.call (.ref C) ⟨rest, kw⟩) R ⟨h, g, d, t, os⟩ := by
  have z1 := tc_lookup
  have z2 := tc_bind (.ref C)
  have zT : (⟨h, g, d, t, os⟩ : Shared).TypeIs (.ref C) "type" := ⟨_, hC, rfl⟩
  refine codeAny_of_tree ?_
  show wpAny _ _ (callAny (.ref C) _) _ _ _
  repeat (any_goals (first | assumption | (with_reducible refine wpAny_loadPart_at hC ?_) | wp_step))
  refine ⟨rfl, ?_⟩
  refine codeAny_call_builtin_at (Code.quiet_builtin _ (by decide +kernel)) entry_typeCall (kw_checkCall hC (kw_typeCall FB hT hC hrest hi hb ?_))
  refine codeAny_mono hq fun r s' z => ?_
  rcases r with e | (v | _ | _ | _) <;> exact z
end
end Pl

set_option Elab.async false
set_option linter.all false
set_option maxRecDepth 100000
set_option maxHeartbeats 4000000
namespace Pl
open PySem PySem.Spec PyProof.Rows L2 PySem.W PySem.Calls

section
variable {P : Program} {w : World} {A : Around} {R : Result → Shared → Prop} {s : Shared} {K : Frag} {mg mb : Str → Option Value} {C fI : Addr} {f : Str}
/-- an own error, made by the place or by the name of its argument -/
theorem err_make (T : ErrC P K C fI f) {v : Value} {args : Args} (ha : args = ⟨[v], []⟩ ∨ args = ⟨[], [(f, v)]⟩) {hg : Heap} (Xg : K.In hg) (Tg0 : hg.Ns mainGlobals mg) (Tb0 : hg.Ns builtinsNs mb) (hmb : ∀ x : Str, x ≠ "__name__" → mb x = bootBuiltins x) (hlim0 : hg.NoLimit)
    (kg : ∀ b o, hg.get? b = some o → s.heap.get? b = some o) (hroom : A.depth + 1 < recursionLimit) (hq : ∀ h' tk e d, Made s.heap h' e C d f v → R (.ok (.ret (.ref e))) { s with heap := h', toks := tk }) :
    codeAny (model P w) A (.call (.ref C) args) R s := by
  obtain ⟨B, newId, initId, bmB, FB, SF, KF, qi, qo, hB, _⟩ := id T.base
  have X := Xg.keeps kg
  obtain ⟨nm, N', qn, bs, bm, hdct, sn, sub, ab, col, dd, k0, k1, k2, k3, k5, hC, hT⟩ := excInit_of X qi
  have tf : ∃ oI, s.heap.get? fI = some oI ∧ oI.cls = .type "function" := by
    have h := T.tC
    cases z : K.lookup fI with
    | none =>
      have : (K.lookup fI).map (·.cls) = some (.type "function") := h
      rw [z] at this; cases this
    | some oI =>
      have : (K.lookup fI).map (·.cls) = some (.type "function") := h
      rw [z] at this
      exact ⟨oI, X _ _ z, Option.some.inj this⟩
  obtain ⟨oI, ho, hc⟩ := tf
  obtain ⟨hp, g, dr, tk, os⟩ := s
  have one : ∀ l : List Value, l.length ≤ 1 → l.length ≤ sizeLine := fun l hl => Nat.le_trans hl (by rw [sizeLine_eq]; exact (by decide : 1 ≤ 16777216))
  have main : ∀ (rest : List Value) (kw : List (Str × Value)), args = ⟨rest, kw⟩ → rest.length ≤ 1 → (∀ x : Addr, (⟨.ref x :: rest, kw⟩ : Args) = ⟨[.ref x, v], []⟩ ∨ (⟨.ref x :: rest, kw⟩ : Args) = ⟨[.ref x], [(f, v)]⟩) →
      codeAny (model P w) A (.call (.ref C) args) R ⟨hp, g, dr, tk, os⟩ := by
    intro rest kw e hl hb
    subst e
    have k : ∀ b o, hp.get? b = some o → ((hp.push (kdv_tup rest)).push (HandSPX.excO C hp.objs.size)).get? b = some o := fun b o e => Heap.get?_push_of_some _ (Heap.get?_push_of_some _ e)
    have hget : ((hp.push (kdv_tup rest)).push (HandSPX.excO C hp.objs.size)).get? (hp.objs.size + 1) = some (HandSPX.excO C hp.objs.size) := by heap_get
    have hng : hg.get? (hp.objs.size + 1) = none := by
      cases e : hg.get? (hp.objs.size + 1) with
      | none => rfl
      | some o => exact absurd (Nat.lt_of_succ_lt (Heap.lt_size (kg _ _ e))) (Nat.lt_irrefl _)
    refine kw_call FB hT hC (one _ hl) (looks_findIn X T.iC) (fun self => exc_bind ho hc self) ?_
    refine err_init (s := ⟨(hp.push (kdv_tup rest)).push (HandSPX.excO C hp.objs.size), g, dr, tk, os⟩) T Xg Tg0 Tb0 hmb hlim0 (fun b o e => k b o (kg b o e)) hng hget hroom (hb _) fun h' tk' dx I => ?_
    have sz : ((hp.push (kdv_tup rest)).push (HandSPX.excO C hp.objs.size)).objs.size = hp.objs.size + 2 := by rw [Heap.size_push, Heap.size_push]
    refine ⟨rfl, hq h' tk' (hp.objs.size + 1) dx ⟨fun b o e => I.keep b o (Nat.ne_of_lt (Nat.lt_succ_of_lt (Heap.lt_size e))) (k b o e), Nat.le_succ _, I.obj, ?_, I.dne, I.ns⟩⟩
    have z := I.dbig
    rw [sz] at z
    exact Nat.le_trans (Nat.le_add_right _ 2) z
  rcases ha with rfl | rfl
  · exact main [v] [] rfl (Nat.le_refl _) fun x => .inl rfl
  · exact main [] [(f, v)] rfl (Nat.zero_le _) fun x => .inr rfl
end
/-- two new objects are tracked -/
theorem put2 {X : Cx} {pins : List (Addr × Obj)} {σ : L2.St} {H : Hp} {s : Shared} {h' : Heap} {t' : Nat} {d e : Addr} {u1 u2 : HO} (I : Inv X pins σ H s) (k : ∀ b u, s.heap.get? b = some u → h'.get? b = some u) (hd : s.heap.objs.size ≤ d) (he : s.heap.objs.size ≤ e) (ne : d ≠ e)
    (o1 : ObjOk X.prog X.w (upd (upd H d u1) e u2) h' d u1) (o2 : ObjOk X.prog X.w (upd (upd H d u1) e u2) h' e u2) : Inv X pins σ (upd (upd H d u1) e u2) { s with heap := h', toks := t' } := by
  have nd := I.hok.fresh hd
  have ne' := I.hok.fresh he
  have at_ : ∀ b, b ≠ d → b ≠ e → upd (upd H d u1) e u2 b = H b := fun b h1 h2 => by rw [upd_ne h2, upd_ne h1]
  have old : ∀ b o, H b = some o → upd (upd H d u1) e u2 b = some o := fun b o q => by
    rw [at_ b (fun z => by rw [z, nd] at q; cases q) fun z => by rw [z, ne'] at q; cases q]
    exact q
  refine I.un ⟨fun b o q _ _ _ => k b o q, fun b o q _ _ _ => ⟨o.slots, k b o q⟩, fun b o q n _ => ?_, fun b o q _ => ⟨o, k b o q⟩, fun b xs q => old _ _ q, fun b o xs q => old _ _ q, fun b ps q => ⟨#[], by rw [old _ _ q]; simp⟩⟩ fun b o q => ?_
  · rw [at_ b (fun z => absurd (Heap.lt_size q) (by rw [z]; exact Nat.not_lt_of_le hd)) fun z => absurd (Heap.lt_size q) (by rw [z]; exact Nat.not_lt_of_le he)]
    exact n
  · by_cases h2 : b = e
    · subst h2
      rw [upd_same] at q
      cases q
      exact o2
    · by_cases h1 : b = d
      · subst h1
        rw [upd_ne h2, upd_same] at q
        cases q
        exact o1
      · rw [at_ b h1 h2] at q
        exact (I.hok b o q).stay (fun c u _ r => k c u r) (fun c r => old _ _ r) fun c xs r => old _ _ r

section
variable {X : Cx} {ec : List (Addr × Str)} {W : WX} {m : EM} {e : Expr} {pos : Pos}
def mkE (c : Nat) (m : EM) : EM := fun env st => (frzM m env st).bind fun v st1 => match v with
  | .dat d => .ok (.dat (errD c d)) st1
  | _ => .stk
theorem erO_ok {P : Program} {w : World} {H : Hp} {h : Heap} {e d C t : Addr} (he : h.get? e = some (excObj C t (some d) .none)) : ObjOk P w H h e (ErO (.ref C) d e) := by
  refine ⟨⟨_, _, he, ⟨rfl, rfl⟩, rfl⟩, ⟨_, he⟩, ?_⟩
  rintro h1 h2 ⟨oe, vs, q, z, dd⟩ k
  exact ⟨oe, vs, k _ q, z, dd⟩
theorem call_err {fI C : Addr} {f : Str} {c : Nat} {d : D} (T : ErrC X.prog X.K C fI f) (hc : ec[c]? = some (C, f)) (hr : Room 2 X.A) {pins : List (Addr × Obj)} {σ : L2.St} {H1 F : Hp} {os : List Addr} {st : List Cn} {s1 : Shared} {u : Value} {v : V} {Q : VK} (I1 : Inv X pins σ H1 s1) (r1 : RelV v u)
    (k1 : StOk (kx X ec) F os H1 st) (rd : Dr (kx X ec) F v d) (q : ∀ x F' os' H', Ext F os H1 F' os' H' → StOk (kx X ec) F' os' H' st → VR (kx X ec) F' os' H' x (.dat (errD c d)) → Frs H1 x (.dat (errD c d)) → Q x H')
    {args : Args} (ha : args = ⟨[u], []⟩ ∨ args = ⟨[], [(f, u)]⟩) : wpAny (model X.prog X.w) X.A (call (.ref C) args.pos args.kw) (EP X pins σ Q) X.xe s1 := by
  obtain ⟨mb, b1, b2⟩ := I1.ok.mod.blt
  have z : args = ⟨args.pos, args.kw⟩ := rfl
  refine wpAny_call (codeAny_mono (R := fun r s' => match r with | .ok (.ret v) => EP X pins σ Q v s' | .ok _ => False | .error e => X.xe e s') (err_make T (z ▸ ha) I1.ok.mod.kin I1.ok.mod.glob b1 b2 I1.ok.mod.nolimit I1.bk ?_ fun h' tk e dx M => ?_) fun r s' h => h)
  · have := hr.dp
    omega
  · obtain ⟨t, he⟩ := M.obj
    have hd0 : H1 dx = none := I1.hok.fresh M.dbig
    have he0 : H1 e = none := I1.hok.fresh M.big
    have I2 := put2 (t' := tk) (u1 := .xd [(f, v)]) (u2 := ErO (.ref C) dx e) I1 M.keep M.dbig M.big M.dne (by
      refine ⟨_, M.ns, fun y => ?_⟩
      by_cases hy : y = f
      · subst hy
        simp only [List.lookup, beq_self_eq_true, if_true]
        exact r1
      · have : (y == f) = false := by simpa using hy
        simp only [List.lookup, this, if_neg hy]
        trivial) (erO_ok he)
    have k2 := StOk.newF (o := HO.xd [(f, v)]) k1 hd0
    have e2 := Ext.newF (o := HO.xd [(f, v)]) k1 hd0
    have hne : upd H1 dx (.xd [(f, v)]) e = none := by rw [upd_ne (Ne.symm M.dne)]; exact he0
    have k3 := StOk.newF (o := ErO (.ref C) dx e) k2 hne
    have e3 := Ext.newF (o := ErO (.ref C) dx e) k2 hne
    refine ⟨.ref e, _, I2, rfl, q (.ref e) _ _ _ (e2.trans e3) k3 (.dat (.err hc upd_same ?_ (Dr.mono (e2.trans e3).fz _ _ rd))) Frs.dat⟩
    rw [upd_ne M.dne, upd_same]
theorem pe_mk {fI C : Addr} {f x : Str} {c : Nat} {p : Pos} (T : ErrC X.prog X.K C fI f) (hc : ec[c]? = some (C, f)) (hm : X.mg x = some (.ref C)) (hk : keepIn X.K (.ref C) = true) (hr : Room 2 X.A) (hg : Gl X x) (he : PE X e (tM (kx X ec) W m)) (hdb : (x == ("__debug__" : Str)) = false := by decide)
    (h1 : starEach [e] X.env = (false, eval e X.env) :: starEach [] X.env := by rfl) (hpl : (backTo pos (starEach [] X.env)).any (·.1) = false := by rfl) : PE X (.Call (.Name x p) [e] [] pos) (tM (kx X ec) W (mkE c m)) := by
  refine ⟨?_⟩
  rintro pins s σ H Q I ⟨B, F, os, env, st, R, h⟩
  have h2 : tM (kx X ec) W (frzM m) σ H fun v H1 => ∃ F1 os1 st1 d, StOk (kx X ec) F1 os1 H1 st1 ∧ Dr (kx X ec) F1 v d ∧ ∀ x F' os' H', Ext F1 os1 H1 F' os' H' → StOk (kx X ec) F' os' H' st1 → VR (kx X ec) F' os' H' x (.dat (errD c d)) → Frs H1 x (.dat (errD c d)) → Q x H' := by
    refine ⟨B, F, os, env, st, R, h.bind ?_⟩
    intro v st1 x F1 os1 H1 ev e1 k1 r1 f1 p1
    cases v with
    | dat d =>
      cases r1 with
      | dat r1 => exact ⟨F1, os1, st1, d, k1, r1, fun x F' os' H' e' k' r' f' => p1 x F' os' H' (e1.trans e') k' r' Frs.dat⟩
    | fr => exact False.elim p1
    | bor => exact False.elim p1
    | obj => exact False.elim p1
    | scr => exact False.elim p1
  refine wpAny_Call_Name_kw (ld_glob I hg hm ?_ hdb)
  refine PySem.W.callWith_K (h₀ := X.base) I.ok.mod.kin hk ?_ h1 hpl
  rw [h1]
  show wpAny _ _ (spliced ((false, eval e X.env) :: backTo pos (starEach [] X.env))) _ _ s
  refine Calls.spliced_cons (thn ((pe_frz he).run pins s σ H _ I h2) fun u s1 hh => ?_)
  obtain ⟨v, H1, I1, r1, F1, os1, st1, d, k1, rd, q⟩ := hh
  exact Calls.spliced_nil ⟨I1.kIn, call_err T hc hr I1 r1 k1 rd q (args := ⟨[u], []⟩) (.inl rfl)⟩
theorem pe_mkk {fI C : Addr} {f x : Str} {c : Nat} {p kp : Pos} (T : ErrC X.prog X.K C fI f) (hc : ec[c]? = some (C, f)) (hm : X.mg x = some (.ref C)) (hk : keepIn X.K (.ref C) = true) (hr : Room 2 X.A) (hg : Gl X x) (he : PE X e (tM (kx X ec) W m)) (hdb : (x == ("__debug__" : Str)) = false := by decide)
    : PE X (.Call (.Name x p) [] [⟨some f, e, kp⟩] pos) (tM (kx X ec) W (mkE c m)) := by
  have hks : (backToKw pos (keywordEach [⟨some f, e, kp⟩] X.env)) = [(some f, do let v ← eval e X.env; standAt pos; pure v)] := rfl
  refine ⟨?_⟩
  rintro pins s σ H Q I ⟨B, F, os, env, st, R, h⟩
  have h2 : tM (kx X ec) W (frzM m) σ H fun v H1 => ∃ F1 os1 st1 d, StOk (kx X ec) F1 os1 H1 st1 ∧ Dr (kx X ec) F1 v d ∧ ∀ x F' os' H', Ext F1 os1 H1 F' os' H' → StOk (kx X ec) F' os' H' st1 → VR (kx X ec) F' os' H' x (.dat (errD c d)) → Frs H1 x (.dat (errD c d)) → Q x H' := by
    refine ⟨B, F, os, env, st, R, h.bind ?_⟩
    intro v st1 x F1 os1 H1 ev e1 k1 r1 f1 p1
    cases v with
    | dat d =>
      cases r1 with
      | dat r1 => exact ⟨F1, os1, st1, d, k1, r1, fun x F' os' H' e' k' r' f' => p1 x F' os' H' (e1.trans e') k' r' Frs.dat⟩
    | fr => exact False.elim p1
    | bor => exact False.elim p1
    | obj => exact False.elim p1
    | scr => exact False.elim p1
  refine wpAny_Call_Name_kw (ld_glob I hg hm ?_ hdb)
  refine PySem.W.callWith_KW0 (h₀ := X.base) I.ok.mod.kin hk (by rw [hks]; rfl) ?_ (by rw [hks]; rfl)
  rw [hks]
  show wpAny _ _ (evalAll [do let v ← eval e X.env; standAt pos; pure v]) _ _ s
  have hrun := (pe_frz he).run pins s σ H _ I h2
  show wpAny _ _ ((do let v ← eval e X.env; standAt pos; pure v) >>= fun v => (do
    return v :: (← holding [v] (evalAll [])))) _ _ s
  refine wpAny_bind (wpAny_bind (thn hrun fun u s1 hh => wpAny_bind (wpAny_standAt (wpAny_pure ?_))))
  obtain ⟨v, H1, I1, r1, F1, os1, st1, d, k1, rd, q⟩ := hh
  exact wpAny_bind (wpAny_holding (wpAny_evalAll_nil (wpAny_pure ⟨I1.kIn, call_err T hc hr I1 r1 k1 rd q (args := ⟨[], [(f, u)]⟩) (.inr rfl)⟩)))
/-- raise C(e) -/
def raiM (c : Nat) (m : EM) : SM := fun env st => (frzM m env st).bindS env fun v st1 => match v with
  | .dat d => .exc c d env st1
  | _ => .stk
theorem ps_ra {fI C : Addr} {f x : Str} {c : Nat} {p pos' : Pos} (T : ErrC X.prog X.K C fI f) (hc : ec[c]? = some (C, f)) (hm : X.mg x = some (.ref C)) (hk : keepIn X.K (.ref C) = true) (hr : Room 2 X.A) (hca : X.calm = true) (tk : Takes X W) (ra : Raises X (.ref C)) (hg : Gl X x) (he : PE X e (tM (kx X ec) W m)) (hdb : (x == ("__debug__" : Str)) = false := by decide)
    (h1 : starEach [e] X.env = (false, eval e X.env) :: starEach [] X.env := by rfl) (hpl : (backTo pos (starEach [] X.env)).any (·.1) = false := by rfl) : PS X (.Raise (some (.Call (.Name x p) [e] [] pos)) none pos') (tS (kx X ec) W (raiM c m)) := by
  have mk : PMk X (.Call (.Name x p) [e] [] pos) (fun σ H Q => tM (kx X ec) W (frzM m) σ H fun v H1 => ∃ F1 os1 st1 d, StOk (kx X ec) F1 os1 H1 st1 ∧ Dr (kx X ec) F1 v d ∧ ∀ cls dd F' os' H', Ext F1 os1 H1 F' os' H' → StOk (kx X ec) F' os' H' st1 → ErD (kx X ec) F' cls dd c d → Q cls dd H') := by
    intro pins s σ H Q I h2
    refine wpAny_Call_Name_kw (ld_glob I hg hm ?_ hdb)
    refine PySem.W.callWith_K (h₀ := X.base) I.ok.mod.kin hk ?_ h1 hpl
    rw [h1]
    show wpAny _ _ (spliced ((false, eval e X.env) :: backTo pos (starEach [] X.env))) _ _ s
    refine Calls.spliced_cons (thn ((pe_frz he).run pins s σ H _ I h2) fun u s1 hh => ?_)
    obtain ⟨v, H1, I1, r1, F1, os1, st1, d, k1, rd, q⟩ := hh
    refine Calls.spliced_nil ⟨I1.kIn, ?_⟩
    obtain ⟨mb, b1, b2⟩ := I1.ok.mod.blt
    show wpAny _ _ (call (.ref C) [u]) _ _ _
    refine wpAny_call (codeAny_mono (R := fun r s' => match r with | .ok (.ret v) => MkP X pins σ Q v s' | .ok _ => False | .error e => X.xe e s') (err_make T (.inl rfl) I1.ok.mod.kin I1.ok.mod.glob b1 b2 I1.ok.mod.nolimit I1.bk ?_ fun h' tk e dx M => ?_) fun r s' h => h)
    · have := hr.dp
      omega
    · obtain ⟨t, he⟩ := M.obj
      have hd0 : H1 dx = none := I1.hok.fresh M.dbig
      have he0 : H1 e = none := I1.hok.fresh M.big
      have en : s1.heap.get? e = none := by
        cases z : s1.heap.get? e with
        | none => rfl
        | some o => exact absurd (Nat.lt_of_lt_of_le (Heap.lt_size z) M.big) (Nat.lt_irrefl _)
      have kh : ∀ b o, s1.heap.get? b = some o → (hideAll h' [e]).get? b = some o := fun b o z => hideAll_get _ (M.keep b o z) (by
        rw [List.mem_singleton]
        intro q
        rw [q, en] at z
        cases z)
      obtain ⟨oD, es, ep, n1, n2⟩ := M.ns
      have hns : (hideAll h' [e]).Ns1 dx (fun y => if y = f then some u else none) := ⟨oD, es, ep, hideAll_get _ n1 (by rw [List.mem_singleton]; exact M.dne), n2⟩
      have I2 := I1.laid (t' := tk) (a := dx) (o := .xd [(f, v)]) kh M.dbig (by
        refine ⟨_, hns, fun y => ?_⟩
        by_cases hy : y = f
        · subst hy
          simp only [List.lookup, beq_self_eq_true, if_true]
          exact r1
        · have : (y == f) = false := by simpa using hy
          simp only [List.lookup, this, if_neg hy]
          trivial)
      have k2 := StOk.newF (o := HO.xd [(f, v)]) k1 hd0
      have e2 := Ext.newF (o := HO.xd [(f, v)]) k1 hd0
      refine ⟨e, _, _, _, _, .ref C, some dx, rfl, I2, fun b o z => of_hideAll _ z, hideAll_none _ (by simp), he, ⟨rfl, rfl⟩, rfl, rfl, ?_, rfl, I1.bare, ra, q _ _ _ _ _ e2 k2 ⟨C, f, dx, v, hc, rfl, rfl, upd_same, Dr.mono e2.fz _ _ rd⟩⟩
      rw [upd_ne (Ne.symm M.dne)]
      exact he0
  refine (L2.ps_raise hca tk mk).imp fun E σ H h => ?_
  obtain ⟨B, F, os, env, st, R, h⟩ := h
  refine ⟨B, F, os, env, st, R, ?_⟩
  unfold raiM at h
  unfold PoS at h
  generalize ho : frzM m env st = o at h
  cases o with
  | stk => exact False.elim h
  | exc c' d' st' => exact fun cls dd F' os' H' e' k' r' => h cls dd F' os' σ H' (R.ext e' k') r'
  | ok v st1 =>
    intro x F1 os1 H1 e1 k1 r1 f1
    cases v with
    | dat d =>
      cases r1 with
      | dat r1 => exact ⟨F1, os1, st1, d, k1, r1, fun cls dd F' os' H' e' k' r' => h cls dd F' os' σ H' (R.ext (e1.trans e') k') r'⟩
    | fr => exact False.elim h
    | bor => exact False.elim h
    | obj => exact False.elim h
    | scr => exact False.elim h
end
end Pl

set_option Elab.async false
set_option linter.all false
set_option maxRecDepth 100000
set_option maxHeartbeats 4000000
namespace Pl
open PySem PySem.Spec PyProof.Rows L2 PySem.W PySem.Calls

/-! ### what errors answer -/
/-- what the written part says of an error class, for its objects to be asked -/
structure ErrI (K : Frag) (C : Addr) (f : Str) : Prop where
  cl : (clsIn K C).isSome = true
  ga : findIn K (.ref C) "__getattribute__" = some (some (.builtin "BaseException.__getattribute__"))
  gg : findIn K (.ref C) "__getattr__" = some none
  ex : subIn K (.ref C) (.type "BaseException") = some true
  ca : findIn K (.ref C) "__class__" = some (some (.builtin "object.__class__"))
  cn : specialIn K (.builtin "object.__class__") "__get__" = some (some (.builtin "getset_descriptor.__get__"))
  ct : takesIn K (.builtin "object.__class__") = some true
  cm : mroIn K C (.type "object") = some true
  no : findIn K (.ref C) f = some none
  hd : hasDictIn K C = true
  ty : typeIn K (.ref C) = some (.type "type")
def EcI (K : Frag) (ec : List (Addr × Str)) : Prop := ∀ (c : Nat) (C : Addr) (f : Str), ec[c]? = some (C, f) → ErrI K C f
def asErr : Val → Option (Nat × D)
  | .dat (.dict [(.list [.int i], d)]) => if 0 ≤ i then some (i.toNat, d) else none
  | _ => none
theorem asErr_of {v : Val} {c : Nat} {d : D} (h : asErr v = some (c, d)) : v = .dat (errD c d) := by
  unfold asErr at h
  split at h
  · rename_i i d'
    split at h
    · rename_i hi
      cases h
      unfold errD
      rw [Int.toNat_of_nonneg hi]
    · cases h
  · cases h
@[simp] theorem asErr_err {c : Nat} {d : D} : asErr (.dat (errD c d)) = some (c, d) := by
  unfold asErr errD
  simp
theorem drk_err {K : Kx} {F : Hp} {kvs : List (Key × V)} {c : Nat} {d : D} (h : Drk K F kvs [(.list [.int c], d)]) : False := by
  generalize hq : (PyData.list [.int (c : Int)] : D) = q at h
  cases h with
  | @cons k v kvs e d ds h1 h2 h3 =>
    cases k with
    | inl i => cases h1; cases hq
    | inr x => cases h1; cases hq
/-- an error in the heap -/
theorem VR.err {X : Kx} {F : Hp} {os : List Addr} {H : Hp} {x : V} {c : Nat} {d : D} (r : VR X F os H x (.dat (errD c d))) : (∃ a e C f v, x = .ref a ∧ X.ec[c]? = some (C, f) ∧ F a = some (ErO (.ref C) e a) ∧ F e = some (.xd [(f, v)]) ∧ Dr X F v d) ∨ ∃ a C, x = .ref a ∧ X.ec[c]? = some (C, ("" : Str)) ∧ F a = some (ExO (.ref C) a) := by
  cases r with
  | dat r =>
    generalize hq : errD c d = q at r
    cases r with
    | err a b x r =>
      unfold errD at hq
      simp only [PyData.dict.injEq, List.cons.injEq, Prod.mk.injEq, PyData.list.injEq, PyData.int.injEq, and_true, Int.natCast_inj] at hq
      obtain ⟨h1, h2⟩ := hq
      subst h1 h2
      exact .inl ⟨_, _, _, _, _, rfl, a, b, x, r⟩
    | erp a b =>
      unfold errD at hq
      simp only [PyData.dict.injEq, List.cons.injEq, Prod.mk.injEq, PyData.list.injEq, PyData.int.injEq, and_true, Int.natCast_inj] at hq
      obtain ⟨h1, h2⟩ := hq
      subst h1 h2
      exact .inr ⟨_, _, rfl, a, b⟩
    | dct a b =>
      unfold errD at hq
      cases hq
      exact (drk_err b).elim
    | non => cases hq
    | bl => cases hq
    | int => cases hq
    | str => cases hq
    | lst => cases hq
    | tup => cases hq
/-- its object, as the library's rules ask for it -/
theorem err_inst {X : Cx} {pins : List (Addr × Obj)} {σ : L2.St} {H : Hp} {s : Shared} (I : Inv X pins σ H s) {a e C : Addr} {f : Str} {v : V} (h1 : H a = some (ErO (.ref C) e a)) (h2 : H e = some (.xd [(f, v)])) :
    ∃ ox od u, InstAt s.heap a ox C (some od) ∧ lookIn f od = some (some u) ∧ RelV v u := by
  obtain ⟨⟨oe, vs, q1, q2, q3⟩, _⟩ := (show ObjOk X.prog X.w H s.heap a (ErO (.ref C) e a) from I.hok a _ h1)
  obtain ⟨mA, hns, hr⟩ := (show ObjOk X.prog X.w H s.heap e (.xd [(f, v)]) from I.hok e _ h2)
  obtain ⟨od, ho, hl⟩ := lookIn_ns hns
  obtain ⟨u, hu, ru⟩ := RelO.some_of (v := v) (o := mA f) (by
    have := hr f
    simpa [List.lookup] using this)
  exact ⟨oe, od, u, ⟨q1, q2.1, by unfold notCls; rw [q3] <;> rfl, by rw [q2.2]; exact ho⟩, by rw [hl, hu], ru⟩

section
variable {X : Cx} {ec : List (Addr × Str)} {W : WX} {m : EM} {e : Expr} {pos : Pos}
/-- e.n of an error whose class is one of cs -/
def fldM (cs : List Nat) (m : EM) : EM := fun env st => (m env st).bind fun v st1 => match asErr v with
  | some (c, d) => if c ∈ cs then .ok (.dat d) st1 else .stk
  | none => .stk
theorem pe_xat {n : Str} {cs : List Nat} (hI : EcI X.K ec) (hcs : ∀ c ∈ cs, ∃ C, ec[c]? = some (C, n)) (he : PE X e (tM (kx X ec) W m)) (hb : attributeBase e n X.env (eval e X.env) = eval e X.env := by rfl) (hn : n ≠ ("" : Str) := by decide) : PE X (.Attribute e n pos) (tM (kx X ec) W (fldM cs m)) := by
  refine ⟨?_⟩
  rintro pins s σ H Q I ⟨B, F, os, env, st, R, h⟩
  have h2 : tM (kx X ec) W m σ H fun v H1 => ∃ a e C w, v = .ref a ∧ H1 a = some (ErO (.ref C) e a) ∧ H1 e = some (.xd [(n, w)]) ∧ ErrI X.K C n ∧ Q w H1 := by
    refine ⟨B, F, os, env, st, R, Po.bind h ?_⟩
    intro v st1 x F1 os1 H1 ev e1 k1 r1 f1 p1
    cases ha : asErr v with
    | none => rw [ha] at p1; exact False.elim p1
    | some q =>
      obtain ⟨c, d⟩ := q
      rw [ha] at p1
      dsimp only at p1
      by_cases hc : c ∈ cs
      case neg => rw [if_neg hc] at p1; exact False.elim p1
      rw [if_pos hc] at p1
      rw [asErr_of ha] at r1
      obtain ⟨C', h7⟩ := hcs c hc
      rcases r1.err with ⟨a, e, C, f, w, ex, h3, h4, h5, h6⟩ | ⟨a, C, _, h3, _⟩
      case inr =>
        have z := h3.symm.trans h7
        cases z
        exact absurd rfl hn
      have z := h3.symm.trans h7
      cases z
      exact ⟨a, e, _, w, ex, k1.sub _ _ h4, k1.sub _ _ h5, hI c _ _ h7, p1 w F1 os1 H1 e1 k1 (.dat h6) Frs.dat⟩
  refine attr_of hb (thn (he.run pins s σ H _ I h2) fun u s1 hh => ?_)
  obtain ⟨x, H1, I1, rx, a, e, C, w, ex, h4, h5, T, q⟩ := hh
  subst ex
  obtain rfl : u = Value.ref a := rx
  obtain ⟨ox, od, u, J, hl, ru⟩ := err_inst I1 h4 h5
  exact HandSPX.exc_get I1.kIn J T.ga T.gg T.ex (findObj_own T.hd T.no rfl hl) (handed_of ru) ⟨w, H1, I1.tok _, ru, q⟩
/-- isinstance of an error: tb tells it by the class's number -/
def iseM (tb : List Bool) (m : EM) : EM := fun env st => (m env st).bind fun v st1 => match asErr v with
  | some (c, _) => Ou.of st1 ((tb[c]?).map fun b => .dat (.bool b))
  | none => .stk
def IsT (K : Frag) (ec : List (Addr × Str)) (cv : Value) (tb : List Bool) : Prop := ∀ (c : Nat) (C : Addr) (f : Str) (b : Bool), ec[c]? = some (C, f) → tb[c]? = some b → kitOne K (.ref C) cv = some b
def rIse (K : Frag) : List V → Hp → VK → Prop := fun xs H Q => ∃ (a C : Addr) (f : Str) (c : V) (cv : Value) (b : Bool), xs = [.ref a, c] ∧ ((∃ e f v, H a = some (ErO (.ref C) e a) ∧ H e = some (.xd [(f, v)])) ∨ H a = some (ExO (.ref C) a)) ∧ ErrI K C f ∧ (∀ u, RelV c u → u = cv) ∧ kitOne K (.ref C) cv = some b ∧ Q (.bl b) H
theorem call_ise : CallR X (.builtin "isinstance") (rIse X.K) := by
  intro pins s σ H xs us Q I r h
  obtain ⟨a, C, f, c, cv, b, rfl, h12, T, hcv, hk, q⟩ := h
  cases r with
  | cons rx rr =>
    cases rr with
    | cons rt rr =>
      cases rr
      cases rx
      have ec := hcv _ rt
      subst ec
      obtain ⟨ox, od, J⟩ : ∃ ox od, InstAt s.heap a ox C od := by
        rcases h12 with ⟨e, f, v, h1, h2⟩ | h1
        · obtain ⟨ox, od, u, J, _, _⟩ := err_inst I h1 h2
          exact ⟨ox, some od, J⟩
        · obtain ⟨⟨oe, vs, q1, q2, q3, _⟩, _⟩ := (show ObjOk X.prog X.w H s.heap a (ExO (.ref C) a) from I.hok a _ h1)
          refine ⟨oe, none, ?_⟩
          obtain ⟨oc, od, oda, osl⟩ := oe
          obtain ⟨g1, g2⟩ := q2
          dsimp only at g1 g2 q3
          subst g1 g2 q3
          exact ⟨q1, rfl, rfl, trivial⟩
      exact kia_one (kitx_exc T.cl T.ga T.gg T.ex T.ca T.cn T.ct T.cm) I.kIn J hk (fun z => nomatch z) fun tk => ⟨.bl b, H, I.kept (t' := tk) fun _ _ z => z, rfl, q⟩
theorem pe_ise {x : Str} {p px : Pos} {vx : V} {cv : Value} {tb : List Bool} (hI : EcI X.K ec) (ht : IsT X.K ec cv tb) (he : PE X e (tM (kx X ec) W m)) (hx : PE X (.Name x px) (tC vx)) (hv : ∀ u, RelV vx u → u = cv) (hg : Gl X "isinstance") (hm : X.mg "isinstance" = none)
    (h1 : starEach [e, .Name x px] X.env = (false, eval e X.env) :: starEach [.Name x px] X.env := by rfl) (h2 : starEach [.Name x px] X.env = (false, eval (.Name x px) X.env) :: starEach [] X.env := by rfl) (h3 : (backTo pos (starEach [.Name x px] X.env)).any (·.1) = false := by rfl) :
    PE X (.Call (.Name "isinstance" p) [e, .Name x px] [] pos) (tM (kx X ec) W (iseM tb m)) :=
  (pe_callB call_ise hg hm (by decide +kernel) (pa_cons he (pa_cons hx pa_nil h2) h1) (by decide) (by decide) h1 h3).imp fun σ H Q h => by
    obtain ⟨B, F, os, env, st, R, h⟩ := h
    refine ⟨B, F, os, env, st, R, Po.bind h ?_⟩
    intro v st1 y F1 os1 H1 ev e1 k1 r1 f1 p1
    cases ha : asErr v with
    | none => rw [ha] at p1; exact False.elim p1
    | some q =>
      obtain ⟨c, d⟩ := q
      rw [ha] at p1
      dsimp only at p1
      obtain ⟨z, hz, q⟩ := p1.of
      cases hb : tb[c]? with
      | none => rw [hb] at hz; cases hz
      | some b =>
        rw [hb] at hz
        cases hz
        rw [asErr_of ha] at r1
        rcases r1.err with ⟨a, e, C, f, w, ex, h3, h4, h5, h6⟩ | ⟨a, C, ex, h3, h4⟩
        · subst ex
          exact ⟨a, C, f, vx, cv, b, rfl, .inl ⟨e, f, w, k1.sub _ _ h4, k1.sub _ _ h5⟩, hI c _ _ h3, hv, ht c C f b h3 hb, q _ _ _ _ e1 k1 (.dat (.bl _)) Frs.dat⟩
        · subst ex
          exact ⟨a, C, _, vx, cv, b, rfl, .inr (k1.sub _ _ h4), hI c _ _ h3, hv, ht c C _ b h3 hb, q _ _ _ _ e1 k1 (.dat (.bl _)) Frs.dat⟩
end
end Pl

set_option Elab.async false
set_option linter.all false
set_option maxRecDepth 100000
set_option maxHeartbeats 4000000
namespace Pl
open PySem PySem.Spec PyProof.Rows L2 PySem.W PySem.Calls
section
variable {M : Model} {K : Frag} {A : Around} {E : Value → Shared → Prop} {s : Shared}
theorem forIn_pass {body : Value → PUnit → Sem (ForInStep PUnit)} {Q : PUnit → Shared → Prop} : ∀ (its : List Value), (∀ c ∈ its, ∀ {Q' : ForInStep PUnit → Shared → Prop}, Q' (.yield PUnit.unit) s → wpAny M A (body c PUnit.unit) Q' E s) → Q PUnit.unit s → wpAny M A (forIn its PUnit.unit body) Q E s
  | [], _, q => by
    rw [List.forIn_nil]
    exact wpAny_pure q
  | c :: r, hb, q => by
    rw [List.forIn_cons]
    exact wpAny_bind (hb c (by simp) (forIn_pass r (fun d hd => hb d (by simp [hd])) q))
theorem forIn_find {v : Value → Bool} {body : Value → (Option Bool × Unit) → Sem (ForInStep (Option Bool × Unit))} {Q : (Option Bool × Unit) → Shared → Prop} : ∀ (its : List Value),
    (∀ c ∈ its, ∀ {Q' : ForInStep (Option Bool × Unit) → Shared → Prop}, Q' (if v c = true then .done (some true, ()) else .yield (none, ())) s → wpAny M A (body c (none, ())) Q' E s) → Q (if its.any v = true then (some true, ()) else (none, ())) s → wpAny M A (forIn its (none, ()) body) Q E s
  | [], _, q => by
    rw [List.forIn_nil]
    exact wpAny_pure q
  | c :: r, hb, q => by
    rw [List.forIn_cons]
    refine wpAny_bind (hb c (by simp) ?_)
    cases hv : v c with
    | true =>
      rw [List.any_cons, hv] at q
      exact wpAny_pure q
    | false =>
      rw [List.any_cons, hv, Bool.false_or] at q
      exact forIn_find r (fun d hd => hb d (by simp [hd])) q
theorem exmAny_all {cls : Value} : ∀ {its : List Value} {b : Bool}, exmAny K cls its = some b → (∀ c ∈ its, exmOne K cls c = some ((exmOne K cls c).getD false)) ∧ b = its.any fun c => (exmOne K cls c).getD false
  | [], b, h => by
    cases h
    exact ⟨fun c hc => by simp at hc, rfl⟩
  | c :: r, b, h => by
    obtain ⟨b1, d1, h1, h2, rfl⟩ := exmAny_cons h
    obtain ⟨h3, rfl⟩ := exmAny_all h2
    refine ⟨fun c' hc' => ?_, by rw [List.any_cons, h1]; rfl⟩
    rcases List.mem_cons.mp hc' with rfl | hm
    · rw [h1]; rfl
    · exact h3 c' hm
theorem exm_many {cls : Value} {its : List Value} {tp e : Addr} {b : Bool} {h : Heap} (X : K.In h) (LT : Looks M h (typeOf (.ref e)) cls) (hp : ∃ n, h.get? tp = some { cls := .type "tuple", data := .seq its.toArray n }) (hx : exmAny K cls its = some b) :
    Looks M h (excMatches (.ref e) (.ref tp)) b := by
  intro A Q E s k₀ q
  obtain ⟨n, hp⟩ := hp
  obtain ⟨hh, g, d, tk, os⟩ := s
  have k : ∀ b o, h.get? b = some o → hh.get? b = some o := k₀
  have LT0 : Looks M h (isInstance (.ref tp) (.type "tuple")) true := ((Looks.ld hp).andThen .now).andThen (Looks.of_pure isSubtype_tuple_tuple)
  have LT := LT.keeps k
  have LT0 := LT0.keeps k
  have hp' := k _ _ hp
  obtain ⟨h1, rfl⟩ := exmAny_all hx
  unfold excMatches
  refine wpAny_bind (LT0.at ?_)
  dsimp only
  rw [if_pos rfl]
  refine wpAny_bind (wpAny_seqItems hp' rfl ?_)
  refine wpAny_bind (wpAny_pure ?_)
  show wpAny _ _ (forIn its PUnit.unit _ >>= _) _ _ _
  refine wpAny_bind (forIn_pass its (fun c hc {Q'} q' => ?_) ?_)
  · obtain ⟨e1, _⟩ := exm_cls (M := M) X (h1 c hc)
    refine wpAny_bind ((e1.keeps k).here ?_)
    exact wpAny_pure q'
  · refine wpAny_bind (LT.here ?_)
    refine wpAny_bind (forIn_find (v := fun c => (exmOne K cls c).getD false) its (fun c hc {Q'} q' => ?_) ?_)
    · obtain ⟨_, S1⟩ := exm_cls (M := M) X (h1 c hc)
      refine wpAny_bind ((S1.keeps k).here ?_)
      cases hv : (exmOne K cls c).getD false with
      | true => rw [hv] at q'; exact wpAny_pure q'
      | false => rw [hv] at q'; exact wpAny_pure q'
    · cases hv : its.any fun c => (exmOne K cls c).getD false with
      | true => rw [hv] at q; exact wpAny_pure q
      | false => rw [hv] at q; exact wpAny_pure q
end
/-! ### the test of an except clause -/
inductive NamesAll (X : Cx) : List Expr → List Value → Prop
  | nil : NamesAll X [] []
  | cons {x : Str} {p : Pos} {c : Value} {es : List Expr} {cs : List Value} : Names X x c → NamesAll X es cs → NamesAll X (.Name x p :: es) (c :: cs)
inductive Tst (X : Cx) : Expr → List Value → Prop
  | one {x : Str} {p : Pos} {c : Value} : Names X x c → Tst X (.Name x p) [c]
  | many {es : List Expr} {cs : List Value} {k : Nat} {p : Pos} : NamesAll X es cs → cs.length ≤ 100 → Tst X (.Tuple es k p) cs
section
variable {X : Cx} {a : Addr} {pn : List (Addr × Obj)} {pins : List (Addr × Obj)} {σ : L2.St} {H : Hp} {s : Shared} {E : Value → Shared → Prop}
theorem names_eval {x : Str} {p : Pos} {c : Value} (hn : Names X x c) (I : Inv (X.suite a pn) pins σ H s) {Q : Value → Shared → Prop} (q : Q c s) : wpAny (model X.prog X.w) (X.A.mark (some (.ref a))) (eval (.Name x p) X.env) Q E s := by
  obtain ⟨hg, hdbg, hm | ⟨hm, hv, hnn⟩⟩ := hn
  · exact ld_glob (X := X.suite a pn) I hg hm q hdbg
  · exact ld_blt (X := X.suite a pn) I hg hm hv q hnn hdbg
theorem names_all (I : Inv (X.suite a pn) pins σ H s) (pos : Pos) : ∀ {es : List Expr} {cs : List Value}, NamesAll X es cs → ∀ {Q : List Value → Shared → Prop}, Q cs s → wpAny (model X.prog X.w) (X.A.mark (some (.ref a))) (spliced (backTo pos (starEach es X.env))) Q E s := by
  intro es cs h
  induction h with
  | nil => intro Q q; exact Calls.spliced_nil q
  | @cons x p c es cs hn _ ih =>
    intro Q q
    show wpAny _ _ (spliced ((false, eval (.Name x p) X.env) :: backTo pos (starEach es X.env))) _ _ s
    exact Calls.spliced_cons (names_eval hn I (ih q))
theorem tst_ok {test : Expr} {cs : List Value} {cls : Value} {b : Bool} {oe : Obj} (T : Tst X test cs) (I : Inv (X.suite a pn) pins σ H s) (ho : s.heap.get? a = some oe) (hc : oe.cls = cls) (hb : exmAny X.K cls cs = some b) {Q : Bool → Shared → Prop}
    (q : ∀ h' tk, (∀ b o, s.heap.get? b = some o → h'.get? b = some o) → Q b { s with heap := h', toks := tk }) :
    wpAny (model X.prog X.w) (X.A.mark (some (.ref a))) (eval test X.env) (fun c s1 => wpAny (model X.prog X.w) (X.A.mark (some (.ref a))) (excMatches (.ref a) c) Q E s1) E s := by
  have LT : Looks (model X.prog X.w) s.heap (typeOf (.ref a)) cls := fun A Q E s k q => wpAny_typeOf_ref (k _ _ ho) (by rw [hc]; exact q)
  cases T with
  | @one x p c hn =>
    refine names_eval hn I ?_
    have h1 : exmOne X.K cls c = some b := by
      obtain ⟨b1, d1, h1, h2, rfl⟩ := exmAny_cons hb
      cases h2
      rw [Bool.or_false]
      exact h1
    exact (exm_one (M := model X.prog X.w) I.kIn LT h1).here (q s.heap s.toks fun _ _ z => z)
  | many hn hl =>
    refine wpAny_Tuple_spliced (names_all I _ hn ⟨Nat.le_trans hl (by rw [sizeLine_eq]; exact (by decide : 100 ≤ 16777216)), ?_⟩)
    have k : ∀ (o : Obj) b u, s.heap.get? b = some u → (s.heap.push o).get? b = some u := fun o b u z => Heap.get?_push_of_some _ z
    refine (exm_many (M := model X.prog X.w) (K := X.K) (I.kIn.keeps (k _)) (LT.keeps (k _)) ⟨_, Heap.get?_push_size _ rfl⟩ hb).here (q _ s.toks (k _))
end

/-! ### a def that may be called within an except suite too -/
structure FnC (P : Program) (w : World) (K : PySem.W.Frag) (mg : Str → Option Value) (base : Heap) (CX : CXT) (k : Nat) (f : Addr) (fd : FuncData) (ps : List Str) (sp : Sp) : Prop where
  len : ∀ {vs H Q E}, sp vs H Q E → vs.length = ps.length
  run : ∀ {A : Around} {o : Option Value} {outer : List PySem.Env} {s : Shared} {H : Hp} {args : Args} {us : List Value} {vs : List V} {Q : VK} {E : XK}, Room k A → A.guards = some [] → Env0 P w K mg base (A.mark o) outer s H →
    BindsTo s fd args (ps.zip us) → Vals vs us → sp vs H Q E → codeAny (model P w) (A.mark o) (.call (.ref f) args) (CR CX outer P w H s Q E) s
abbrev cxC (CX : CXT) (P : Program) (w : World) (K : PySem.W.Frag) (mg : Str → Option Value) (base : Heap) (N : List Str) (qual : Str) (scope : Scope) (f : Addr) (cd : Value) (A : Around) (outer : List PySem.Env) (s : Shared) (H : Hp) (E : XK) : Cx :=
  { cxOf CX P w K mg base N qual scope f cd A outer s H E with calm := false }
section
variable {P : Program} {w : World} {K : PySem.W.Frag} {mg : Str → Option Value} {base : Heap} {CX : CXT} {f : Addr} {fd : FuncData} {ps : List Str} {sp : Sp}
theorem FnC.g {k : Nat} (G : FnC P w K mg base CX k f fd ps sp) : FnG P w K mg base CX k f fd ps sp := ⟨G.len, fun hr hg e0 hb r q => G.run (o := none) hr hg e0 hb r q⟩
theorem cold_hot {N : List Str} {qual : Str} {sc : Scope} {cd : Value} {A : Around} {o : Option Value} {outer : List PySem.Env} {s s1 : Shared} {H : Hp} {E : XK} {σ : L2.St} (I : Inv (cxOf CX P w K mg base N qual sc f cd A outer s H E) [] σ H s1) :
    Inv (cxC CX P w K mg base N qual sc f cd (A.mark o) outer s H E) [] σ H s1 :=
  ⟨⟨I.ok.mod, I.ok.kind, I.ok.glob, I.ok.blt, I.ok.above, I.ok.inj, I.ok.has, I.ok.cab, (fun z => Bool.noConfusion (show false = true from z)), I.ok.frames, I.ok.stk, I.ok.exf, I.ok.bs, I.ok.bsz, I.ok.noex, I.ok.exfs, I.ok.funs, I.ok.frf⟩,
    I.os, I.bare, I.base, I.loc, I.cell, I.free, I.freeC, I.pin, I.hok, I.len⟩
theorem FnC.of {x qual : Str} {st : Stmt} {N : List Str} {k : Nat} (F : Fun K x qual st f fd) (S : FnScope N ps (defScope st)) (len : ∀ {vs H Q E}, sp vs H Q E → vs.length = ps.length)
    (hbody : ∀ (cdv : Value) (A : Around) (o : Option Value) (outer : List PySem.Env) (s : Shared) (H : Hp) (vs : List V) (Q : VK) (E : XK), Room k (A.deeper (envOfC qual (defScope st) s.heap.objs.size f cdv)) → A.guards = some [] → sp vs H Q E →
      ∃ t, PSs (cxC CX P w K mg base N qual (defScope st) f cdv (A.mark o) outer s H E) (defBody st) t ∧ t { nx := fun _ H' => Q .non H', rt := Q } (L2.start N vs) H) : FnC P w K mg base CX (k + 1) f fd ps sp := by
  obtain ⟨oc, od, kV, doc, pm, an, cdv, ct, osl, efd, lk, hcd⟩ := F.ex
  subst efd
  refine ⟨len, ?_⟩
  intro A o outer s H args us vs Q E hr hg e0 hb r hsp
  have e1 : Env0 P w K mg base A outer s H := ⟨e0.frames, e0.mod, e0.bs, e0.bsz, e0.funs, e0.frf, e0.hok, e0.bare⟩
  have up : ∀ b o, base.get? b = some o → s.heap.get? b = some o := fun b o z => (e0.bs b o z).1
  have inK := e0.mod.kin.keeps up
  have kinds : ∀ y ∈ ps.zip us, (defScope st).names.lookup y.1 = some .local ∨ ((defScope st).names.lookup y.1 = some .cell ∧ ((cellsFrom (s.heap.objs.size + 1) (defScope st).names []).lookup y.1).isSome = true) := by
    rintro ⟨n, v⟩ hy
    cases S.par n (List.of_mem_zip hy).1 with
    | inl q => exact Or.inl q
    | inr q => exact Or.inr ⟨q, PySem.W.cellsFrom_some _ _ _ (Or.inl q)⟩
  obtain ⟨t, ht, hq⟩ := hbody cdv A o outer s H vs Q E (hr.deeper _) hg hsp
  refine codeAny_call_function hr.depth (inK _ _ lk) rfl S.co S.gen rfl (PySem.W.codeRec_of inK hcd) (hb _ _ _ _ (wpAny_newFunctionEnv_cells S.kind kinds ?_))
  intro env he s1 x
  subst he
  refine ⟨(e0.mod.nolimit.keeps up).keeps x.toInCall.keep, codeAny_func (wpAny_mono (ht.run [] s1 _ H _ (cold_hot (inv_start S hr.hd e1 (len hsp) r x)) hq) ?_ fun _ _ z => z)⟩
  rintro fl s' hs
  cases fl with
  | next =>
    obtain ⟨σ', H', J, q⟩ := hs
    exact ⟨.non, H', J.os, J.bare, J.base, J.hok, rfl, q⟩
  | ret u =>
    obtain ⟨v, σ', H', J, rv, q⟩ := hs
    exact ⟨v, H', J.os, J.bare, J.base, J.hok, rv, q⟩
  | brk => exact hs.elim fun _ z => z.elim fun _ z => z.2.elim
  | cont => exact hs.elim fun _ z => z.elim fun _ z => z.2.elim
end
section
variable {P : Program} {w : World} {K : PySem.W.Frag} {mg : Str → Option Value} {base : Heap} {ec : List (Addr × Str)}
/-- a def that raises nothing, by its body -/
theorem fnC_ok {x qual : Str} {st : Stmt} {f : Addr} {fd : FuncData} {N ps : List Str} {k : Nat} {mb : SM} (F : Fun K x qual st f fd) (S : FnScope N ps (defScope st))
    (hbody : ∀ (cdv : Value) (A : Around) (o : Option Value) (outer : List PySem.Env) (s : Shared) (H : Hp) (E : XK), Room k (A.deeper (envOfC qual (defScope st) s.heap.objs.size f cdv)) → A.guards = some [] →
      PSs (cxC (L2.CX P w) P w K mg base N qual (defScope st) f cdv (A.mark o) outer s H E) (defBody st) (tS ⟨K, ec⟩ (WL E) mb)) :
    FnC P w K mg base (L2.CX P w) (k + 1) f fd ps (spOf ⟨K, ec⟩ ps.length (fnM N.length mb)) := by
  refine FnC.of F S (fun {vs H Q E} h => ?_) (fun cdv A o outer s H vs Q E hr hg h => ⟨_, hbody cdv A o outer s H E hr hg, ?_⟩)
  · obtain ⟨_, _, _, _, _, _, _, hl, _⟩ := h
    exact hl
  · obtain ⟨F0, os, vals, st0, k0, r0, n0, hl, h⟩ := h
    refine ⟨_, F0, os, _, st0, rel_start k0 r0 n0, ?_⟩
    unfold fnM at h
    cases hm : mb (envOf N.length vals) st0 <;> rw [hm] at h
    case nx env' st' => exact fun F1 os1 σ1 H1 R1 => h _ _ _ _ R1.bs R1.ok (.dat .non) Frs.dat
    case ret v st' => exact fun x F1 os1 H1 e k r f => h x F1 os1 H1 e k r f
    case exc c d env' st' => exact fun cls dd F1 os1 σ1 H1 R1 r => h cls dd F1 os1 H1 R1.bs R1.ok r
    all_goals exact False.elim h
end
section
variable {X : Cx} {ec : List (Addr × Str)} {W : WX} {e : Expr} {pos : Pos}
/-- its call -/
theorem pe_fnC {k n : Nat} {f : Addr} {fd : FuncData} {ps : List Str} {x : Str} {p : Pos} {es : List Expr} {fm : FM} {ra : AM} {A1 : Around} {o : Option Value} (hA : X.A = A1.mark o) (G : FnC X.prog X.w X.K X.mg X.base (L2.CX X.prog X.w) k f fd ps (spOf (kx X ec) n fm)) (hr : Room k A1) (hgd : A1.guards = some []) (hg : Gl X x) (hm : X.mg x = some (.ref f))
    (hk : PySem.W.keepIn X.K (.ref f) = true) (hb : Binds X.K fd ps []) (tk : Takes X W) (ha : PA X (e :: es) (tA (kx X ec) W ra)) (hdb : (x == ("__debug__" : Str)) = false := by decide) (he : starEach (e :: es) X.env = (false, eval e X.env) :: starEach es X.env := by rfl)
    (hpl : (backTo pos (starEach es X.env)).any (·.1) = false := by rfl) : PE X (.Call (.Name x p) (e :: es) [] pos) (tM (kx X ec) W (callF n fm ra)) := by
  refine ⟨?_⟩
  rintro pins s σ H Q I ⟨B, F, os, env, st, R, h⟩
  have h2 : tA (kx X ec) W ra σ H fun vs H1 => spOf (kx X ec) n fm vs H1 Q fun cls dd H' => W cls dd σ H' := by
    refine ⟨B, F, os, env, st, R, PoL.bind h ?_⟩
    intro vs st1 xs F1 os1 H1 ev e1 k1 r1 n1 p1
    by_cases hl : vs.length = n
    · rw [if_pos hl] at p1
      exact ⟨F1, os1, vs, st1, k1, r1, n1, r1.len.trans hl, p1.shift e1⟩
    · rw [if_neg hl] at p1
      exact p1.elim
  refine wpAny_Call_Name_kw (ld_glob I hg hm ?_ hdb)
  refine PySem.W.callWith_K (h₀ := X.base) I.ok.mod.kin hk (thn (ha.run pos pins s σ H _ I h2) ?_) he hpl
  rintro us s1 ⟨vs, H1, I1, r1, q⟩
  refine ⟨I1.kIn, ?_⟩
  have hlen : us.length = ps.length := by rw [← r1.length]; exact G.len q
  have hbt := hb s1 us I1.kIn (by rw [List.append_nil]; exact hlen)
  rw [List.append_nil] at hbt
  have e0 := I1.env0
  rw [hA] at e0
  refine wpAny_call ?_
  rw [hA]
  refine codeAny_mono (G.run hr hgd e0 hbt r1 q) fun r s' hq => ?_
  cases r with
  | error u => exact (L2.passAt tk σ) pins H1 s1 u s' I1 hq
  | ok fl =>
    cases fl with
    | ret u => exact I1.after hq
    | next => exact hq.elim
    | brk => exact hq.elim
    | cont => exact hq.elim
end
end Pl

set_option Elab.async false
set_option linter.all false
set_option maxRecDepth 100000
set_option maxHeartbeats 4000000
namespace Pl
open PySem PySem.Spec PyProof.Rows L2 PySem.W PySem.Calls

/-! ### try: body, except ..: suites -/
def goneM (i : Option Nat) (o : Os) : Os := match o with
  | .nx env st => .nx (match i with | none => env | some i => env.set i none) st
  | .brk env st => .brk (match i with | none => env | some i => env.set i none) st
  | .cnt env st => .cnt (match i with | none => env | some i => env.set i none) st
  | .ret v st => .ret v st
  | .exc _ _ _ _ => .stk
  | .stk => .stk
def hdM : List (List Bool × Option Nat × SM) → Nat → D → Env → List Cn → Os
  | [], c, d, env, st => .exc c d env st
  | (tb, i, ms) :: r, c, d, env, st => match tb[c]? with
    | some true => goneM i (ms (match i with | none => env | some i => env.set i (some (.dat (errD c d)))) st)
    | some false => hdM r c d env st
    | none => .stk
def tryM (mb : SM) (hs : List (List Bool × Option Nat × SM)) : SM := fun env st => match mb env st with
  | .exc c d env' st' => hdM hs c d env' st'
  | o => o
abbrev WN : WX := fun _ _ _ _ => False
/-- which classes a clause takes -/
def TbOk (K : Frag) (ec : List (Addr × Str)) (cs : List Value) (tb : List Bool) : Prop := ∀ (c : Nat) (C : Addr) (f : Str) (b : Bool), ec[c]? = some (C, f) → tb[c]? = some b → exmAny K (.ref C) cs = some b
inductive HdsE (X : Cx) (ec : List (Addr × Str)) : List ExceptHandler → List (List Bool × Option Nat × SM) → Prop
  | nil : HdsE X ec [] []
  | plain {test : Expr} {cs : List Value} {tb : List Bool} {b₀ : Stmt} {suite : List Stmt} {pos' : Pos} {ms : SM} {hds l} (T : Tst X test cs) (B : TbOk X.K ec cs tb) (hsu : ∀ (a : Addr) (pn : List (Addr × Obj)), PSs (X.suite a pn) (b₀ :: suite) (tS (kx X ec) WN ms)) (r : HdsE X ec hds l) :
      HdsE X ec (.ExceptHandler (some test) none (b₀ :: suite) pos' :: hds) ((tb, none, ms) :: l)
  | named {test : Expr} {cs : List Value} {tb : List Bool} {n : Str} {i : Nat} {b₀ : Stmt} {suite : List Stmt} {pos' : Pos} {ms : SM} {hds l} (T : Tst X test cs) (B : TbOk X.K ec cs tb) (hi : X.N[i]? = some n) (hl : X.env.kindOf n = some .local)
      (hsu : ∀ (a : Addr) (pn : List (Addr × Obj)), PSs (X.suite a pn) (b₀ :: suite) (tS (kx X ec) WN ms)) (r : HdsE X ec hds l) :
      HdsE X ec (.ExceptHandler (some test) (some n) (b₀ :: suite) pos' :: hds) ((tb, some i, ms) :: l)

/-- an object that stands untracked is tracked -/
theorem put1 {X : Cx} {pins : List (Addr × Obj)} {σ : L2.St} {H : Hp} {s : Shared} {a : Addr} {u : HO} (I : Inv X pins σ H s) (hex : X.ex = []) (h0 : X.s_0.heap.get? a = none) (na : H a = none) (nL : a ≠ X.env.locals) (nC : ∀ x c, X.env.cells.lookup x = some c → c ≠ a)
    (np : ∀ p ∈ X.pn ++ pins, p.1 ≠ a) (new : ObjOk X.prog X.w (upd H a u) s.heap a u) : Inv X pins σ (upd H a u) s := by
  have old : ∀ b o, H b = some o → upd H a u b = some o := fun b o q => by
    rw [upd_ne (fun z => by rw [z, na] at q; cases q)]
    exact q
  have ne0 : ∀ b o, X.s_0.heap.get? b = some o → b ≠ a := fun b o q z => by rw [z, h0] at q; cases q
  refine ⟨I.ok, I.os, I.bare, ⟨I.base.keep, I.base.slot, fun b o q n hx => ?_, I.base.there, fun b xs q => old _ _ (I.base.tups b xs q), fun b o xs q => old _ _ (I.base.frzs b o xs q), fun b ps q => ?_⟩, I.loc, I.cell, ?_, fun x c e => ?_, fun p hp => ?_, fun b o q => ?_, I.len⟩
  · rw [upd_ne (ne0 b o q)]
    exact I.base.free b o q n hx
  · obtain ⟨m, e⟩ := I.base.tbls b ps q
    exact ⟨m, old _ _ e⟩
  · rw [upd_ne (Ne.symm nL)]
    exact I.free
  · rw [upd_ne (nC x c e)]
    exact I.freeC x c e
  · obtain ⟨h1, h2, h3, h4, h5⟩ := I.pin p hp
    exact ⟨h1, by rw [upd_ne (np p hp)]; exact h2, h3, h4, h5⟩
  · by_cases hb : b = a
    · subst hb
      rw [upd_same] at q
      cases q
      exact new
    · rw [upd_ne hb] at q
      exact (I.hok b o q).stay (fun c u _ r => r) (fun c r => old _ _ r) fun c xs r => old _ _ r
theorem erO_any {P : Program} {w : World} {H : Hp} {h : Heap} {a d : Addr} {cls : Value} {oe : Obj} {vs : Array Value} (he : h.get? a = some oe) (hz : Zc cls (some d) oe) (hd : oe.data = .fields vs) : ObjOk P w H h a (ErO cls d a) := by
  refine ⟨⟨oe, vs, he, hz, hd⟩, ⟨_, he⟩, ?_⟩
  rintro h1 h2 ⟨oe, vs, q, z, dd⟩ k
  exact ⟨oe, vs, k _ q, z, dd⟩
theorem fly_keeps {B h h' : Heap} {l : List PySem.Env} {a : Addr} {Z : Obj → Prop} (f : HandSPX.FlyingZ B l a Z h) (k : ∀ b o, h.get? b = some o → h'.get? b = some o) : HandSPX.FlyingZ B l a Z h' := by
  obtain ⟨h1, h2, h3, oe, vs, T, oT, ts, e1, e2, e3, e4, e5, e6, e7, e8, e9⟩ := f
  exact ⟨fun b o e => k _ _ (h1 b o e), h2, h3.of_keeps fun b o e _ => ⟨o, k _ _ e, rfl⟩, oe, vs, T, oT, ts, k _ _ e1, e2, e3, e4, e5, e6, k _ _ e7, e8, e9⟩
theorem toSuite {X : Cx} {pins : List (Addr × Obj)} {σ : L2.St} {H : Hp} {s : Shared} (I : Inv X pins σ H s) (a : Addr) : Inv (X.suite a (X.pn ++ pins)) [] σ H s :=
  ⟨I.ok.suite _ _, I.os, I.bare, I.base, I.loc, I.cell, I.free, I.freeC, fun p hp => I.pin p (by rw [List.append_nil] at hp; exact hp), I.hok, I.len⟩
theorem ofSuite {X : Cx} {pins pn' : List (Addr × Obj)} {σ : L2.St} {H : Hp} {s : Shared} {a : Addr} (I : Inv (X.suite a (X.pn ++ pins)) pn' σ H s) (ok : X.Ok) : Inv X pins σ H s :=
  ⟨ok, I.os, I.bare, I.base, I.loc, I.cell, I.free, I.freeC, fun p hp => I.pin p (List.mem_append_left _ hp), I.hok, I.len⟩
/-- what a try's end is, with the slot gone -/
def endsE (X : Kx) (W : WX) (B : Bs) (i : Option Nat) (E : Ends) : Ends := { nx := fun σ H => E.nx (match i with | none => σ | some i => σ.set i none) H, rt := E.rt, bk := fun σ H => E.bk (match i with | none => σ | some i => σ.set i none) H, ct := fun σ H => E.ct (match i with | none => σ | some i => σ.set i none) H }
theorem gone_end {X : Kx} {W : WX} {B : Bs} {i : Option Nat} {o : Os} {E : Ends} (h : PoS X W B (goneM i o) E) : PoS X WN B o (endsE X W B i E) := by
  cases o with
  | stk => exact h
  | exc c d env st => exact False.elim h
  | ret v st => exact h
  | nx env st =>
    cases i with
    | none => exact h
    | some i => exact fun F os σ H R => h F os _ H (R.unset i)
  | brk env st =>
    cases i with
    | none => exact h
    | some i => exact fun F os σ H R => h F os _ H (R.unset i)
  | cnt env st =>
    cases i with
    | none => exact h
    | some i => exact fun F os σ H R => h F os _ H (R.unset i)

section
variable {X : Cx} {ec : List (Addr × Str)} {W : WX} {pos : Pos}
theorem ps_ty {body : List Stmt} {h₀ : ExceptHandler} {hds : List ExceptHandler} {l : List (List Bool × Option Nat × SM)} {mb : SM} (hs : X.stack = X.env :: X.outer) (hf : X.env.frame = some X.env.locals) (hex : X.ex = []) (hN : X.N.Nodup) (tk : Takes X W)
    (hb : ∀ (W : WX) (pn : List (Addr × Obj)) (xe : Value → Shared → Prop), Takes (X.tr pn xe) W → PassesOwn (model X.prog X.w) X.A X.env xe → PSs (X.tr pn xe) body (tS (kx X ec) W mb)) (hh : HdsE X ec (h₀ :: hds) l) :
    PS X (.Try body (h₀ :: hds) [] [] pos) (tS (kx X ec) W (tryM mb l)) := by
  refine ⟨fun pins s σ H D I h => ?_⟩
  obtain ⟨B, F, os, env, st, R, hP⟩ := h
  have ok := I.ok
  have hfr : X.A.frames = some (X.env :: X.outer) := by rw [ok.frames, hs]
  obtain ⟨W', hW⟩ : ∃ W' : WX, W' = fun cls dd σ' H' => ∃ F' os' env' st' c d, Rel (kx X ec) B F' os' σ' H' env' st' ∧ ErD (kx X ec) F' cls dd c d ∧ PoS (kx X ec) W B (hdM l c d env' st') D := ⟨_, rfl⟩
  have hbody : tS (kx X ec) W' mb D σ H := by
    refine ⟨B, F, os, env, st, R, ?_⟩
    unfold tryM at hP
    cases hm : mb env st with
    | exc c d env' st' =>
      rw [hm] at hP
      intro cls dd F1 os1 σ1 H1 R1 r1
      rw [hW]
      exact ⟨F1, os1, _, _, c, d, R1, r1, hP⟩
    | stk => rw [hm] at hP; exact hP
    | nx env' st' => rw [hm] at hP; exact hP
    | ret v st' => rw [hm] at hP; exact hP
    | brk env' st' => rw [hm] at hP; exact hP
    | cnt env' st' => rw [hm] at hP; exact hP
  refine wpAny_Try_except ?_
  obtain ⟨xe, hxe⟩ : ∃ xe : Value → Shared → Prop, xe = fun e s₁ => wpAny (model X.prog X.w) X.A (noteFrame e X.env) (fun _ s₂ => wpAny (model X.prog X.w) X.A (setFlight e none) (fun _ s₃ =>
    wpAny (model X.prog X.w) X.A (handleBy e X.env (h₀ :: hds)) (SP X pins D) X.xe s₃) X.xe s₂) X.xe s₁ := ⟨_, rfl⟩
  have hpo : PassesOwn (model X.prog X.w) X.A X.env xe := by
    rw [hxe]
    exact PassesOwn.looking
  have htk : Takes (X.tr (X.pn ++ pins) xe) W' := by
    intro u s' xx
    obtain ⟨a, G, sI, pins', σ', H', cls, d, rfl, J', nb, up, sky, na, oss, ag, w⟩ := xx
    have J : Inv X pins σ' H' sI := J'.ofTry ok
    have sky' : Sky G (X.env :: X.outer) a (Zc cls d) X.env.locals s'.heap := by rw [← hs]; exact sky
    rw [hxe]
    show wpAny (model X.prog X.w) X.A (noteFrame (.ref a) X.env) _ _ _
    refine Sky.land Zc.steady hfr hf sky' fun h3 fl3 up3 => ?_
    rw [hW] at w
    obtain ⟨F', os', env', st', c, dt, R', er, hP'⟩ := w
    obtain ⟨C, f, ea, v, hec, ecls, edd, hF, hD⟩ := er
    subst ecls edd
    have nofr : ∀ {h : Heap}, HandSPX.FlyingZ G (X.env :: X.outer) a (Zc (.ref C) (some ea)) h → a ∉ frs (X.env :: X.outer) := fun {h} fl hm => by
      obtain ⟨oe, vs, e1, _, e3⟩ := fl.there
      obtain ⟨_, o', e', hnf⟩ := fl.2.2.1.mem hm
      rw [e1] at e'; cases e'
      exact hnf _ e3
    have nfr := nofr fl3
    have nL : a ≠ X.env.locals := fun z => nfr (List.mem_filterMap.mpr ⟨X.env, List.mem_cons_self, by rw [hf, z]⟩)
    have aI : sI.heap.get? a = none := by
      cases q : sI.heap.get? a with
      | none => rfl
      | some o =>
        have z := nb a o q (by rw [show (X.tr (X.pn ++ pins) xe).stack = X.env :: X.outer from hs]; exact nfr)
        rw [fl3.2.1] at z; cases z
    have a0 : X.s_0.heap.get? a = none := by
      cases q : X.s_0.heap.get? a with
      | none => rfl
      | some o =>
        obtain ⟨o', z⟩ := J.base.there a o q (by rw [hex]; simp)
        rw [aI] at z; cases z
    have ap : ∀ p ∈ X.pn ++ pins, p.1 ≠ a := fun p hp z => by
      have q := (J.pin p hp).1
      rw [z, aI] at q; cases q
    have land : ∀ {sc : Shared}, HandSPX.FlyingZ G (X.env :: X.outer) a (Zc (.ref C) (some ea)) sc.heap → sI.heap.UpToSlots sc.heap → sc.os = sI.os → AllBare sc.gens → Inv X pins σ' H' sc := fun {sc} fl u o g => J.landed nb fl.1 u o g
    -- the state in which a suite begins
    have begin_ : ∀ {sc : Shared}, HandSPX.FlyingZ G (X.env :: X.outer) a (Zc (.ref C) (some ea)) sc.heap → sI.heap.UpToSlots sc.heap → sc.os = sI.os → AllBare sc.gens → Inv X pins σ' (upd H' a (ErO (.ref C) ea a)) sc := fun {sc} fl u o g => by
      obtain ⟨oe, vs, e1, e2, e3⟩ := fl.there
      have J4 := land fl u o g
      refine put1 J4 hex a0 na nL (fun x c e z => ?_) ap (erO_any e1 e2 e3)
      obtain ⟨v, oc, q1, q2⟩ := J4.cell x c e
      rw [z, e1] at q1
      cases q1
      rw [e3] at q2
      cases q2
    have R2 : Rel (kx X ec) B (upd F' a (ErO (.ref C) ea a)) os' σ' (upd H' a (ErO (.ref C) ea a)) env' st' := R'.ext (Ext.newF R'.ok na) (StOk.newF R'.ok na)
    have eaN : ea ≠ a := fun z => by
      have q := R'.ok.sub _ _ hF
      rw [z, na] at q; cases q
    have VE : VR (kx X ec) (upd F' a (ErO (.ref C) ea a)) os' (upd H' a (ErO (.ref C) ea a)) (.ref a) (.dat (errD c dt)) := .dat (.err hec upd_same (by rw [upd_ne eaN]; exact hF) (Dr.mono (same_upd (StOk.free R'.ok na).2) _ _ hD))
    have go : ∀ {hds' : List ExceptHandler} {l' : List (List Bool × Option Nat × SM)}, HdsE X ec hds' l' → ∀ sc : Shared, HandSPX.FlyingZ G (X.env :: X.outer) a (Zc (.ref C) (some ea)) sc.heap → sI.heap.UpToSlots sc.heap → sc.os = sI.os → AllBare sc.gens → PoS (kx X ec) W B (hdM l' c dt env' st') D →
        wpAny (model X.prog X.w) X.A (handleBy (.ref a) X.env hds') (SP X pins D) X.xe sc := by
      intro hds' l' hk
      induction hk with
      | nil =>
        intro sc fl u o g hp
        refine wpAny_handleBy_nil ?_
        obtain ⟨z1, z2, z3, oe, vs, T, oT, ts', he, hz, hd, h1, hr⟩ := id fl
        unfold PySem.passOn
        refine wpAny_bind (wpAny_field he hd h1 ?_)
        rw [if_neg (show ¬ ((Value.ref T == Value.none) = true) from by simp)]
        have fin : wpAny (model X.prog X.w) X.A (setFlight (.ref a) X.env.frame) (fun _ s4 => wpAny (model X.prog X.w) X.A (throw (.ref a) : Sem Flow) (SP X pins D) X.xe s4) X.xe sc := by
          rw [hf]
          refine HandSPX.setFlight_upZ fl fun h4 hh4 up4 => wpAny_throw (tk _ _ ?_)
          exact ⟨a, G, sI, pins, σ', H', .ref C, some ea, rfl, J, nb, u.trans up4, .inr (.inr (by rw [hs]; exact hh4)), na, o, g, hp _ _ F' os' σ' H' R' ⟨C, f, ea, v, hec, rfl, rfl, hF, hD⟩⟩
        first
          | exact wpAny_bind (wpAny_pure (wpAny_bind fin))
          | exact wpAny_bind fin
      | @plain test cs tb b₀ suite pos' ms hds2 l2 T TB hsu r ih =>
        intro sc fl u o g hp
        obtain ⟨oe, vs, e1, e2, e3⟩ := fl.there
        unfold hdM at hp
        cases ht : tb[c]? with
        | none => rw [ht] at hp; exact hp.elim
        | some b =>
          rw [ht] at hp
          refine wpAny_handleBy_cons (codeAny_handlers_test ?_) (by intro q; cases q)
          refine tst_ok (b := b) T (toSuite (land fl u o g) a) e1 e2.1 (TB c C f b hec ht) fun h' tkk kk => ?_
          have fl' := fly_keeps fl kk
          have u' : sI.heap.UpToSlots h' := u.trans (Heap.UpToSlots.of_keeps kk)
          cases b with
          | true =>
            refine codeAny_handlers_suite ?_
            refine HandSPX.lands_againZ fl' fun h4 fl4 up4 => ?_
            have J5 := begin_ (sc := { sc with heap := h4, toks := tkk }) fl4 (u'.trans up4) o g
            refine wpAny_mono ((hsu a (X.pn ++ pins)).run [] _ _ _ (endsE (kx X ec) W B none D) (toSuite J5 a) ⟨B, _, os', env', st', R2, gone_end hp⟩) (fun fl s6 hsp => ?_) (fun _ _ z => False.elim z)
            cases fl with
            | next =>
              obtain ⟨σ6, H6, S6, q6⟩ := hsp
              exact ⟨_, _, ofSuite S6 ok, q6⟩
            | brk =>
              obtain ⟨σ6, H6, S6, q6⟩ := hsp
              exact ⟨_, _, ofSuite S6 ok, q6⟩
            | cont =>
              obtain ⟨σ6, H6, S6, q6⟩ := hsp
              exact ⟨_, _, ofSuite S6 ok, q6⟩
            | ret u =>
              obtain ⟨v6, σ6, H6, S6, r6, q6⟩ := hsp
              exact ⟨_, _, _, ofSuite S6 ok, r6, q6⟩
          | false => exact ih { sc with heap := h', toks := tkk } fl' u' o g hp
      | @named test cs tb n i b₀ suite pos' ms hds2 l2 T TB hi hln hsu r ih =>
        intro sc fl u o g hp
        obtain ⟨oe, vs, e1, e2, e3⟩ := fl.there
        unfold hdM at hp
        cases ht : tb[c]? with
        | none => rw [ht] at hp; exact hp.elim
        | some b =>
          rw [ht] at hp
          refine wpAny_handleBy_cons (codeAny_handlers_test ?_) (by intro q; cases q)
          refine tst_ok (b := b) T (toSuite (land fl u o g) a) e1 e2.1 (TB c C f b hec ht) fun h' tkk kk => ?_
          have fl' := fly_keeps fl kk
          have u' : sI.heap.UpToSlots h' := u.trans (Heap.UpToSlots.of_keeps kk)
          cases b with
          | true =>
            refine codeAny_handlers_suite_as ?_
            refine HandSPX.lands_againZ fl' fun h4 fl4 up4 => ?_
            have J5 := begin_ (sc := { sc with heap := h4, toks := tkk }) fl4 (u'.trans up4) o g
            refine store_ok (X := X.suite a (X.pn ++ pins)) (v := .ref a) (toSuite J5 a) hN hi (.inl hln) rfl (fun s5 S5 => ?_) (.inr hln)
            have R3 := R2.set (i := i) VE rfl (fun c p h => nomatch h)
            refine wpAny_mono ((hsu a (X.pn ++ pins)).run [] s5 _ _ (endsE (kx X ec) W B (some i) D) S5 ⟨B, _, os', _, st', R3, gone_end hp⟩) (fun fl s6 hsp => ?_) (fun _ _ z => False.elim z)
            have end_ : ∀ {σ6 : L2.St} {H6 : Hp} {Q : Shared → Prop}, Inv (X.suite a (X.pn ++ pins)) [] σ6 H6 s6 → (∀ s7, Inv X pins (σ6.set i none) H6 s7 → Q s7) →
                wpAny (model X.prog X.w) X.A (do bindName X.env n .none; unbindBehindTheSuite X.env n pos') (fun _ s7 => Q s7) X.xe s6 := fun {σ6 H6 Q} S6 hq => gone_ok (ofSuite S6 ok) hN hi hln hq
            cases fl with
            | next =>
              obtain ⟨σ6, H6, S6, q6⟩ := hsp
              exact end_ S6 fun s7 J7 => ⟨_, _, J7, q6⟩
            | brk =>
              obtain ⟨σ6, H6, S6, q6⟩ := hsp
              exact end_ S6 fun s7 J7 => ⟨_, _, J7, q6⟩
            | cont =>
              obtain ⟨σ6, H6, S6, q6⟩ := hsp
              exact end_ S6 fun s7 J7 => ⟨_, _, J7, q6⟩
            | ret u =>
              obtain ⟨v6, σ6, H6, S6, r6, q6⟩ := hsp
              exact end_ S6 fun s7 J7 => ⟨_, _, _, J7, r6, q6⟩
          | false => exact ih { sc with heap := h', toks := tkk } fl' u' o g hp
    exact go hh { s' with heap := h3 } fl3 (up.trans up3) oss ag hP'
  refine wpAny_mono ((hb W' (X.pn ++ pins) xe htk hpo).run [] s σ H D (I.toTry _) hbody) (fun f s1 hsp => ?_) (fun e s1 he => by rw [hxe] at he; exact he)
  cases f with
  | next =>
    obtain ⟨σ', H', J', q⟩ := hsp
    exact wpAny_execs_nil ⟨σ', H', J'.ofTry ok, q⟩
  | brk =>
    obtain ⟨σ', H', J', q⟩ := hsp
    exact ⟨σ', H', J'.ofTry ok, q⟩
  | cont =>
    obtain ⟨σ', H', J', q⟩ := hsp
    exact ⟨σ', H', J'.ofTry ok, q⟩
  | ret u =>
    obtain ⟨v, σ', H', J', r, q⟩ := hsp
    exact ⟨v, σ', H', J'.ofTry ok, r, q⟩
end
end Pl

set_option Elab.async false
set_option linter.all false
set_option maxRecDepth 100000
set_option maxHeartbeats 4000000
namespace Pl
open PySem PySem.Spec PyProof.Rows L2

/-! ### enumerate, the empty dict -/
def enumD : Nat → List D → List D
  | _, [] => []
  | n, d :: ds => .tuple [.int n, d] :: enumD (n + 1) ds
theorem enumD_len : ∀ (ds : List D) (n : Nat), (enumD n ds).length = ds.length
  | [], _ => rfl
  | d :: ds, n => by simp [enumD, enumD_len ds]
theorem enumD_get : ∀ (ds : List D) (n i : Nat) (d : D), ds[i]? = some d → (enumD n ds)[i]? = some (.tuple [.int ((n + i : Nat) : Int), d])
  | [], _, _, _, h => by simp at h
  | d :: ds, n, 0, e, h => by
    simp at h
    subst h
    simp [enumD]
  | d :: ds, n, i + 1, e, h => by
    have := enumD_get ds (n + 1) i e (by simpa using h)
    simp only [enumD, List.getElem?_cons_succ]
    rw [this]
    congr 4
    omega
section
variable {pr : Bool} {X : Kx} {blk : Bool} {F H : Hp} {os : List Addr} {st : List Cn} {p : Addr} {xs : List V} {ds : List D}
theorem itok_enum (k : StOk X F os H st) (hp : SqL X.K F p xs) (r : Drs X F xs ds) : ItOk true X blk F os H (Ite X.K p) (enumD 0 ds) := by
  have w := @walk_enum X.K p xs
  rw [r.len, ← enumD_len ds 0] at w
  refine ⟨_, _, w, fun H' h => Same.sqL (stays_same k h) hp, ?_⟩
  intro i H1 x H2 hi hs y
  obtain ⟨T, a, b, e1, e2, e3, e4, e5⟩ := y
  cases e4
  obtain ⟨d, hd, rd⟩ := r.get e5
  refine ⟨_, enumD_get ds 0 i d hd, .inr ⟨T, _, b, _, d, e1, e2, e3, rfl, ?_, rd, .inl rfl⟩⟩
  rw [Nat.zero_add]
  exact .int _
end
section
variable {pr : Bool} {X : Cx} {ec : List (Addr × Str)} {W : WX} {blk : Bool} {e : Expr} {m : EM} {pos : Pos}
theorem pe_d0 : PE X (.Dict [] [] pos) (tM (kx X ec) W fun _ st => .ok (.fr (.dk [])) st) := pe_dnewK.imp fun σ H Q h => by
  obtain ⟨B, F, os, env, st, R, h⟩ := h
  intro p hp
  exact h _ _ _ _ (Ext.newO R.ok hp) (R.ok.newO hp) (.fr (R.ok.free hp).2 (R.ok.free hp).1 upd_same (.dk .nil)) (Frs.new hp)
def enuI (r : AM) : IM := fun env st => (r env st).bindI fun vs st1 => match vs with
  | [.dat (.list ds)] => .ok (enumD 0 ds) st1
  | [.scr ds] => .ok (enumD 0 ds) st1
  | _ => .stk
theorem pi_en {r : AM} {p tpos : Pos} {elts : List Expr} {kk : Nat} (hg : Gl X "enumerate") (hm : X.mg "enumerate" = none) (ha : PA X [e] (tA (kx X ec) W r)) (hs : starEach [e] X.env = [(false, eval e X.env)] := by rfl) :
    PI X (.Tuple elts kk tpos) (.Call (.Name "enumerate" p) [e] [] pos) (tI true (kx X ec) blk W (enuI r)) :=
  (pi_enum hg hm ha hs).imp fun σ H R h => by
    obtain ⟨B, F, os, env, st, Rl, h⟩ := h
    refine ⟨B, F, os, env, st, Rl, PoI.bindL h ?_⟩
    intro v st1 x F1 os1 H1 ev e1 k1 r1 p1
    split at p1
    · rename_i ds
      cases r1 with
      | cons a b =>
        cases b
        cases a with
        | dat a =>
          cases a with
          | lst h1 h2 => exact ⟨_, _, rfl, SqL.of (k1.sub _ _ h1), p1 _ _ _ _ e1 k1 (itok_enum k1 (SqL.of h1) h2)⟩
    · rename_i ds
      cases r1 with
      | cons a b =>
        cases b
        cases a with
        | scr h1 h2 => exact ⟨_, _, rfl, Same.sqL k1.sub h1, p1 _ _ _ _ e1 k1 (itok_enum k1 h1 h2)⟩
    · exact False.elim p1
end
end Pl

set_option Elab.async false
set_option linter.all false
set_option maxRecDepth 100000
set_option maxHeartbeats 4000000
namespace Pl
open PySem PySem.Spec PyProof.Rows L2 PySem.W

/-! ### the defs of a text, by their names -/
structure Dn (K : Frag) (mg : Str → Option Value) (x : Str) (st : Stmt) : Prop where
  ex : ∃ (f : Addr) (fd : FuncData), Fun K x x st f fd ∧ mg x = some (.ref f)
theorem dn_mk {K : Frag} {mg : Str → Option Value} {h : Heap} {x : Str} {st : Stmt} {f : Addr} {oc : Value} {od an : Option Addr} {osl : Array (Option Value)} {kV doc pm cdv ct : Value} (X : K.In h) (G : h.Ns mainGlobals mg) (a : nsIn K mainGlobals x = some (some (.ref f)))
    (l : K.lookup f = some ⟨oc, od, .func (fnOf x x (defArgs st) (defBody st) (defScope st) .none kV doc pm an cdv ct), osl⟩) (c : codeIn K cdv x = true) (k : keepIn K (.ref f) = true) : Dn K mg x st := ⟨f, _, fun_mk l c k, mg_of X G a⟩
/-- a def that may be called: cold -/
structure Cal (P : Program) (w : World) (K : Frag) (mg : Str → Option Value) (base : Heap) (ec : List (Addr × Str)) (k n : Nat) (x : Str) (fm : FM) : Prop where
  ex : ∃ (f : Addr) (fd : FuncData) (ps : List Str), FnG P w K mg base (L2.CX P w) k f fd ps (spOf ⟨K, ec⟩ n fm) ∧ mg x = some (.ref f) ∧ keepIn K (.ref f) = true ∧ Binds K fd ps []
structure CalC (P : Program) (w : World) (K : Frag) (mg : Str → Option Value) (base : Heap) (ec : List (Addr × Str)) (k n : Nat) (x : Str) (fm : FM) : Prop where
  ex : ∃ (f : Addr) (fd : FuncData) (ps : List Str), FnC P w K mg base (L2.CX P w) k f fd ps (spOf ⟨K, ec⟩ n fm) ∧ mg x = some (.ref f) ∧ keepIn K (.ref f) = true ∧ Binds K fd ps []
theorem CalC.g {P : Program} {w : World} {K : Frag} {mg : Str → Option Value} {base : Heap} {ec : List (Addr × Str)} {k n : Nat} {x : Str} {fm : FM} (C : CalC P w K mg base ec k n x fm) : Cal P w K mg base ec k n x fm := by
  obtain ⟨f, fd, ps, G, a, b, c⟩ := C.ex
  exact ⟨f, fd, ps, G.g, a, b, c⟩
section
variable {X : Cx} {ec : List (Addr × Str)} {W : WX} {e : Expr} {pos : Pos}
theorem pe_cal {k n : Nat} {x : Str} {p : Pos} {es : List Expr} {fm : FM} {ra : AM} (C : Cal X.prog X.w X.K X.mg X.base ec k n x fm) (hr : Room k X.A) (hgd : X.A.guards = some []) (hg : Gl X x) (tk : Takes X W) (ha : PA X (e :: es) (tA (kx X ec) W ra)) (hdb : (x == ("__debug__" : Str)) = false := by decide)
    (he : starEach (e :: es) X.env = (false, eval e X.env) :: starEach es X.env := by rfl) (hpl : (backTo pos (starEach es X.env)).any (·.1) = false := by rfl) : PE X (.Call (.Name x p) (e :: es) [] pos) (tM (kx X ec) W (callF n fm ra)) := by
  obtain ⟨f, fd, ps, G, a, b, c⟩ := C.ex
  exact pe_fn G hr hgd hg a b c tk ha hdb he hpl
theorem pe_calC {k n : Nat} {x : Str} {p : Pos} {es : List Expr} {fm : FM} {ra : AM} {A1 : Around} {o : Option Value} (hA : X.A = A1.mark o) (C : CalC X.prog X.w X.K X.mg X.base ec k n x fm) (hr : Room k A1) (hgd : A1.guards = some []) (hg : Gl X x) (tk : Takes X W) (ha : PA X (e :: es) (tA (kx X ec) W ra)) (hdb : (x == ("__debug__" : Str)) = false := by decide)
    (he : starEach (e :: es) X.env = (false, eval e X.env) :: starEach es X.env := by rfl) (hpl : (backTo pos (starEach es X.env)).any (·.1) = false := by rfl) : PE X (.Call (.Name x p) (e :: es) [] pos) (tM (kx X ec) W (callF n fm ra)) := by
  obtain ⟨f, fd, ps, G, a, b, c⟩ := C.ex
  exact pe_fnC hA G hr hgd hg a b c tk ha hdb he hpl
end
section
variable {P : Program} {w : World} {K : Frag} {mg : Str → Option Value} {base : Heap} {ec : List (Addr × Str)}
theorem cal_of {x : Str} {ps : List Str} {st : Stmt} {N : List Str} {k : Nat} {mb : SM} (d : Dn K mg x st) (S : FnScope N ps (defScope st)) (hb : ∀ (kV doc pm : Value) (an : Option Addr) (cdv ct : Value) (us : List Value), us.length = ps.length → bindArgs (fnOf x x (defArgs st) (defBody st) (defScope st) .none kV doc pm an cdv ct) ⟨us, []⟩ = pure (ps.zip us))
    (hbody : ∀ (f : Addr) (cdv : Value) (A : Around) (outer : List PySem.Env) (s : Shared) (H : Hp) (E : XK), Room k (A.deeper (envOfC x (defScope st) s.heap.objs.size f cdv)) → A.guards = some [] →
      PSs (cxOf (L2.CX P w) P w K mg base N x (defScope st) f cdv A outer s H E) (defBody st) (tS ⟨K, ec⟩ (WL E) mb)) : Cal P w K mg base ec (k + 1) ps.length x (fnM N.length mb) := by
  obtain ⟨f, fd, F, hm⟩ := d.ex
  exact ⟨f, fd, ps, fn_ok F S (hbody f), hm, F.kp, F.binds hb⟩
theorem calC_of {x : Str} {ps : List Str} {st : Stmt} {N : List Str} {k : Nat} {mb : SM} (d : Dn K mg x st) (S : FnScope N ps (defScope st)) (hb : ∀ (kV doc pm : Value) (an : Option Addr) (cdv ct : Value) (us : List Value), us.length = ps.length → bindArgs (fnOf x x (defArgs st) (defBody st) (defScope st) .none kV doc pm an cdv ct) ⟨us, []⟩ = pure (ps.zip us))
    (hbody : ∀ (f : Addr) (cdv : Value) (A : Around) (o : Option Value) (outer : List PySem.Env) (s : Shared) (H : Hp) (E : XK), Room k (A.deeper (envOfC x (defScope st) s.heap.objs.size f cdv)) → A.guards = some [] →
      PSs (cxC (L2.CX P w) P w K mg base N x (defScope st) f cdv (A.mark o) outer s H E) (defBody st) (tS ⟨K, ec⟩ (WL E) mb)) : CalC P w K mg base ec (k + 1) ps.length x (fnM N.length mb) := by
  obtain ⟨f, fd, F, hm⟩ := d.ex
  exact ⟨f, fd, ps, fnC_ok F S (hbody f), hm, F.kp, F.binds hb⟩
end

/-! ### the errors of a text, by their names -/
structure ErrM (P : Program) (K : Frag) (mg : Str → Option Value) (ec : List (Addr × Str)) (x : Str) (c : Nat) (f : Str) : Prop where
  ex : ∃ (C fI : Addr), ErrC P K C fI f ∧ ec[c]? = some (C, f) ∧ mg x = some (.ref C) ∧ keepIn K (.ref C) = true ∧ subIn K (.ref C) (.type "BaseException") = some true ∧ typeIn K (.ref C) = some (.type "type")
/-- an error class without an own __init__ -/
structure ErrP (K : Frag) (mg : Str → Option Value) (ec : List (Addr × Str)) (x : Str) (c : Nat) : Prop where
  ex : ∃ (C : Addr) (B newId initId : String) (bmB : List Value), ExcBaseFacts B newId initId bmB ∧ excIn K C bmB newId = true ∧ ec[c]? = some (C, ("" : Str)) ∧ mg x = some (.ref C) ∧ keepIn K (.ref C) = true
/-- what a name of a class stands for -/
def NmC (mg : Str → Option Value) (x : Str) (c : Value) : Prop := (x == ("__debug__" : Str)) = false ∧ (mg x = some c ∨ (mg x = none ∧ bootBuiltins x = some c ∧ x ≠ "__name__"))
structure IsN (K : Frag) (mg : Str → Option Value) (ec : List (Addr × Str)) (x : Str) (tb : List Bool) : Prop where
  ex : ∃ (v : V) (cv : Value), NmC mg x cv ∧ RelV v cv ∧ (∀ u, RelV v u → u = cv) ∧ IsT K ec cv tb
structure HdN (K : Frag) (mg : Str → Option Value) (ec : List (Addr × Str)) (xs : List Str) (tb : List Bool) : Prop where
  ex : ∃ cs : List Value, Paired (NmC mg) xs cs ∧ TbOk K ec cs tb
section
variable {X : Cx} {ec : List (Addr × Str)} {W : WX} {m : EM} {e : Expr} {pos : Pos}
theorem pe_mkM {x f : Str} {c : Nat} {p : Pos} (E : ErrM X.prog X.K X.mg ec x c f) (hr : Room 2 X.A) (hg : Gl X x) (he : PE X e (tM (kx X ec) W m)) (hdb : (x == ("__debug__" : Str)) = false := by decide)
    (h1 : starEach [e] X.env = (false, eval e X.env) :: starEach [] X.env := by rfl) (hpl : (backTo pos (starEach [] X.env)).any (·.1) = false := by rfl) : PE X (.Call (.Name x p) [e] [] pos) (tM (kx X ec) W (mkE c m)) := by
  obtain ⟨C, fI, T, h2, h3, h4, _, _⟩ := E.ex
  exact pe_mk T h2 h3 h4 hr hg he hdb h1 hpl
theorem pe_mkkM {x f : Str} {c : Nat} {p kp : Pos} (E : ErrM X.prog X.K X.mg ec x c f) (hr : Room 2 X.A) (hg : Gl X x) (he : PE X e (tM (kx X ec) W m)) (hdb : (x == ("__debug__" : Str)) = false := by decide)
    : PE X (.Call (.Name x p) [] [⟨some f, e, kp⟩] pos) (tM (kx X ec) W (mkE c m)) := by
  obtain ⟨C, fI, T, h2, h3, h4, _, _⟩ := E.ex
  exact pe_mkk T h2 h3 h4 hr hg he hdb
def mkP (c : Nat) (m : EM) : EM := fun env st => (m env st).bind fun _ st1 => .ok (.dat (errD c .none)) st1
theorem pe_mkP {x : Str} {c : Nat} {p : Pos} (E : ErrP X.K X.mg ec x c) (hg : Gl X x) (he : PE X e (tM (kx X ec) W m)) (hdb : (x == ("__debug__" : Str)) = false := by decide)
    (h1 : starEach [e] X.env = (false, eval e X.env) :: starEach [] X.env := by rfl) : PE X (.Call (.Name x p) [e] [] pos) (tM (kx X ec) W (mkP c m)) := by
  obtain ⟨C, B, newId, initId, bmB, FB, q, h2, h3, h4⟩ := E.ex
  refine (L2.pe_exc1 FB q h3 h4 hg he h1 hdb).imp fun σ H Q h => ?_
  obtain ⟨B, F, os, env, st, R, h⟩ := h
  refine ⟨B, F, os, env, st, R, Po.bind h ?_⟩
  intro v st1 y F1 os1 H1 ev e1 k1 r1 f1 p1
  intro a ha
  exact p1 (.ref a) _ _ _ (e1.trans (Ext.newF k1 ha)) (k1.newF ha) (.dat (.erp h2 upd_same)) Frs.dat
theorem ps_raM {x f : Str} {c : Nat} {p pos' : Pos} (E : ErrM X.prog X.K X.mg ec x c f) (hr : Room 2 X.A) (hca : X.calm = true) (tk : Takes X W) (hg : Gl X x) (he : PE X e (tM (kx X ec) W m)) (hdb : (x == ("__debug__" : Str)) = false := by decide)
    (h1 : starEach [e] X.env = (false, eval e X.env) :: starEach [] X.env := by rfl) (hpl : (backTo pos (starEach [] X.env)).any (·.1) = false := by rfl) : PS X (.Raise (some (.Call (.Name x p) [e] [] pos)) none pos') (tS (kx X ec) W (raiM c m)) := by
  obtain ⟨C, fI, T, h2, h3, h4, h5, h6⟩ := E.ex
  exact ps_ra T h2 h3 h4 hr hca tk (raises_own h5 h6) hg he hdb h1 hpl
theorem pe_isN {x : Str} {p px : Pos} {tb : List Bool} (hI : EcI X.K ec) (N : IsN X.K X.mg ec x tb) (hgx : Gl X x) (he : PE X e (tM (kx X ec) W m)) (hg : Gl X "isinstance") (hm : X.mg "isinstance" = none)
    (h1 : starEach [e, .Name x px] X.env = (false, eval e X.env) :: starEach [.Name x px] X.env := by rfl) (h2 : starEach [.Name x px] X.env = (false, eval (.Name x px) X.env) :: starEach [] X.env := by rfl) (h3 : (backTo pos (starEach [.Name x px] X.env)).any (·.1) = false := by rfl) :
    PE X (.Call (.Name "isinstance" p) [e, .Name x px] [] pos) (tM (kx X ec) W (iseM tb m)) := by
  obtain ⟨v, cv, ⟨hd, hn⟩, r, u, t⟩ := N.ex
  have hx : PE X (.Name x px) (tC v) := by
    rcases hn with hn | ⟨h1, h2, h3⟩
    · exact pe_glob hgx hn r hd
    · exact pe_bltn hgx h1 h2 r h3 hd
  exact pe_ise hI t he hx u hg hm h1 h2 h3
theorem hd_one {x : Str} {tb : List Bool} (h : HdN X.K X.mg ec [x] tb) (hg : Gl X x) : ∃ cs, (∀ p, Tst X (.Name x p) cs) ∧ TbOk X.K ec cs tb := by
  obtain ⟨cs, h1, h2⟩ := h.ex
  cases h1 with
  | cons a b =>
    cases b
    exact ⟨_, fun p => .one ⟨hg, a.1, a.2⟩, h2⟩
theorem names_mk : ∀ {xs : List Str} {cs : List Value}, Paired (NmC X.mg) xs cs → (∀ x ∈ xs, Gl X x) → ∀ {es : List Expr}, Paired (fun e x => ∃ p, e = Expr.Name x p) es xs → NamesAll X es cs
  | _, _, .nil, _, _, .nil => .nil
  | _, _, .cons a b, hg, _, .cons ⟨p, e⟩ r => by
    subst e
    exact .cons ⟨hg _ (by simp), a.1, a.2⟩ (names_mk b (fun y hy => hg y (by simp [hy])) r)
theorem hd_many {xs : List Str} {tb : List Bool} (h : HdN X.K X.mg ec xs tb) (hg : ∀ x ∈ xs, Gl X x) (hl : xs.length ≤ 100 := by decide) : ∃ cs, (∀ es k p, Paired (fun e x => ∃ p, e = Expr.Name x p) es xs → Tst X (.Tuple es k p) cs) ∧ TbOk X.K ec cs tb := by
  obtain ⟨cs, h1, h2⟩ := h.ex
  exact ⟨cs, fun es k p q => .many (names_mk h1 hg q) (by rw [← h1.length]; exact hl), h2⟩
end
end Pl

set_option Elab.async false
set_option linter.all false
set_option maxRecDepth 100000
set_option maxHeartbeats 4000000
namespace Pl
open PySem PySem.Spec PyProof.Rows L2 PySem.W

/-! ### the facts of a text, from its written part -/
section
variable {P : Program} {w : World} {K : Frag} {h : Heap} {mg : Str → Option Value} {ec : List (Addr × Str)}
theorem errC_mk {B newId initId : String} {bmB : List Value} {C fI cc cda : Addr} {f qual m : Str} {oc dV kV doc pm ct ccl cl : Value} {od an cdd cld : Option Addr} {osl ccs csl : Array (Option Value)} {vs : Array Value} {file : Str} {tf : Tok} {p1 p2 q0 q1 q2 q3 q4 q5 q6 q7 q8 q9 : Pos}
    (FB : ExcBaseFacts B newId initId bmB) (SF : StoreFacts B bmB "object.__setattr__" "object") (KF : KxsFacts B initId) (iC : findIn K (.ref C) "__init__" = some (some (.ref fI)))
    (lk : K.lookup fI = some ⟨oc, od, .func (initF qual f m dV kV doc pm ct an cc cda p1 p2 q0 q1 q2 q3 q4 q5 q6 q7 q8 q9), osl⟩)
    (qi : excInitIn K C bmB newId = true) (qo : excOver K C bmB = true) (hB : subIn K (.ref C) (.type B) = some true) (hs : ks_superIn K C C "__init__" = some (some (.builtin initId))) (hm : mroIn K C (.ref C) = some true) (hc : isClsIn K C = true)
    (hcd : codeIn K (.ref cda) qual = true) (lc : K.lookup cda = some ⟨ccl, cdd, .fields vs, ccs⟩) (hv : vs[2]? = some (.str file tf)) (hf : ((P.main.file : Str) == file) = true) (lcc : K.lookup cc = some ⟨cl, cld, .cell (some (.ref C)), csl⟩) (hq : (q2.endLine == q4.line) = true)
    (b1 : ∀ (s : Shared) (a b : Value), BindsTo s (initF qual f m dV kV doc pm ct an cc cda p1 p2 q0 q1 q2 q3 q4 q5 q6 q7 q8 q9) ⟨[a, b], []⟩ [("self", a), (f, b)])
    (b2 : ∀ (s : Shared) (a b : Value), BindsTo s (initF qual f m dV kV doc pm ct an cc cda p1 p2 q0 q1 q2 q3 q4 q5 q6 q7 q8 q9) ⟨[a], [(f, b)]⟩ [("self", a), (f, b)])
    (sup : nsIn K mainGlobals "super" = some none) (top : (P.main.scope.names.lookup ("super" : Str)).isSome = false) (any : nsIn K cStatics "thirdparty.any" = some none) (tC : typeIn K (.ref fI) = some (.type "function"))
    (sa : findIn K (.ref C) "__setattr__" = some (some (.builtin "object.__setattr__"))) (no : findIn K (.ref C) f = some none) (hd : hasDictIn K C = true)
    (fs : (f == ("self" : Str)) = false) (fdb : (f == ("__debug__" : Str)) = false) (fsu : (("super" : Str) == f) = false) (fcl : (("__class__" : Str) == f) = false) : ErrC P K C fI f where
  base := ⟨B, newId, initId, bmB, FB, SF, KF, qi, qo, hB, C, hs, hm, hc, qual, m, oc, dV, kV, doc, pm, ct, ccl, cl, od, an, cdd, cld, osl, ccs, csl, cc, cda, vs, file, tf, none, p1, p2, q0, q1, q2, q3, q4, q5, q6, q7, q8, q9, lk, hcd, lc, hv, hf, lcc, hq, b1, b2⟩
  sup := sup
  top := top
  any := any
  iC := iC
  tC := tC
  sa := sa
  noN := no
  hdC := hd
  fs := fs
  fdb := fdb
  fsu := fsu
  fcl := fcl
theorem errM_mk {C fI : Addr} {x f : Str} {c : Nat} (X : K.In h) (G : h.Ns mainGlobals mg) (aC : nsIn K mainGlobals x = some (some (.ref C))) (E : ErrC P K C fI f) (hec : ec[c]? = some (C, f)) (kC : keepIn K (.ref C) = true) (ex : subIn K (.ref C) (.type "BaseException") = some true)
    (ty : typeIn K (.ref C) = some (.type "type")) : ErrM P K mg ec x c f := ⟨C, fI, E, hec, mg_of X G aC, kC, ex, ty⟩
theorem eci_nil : EcI K [] := fun c C f h => by simp at h
theorem eci_cons {C : Addr} {f : Str} (i : ErrI K C f) (r : EcI K ec) : EcI K ((C, f) :: ec) := fun c C' f' h => by
  cases c with
  | zero => simp at h; obtain ⟨rfl, rfl⟩ := h; exact i
  | succ c => exact r c C' f' (by simpa using h)
theorem isT_nil {cv : Value} {tb : List Bool} : IsT K [] cv tb := fun c C f b h => by simp at h
theorem isT_cons {C : Addr} {f : Str} {cv : Value} {b : Bool} {tb : List Bool} (i : kitOne K (.ref C) cv = some b) (r : IsT K ec cv tb) : IsT K ((C, f) :: ec) cv (b :: tb) := fun c C' f' b' h hb => by
  cases c with
  | zero => simp at h hb; obtain ⟨rfl, rfl⟩ := h; subst hb; exact i
  | succ c => exact r c C' f' b' (by simpa using h) (by simpa using hb)
theorem tb_nil {cs : List Value} {tb : List Bool} : TbOk K [] cs tb := fun c C f b h => by simp at h
theorem tb_cons {C : Addr} {f : Str} {cs : List Value} {b : Bool} {tb : List Bool} (i : exmAny K (.ref C) cs = some b) (r : TbOk K ec cs tb) : TbOk K ((C, f) :: ec) cs (b :: tb) := fun c C' f' b' h hb => by
  cases c with
  | zero => simp at h hb; obtain ⟨rfl, rfl⟩ := h; subst hb; exact i
  | succ c => exact r c C' f' b' (by simpa using h) (by simpa using hb)
theorem exm_nil {cls : Value} : exmAny K cls [] = some false := rfl
theorem exm_cons {cls : Value} {c : Addr} {cs : List Value} {b d e : Bool} (h1 : subIn K (.ref c) (.type "BaseException") = some true) (h2 : hasDictIn K c = true) (h3 : typeIn K (.ref c) = some (.type "type")) (h4 : subIn K cls (.ref c) = some b) (r : exmAny K cls cs = some d) (he : e = (b || d)) : exmAny K cls (.ref c :: cs) = some e := by
  have q : exmOne K cls (.ref c) = some b := by
    obtain ⟨cd, hc, _⟩ := any_some h2
    have e1 : (subIn K (.ref c) (.type "BaseException") == some true) = true := by rw [h1] <;> rfl
    have e2 : ((clsIn K c).isSome && typeIn K (.ref c) == some (.type "type")) = true := by rw [hc, h3] <;> rfl
    show (if (subIn K (.ref c) (.type "BaseException") == some true) = true then (if ((clsIn K c).isSome && typeIn K (.ref c) == some (.type "type")) = true then subIn K cls (.ref c) else none) else none) = some b
    rw [if_pos e1, if_pos e2]
    exact h4
  unfold exmAny
  rw [q, r, he]
theorem nmc_own {x : Str} {C : Addr} (X : K.In h) (G : h.Ns mainGlobals mg) (a : nsIn K mainGlobals x = some (some (.ref C))) (hd : (x == ("__debug__" : Str)) = false := by decide) : NmC mg x (.ref C) := ⟨hd, .inl (mg_of X G a)⟩
theorem isN_own {x : Str} {C : Addr} {tb : List Bool} (X : K.In h) (G : h.Ns mainGlobals mg) (a : nsIn K mainGlobals x = some (some (.ref C))) (t : IsT K ec (.ref C) tb) (hd : (x == ("__debug__" : Str)) = false := by decide) : IsN K mg ec x tb :=
  ⟨.ref C, .ref C, nmc_own X G a hd, rfl, fun _ h => h, t⟩
theorem isN_ty {x : Str} {T : String} {tb : List Bool} (X : K.In h) (G : h.Ns mainGlobals mg) (a : nsIn K mainGlobals x = some none) (b : bootBuiltins x = some (.type T)) (t : IsT K ec (.type T) tb) (hd : (x == ("__debug__" : Str)) = false := by decide) (hn : x ≠ "__name__" := by decide) : IsN K mg ec x tb :=
  ⟨.ty T, .type T, ⟨hd, .inr ⟨mg_none_of X G a, b, hn⟩⟩, rfl, fun _ h => h, t⟩
end
end Pl

set_option Elab.async false
set_option linter.all false
set_option maxRecDepth 100000
set_option maxHeartbeats 4000000
namespace Pl
open PySem PySem.Spec PyProof.Rows L2
/-! ### calls of defs within a comprehension; constants of the module -/
theorem blk_tk {X : Cx} : Takes X W0 := by
  intro u s' h
  unfold XE at h
  simp only [W0, and_false, false_and, exists_false] at h
/-- the name x of the module is the whole number i -/
def GI (mg : Str → Option Value) (x : Str) (i : Int) : Prop := ∃ t : Tok, mg x = some (.int i t)
theorem pe_gI {X : Cx} {ec : List (Addr × Str)} {W : WX} {x : Str} {i : Int} {pos : Pos} (h : GI X.mg x i) (hg : Gl X x) (hd : (x == ("__debug__" : Str)) = false := by decide) : PE X (.Name x pos) (tM (kx X ec) W (cstM (.int i))) := by
  obtain ⟨t, h⟩ := h
  exact pe_gi hg h hd
end Pl

set_option Elab.async false
set_option linter.all false
set_option maxRecDepth 100000
set_option maxHeartbeats 4000000
namespace Pl
open PySem PySem.Spec PyProof.Rows L2
/-! ### zip of two lists, of two tuples -/
theorem walk_zipT {K : PySem.W.Frag} {a b : Addr} {xs ys : List V} {n : Nat} (hn : n = min xs.length ys.length) : Walk (RZ.ItzT K a b) n (fun H => SqT K H a xs ∧ SqT K H b ys) (YPair (fun i => xs[i]?) fun i => ys[i]?) where
  goes := fun i H hi g => by
    have h1 : i < xs.length := by omega
    have h2 : i < ys.length := by omega
    exact ⟨xs, ys, xs[i], ys[i], g.1, g.2, List.getElem?_eq_getElem h1, List.getElem?_eq_getElem h2⟩
  stops := fun H g => ⟨xs, ys, g.1, g.2, by omega⟩
  yields := fun i H x H' hi g y => by
    obtain ⟨T, u, v, e1, e2, e3, e4, e5⟩ := y
    exact ⟨T, u, v, e1, e2, e3, e4 xs g.1, e5 ys g.2⟩
def zipD : List D → List D → List D
  | d :: ds, e :: es => .tuple [d, e] :: zipD ds es
  | _, _ => []
theorem zipD_len : ∀ (ds es : List D), (zipD ds es).length = min ds.length es.length
  | [], _ => by simp [zipD]
  | _ :: _, [] => by simp [zipD]
  | d :: ds, e :: es => by simp [zipD, zipD_len ds es]
theorem zipD_get : ∀ (ds es : List D) (i : Nat) (d e : D), ds[i]? = some d → es[i]? = some e → (zipD ds es)[i]? = some (.tuple [d, e])
  | [], _, _, _, _, h, _ => by simp at h
  | _ :: _, [], _, _, _, _, h => by simp at h
  | d :: ds, e :: es, 0, a, b, h, h' => by
    simp at h h'
    subst h; subst h'
    simp [zipD]
  | d :: ds, e :: es, i + 1, a, b, h, h' => by
    have := zipD_get ds es i a b (by simpa using h) (by simpa using h')
    simpa [zipD] using this
section
variable {pr : Bool} {X : Kx} {blk : Bool} {F H : Hp} {os : List Addr} {st : List Cn} {p q : Addr} {xs ys : List V} {ds es : List D}
theorem itok_pair {J : It} {G : Hp → Prop} (rd : Drs X F xs ds) (re : Drs X F ys es) (w : Walk J (min xs.length ys.length) G (YPair (fun i => xs[i]?) fun i => ys[i]?)) (hg : ∀ H', Stays blk F os H H' → G H') : ItOk true X blk F os H J (zipD ds es) := by
  rw [rd.len, re.len, ← zipD_len ds es] at w
  refine ⟨_, _, w, hg, ?_⟩
  intro i H1 x H2 hi hs y
  obtain ⟨T, a, b, e1, e2, e3, e4, e5⟩ := y
  obtain ⟨d, hd, r1⟩ := rd.get e4
  obtain ⟨e, he, r2⟩ := re.get e5
  exact ⟨_, zipD_get ds es i d e hd he, .inr ⟨T, _, _, _, _, e1, e2, e3, rfl, r1, r2, .inl rfl⟩⟩
theorem itok_zipL (k : StOk X F os H st) (hp : SqL X.K F p xs) (hq : SqL X.K F q ys) (rd : Drs X F xs ds) (re : Drs X F ys es) : ItOk true X blk F os H (Itz X.K p q) (zipD ds es) :=
  itok_pair rd re (walk_zip rfl) fun H' h => ⟨Same.sqL (stays_same k h) hp, Same.sqL (stays_same k h) hq⟩
theorem itok_zipT (k : StOk X F os H st) (hp : SqT X.K F p xs) (hq : SqT X.K F q ys) (rd : Drs X F xs ds) (re : Drs X F ys es) : ItOk true X blk F os H (RZ.ItzT X.K p q) (zipD ds es) :=
  itok_pair rd re (walk_zipT rfl) fun H' h => ⟨Same.sqT (stays_same k h) hp, Same.sqT (stays_same k h) hq⟩
end
section
variable {pr : Bool} {X : Cx} {ec : List (Addr × Str)} {W : WX} {blk : Bool} {e e' : Expr} {m : EM} {pos : Pos}
def zipI (r : AM) : IM := fun env st => (r env st).bindI fun vs st1 => match vs with
  | [.dat (.list ds), .dat (.list es)] => .ok (zipD ds es) st1
  | [.dat (.tuple ds), .dat (.tuple es)] => .ok (zipD ds es) st1
  | _ => .stk
theorem pi_zp {r : AM} {p tpos : Pos} {elts : List Expr} {kk : Nat} (hg : Gl X "zip") (hm : X.mg "zip" = none) (ha : PA X [e, e'] (tA (kx X ec) W r)) (h1 : starEach [e, e'] X.env = (false, eval e X.env) :: starEach [e'] X.env := by rfl) (h2 : (backTo pos (starEach [e'] X.env)).any (·.1) = false := by rfl) :
    PI X (.Tuple elts kk tpos) (.Call (.Name "zip" p) [e, e'] [] pos) (tI true (kx X ec) blk W (zipI r)) :=
  (RZ.pi_zipA hg hm ha h1 h2).imp fun σ H R h => by
    obtain ⟨B, F, os, env, st, Rl, h⟩ := h
    refine ⟨B, F, os, env, st, Rl, PoI.bindL h ?_⟩
    intro v st1 x F1 os1 H1 ev e1 k1 r1 p1
    split at p1
    · rename_i ds es
      cases r1 with
      | cons a b =>
        cases b with
        | cons b c =>
          cases c
          cases a with
          | dat a =>
            cases b with
            | dat b =>
              cases a with
              | lst a1 a2 =>
                cases b with
                | lst b1 b2 => exact ⟨_, _, _, _, rfl, .inl ⟨SqL.of (k1.sub _ _ a1), SqL.of (k1.sub _ _ b1), p1 _ _ _ _ e1 k1 (itok_zipL k1 (SqL.of a1) (SqL.of b1) a2 b2)⟩⟩
    · rename_i ds es
      cases r1 with
      | cons a b =>
        cases b with
        | cons b c =>
          cases c
          cases a with
          | dat a =>
            cases b with
            | dat b =>
              cases a with
              | tup a1 _ a2 =>
                cases b with
                | tup b1 _ b2 => exact ⟨_, _, _, _, rfl, .inr ⟨Same.sqT k1.sub a1, Same.sqT k1.sub b1, p1 _ _ _ _ e1 k1 (itok_zipT k1 a1 b1 a2 b2)⟩⟩
    · exact False.elim p1
end
end Pl

set_option Elab.async false
set_option linter.all false
set_option maxRecDepth 100000
set_option maxHeartbeats 4000000
namespace Pl
open PySem PySem.Spec PyProof.Rows L2
section
variable {X : Cx}
/-! ### x += e, x -= e of whole numbers -/
theorem o_iadd : OpR X (inplaceOp .Add) (rI0 fun i j => .int (i + j)) := fun pins s σ H x y v u Q I rx ry q => ip_add pins s σ H x y v u Q I rx ry q
theorem o_isub : OpR X (inplaceOp .Sub) (rI0 fun i j => .int (i - j)) := fun pins s σ H x y v u Q I rx ry q => ip_sub pins s σ H x y v u Q I rx ry q
variable {ec : List (Addr × Str)} {W : WX} {e : Expr} {m : EM} {pos : Pos}
def gAddI : Val → Val → Option Val := gII (fun _ _ => true) (· + ·)
theorem ps_iadd {i : Nat} {x : Str} {pos' : Pos} (hN : X.N.Nodup) (hi : X.N[i]? = some x) (hx : Loc X.env.scope x) (he : PE X e (tM (kx X ec) W m)) (hf : X.fn x = true ∨ X.env.scope.names.lookup x = some .local := by first | exact .inl rfl | exact .inr rfl | assumption) :
    PS X (.AugAssign (.Name x pos') .Add e pos) (tS (kx X ec) W (augM i gAddI m)) := ps_au o_iadd snd_rI0 hN hi hx he hf
theorem ps_isub {i : Nat} {x : Str} {pos' : Pos} (hN : X.N.Nodup) (hi : X.N[i]? = some x) (hx : Loc X.env.scope x) (he : PE X e (tM (kx X ec) W m)) (hf : X.fn x = true ∨ X.env.scope.names.lookup x = some .local := by first | exact .inl rfl | exact .inr rfl | assumption) :
    PS X (.AugAssign (.Name x pos') .Sub e pos) (tS (kx X ec) W (augM i gSub m)) := ps_au o_isub snd_rI0 hN hi hx he hf
end
end Pl

set_option Elab.async false
set_option linter.all false
set_option maxRecDepth 100000
set_option maxHeartbeats 4000000
namespace Pl
open PySem PySem.Spec PyProof.Rows L2 RT
/-! ### for x in reversed(..) -/
theorem walk_rvT {K : PySem.W.Frag} {a : Addr} {xs : List V} : Walk (ItvT K a xs.length) xs.length (fun H => SqT K H a xs) (fun i H x H' => H' = H ∧ xs[xs.length - 1 - i]? = some x) where
  goes := fun i H hi g => by
    have hl : xs.length - 1 - i < xs.length := by omega
    exact ⟨hi, xs, xs[xs.length - 1 - i], g, by simp [hl]⟩
  stops := fun H g => Nat.le_refl _
  yields := fun i H v H' hi g y => by
    obtain ⟨e, y⟩ := y
    exact ⟨e, y xs g⟩
section
variable {pr : Bool} {X : Kx} {blk : Bool} {F H : Hp} {os : List Addr} {st : List Cn} {p : Addr} {xs : List V} {ds : List D}
theorem rev_at (r : Drs X F xs ds) {i : Nat} {H1 H2 : Hp} {x : V} (y : H2 = H1 ∧ xs[xs.length - 1 - i]? = some x) (hi : i < ds.reverse.length) : ∃ d, ds.reverse[i]? = some d ∧ Yd pr X F H1 x H2 d := by
  obtain ⟨e, y⟩ := y
  obtain ⟨d, h1, h2⟩ := r.get y
  have hl := r.len
  rw [List.length_reverse] at hi
  refine ⟨d, ?_, .inl ⟨e, h2⟩⟩
  rw [List.getElem?_reverse hi, ← hl]
  exact h1
theorem itok_rvL (k : StOk X F os H st) (hp : SqL X.K F p xs) (r : Drs X F xs ds) : ItOk pr X blk F os H (Itv X.K p xs.length) ds.reverse :=
  ⟨fun H => SqL X.K H p xs, fun i H x H' => H' = H ∧ xs[xs.length - 1 - i]? = some x, by rw [List.length_reverse, ← r.len]; exact walk_rev, fun H' h => Same.sqL (stays_same k h) hp, fun i H1 x H2 hi h y => rev_at r y hi⟩
theorem itok_rvT (k : StOk X F os H st) (hp : SqT X.K F p xs) (r : Drs X F xs ds) : ItOk pr X blk F os H (ItvT X.K p xs.length) ds.reverse :=
  ⟨fun H => SqT X.K H p xs, fun i H x H' => H' = H ∧ xs[xs.length - 1 - i]? = some x, by rw [List.length_reverse, ← r.len]; exact walk_rvT, fun H' h => Same.sqT (stays_same k h) hp, fun i H1 x H2 hi h y => rev_at r y hi⟩
end
section
variable {pr : Bool} {X : Cx} {ec : List (Addr × Str)} {W : WX} {blk : Bool} {tg e a b c : Expr} {m ma mb mc : EM} {pos : Pos}
def revI (m : EM) : IM := fun env st => (m env st).bindI fun v st1 => match v with
  | .dat (.list ds) => .ok ds.reverse st1
  | .dat (.tuple ds) => .ok ds.reverse st1
  | _ => .stk
theorem pi_rv {p : Pos} (hg : Gl X "reversed") (hm : X.mg "reversed" = none) (he : PE X e (tM (kx X ec) W m)) (hs : starEach [e] X.env = (false, eval e X.env) :: starEach [] X.env := by rfl) :
    PI X tg (.Call (.Name "reversed" p) [e] [] pos) (tI pr (kx X ec) blk W (revI m)) := (pi_revA hg hm he hs).imp fun σ H R h => by
  obtain ⟨B, F, os, env, st, Rl, h⟩ := h
  refine ⟨B, F, os, env, st, Rl, PoI.bind h ?_⟩
  intro v st1 x F1 os1 H1 ev e1 k1 r1 f1 p1
  split at p1
  · cases r1 with
    | dat r1 =>
      cases r1 with
      | lst a b => exact ⟨_, _, rfl, .inl ⟨SqL.of (k1.sub _ _ a), p1 _ _ _ _ e1 k1 (itok_rvL k1 (SqL.of a) b)⟩⟩
  · cases r1 with
    | dat r1 =>
      cases r1 with
      | tup a _ b => exact ⟨_, _, rfl, .inr ⟨Same.sqT k1.sub a, p1 _ _ _ _ e1 k1 (itok_rvT k1 a b)⟩⟩
  · exact False.elim p1
/-! ### list(range(..)), xs[::-1] of a list -/
theorem drs_rg {K : Kx} {F : Hp} (lo hi : Int) : Drs K F (rgV lo hi) (intsD lo (hi - lo).toNat) := by
  unfold rgV intsD
  generalize List.range (hi - lo).toNat = is
  induction is with
  | nil => exact .nil
  | cons i is ih => exact .cons (.int _) ih
def rgOk (a b : Int) : Bool := inb a && inb b && Nat.ble (b - a).toNat 16777216
theorem rgOk_ok {a b : Int} (h : rgOk a b = true) : RgOk a b := by
  unfold RgOk
  simp only [rgOk, Bool.and_eq_true] at h
  have h1 := inb_ok h.1.1
  have h2 := inb_ok h.1.2
  have h3 := Nat.le_of_ble_eq_true h.2
  exact ⟨h1.1, h1.2, h2.1, h2.2, h3⟩
theorem rgOk_mk {a b : Int} (h1 : inb a = true) (h2 : inb b = true) (h3 : (b - a).toNat ≤ 16777216) : rgOk a b = true := by
  unfold rgOk
  rw [h1, h2, Nat.ble_eq_true_of_le h3]
  rfl
def lrgV (v : Val) : Option Val := match v with
  | .dat (.int j) => if rgOk 0 j = true then some (.fr (.lst (intsD 0 j.toNat))) else none
  | _ => none
def lrg1M (m : EM) : EM := fun env st => (m env st).bind fun v st1 => Ou.of st1 (lrgV v)
def lrgW (v w : Val) : Option Val := match v, w with
  | .dat (.int i), .dat (.int j) => if rgOk i j = true then some (.fr (.lst (intsD i (j - i).toNat))) else none
  | _, _ => none
def lrg2M (ma mb : EM) : EM := fun env st => (ma env st).bind fun v st1 => (mb env st1).bind fun w st2 => Ou.of st2 (lrgW v w)
theorem pe_lrg1 {p p2 q : Pos} (hc : X.calm = true) (hl : Gl X "list") (hlm : X.mg "list" = none) (hg : Gl X "range") (hm : X.mg "range" = none) (he : PE X e (tM (kx X ec) W m)) (na : starEach [e] X.env = (false, eval e X.env) :: starEach [] X.env := by rfl)
    (nb : starEach [.Call (.Name "range" p2) [e] [] q] X.env = (false, eval (.Call (.Name "range" p2) [e] [] q) X.env) :: starEach [] X.env := by rfl) :
    PE X (.Call (.Name "list" p) [.Call (.Name "range" p2) [e] [] q] [] pos) (tM (kx X ec) W (lrg1M m)) := (pe_listRg hc hl hlm (prg_1 hg hm he na) nb).imp fun σ H Q h => by
  obtain ⟨B, F, os, env, st, R, h⟩ := h
  refine ⟨B, F, os, env, st, R, Po.bind h ?_⟩
  intro v st1 x F1 os1 H1 ev e1 k1 r1 f1 p1
  obtain ⟨z, hz, q⟩ := p1.of
  unfold lrgV at hz
  split at hz
  · rename_i j
    have := r1.int
    subst this
    split at hz
    · rename_i hr
      cases hz
      refine ⟨j, rfl, rgOk_ok hr, fun p hp => q _ _ _ _ (e1.trans (Ext.newO k1 hp)) (k1.newO hp) ?_ (Frs.new (e1.nn hp))⟩
      have := drs_rg (K := kx X ec) (F := F1) 0 j
      rw [Int.sub_zero] at this
      exact VR.newLst k1 hp this
    · cases hz
  · cases hz
theorem pe_lrg2 {p p2 q : Pos} (hc : X.calm = true) (hl : Gl X "list") (hlm : X.mg "list" = none) (hg : Gl X "range") (hm : X.mg "range" = none) (ha : PE X a (tM (kx X ec) W ma)) (hb : PE X b (tM (kx X ec) W mb)) (na : starEach [a, b] X.env = (false, eval a X.env) :: starEach [b] X.env := by rfl)
    (n2 : starEach [b] X.env = (false, eval b X.env) :: starEach [] X.env := by rfl) (hp : (backTo q (starEach [b] X.env)).any (·.1) = false := by rfl)
    (nb : starEach [.Call (.Name "range" p2) [a, b] [] q] X.env = (false, eval (.Call (.Name "range" p2) [a, b] [] q) X.env) :: starEach [] X.env := by rfl) :
    PE X (.Call (.Name "list" p) [.Call (.Name "range" p2) [a, b] [] q] [] pos) (tM (kx X ec) W (lrg2M ma mb)) := (pe_listRg hc hl hlm (prg_2 hg hm ha hb na n2 hp) nb).imp fun σ H Q h => by
  obtain ⟨B, F, os, env, st, R, h⟩ := h
  refine ⟨B, F, os, env, st, R, Po.bind h ?_⟩
  intro v st1 x F1 os1 H1 ev e1 k1 r1 f1 p1
  refine ⟨B, F1, os1, env, st1, R.ext e1 k1, Po.bind (p1.shift e1) ?_⟩
  intro w st2 y F2 os2 H2 ew e2 k2 r2 f2 p2
  obtain ⟨z, hz, q⟩ := p2.of
  unfold lrgW at hz
  split at hz
  · rename_i i j
    have := r1.int
    subst this
    have := r2.int
    subst this
    split at hz
    · rename_i hr
      cases hz
      exact ⟨i, j, rfl, rfl, rgOk_ok hr, fun p hp => q _ _ _ _ (e2.trans (Ext.newO k2 hp)) (k2.newO hp) (VR.newLst k2 hp (drs_rg i j)) (Frs.new (e2.nn hp))⟩
    · cases hz
  · cases hz
def rvlM (m : EM) : EM := fun env st => (m env st).bind fun v st1 => Ou.of st1 ((asList v).map fun ds => .fr (.lst ds.reverse))
theorem pe_rvl {k : Nat} {p1 p2 p3 : Pos} (he : PE X e (tM (kx X ec) W m)) : PE X (.Subscript e (.Slice none none (some (.UnaryOp .USub (.Constant (.int 1) k p1) p2)) p3) pos) (tM (kx X ec) W (rvlM m)) := (pe_revL he).imp fun σ H Q h => by
  obtain ⟨B, F, os, env, st, R, h⟩ := h
  refine ⟨B, F, os, env, st, R, Po.bind h ?_⟩
  intro v st1 x F1 os1 H1 ev e1 k1 r1 f1 p1
  obtain ⟨z, hz, q⟩ := p1.of
  cases hl : asList v with
  | none => rw [hl] at hz; cases hz
  | some ds =>
    rw [hl] at hz
    cases hz
    obtain ⟨p, xs, rfl, hp, rd⟩ := r1.list k1 hl
    exact ⟨p, xs, rfl, SqL.of hp, fun p' hp' => q _ _ _ _ (e1.trans (Ext.newO k1 hp')) (k1.newO hp') (VR.newLst k1 hp' rd.rev) (Frs.new (e1.nn hp'))⟩
/-! ### a, b, c = x, y, z -/
def OuL.bindS (o : OuL) (env : Env) (k : List Val → List Cn → Os) : Os := match o with
  | .stk => .stk
  | .ok v st => k v st
  | .exc c d st => .exc c d env st
theorem PoS.bindL {X : Kx} {W : WX} {B : Bs} {σ : L2.St} {F H : Hp} {os : List Addr} {env : Env} {st : List Cn} {o : OuL} {k : List Val → List Cn → Os} {E : Ends} {Q1 : List V → Hp → Prop} (R : Rel X B F os σ H env st) (h : PoS X W B (o.bindS env k) E)
    (hk : ∀ v st1 x F1 os1 H1, o = .ok v st1 → Ext F os H F1 os1 H1 → Rel X B F1 os1 σ H1 env st1 → VRs X F1 os1 H1 x v → v.all nofr = true → PoS X W B (k v st1) E → Q1 x H1) : PoL X W σ F os H o Q1 := by
  cases o with
  | stk => exact h
  | ok v st1 => exact fun x F1 os1 H1 e q r f => hk v st1 x F1 os1 H1 rfl e (R.ext e q) r f h
  | exc c d st1 => exact fun cls dd F1 os1 H1 e q r => h cls dd F1 os1 σ H1 (R.ext e q) r
def par3M (i j l : Nat) (r : AM) : SM := fun env st => (r env st).bindS env fun vs st1 => match vs with
  | [u, v, w] => if nobor u = true ∧ nobor v = true ∧ nobor w = true then .nx (((env.set i (some u)).set j (some v)).set l (some w)) st1 else .stk
  | _ => .stk
theorem ps_pr3 {i j l : Nat} {x y z : Str} {px py pz pt : Pos} {kt k2 pt2} {r : AM} (hc : X.calm = true) (hN : X.N.Nodup) (hi : X.N[i]? = some x) (hj : X.N[j]? = some y) (hl : X.N[l]? = some z) (hij : i ≠ j) (hil : i ≠ l) (hjl : j ≠ l)
    (hx : X.env.scope.names.lookup x = some .local) (hy : X.env.scope.names.lookup y = some .local) (hz : X.env.scope.names.lookup z = some .local) (ha : PA X [a, b, c] (tA (kx X ec) W r))
    (hw : swappedStores [.Tuple [.Name x px, .Name y py, .Name z pz] kt pt] (.Tuple [a, b, c] k2 pt2) X.env = pure (some [x, y, z]))
    (hs : swapsWithSole [.Tuple [.Name x px, .Name y py, .Name z pz] kt pt] (.Tuple [a, b, c] k2 pt2) pos.line X.env = pure false := by rfl) :
    PS X (.Assign [.Tuple [.Name x px, .Name y py, .Name z pz] kt pt] (.Tuple [a, b, c] k2 pt2) pos) (tS (kx X ec) W (par3M i j l r)) :=
  (ps_par3 hc hN hi hj hl hij hil hjl hx hy hz ha hw hs).imp fun E σ H h => by
    obtain ⟨B, F, os, env, st, R, h⟩ := h
    refine ⟨B, F, os, env, st, R, PoS.bindL R h ?_⟩
    intro vs st1 xs F1 os1 H1 ev e1 R1 r1 n1 p1
    split at p1
    · rename_i u v w
      split at p1
      · rename_i hb
        cases r1 with
        | cons a1 r1 =>
        cases r1 with
        | cons a2 r1 =>
        cases r1 with
        | cons a3 r1 =>
        cases r1
        simp only [List.all_cons, Bool.and_eq_true] at n1
        refine ⟨_, _, _, rfl, p1 F1 os1 _ H1 ?_⟩
        exact ((R1.set a1 hb.1 (fun c p e => by subst e; simp [nofr] at n1)).set a2 hb.2.1 (fun c p e => by subst e; simp [nofr] at n1)).set a3 hb.2.2 (fun c p e => by subst e; simp [nofr] at n1)
      · exact False.elim p1
    · exact False.elim p1
end
end Pl

set_option Elab.async false
set_option linter.all false
set_option maxRecDepth 100000
set_option maxHeartbeats 4000000
namespace Pl
open PySem PySem.Spec PyProof.Rows L2 RT
/-! ### dict comprehensions -/
def dcM (tg : Tg) (mc mk mv : EM) : List D → List (Key × D) → EM
  | [], acc => fun _ st => .ok (.fr (.dk acc)) st
  | d :: ds, acc => fun env st => match bindT tg d env with
    | none => .stk
    | some env1 => match mc env1 st with
      | .ok (.dat (.bool true)) st1 => match mk env1 st1 with
        | .ok (.dat kd) st2 => match keyD kd with
          | some k => match mv env1 st2 with
            | .ok v st3 => match asDat v with
              | some z => if acc.length < sizeLine then dcM tg mc mk mv ds (dput acc k z) env st3 else .stk
              | none => .stk
            | _ => .stk
          | none => .stk
        | _ => .stk
      | .ok (.dat (.bool false)) st1 => dcM tg mc mk mv ds acc env st1
      | _ => .stk
def dcompM (im : IM) (own : List Nat) (tg : Tg) (mc mk mv : EM) : EM := fun env st => match im env st with
  | .stk => .stk
  | .exc c d st1 => .exc c d st1
  | .ok items st1 => dcM tg mc mk mv items [] (wipeE env own) st1
theorem dcw {J : It} {n : Nat} {G : Hp → Prop} {Y : Nat → Hp → V → Hp → Prop} (w : Walk J n G Y) {g : TG} {tt : TT} {tk tv : TE} {vs : List Nat} {σ : L2.St} {A : Hp} {D : Addr} {Z : Hp → Prop} (Pv : Nat → Hp → Prop) (a0 : Pv 0 (upd A D (.dK []))) (aG : ∀ i B, i ≤ n → Pv i B → G B)
    (as : ∀ i x B B', i < n → Pv i B → Y i B x B' → g x (wipe σ vs) B' fun σ2 B2 => wipe σ2 vs = wipe σ vs ∧ tt σ2 B2 fun b B3 =>
      if b = true then tk σ2 B3 fun y B4 => tv σ2 B4 fun z B5 => ∃ kvs k, y = kV k ∧ B5 D = some (.dK kvs) ∧ kvs.length < sizeLine ∧ Pv (i + 1) (upd B5 D (.dK (putK kvs k z))) else Pv (i + 1) B3) (ad : ∀ B, Pv n B → Z B) :
    ∃ R : Nat → Nat → Hp → Prop, (∃ m, R 0 m (upd A D (.dK []))) ∧ ∀ i m B, R i m B →
      (J.stop i B ∧ Z B) ∨ (J.go i B ∧ ∃ Nx : Hp → Prop, (∀ B', Nx B' → ∃ m', m' < m ∧ R (i + 1) m' B') ∧ ∀ x B', J.yld i B x B' → g x (wipe σ vs) B' fun σ2 B2 => wipe σ2 vs = wipe σ vs ∧ tt σ2 B2 fun b B3 =>
        if b = true then tk σ2 B3 fun y B4 => tv σ2 B4 fun z B5 => ∃ kvs k, y = kV k ∧ B5 D = some (.dK kvs) ∧ kvs.length < sizeLine ∧ Nx (upd B5 D (.dK (putK kvs k z))) else Nx B3) := by
  refine ⟨fun i m B => m = n - i ∧ i ≤ n ∧ Pv i B, ⟨n, rfl, Nat.zero_le _, a0⟩, fun i m B hh => ?_⟩
  obtain ⟨em, hi, p⟩ := hh
  subst em
  have gB := aG i B hi p
  rcases Nat.lt_or_ge i n with hlt | hge
  · exact .inr ⟨w.goes i B hlt gB, Pv (i + 1), fun B' p' => ⟨n - (i + 1), by omega, rfl, hlt, p'⟩, fun x B' y => as i x B B' hlt p (w.yields i B x B' hlt gB y)⟩
  · have ei : i = n := by omega
    subst ei
    exact .inl ⟨w.stops B gB, ad B p⟩
section
variable {pr : Bool} {X : Cx} {ec : List (Addr × Str)} {W : WX} {blk : Bool} {e a b : Expr} {m ma mb mk mv mc : EM} {pos : Pos}
theorem dcomp_ok {im : IM} {tgt : Tg} {g : TG} {own : List Nat} (hg : TgOk pr X ec tgt g) (hin : ∀ i ∈ tgIx tgt, i ∈ own) {σ : L2.St} {H : Hp} {Q : VK} (h : tM (kx X ec) W (dcompM im own tgt mc mk mv) σ H Q) :
    tDc (tI pr (kx X ec) true W im) g (tT (kx X ec) W0 mc) (tM (kx X ec) W0 mk) (tM (kx X ec) W0 mv) own σ H Q := by
  obtain ⟨B, F0, os0, env, st0, R0, h⟩ := h
  refine ⟨B, F0, os0, env, st0, R0, ?_⟩
  unfold dcompM at h
  cases hi : im env st0 with
  | stk => rw [hi] at h; exact h
  | exc c d st1 => rw [hi] at h; exact h
  | ok items st1 =>
    rw [hi] at h
    intro J F1 os1 H1 e1 k1 it p hp
    obtain ⟨G, Y, w, hG, hY⟩ := it
    have R1 := (R0.ext e1 k1).wipe own
    have e2 := Ext.newO (o := .dK []) k1 hp
    have k2 := k1.newO (o := .dK []) hp
    refine dcw w (fun i H2 => ∃ F os st acc xs, Rel (kx X ec) B F os (L2.wipe σ own) H2 (wipeE env own) st ∧ Ext F1 os1 H1 F os H2 ∧ H2 p = some (.dK xs) ∧ F p = none ∧ p ∉ os ∧ Drv (kx X ec) F xs acc ∧
      Po (kx X ec) W σ F0 os0 H (dcM tgt mc mk mv (items.drop i) acc (wipeE env own) st) Q) ⟨F1, os1, st1, [], [], R1.ext e2 k2, e2, upd_same, (k1.free hp).2, (k1.free hp).1, .nil, h⟩ ?_ ?_ ?_
    · rintro i H2 _ ⟨F, os, st, acc, xs, R, e, _⟩
      exact hG H2 fun a o h1 h2 => e.keep a o h1 h2
    · rintro i x H2 H3 hlt ⟨F, os, st, acc, xs, R, e, hpx, hpF, hpo, rx, po⟩ y
      obtain ⟨d, hd, yd⟩ := hY i H2 x H3 hlt (fun a o h1 h2 => e.keep a o h1 h2) y
      obtain ⟨F3, e3, R3, rd⟩ := yd_ok R e.fz yd
      have hdrop : items.drop i = d :: items.drop (i + 1) := by
        obtain ⟨hl, he⟩ := List.getElem?_eq_some_iff.mp hd
        rw [← he]
        exact List.drop_eq_getElem_cons hl
      rw [hdrop] at po
      unfold dcM at po
      cases hb : bindT tgt d (wipeE env own) with
      | none => rw [hb] at po; exact False.elim po
      | some env1 =>
        rw [hb] at po
        dsimp only at po
        refine hg B F3 os (L2.wipe σ own) H3 (wipeE env own) st x d env1 _ R3 rd hb fun σ2 R4 hk => ⟨?_, ?_⟩
        · refine wipe_same ?_ fun i hi => hk i ?_
          · have l1 := R4.len
            have l2 : env1.length = (wipeE env own).length := by
              have aux : ∀ (is : List Nat) (ds : List D) (env env' : Env), bindAll is ds env = some env' → env'.length = env.length := by
                intro is
                induction is with
                | nil => intro ds env env' h; cases ds with | nil => cases h; rfl | cons d ds => cases h
                | cons i is ih => intro ds env env' h; cases ds with | nil => cases h | cons d ds => simpa using ih _ _ _ h
              cases tgt with
              | nm i => cases hb; simp
              | tp is => cases d with
                | tuple ds => exact aux _ _ _ _ hb
                | _ => cases hb
            have l3 := R3.len
            rw [wipe_length] at l3
            omega
          · cases tgt with
            | nm j => exact fun z => hi (hin _ (by rw [z]; exact List.mem_cons_self))
            | tp is => exact fun z => hi (hin _ z)
        · refine ⟨B, F3, os, env1, st, R4, ?_⟩
          cases hmc : mc env1 st with
          | stk => rw [hmc] at po; exact False.elim po
          | exc c d st2 => rw [hmc] at po; exact False.elim po
          | ok v st2 =>
            rw [hmc] at po
            split at po
            · rename_i st3 hv
              cases hv
              refine ⟨true, rfl, fun F5 os5 H5 e5 k5 => iteT ⟨B, F5, os5, env1, _, R4.ext e5 k5, ?_⟩⟩
              cases hmk : mk env1 st2 with
              | stk => rw [hmk] at po; exact False.elim po
              | exc c d st4 => rw [hmk] at po; exact False.elim po
              | ok kv st4 =>
                rw [hmk] at po
                intro yk F6 os6 H6 e6 k6 r6 f6
                cases kv with
                | dat kd =>
                  dsimp only at po
                  cases hkk : keyD kd with
                  | none => rw [hkk] at po; exact False.elim po
                  | some kk =>
                    rw [hkk] at po
                    dsimp only at po
                    refine ⟨B, F6, os6, env1, st4, (R4.ext e5 k5).ext e6 k6, Po.dat ?_⟩
                    cases hmv : mv env1 st4 with
                    | stk => rw [hmv] at po; exact False.elim po
                    | exc c d st5 => rw [hmv] at po; exact False.elim po
                    | ok u st5 =>
                      rw [hmv] at po
                      dsimp only [Ou.bind] at po ⊢
                      cases hz : asDat u with
                      | none => rw [hz] at po; exact False.elim po
                      | some z =>
                        rw [hz] at po
                        dsimp only at po
                        split at po
                        · rename_i hlen
                          intro y F7 os7 H7 e7 k7 r7 f7
                          have ee := ((e3.trans e5).trans e6).trans e7
                          have hp6 := ee.keep _ _ hpx hpo
                          have ef := ee.fnone hpF hpx
                          have eo := ee.nos hpo hpx
                          have E6 := e.trans ee
                          have R6 : Rel (kx X ec) B F7 os7 (L2.wipe σ own) H7 (wipeE env own) st5 := R.ext ee k7
                          have ek : yk = kV kk := by
                            cases r6 with
                            | dat r6 => exact keyD_ok r6 hkk
                          refine ⟨xs, kk, ek, hp6, by rw [drv_len rx]; exact hlen, F7, os7, st5, dput acc kk z, putK xs kk y, R1.writeN hp R6 ef eo, ⟨E6.fz, fun a o h1 h2 => ?_, E6.new, E6.os, fun a h => upd_ne_none (E6.dom a h)⟩, upd_same, ef, eo, ?_, po⟩
                          · rw [upd_ne (ne_of_none h1 hp)]; exact E6.keep a o h1 h2
                          · cases r7 with
                            | dat r7 => exact drv_put r7 (Paired.mapR (fun p q r => ⟨r.1, Dr.mono ee.fz _ _ r.2⟩) rx)
                        · exact False.elim po
                | _ => exact False.elim po
            · rename_i hv
              cases hv
              refine ⟨false, rfl, fun F5 os5 H5 e5 k5 => iteF ?_⟩
              have ee := e3.trans e5
              exact ⟨F5, os5, _, acc, xs, R.ext ee k5, e.trans ee, ee.keep _ _ hpx hpo, ee.fnone hpF hpx, ee.nos hpo hpx, Paired.mapR (fun p q r => ⟨r.1, Dr.mono ee.fz _ _ r.2⟩) rx, po⟩
            · exact False.elim po
    · rintro H2 ⟨F, os, st, acc, xs, R, e, hpx, hpF, hpo, rx, po⟩
      rw [List.drop_length] at po
      exact po (.ref p) F os H2 (e1.trans e) R.ok (.fr hpF hpo hpx (.dk rx)) (Frs.new (e1.nn hp))
theorem pe_dcomp {kx_ vx te iter : Expr} {ifs : List Expr} {scope : Scope} {own : List (Str × Nat)} {im : IM} {tgt : Tg} {g : TG} (hc : X.calm = true) (hN : X.N.Nodup) (hi : PI X te iter (tI pr (kx X ec) true W im)) (ok : BlkOk X.N X.env.scope scope own)
    (hgp : ∀ (s : Shared) (H : Hp) (C : Addr) (cl : List (Str × Addr)) (fp : List Addr), PG (X.blk s H scope (compEnvC scope cl C X.env) fp) te g) (ht : ∀ (s : Shared) (H : Hp) (C : Addr) (cl : List (Str × Addr)) (fp : List Addr), PTs (X.blk s H scope (compEnvC scope cl C X.env) fp) ifs (tT (kx X ec) W0 mc))
    (hk : ∀ (s : Shared) (H : Hp) (C : Addr) (cl : List (Str × Addr)) (fp : List Addr), PE (X.blk s H scope (compEnvC scope cl C X.env) fp) kx_ (tM (kx X ec) W0 mk))
    (he : ∀ (s : Shared) (H : Hp) (C : Addr) (cl : List (Str × Addr)) (fp : List Addr), PE (X.blk s H scope (compEnvC scope cl C X.env) fp) vx (tM (kx X ec) W0 mv)) (hg : TgOk pr X ec tgt g) (hin : ∀ i ∈ tgIx tgt, i ∈ own.map (·.2)) (hs : ∀ x, foldedSetIterable iter X.env x = pure x := by intro _; rfl) :
    PE X (.DictComp kx_ vx [⟨te, iter, ifs, 0⟩] scope pos) (tM (kx X ec) W (dcompM im (own.map (·.2)) tgt mc mk mv)) := (pe_dc hc hN hi ok hgp ht hk he hs).imp fun _ _ _ => dcomp_ok hg hin
/-! ### d[k] += e, d a dict of one's own -/
def augDM (i : Nat) (mk : EM) (g : Val → Val → Option Val) (m : EM) : SM := fun env st => match env[i]? with
  | some (some (.fr (.dk kvs))) => (mk env st).bindS env fun w st1 => match w with
    | .dat kd => match keyD kd with
      | some k => match dlook kvs k with
        | some old => (m env st1).bindS env fun v st2 => match g (.dat old) v with
          | some (.dat z) => if kvs.length < sizeLine then .nx (env.set i (some (.fr (.dk (dput kvs k z))))) st2 else .stk
          | _ => .stk
        | none => .stk
      | none => .stk
    | _ => .stk
  | _ => .stk
theorem ps_augD {i : Nat} {x : Str} {px pt : Pos} {ek : Expr} {op : Operator} {r : R2} {g : Val → Val → Option Val} (hu : X.A.units + 1 < cLine) (hN : X.N[i]? = some x) (hv : Vis X.env.scope x) (hk : PE X ek (tM (kx X ec) W mk)) (he : PE X e (tM (kx X ec) W m)) (ho : OpR X (inplaceOp op) r) (hsn : Snd2 (kx X ec) r g)
    (hd : (x == ("__debug__" : Str)) = false := by decide) (hcd : (x == ("__classdict__" : Str)) = false := by decide)
    (ha : ∀ ov iv new, augStore ek ov iv new = (do holding [new, ov, iv] (setItem ov iv new); release [new, ov, iv] []; pure .next) := by intros; rfl) :
    PS X (.AugAssign (.Subscript (.Name x px) ek pt) op e pos) (tS (kx X ec) W (augDM i mk g m)) :=
  (ps_daug hu (pv i hN hv hd hcd) hk he (fun pins s σ H x y v u Q I rx ry q => ho pins s σ H x y v u Q I rx ry q) ha).imp fun E σ H h => by
    obtain ⟨B, F, os, env, st, R, h⟩ := h
    unfold augDM at h
    split at h
    · rename_i kvs hd
      obtain ⟨y, hy, ry⟩ := R.slv i _ hd
      refine ⟨y, hy, B, F, os, env, st, R, PoS.bind R h ?_⟩
      intro w st1 kv F1 os1 H1 ew e1 R1 r1 f1 p1
      split at p1
      · rename_i kd
        cases hkk : keyD kd with
        | none => rw [hkk] at p1; exact False.elim p1
        | some kk =>
          rw [hkk] at p1
          dsimp only at p1
          cases hol : dlook kvs kk with
          | none => rw [hol] at p1; exact False.elim p1
          | some old =>
            rw [hol] at p1
            dsimp only at p1
            have ek : kv = kV kk := by
              cases r1 with
              | dat r1 => exact keyD_ok r1 hkk
            subst ek
            cases ry with
            | @fr p o _ hf ho' hp r =>
            cases r with
            | @dk xs _ r =>
            obtain ⟨ov, hov, rov⟩ := drv_look r hol
            have hp1 := e1.keep _ _ hp ho'
            refine ⟨p, ov, rfl, ?_, B, F1, os1, env, st1, R1, PoS.bind R1 p1 ?_⟩
            · have := DGet.k (k := kk) hp1
              rw [hov] at this
              exact this
            · intro v st2 yv F2 os2 H2 ev e2 R2 r2 f2 p2
              cases hg : g (.dat old) v with
              | none => rw [hg] at p2; exact False.elim p2
              | some z0 =>
                rw [hg] at p2
                cases z0 with
                | dat z =>
                  dsimp only at p2
                  split at p2
                  · rename_i hlen
                    refine hsn F2 os2 H2 st2 ov yv (.dat old) v (.dat z) _ R2.ok (.dat (Dr.mono (e1.fz.trans e2.fz) _ _ rov)) r2 hg fun x' F3 H3 e3 k3 r3 f3 => ?_
                    have R3 := R2.ext e3 k3
                    have hos1 := e1.nos ho' hp
                    have hp2 := e2.keep _ _ hp1 hos1
                    have hos2 := e2.nos hos1 hp1
                    have hp3 := e3.keep _ _ hp2 hos2
                    refine ⟨_, DPut.k hp3 (by rw [drv_len r]; exact hlen), p2 _ _ _ _ (R3.write hd hy ?_)⟩
                    cases r3 with
                    | dat r3 => exact .dk (drv_put r3 (Paired.mapR (fun p q r => ⟨r.1, Dr.mono ((e1.fz.trans e2.fz).trans e3.fz) _ _ r.2⟩) r))
                  · exact False.elim p2
                | _ => exact False.elim p2
      · exact False.elim p1
    · exact False.elim h
end
end Pl

set_option Elab.async false
set_option linter.all false
set_option maxRecDepth 100000
set_option maxHeartbeats 4000000
/-! zip of a tuple beside a list -/
namespace Zm
open PySem PySem.Spec PyProof.Rows L2
/-- something with an iterator: what next asks -/
structure Src where
  it : Heap → Addr → Addr → Nat → Prop
  sq : Heap → Addr → Array Value → Prop
  nx : ∀ {P : Program} {w : World} {A : Around} {E : Value → Shared → Prop} {s : Shared} {i l : Addr} {k : Nat} {us : Array Value} {u : Value} {Q : Value → Shared → Prop}, it s.heap i l k → sq s.heap l us → us[k]? = some u →
    (∀ g, it g i l (k + 1) → Heap.SameBut i s.heap g → Q u { s with heap := g }) → wpAny (model P w) A (Builtin.SmallTypes.nextOf (.ref i)) Q E s
  fi : ∀ {P : Program} {w : World} {A : Around} {E : Value → Shared → Prop} {s : Shared} {i l : Addr} {k : Nat} {us : Array Value} {Q : Value → Shared → Prop}, A.handled = none → it s.heap i l k → sq s.heap l us → us[k]? = none →
    (∀ g e, Heap.ExtBut i s.heap g → (∃ o, g.get? e = some o ∧ o.cls = .type "StopIteration") → E (.ref e) { s with heap := g }) → wpAny (model P w) A (Builtin.SmallTypes.nextOf (.ref i)) Q E s
  itK : ∀ {h g : Heap} {i l : Addr} {k : Nat}, it h i l k → (∀ o, h.get? i = some o → g.get? i = some o) → it g i l k
  sqK : ∀ {h g : Heap} {l : Addr} {us : Array Value}, sq h l us → (∀ o, h.get? l = some o → g.get? l = some o) → sq g l us
  ob : ∀ {h : Heap} {i l : Addr} {k : Nat}, it h i l k → ∃ o, h.get? i = some o ∧ ∀ v, o.data ≠ .cell v
def srcT : Src where
  it := fun h i l k => h.IsTupleIter i l k
  sq := fun h l us => h.IsTuple l us
  nx := fun a b c d => RZ.nextOf_tuple_item a b c d
  fi := fun h a b c d => RZ.nextOf_tuple_end h a b c d
  itK := fun a b => a.at b
  sqK := fun a b => let ⟨o, ho, r⟩ := a; ⟨o, b o ho, r⟩
  ob := fun ⟨o, e, _, d⟩ => ⟨o, e, fun v q => by rw [d] at q; cases q⟩
def srcL : Src where
  it := fun h i l k => h.IsListIter i l k
  sq := fun h l us => h.IsList l us
  nx := fun a b c d => wpAny_nextOf_list_item a b c d
  fi := fun h a b c d => wpAny_nextOf_list_end h a b c d
  itK := fun a b => a.at b
  sqK := fun a b => a.at b
  ob := fun ⟨o, e, _, d⟩ => ⟨o, e, fun v q => by rw [d] at q; cases q⟩
section
variable {S1 S2 : Src} {P : Program} {w : World} {A : Around} {E : Value → Shared → Prop} {s : Shared} {zz T1 T2 j1 j2 m1 m2 : Addr} {n1 n2 : Nat} {us vs : Array Value} {u v c d : Value}
theorem zm_next {Q : Value → Shared → Prop} (D : ZipApart zz T1 T2 j1 j2 m1 m2) (gz : IsZip s.heap zz T1 T2 .none) (g1 : IsPair s.heap T1 (.ref j1) (.ref j2)) (g2 : IsPair s.heap T2 c d)
    (a1 : S1.it s.heap j1 m1 n1) (a2 : S2.it s.heap j2 m2 n2) (b1 : S1.sq s.heap m1 us) (b2 : S2.sq s.heap m2 vs) (eu : us[n1]? = some u) (ev : vs[n2]? = some v)
    (q : ∀ g, IsZip g zz T1 T2 (rawInt s.heap.objs.size) → IsPair g T2 u v → S1.it g j1 m1 (n1 + 1) → S2.it g j2 m2 (n2 + 1) → IsPair g s.heap.objs.size u v → g.objs.size = s.heap.objs.size + 1 →
      (∀ b o, b ≠ zz → b ≠ T2 → b ≠ j1 → b ≠ j2 → s.heap.get? b = some o → g.get? b = some o) → Q (.ref s.heap.objs.size) { s with heap := g }) :
    wpAny (model P w) A (Builtin.«zip.__next__» ⟨[.ref zz], []⟩) (fun f t => ∃ r, f = .done (.ret r) ∧ Q r t) E s := by
  show wpAny _ _ (field (.ref zz) 2 >>= _) _ _ _
  refine wpAny_bind (wpAny_field gz rfl (x := .bool false) rfl ?_)
  show wpAny _ _ (field (.ref zz) 3 >>= _) _ _ _
  refine wpAny_bind (wpAny_field gz rfl (x := .ref T1) rfl (wpAny_bind (wpAny_seqItems g1 rfl ?_)))
  show wpAny _ _ (Builtin.SmallTypes.ownedTupleIsFree (.ref zz) >>= _) _ _ _
  refine wpAny_bind (by
    unfold Builtin.SmallTypes.ownedTupleIsFree
    refine wpAny_bind (wpAny_field gz rfl (x := .none) rfl (wpAny_pure ?_))
    simp only [if_true]
    refine wpAny_bind (wpAny_rule (wpAny_bind (wpAny_field gz rfl (x := .ref T2) rfl (wpAny_bind (wpAny_setField_rec gz (by simp) fun k₁ gz₁ t₁ => ?_)))))
    replace gz₁ : IsZip k₁ zz T1 T2 .ellipsis := gz₁
    refine wpAny_bind ?_
    simp only [List.zipIdx_cons, List.zipIdx_nil, List.forIn_cons, List.forIn_nil]
    refine wpAny_bind (wpAny_bind (wpAny_onRaise ?_))
    show wpAny _ _ (Builtin.SmallTypes.nextOf (.ref j1) >>= _) _ _ _
    have k1 : ∀ b o, b ≠ zz → s.heap.get? b = some o → k₁.get? b = some o := fun b o nb e => t₁.extBut _ _ nb e
    refine wpAny_bind (S1.nx (S1.itK a1 fun o e => k1 _ o D.i1z e) (S1.sqK b1 fun o e => k1 _ o D.l1z e) eu fun k₂ a1₂ t₂ => wpAny_pure ?_)
    have g2₂ : IsPair k₂ T2 c d := t₂.extBut _ _ D.TOi1 (k1 _ _ D.TOz g2)
    refine wpAny_bind (wpAny_seqItems g2₂ rfl (wpAny_bind (wpAny_updateSeq_pair g2₂ fun k₃ g2₃ t₃ => ?_)))
    replace g2₃ : IsPair k₃ T2 u d := g2₃
    have k3 : ∀ b o, b ≠ zz → b ≠ T2 → b ≠ j1 → s.heap.get? b = some o → k₃.get? b = some o := fun b o nb nt n1 e => t₃.extBut _ _ nt (t₂.extBut _ _ n1 (k1 b o nb e))
    refine wpAny_bind (wpAny_letGo (wpAny_pure (wpAny_bind (wpAny_bind (wpAny_onRaise ?_)))))
    show wpAny _ _ (Builtin.SmallTypes.nextOf (.ref j2) >>= _) _ _ _
    refine wpAny_bind (S2.nx (S2.itK a2 fun o e => k3 _ o D.i2z D.TOi2.symm D.i12.symm e) (S2.sqK b2 fun o e => k3 _ o D.l2z D.l2TO D.l2i1 e) ev fun k₄ a2₄ t₄ => wpAny_pure ?_)
    have g2₄ : IsPair k₄ T2 u d := t₄.extBut _ _ D.TOi2 g2₃
    refine wpAny_bind (wpAny_seqItems g2₄ rfl (wpAny_bind (wpAny_updateSeq_pair g2₄ fun k₅ g2₅ t₅ => ?_)))
    replace g2₅ : IsPair k₅ T2 u v := g2₅
    refine wpAny_bind (wpAny_letGo (wpAny_pure (wpAny_pure (wpAny_bind (wpAny_seqItems g2₅ rfl (wpAny_bind (wpAny_newTuple ?_)))))))
    have sz : k₅.objs.size = s.heap.objs.size := by rw [t₅.1, t₄.1, t₃.1, t₂.1, t₁.1]
    have gz₅ : IsZip k₅ zz T1 T2 .ellipsis := t₅.extBut _ _ D.TOz.symm (t₄.extBut _ _ D.i2z.symm (t₃.extBut _ _ D.TOz.symm (t₂.extBut _ _ D.i1z.symm gz₁)))
    have k5 : ∀ b o, b ≠ zz → b ≠ T2 → b ≠ j1 → b ≠ j2 → s.heap.get? b = some o → k₅.get? b = some o := fun b o nb nt n1 n2 e => t₅.extBut _ _ nt (t₄.extBut _ _ n2 (k3 b o nb nt n1 e))
    have a1₅ : S1.it k₅ j1 m1 (n1 + 1) := S1.itK a1₂ fun o e => t₅.extBut _ _ D.TOi1.symm (t₄.extBut _ _ D.i12 (t₃.extBut _ _ D.TOi1.symm e))
    have a2₅ : S2.it k₅ j2 m2 (n2 + 1) := S2.itK a2₄ fun o e => t₅.extBut _ _ D.TOi2.symm e
    have lz : zz < k₅.objs.size := Heap.lt_size gz₅
    show wpAny _ _ (Builtin.SmallTypes.ownedTupleHandOut (.ref zz) (.ref k₅.objs.size) >>= _) _ _ _
    refine wpAny_bind ?_
    unfold Builtin.SmallTypes.ownedTupleHandOut
    have gz₆ : IsZip (k₅.push { cls := .type "tuple", data := .seq #[u, v] }) zz T1 T2 .ellipsis := Heap.get?_push_of_some _ gz₅
    refine wpAny_bind (wpAny_setField_rec gz₆ (by simp) fun k₇ gz₇ t₇ => ?_)
    replace gz₇ : IsZip k₇ zz T1 T2 (rawInt k₅.objs.size) := gz₇
    refine wpAny_setField_rec gz₇ (by simp) fun k₈ gz₈ t₈ => ?_
    replace gz₈ : IsZip k₈ zz T1 T2 (rawInt k₅.objs.size) := gz₈
    have up : ∀ b o, b ≠ zz → k₅.get? b = some o → k₈.get? b = some o := fun b o nb e => t₈.extBut _ _ nb (t₇.extBut _ _ nb (Heap.get?_push_of_some _ e))
    have pr : IsPair k₈ k₅.objs.size u v := t₈.extBut _ _ (Nat.ne_of_gt lz) (t₇.extBut _ _ (Nat.ne_of_gt lz) (Heap.get?_push_size _ rfl))
    have s8 : k₈.objs.size = k₅.objs.size + 1 := by rw [t₈.1, t₇.1, Heap.size_push]
    rw [sz] at gz₈ pr s8
    refine wpAny_pure ⟨_, rfl, ?_⟩
    show Q (.ref k₅.objs.size) _
    rw [sz]
    exact q k₈ gz₈ (up _ _ D.TOz g2₅) (S1.itK a1₅ fun o e => up _ o D.i1z e) (S2.itK a2₅ fun o e => up _ o D.i2z e) pr s8 fun b o nb nt n1 n2 e => up b o nb (k5 b o nb nt n1 n2 e))
theorem zm_last {Q : Fin → Shared → Prop} (hh : A.handled = none) (D : ZipApart zz T1 T2 j1 j2 m1 m2) (gz : IsZip s.heap zz T1 T2 .none) (g1 : IsPair s.heap T1 (.ref j1) (.ref j2)) (g2 : IsPair s.heap T2 c d)
    (a1 : S1.it s.heap j1 m1 n1) (a2 : S2.it s.heap j2 m2 n2) (b1 : S1.sq s.heap m1 us) (b2 : S2.sq s.heap m2 vs) (no : us[n1]? = none ∨ vs[n2]? = none)
    (q : ∀ g e, (∀ b o, b ≠ zz → b ≠ T2 → b ≠ j1 → b ≠ j2 → s.heap.get? b = some o → g.get? b = some o) → (∃ o, g.get? e = some o ∧ o.cls = .type "StopIteration") → E (.ref e) { s with heap := g }) :
    wpAny (model P w) A (Builtin.«zip.__next__» ⟨[.ref zz], []⟩) Q E s := by
  show wpAny _ _ (field (.ref zz) 2 >>= _) _ _ _
  refine wpAny_bind (wpAny_field gz rfl (x := .bool false) rfl ?_)
  show wpAny _ _ (field (.ref zz) 3 >>= _) _ _ _
  refine wpAny_bind (wpAny_field gz rfl (x := .ref T1) rfl (wpAny_bind (wpAny_seqItems g1 rfl ?_)))
  show wpAny _ _ (Builtin.SmallTypes.ownedTupleIsFree (.ref zz) >>= _) _ _ _
  refine wpAny_bind (by
    unfold Builtin.SmallTypes.ownedTupleIsFree
    refine wpAny_bind (wpAny_field gz rfl (x := .none) rfl (wpAny_pure ?_))
    simp only [if_true]
    refine wpAny_bind (wpAny_rule (wpAny_bind (wpAny_field gz rfl (x := .ref T2) rfl (wpAny_bind (wpAny_setField_rec gz (by simp) fun k₁ gz₁ t₁ => ?_)))))
    replace gz₁ : IsZip k₁ zz T1 T2 .ellipsis := gz₁
    refine wpAny_bind ?_
    simp only [List.zipIdx_cons, List.zipIdx_nil, List.forIn_cons, List.forIn_nil]
    refine wpAny_bind (wpAny_bind (wpAny_onRaise ?_))
    show wpAny _ _ (Builtin.SmallTypes.nextOf (.ref j1) >>= _) _ _ _
    have k1 : ∀ b o, b ≠ zz → s.heap.get? b = some o → k₁.get? b = some o := fun b o nb e => t₁.extBut _ _ nb e
    cases eu : us[n1]? with
    | none =>
      refine wpAny_bind (S1.fi hh (S1.itK a1 fun o e => k1 _ o D.i1z e) (S1.sqK b1 fun o e => k1 _ o D.l1z e) eu fun k₂ e t₂ he => ?_)
      obtain ⟨oe, h1, h2⟩ := he
      have gz₂ : IsZip k₂ zz T1 T2 .ellipsis := t₂ _ _ D.i1z.symm gz₁
      have ne : e ≠ zz := fun x => by rw [x, gz₂] at h1; cases h1; simp at h2
      refine wpAny_setField_rec gz₂ (by simp) fun k₃ _ t₃ => q k₃ e (fun b o nb nt n1 n2 x => t₃.extBut _ _ nb (t₂ _ _ n1 (k1 _ _ nb x))) ⟨oe, t₃.extBut _ _ ne h1, h2⟩
    | some u =>
      have ev : vs[n2]? = none := by
        rcases no with h | h
        · rw [eu] at h; cases h
        · exact h
      refine wpAny_bind (S1.nx (S1.itK a1 fun o e => k1 _ o D.i1z e) (S1.sqK b1 fun o e => k1 _ o D.l1z e) eu fun k₂ a1₂ t₂ => wpAny_pure ?_)
      have g2₂ : IsPair k₂ T2 c d := t₂.extBut _ _ D.TOi1 (k1 _ _ D.TOz g2)
      refine wpAny_bind (wpAny_seqItems g2₂ rfl (wpAny_bind (wpAny_updateSeq_pair g2₂ fun k₃ g2₃ t₃ => ?_)))
      have k3 : ∀ b o, b ≠ zz → b ≠ T2 → b ≠ j1 → s.heap.get? b = some o → k₃.get? b = some o := fun b o nb nt n1 e => t₃.extBut _ _ nt (t₂.extBut _ _ n1 (k1 b o nb e))
      refine wpAny_bind (wpAny_letGo (wpAny_pure (wpAny_bind (wpAny_bind (wpAny_onRaise ?_)))))
      show wpAny _ _ (Builtin.SmallTypes.nextOf (.ref j2) >>= _) _ _ _
      refine wpAny_bind (S2.fi hh (S2.itK a2 fun o e => k3 _ o D.i2z D.TOi2.symm D.i12.symm e) (S2.sqK b2 fun o e => k3 _ o D.l2z D.l2TO D.l2i1 e) ev fun k₄ e t₄ he => ?_)
      obtain ⟨oe, h1, h2⟩ := he
      have gz₄ : IsZip k₄ zz T1 T2 .ellipsis := t₄ _ _ D.i2z.symm (t₃.extBut _ _ D.TOz.symm (t₂.extBut _ _ D.i1z.symm gz₁))
      have ne : e ≠ zz := fun x => by rw [x, gz₄] at h1; cases h1; simp at h2
      refine wpAny_setField_rec gz₄ (by simp) fun k₅ _ t₅ => q k₅ e (fun b o nb nt n1 n2 x => t₅.extBut _ _ nb (t₄ _ _ n2 (k3 _ _ nb nt n1 x))) ⟨oe, t₅.extBut _ _ ne h1, h2⟩)
theorem zm_pn {Q : Option Value → Shared → Prop} (D : ZipApart zz T1 T2 j1 j2 m1 m2) (gz : IsZip s.heap zz T1 T2 .none) (g1 : IsPair s.heap T1 (.ref j1) (.ref j2)) (g2 : IsPair s.heap T2 c d)
    (a1 : S1.it s.heap j1 m1 n1) (a2 : S2.it s.heap j2 m2 n2) (b1 : S1.sq s.heap m1 us) (b2 : S2.sq s.heap m2 vs) (eu : us[n1]? = some u) (ev : vs[n2]? = some v)
    (q : ∀ g, IsZip g zz T1 T2 (rawInt s.heap.objs.size) → IsPair g T2 u v → S1.it g j1 m1 (n1 + 1) → S2.it g j2 m2 (n2 + 1) → IsPair g s.heap.objs.size u v → g.objs.size = s.heap.objs.size + 1 →
      (∀ b o, b ≠ zz → b ≠ T2 → b ≠ j1 → b ≠ j2 → s.heap.get? b = some o → g.get? b = some o) → Q (some (.ref s.heap.objs.size)) { s with heap := g }) :
    wpAny (model P w) A (pyNext (.ref zz)) Q E s := by
  have ty : s.TypeIs (.ref zz) "zip" := ⟨_, gz, rfl⟩
  unfold pyNext
  exact wpAny_bind (wpAny_attempt (wpAny_callSpecial?_slot (name := Str.ofString "__next__") ty F.slot_zip_next (wpAny_call_entry F.slot_zip_next ty F.entry_zip_next
    (zm_next D gz g1 g2 a1 a2 b1 b2 eu ev fun g x1 x2 x3 x4 x5 x6 x7 => wpAny_pure (q g x1 x2 x3 x4 x5 x6 x7)) (F.args_zip_next_1 _))))
theorem zm_pe {Q : Option Value → Shared → Prop} (hh : A.handled = none) (D : ZipApart zz T1 T2 j1 j2 m1 m2) (gz : IsZip s.heap zz T1 T2 .none) (g1 : IsPair s.heap T1 (.ref j1) (.ref j2)) (g2 : IsPair s.heap T2 c d)
    (a1 : S1.it s.heap j1 m1 n1) (a2 : S2.it s.heap j2 m2 n2) (b1 : S1.sq s.heap m1 us) (b2 : S2.sq s.heap m2 vs) (no : us[n1]? = none ∨ vs[n2]? = none)
    (q : ∀ g, (∀ b o, b ≠ zz → b ≠ T2 → b ≠ j1 → b ≠ j2 → s.heap.get? b = some o → g.get? b = some o) → Q none { s with heap := g }) : wpAny (model P w) A (pyNext (.ref zz)) Q E s := by
  have ty : s.TypeIs (.ref zz) "zip" := ⟨_, gz, rfl⟩
  unfold pyNext
  refine wpAny_bind (wpAny_attempt (wpAny_callSpecial?_slot (name := Str.ofString "__next__") ty F.slot_zip_next (wpAny_call_entry F.slot_zip_next ty F.entry_zip_next
    (zm_last hh D gz g1 g2 a1 a2 b1 b2 no fun g e k he => ?_) (F.args_zip_next_1 _))))
  obtain ⟨o, h1, h2⟩ := he
  exact wpAny_bind (wpAny_isInstance (T := "StopIteration") (b := true) ⟨o, h1, h2⟩ isSubtype_stop (wpAny_pure (q g k)))
end
abbrev hA (h : Heap) (a : Addr) : Heap := h.push { cls := .type "tuple_iterator", data := .fields #[.ref a, .int 0 0] }
abbrev hB (h : Heap) (a b : Addr) : Heap := (hA h a).push { cls := .type "list_iterator", data := .fields #[.ref b, .int 0 0] }
abbrev hC (h : Heap) (a b : Addr) : Heap := (hB h a b).push { cls := .type "tuple", data := .seq #[.ref h.objs.size, .ref (hA h a).objs.size] }
abbrev hD (h : Heap) (a b : Addr) : Heap := (hC h a b).push { cls := .type "tuple", data := .seq #[.none, .none] }
abbrev hE (h : Heap) (a b : Addr) : Heap := (hD h a b).push { cls := .type "zip", data := .fields #[.none, .bool false, .bool false, .ref (hB h a b).objs.size, .ref (hC h a b).objs.size] }
theorem zm_meets (a b : Addr) (us vs : Array Value) :
    Meets (Builtin.«zip.__new__» ⟨[.type "zip", .ref a, .ref b], []⟩) (fun _ R s => s.heap.IsTuple a us ∧ s.heap.IsList b vs ∧ R (.ok (.ret (.ref (hD s.heap a b).objs.size))) { s with heap := hE s.heap a b }) :=
  .of_wp fun prog w A R s z => by
    obtain ⟨hp, g, d, tk, os⟩ := s
    obtain ⟨za, zb, z⟩ := z
    have sz := sub_zip
    have La : Heap.IsTuple (Shared.heap ⟨hp, g, d, tk, os⟩) a us := za
    have Lb : Heap.IsList (Shared.heap ⟨hp.push { cls := .type "tuple_iterator", data := .fields #[.ref a, .int 0 0] }, g, d, tk, os⟩) b vs := zb.push _
    wp_walk using wpAny_pyIter_tuple La, wpAny_pyIter_list Lb
    exact ⟨_, rfl, z⟩
section
variable {P : Program} {w : World} {A : Around} {E : Value → Shared → Prop} {s : Shared}
theorem zm_call {a b : Addr} {us vs : Array Value} {Q : Value → Shared → Prop} (ha : s.heap.IsTuple a us) (hb : s.heap.IsList b vs)
    (q : ∀ g, IsZip g (s.heap.objs.size + 4) (s.heap.objs.size + 2) (s.heap.objs.size + 3) .none → IsPair g (s.heap.objs.size + 2) (.ref s.heap.objs.size) (.ref (s.heap.objs.size + 1)) → IsPair g (s.heap.objs.size + 3) .none .none →
      g.IsTupleIter s.heap.objs.size a 0 → g.IsListIter (s.heap.objs.size + 1) b 0 → (∀ c o, s.heap.get? c = some o → g.get? c = some o) → Q (.ref (s.heap.objs.size + 4)) { s with heap := g }) :
    wpAny (model P w) A (call (.type "zip") [.ref a, .ref b]) Q E s := by
  refine callType_new F.called_zip (by decide) (F.typeCall_zip_2 _ _) (F.newCall_zip_2 _ _) (fun obj => F.args_object_init_3 obj _ _) F.entry_zip_new (zm_meets a b us vs) ⟨ha, hb, ?_⟩
  have z1 : (hA s.heap a).objs.size = s.heap.objs.size + 1 := Heap.size_push ..
  have z2 : (hB s.heap a b).objs.size = s.heap.objs.size + 2 := by rw [Heap.size_push, z1]
  have z3 : (hC s.heap a b).objs.size = s.heap.objs.size + 3 := by rw [Heap.size_push, z2]
  have z4 : (hD s.heap a b).objs.size = s.heap.objs.size + 4 := by rw [Heap.size_push, z3]
  have p5 : (hE s.heap a b).get? (hD s.heap a b).objs.size = some _ := Heap.get?_push_size _ rfl
  have p4 : (hE s.heap a b).get? (hC s.heap a b).objs.size = some _ := Heap.get?_push_of_some _ (Heap.get?_push_size _ rfl)
  have p3 : (hE s.heap a b).get? (hB s.heap a b).objs.size = some _ := Heap.get?_push_of_some _ (Heap.get?_push_of_some _ (Heap.get?_push_size _ rfl))
  have p2 : (hE s.heap a b).get? (hA s.heap a).objs.size = some _ := Heap.get?_push_of_some _ (Heap.get?_push_of_some _ (Heap.get?_push_of_some _ (Heap.get?_push_size _ rfl)))
  have p1 : (hE s.heap a b).get? s.heap.objs.size = some _ := Heap.get?_push_of_some _ (Heap.get?_push_of_some _ (Heap.get?_push_of_some _ (Heap.get?_push_of_some _ (Heap.get?_push_size _ rfl))))
  show _ ∧ _
  rw [z2, z3, z4] at p5
  rw [z1, z2] at p3
  rw [z3] at p4
  rw [z1] at p2
  rw [z4]
  exact ⟨⟨_, p5, rfl⟩, q _ p5 p3 p4 ⟨_, p1, rfl, rfl⟩ ⟨_, p2, rfl, rfl⟩ fun c o x => Heap.get?_push_of_some _ (Heap.get?_push_of_some _ (Heap.get?_push_of_some _ (Heap.get?_push_of_some _ (Heap.get?_push_of_some _ x))))⟩
end
end Zm

set_option Elab.async false
set_option linter.all false
set_option maxRecDepth 100000
set_option maxHeartbeats 4000000
namespace Zm
open PySem PySem.Spec PyProof.Rows L2
/-- the tuple at a beside the list at b, their items in new pairs -/
def ItzM (K : PySem.W.Frag) (a b : Addr) : It :=
  ⟨fun i H => ∃ (xs ys : List V) (x y : V), SqT K H a xs ∧ SqL K H b ys ∧ xs[i]? = some x ∧ ys[i]? = some y,
    fun i H v H' => ∃ T x y, v = .ref T ∧ H T = none ∧ H' = upd H T (.tup [x, y]) ∧ (∀ xs, SqT K H a xs → xs[i]? = some x) ∧ ∀ ys, SqL K H b ys → ys[i]? = some y,
    fun i H => ∃ xs ys : List V, SqT K H a xs ∧ SqL K H b ys ∧ (xs.length ≤ i ∨ ys.length ≤ i)⟩
theorem five {z T1 T2 j1 j2 c : Addr} (h : c ∈ [z, T1, T2, j1, j2]) : c = z ∨ c = T1 ∨ c = T2 ∨ c = j1 ∨ c = j2 := by simpa using h
theorem out5 {z T1 T2 j1 j2 c : Addr} (h : c ∉ [z, T1, T2, j1, j2]) : c ≠ z ∧ c ≠ T1 ∧ c ≠ T2 ∧ c ≠ j1 ∧ c ≠ j2 := by simpa using h
theorem zm_turn {P : Program} {w : World} {K : PySem.W.Frag} {elts : List Expr} {kk : Nat} {tpos : Pos} {a b z T1 T2 j1 j2 : Addr} (D : ZipApart z T1 T2 j1 j2 a b) :
    Turn P w K (.Tuple elts kk tpos) (ItzM K a b) [z, T1, T2, j1, j2] z (fun i h => IsZip h z T1 T2 .none ∧ IsPair h T1 (.ref j1) (.ref j2) ∧ (∃ x y, IsPair h T2 x y) ∧ srcT.it h j1 a i ∧ srcL.it h j2 b i) where
  mem := by simp
  obj := fun i h st c hc => by
    obtain ⟨gz, g1, ⟨x, y, g2⟩, h1, h2⟩ := st
    rcases five hc with e | e | e | e | e <;> subst e
    · exact ⟨_, gz, fun v q => nomatch q⟩
    · exact ⟨_, g1, fun v q => nomatch q⟩
    · exact ⟨_, g2, fun v q => nomatch q⟩
    · exact srcT.ob h1
    · exact srcL.ob h2
  keep := fun i h g st k => by
    obtain ⟨gz, g1, ⟨x, y, g2⟩, h1, h2⟩ := st
    exact ⟨k z (by simp) _ gz, k T1 (by simp) _ g1, ⟨x, y, k T2 (by simp) _ g2⟩, srcT.itK h1 fun o q => k j1 (by simp) o q, srcL.itK h2 fun o q => k j2 (by simp) o q⟩
  item := by
    intro X hP hw hK hc i pins s σ H E I hf st go
    subst hP hw hK
    obtain ⟨gz, g1, ⟨x0, y0, g2⟩, h1, h2⟩ := st
    obtain ⟨xs, ys, x, y, sx, sy, ex, ey⟩ := go
    obtain ⟨i1, r1, p1, _⟩ := I.tuple sx
    obtain ⟨i2, r2, p2, _⟩ := I.list sy
    obtain ⟨u, eu, ru⟩ := r1.get ex
    obtain ⟨v, ev, rv⟩ := r2.get ey
    have lz : z < s.heap.objs.size := Heap.lt_size gz
    have q1 : srcT.sq s.heap a i1.toArray := p1
    have q2 : srcL.sq s.heap b i2.toArray := p2.isList
    refine zm_pn D gz g1 g2 h1 h2 q1 q2 (u := u) (v := v) (by simpa using eu) (by simpa using ev) fun g gz' g2' h1' h2' hT hs kp => ?_
    refine ⟨_, rfl, wpAny_letOwnedTupleGo_zip (s := { s with heap := g }) gz' fun g' gz2 sb => ?_⟩
    have hT2 : g'.get? s.heap.objs.size = some { cls := .type "tuple", data := .seq #[u, v] } := (sb.2 _ (Nat.ne_of_gt lz)).trans hT
    have ok : ObjOk X.prog X.w (upd H s.heap.objs.size (.tup [x, y])) g' s.heap.objs.size (.tup [x, y]) := ⟨by show 2 ≤ sizeLine; decide, [u, v], .cons ru (.cons rv .nil), ⟨_, hT2, rfl, _, rfl⟩⟩
    have J : Inv X pins σ (upd H s.heap.objs.size (.tup [x, y])) { s with heap := g' } := I.turnedNew (t' := s.toks) (ch := [z, T1, T2, j1, j2]) (fun c o hb q => by
      obtain ⟨n0, n1, n2, n3, n4⟩ := out5 hb
      exact (sb.2 c n0).trans (kp c o n0 n2 n3 n4 q)) hf (Nat.le_refl _) ok
    refine ⟨.ref s.heap.objs.size, _, J, rfl, ⟨_, x, y, rfl, I.hok.fresh (Nat.le_refl _), rfl, fun l hl => by rw [I.tuple_inj hl sx]; exact ex, fun l hl => by rw [I.list_inj hl sy]; exact ey⟩, ⟨gz2, ?_, ⟨u, v, ?_⟩, ?_, ?_⟩, fun c hcm => ?_⟩
    · exact (sb.2 _ D.TIz).trans (kp _ _ D.TIz D.TITO D.TIi1 D.TIi2 g1)
    · exact (sb.2 _ D.TOz).trans g2'
    · exact srcT.itK h1' fun o q => (sb.2 _ D.i1z).trans q
    · exact srcL.itK h2' fun o q => (sb.2 _ D.i2z).trans q
    · have lt : c < s.heap.objs.size := by
        rcases five hcm with e | e | e | e | e <;> subst e
        · exact lz
        · exact Heap.lt_size g1
        · exact Heap.lt_size g2
        · obtain ⟨_, e1, _⟩ := srcT.ob h1; exact Heap.lt_size e1
        · obtain ⟨_, e1, _⟩ := srcL.ob h2; exact Heap.lt_size e1
      rw [upd_ne (Nat.ne_of_lt lt)]
      exact (hf c hcm).1
  done := by
    intro X hP hw hK hc i pins s σ H E I hf st go
    subst hP hw hK
    obtain ⟨gz, g1, ⟨x0, y0, g2⟩, h1, h2⟩ := st
    obtain ⟨xs, ys, sx, sy, no⟩ := go
    obtain ⟨i1, r1, p1, _⟩ := I.tuple sx
    obtain ⟨i2, r2, p2, _⟩ := I.list sy
    have l1 := r1.length
    have l2 := r2.length
    have q1 : srcT.sq s.heap a i1.toArray := p1
    have q2 : srcL.sq s.heap b i2.toArray := p2.isList
    have he : i1.toArray[i]? = none ∨ i2.toArray[i]? = none := no.imp (fun q => by simp; omega) fun q => by simp; omega
    exact zm_pe (I.ok.hd hc) D gz g1 g2 h1 h2 q1 q2 he fun g kp => ⟨rfl, I.turnedL (t' := s.toks) (ch := [z, T1, T2, j1, j2]) (fun c o hb q => by
      obtain ⟨n0, n1, n2, n3, n4⟩ := out5 hb
      exact kp c o n0 n2 n3 n4 q) hf⟩
  self := fun A i s Q E st h => wpAny_pyIter_zip st.1 h
def iZipM (K : PySem.W.Frag) (ta : TA) : TI := fun σ H R => ta σ H fun vs H1 => ∃ a b xs ys, vs = [.ref a, .ref b] ∧ SqT K H1 a xs ∧ SqL K H1 b ys ∧ R (ItzM K a b) H1
theorem pi_zm {X : Cx} {e f : Expr} {ta : TA} {p pos tpos : Pos} {elts : List Expr} {kk : Nat} (hg : Gl X "zip") (hm : X.mg "zip" = none) (ha : PA X [e, f] ta)
    (h1 : starEach [e, f] X.env = (false, eval e X.env) :: starEach [f] X.env := by rfl) (h2 : (backTo pos (starEach [f] X.env)).any (·.1) = false := by rfl) : PI X (.Tuple elts kk tpos) (.Call (.Name "zip" p) [e, f] [] pos) (iZipM X.K ta) := by
  refine ⟨fun pins s σ H R I h => Call_ (ld_blt I hg hm PyProof.Rows.boot_zip (PyProof.Rows.callWith_type1 (thn (ha.run pos pins s σ H _ I h) fun us s1 ⟨vs, H1, I1, r1, q1⟩ => ?_) h1 h2))⟩
  obtain ⟨a, b, xs, ys, ex, sx, sy, q⟩ := q1
  subst ex
  cases r1 with
  | cons r rr =>
    cases rr with
    | cons r' rr =>
      cases rr
      cases r
      cases r'
      obtain ⟨i1, v1, p1, _⟩ := I1.tuple sx
      obtain ⟨i2, v2, p2, _⟩ := I1.list sy
      obtain ⟨o1, ho1, _⟩ := id p1
      have big : ∀ c, c ∈ [s1.heap.objs.size + 4, s1.heap.objs.size + 2, s1.heap.objs.size + 3, s1.heap.objs.size, s1.heap.objs.size + 1] → s1.heap.objs.size ≤ c := fun c hcm => by
        rcases five hcm with e | e | e | e | e <;> subst e
        · exact Nat.le_add_right _ _
        · exact Nat.le_add_right _ _
        · exact Nat.le_add_right _ _
        · exact Nat.le_refl _
        · exact Nat.le_add_right _ _
      refine zm_call (show s1.heap.IsTuple a i1.toArray from p1) p2.isList fun g gz g1 g2 j1 j2 kp => wpAny_pyIter_zip gz ?_
      exact ⟨s1.heap.objs.size + 4, [s1.heap.objs.size + 4, s1.heap.objs.size + 2, s1.heap.objs.size + 3, s1.heap.objs.size, s1.heap.objs.size + 1], _, _, H1, rfl, I1.kept (t' := s1.toks) kp, zm_turn (PySem.W.ktu_apart s1.heap.objs.size a b (Heap.lt_size ho1) p2.lt), ⟨gz, g1, ⟨_, _, g2⟩, j1, j2⟩,
        fun c hcm => I1.fpOk (big c hcm) (I1.hok.fresh (big c hcm)), q⟩
theorem zm_walk {K : PySem.W.Frag} {a b : Addr} {xs ys : List V} {n : Nat} (hn : n = min xs.length ys.length) : Walk (ItzM K a b) n (fun H => SqT K H a xs ∧ SqL K H b ys) (YPair (fun i => xs[i]?) fun i => ys[i]?) where
  goes := fun i H hi g => by
    have x1 : i < xs.length := by omega
    have x2 : i < ys.length := by omega
    exact ⟨xs, ys, xs[i], ys[i], g.1, g.2, List.getElem?_eq_getElem x1, List.getElem?_eq_getElem x2⟩
  stops := fun H g => ⟨xs, ys, g.1, g.2, by omega⟩
  yields := fun i H x H' hi g y => by
    obtain ⟨T, u, v, e1, e2, e3, e4, e5⟩ := y
    exact ⟨T, u, v, e1, e2, e3, e4 xs g.1, e5 ys g.2⟩
end Zm
namespace Pl
open PySem PySem.Spec PyProof.Rows L2 Zm
section
variable {pr : Bool} {X : Kx} {blk : Bool} {F H : Hp} {os : List Addr} {st : List Cn} {p q : Addr} {xs ys : List V} {ds es : List D}
theorem itok_zipM (k : StOk X F os H st) (hp : SqT X.K F p xs) (hq : SqL X.K F q ys) (rd : Drs X F xs ds) (re : Drs X F ys es) : ItOk true X blk F os H (ItzM X.K p q) (zipD ds es) :=
  itok_pair rd re (zm_walk rfl) fun H' h => ⟨Same.sqT (stays_same k h) hp, Same.sqL (stays_same k h) hq⟩
end
section
variable {pr : Bool} {X : Cx} {ec : List (Addr × Str)} {W : WX} {blk : Bool} {e e' : Expr} {m : EM} {pos : Pos}
/-- zip of a tuple beside a list -/
def zipMI (r : AM) : IM := fun env st => (r env st).bindI fun vs st1 => match vs with
  | [.dat (.tuple ds), .dat (.list es)] => .ok (zipD ds es) st1
  | _ => .stk
theorem pi_zpM {r : AM} {p tpos : Pos} {elts : List Expr} {kk : Nat} (hg : Gl X "zip") (hm : X.mg "zip" = none) (ha : PA X [e, e'] (tA (kx X ec) W r)) (h1 : starEach [e, e'] X.env = (false, eval e X.env) :: starEach [e'] X.env := by rfl) (h2 : (backTo pos (starEach [e'] X.env)).any (·.1) = false := by rfl) :
    PI X (.Tuple elts kk tpos) (.Call (.Name "zip" p) [e, e'] [] pos) (tI true (kx X ec) blk W (zipMI r)) :=
  (pi_zm hg hm ha h1 h2).imp fun σ H R h => by
    obtain ⟨B, F, os, env, st, Rl, h⟩ := h
    refine ⟨B, F, os, env, st, Rl, PoI.bindL h ?_⟩
    intro v st1 x F1 os1 H1 ev e1 k1 r1 p1
    split at p1
    · rename_i ds es
      cases r1 with
      | cons a b =>
        cases b with
        | cons b c =>
          cases c
          cases a with
          | dat a =>
            cases b with
            | dat b =>
              cases a with
              | tup a1 _ a2 =>
                cases b with
                | lst b1 b2 => exact ⟨_, _, _, _, rfl, Same.sqT k1.sub a1, SqL.of (k1.sub _ _ b1), p1 _ _ _ _ e1 k1 (itok_zipM k1 a1 (SqL.of b1) a2 b2)⟩
    · exact False.elim p1
end
end Pl

set_option Elab.async false
set_option linter.all false
set_option maxRecDepth 100000
set_option maxHeartbeats 4000000
namespace Pl
open PySem PySem.Spec PyProof.Rows L2
section
variable {X : Cx} {ec : List (Addr × Str)} {W : WX} {e a b : Expr} {m ma mb : EM} {pos : Pos}
/-! ### a, b = x, y where one of both names is a cell: by a tuple -/
theorem paru_ok {K : Kx} {i j : Nat} (hij : i ≠ j) {E : Ends} {σ : L2.St} {H : Hp} (h : tS K W (parM i j ma mb) E σ H) : tAsg (tTup (tCons (tM K W ma) (tCons (tM K W mb) tNil))) (gTup K.K 2 (gCons (gName i) (gCons (gName j) gNil))) E σ H := by
  obtain ⟨B, F, os, env, st, R, h⟩ := h
  refine ⟨B, F, os, env, st, R, PoS.bind R h ?_⟩
  intro v st1 x F1 os1 H1 ev e1 R1 r1 f1 p1
  refine ⟨B, F1, os1, env, st1, R1, PoS.bind R1 p1 ?_⟩
  intro w st2 y F2 os2 H2 ew e2 R2 r2 f2 p2
  split at p2
  · rename_i hb
    refine ⟨by show 2 ≤ sizeLine; decide, fun p hp => ⟨p, [x, y], rfl, SqT.of upd_same, rfl, x, [y], rfl, y, [], rfl, rfl, ?_⟩⟩
    have e3 := Ext.newO (o := .tup [x, y]) R2.ok hp
    have R3 := R2.ext e3 (R2.ok.newO hp)
    refine p2 F2 os2 _ _ ?_
    have q1 : Rel K B F2 os2 (σ.set i (some x)) (upd H2 p (.tup [x, y])) (env.set i (some v)) st2 := R3.setF R ((r1.ext e2).ext e3) hb.1 f1
    refine q1.set (r2.ext e3) hb.2 fun c q ev ex => ?_
    have hq := f2 c q ev ex
    refine ⟨R1.bs.nn hq, fun k c' ne h1 h2 => ?_⟩
    by_cases e : k = i
    · subst e
      have hl : k < env.length := by
        have := (List.getElem?_eq_some_iff.mp h1).1
        simpa using this
      rw [List.getElem?_set_self hl] at h1
      rw [List.getElem?_set_self (by rw [← R.len]; exact hl)] at h2
      cases h1
      cases h2
      cases r1 with
      | fr _ _ z _ => rw [hq] at z; cases z
    · rw [List.getElem?_set_ne (Ne.symm e)] at h1 h2
      exact (R1.frs f2 j c q ev ex).2 k c' ne h1 h2
  · exact False.elim p2
theorem ps_pu {i j : Nat} {x y : Str} {px py pt : Pos} {kt k2 pt2} (hc : X.calm = true) (hij : i ≠ j) (gi : PG X (.Name x px) (gName i)) (gj : PG X (.Name y py) (gName j)) (ha : PE X a (tM (kx X ec) W ma)) (hb : PE X b (tM (kx X ec) W mb))
    (hs : swapsWithSole [.Tuple [.Name x px, .Name y py] kt pt] (.Tuple [a, b] k2 pt2) pos.line X.env = pure false := by rfl) (hw : swappedStores [.Tuple [.Name x px, .Name y py] kt pt] (.Tuple [a, b] k2 pt2) X.env = pure none := by rfl)
    (h1 : (assignEach [.Tuple [.Name x px, .Name y py] kt pt] X.env).map (·.2) = [assign (.Tuple [.Name x px, .Name y py] kt pt) X.env] := by rfl)
    (s1 : starEach [a, b] X.env = (false, eval a X.env) :: starEach [b] X.env := by rfl) (s2 : starEach [b] X.env = (false, eval b X.env) :: starEach [] X.env := by rfl) :
    PS X (.Assign [.Tuple [.Name x px, .Name y py] kt pt] (.Tuple [a, b] k2 pt2) pos) (tS (kx X ec) W (parM i j ma mb)) :=
  (ps_asg (pe_tup (pa_cons ha (pa_cons hb pa_nil s2) s1)) (pg_tup hc (pgs_cons gi (pgs_cons gj pgs_nil))) hs hw h1).imp fun _ _ _ => paru_ok hij
end
end Pl

set_option Elab.async false
set_option linter.all false
set_option maxRecDepth 100000
set_option maxHeartbeats 4000000
namespace Pl
open PySem PySem.Spec PyProof.Rows L2
/-- the texts of data -/
def strs? : List D → Option (List Str)
  | [] => some []
  | .str i :: r => (strs? r).map (i :: ·)
  | _ :: _ => none
theorem strs_ok {K : Kx} {F : Hp} : ∀ {ds : List D} {xs : List V} {ns : List Str}, Drs K F xs ds → strs? ds = some ns → xs = ns.map V.str
  | [], _, _, .nil, h => by cases h; rfl
  | .str i :: r, _, ns, .cons a b, h => by
    cases a
    simp only [strs?] at h
    cases e : strs? r with
    | none => rw [e] at h; cases h
    | some es => rw [e] at h; cases h; rw [strs_ok b e]; rfl
section
variable {X : Cx} {ec : List (Addr × Str)} {W : WX} {e a b : Expr} {m ma mb : EM} {pos : Pos}
/-! ### the way to a part of a text -/
def kidsE : Expr → List Expr
  | .BoolOp _ vs _ => vs
  | .BinOp l _ r _ => [l, r]
  | .UnaryOp _ e _ => [e]
  | .Lambda _ b _ _ => [b]
  | .IfExp t b o _ => [t, b, o]
  | .Dict _ vs _ => vs
  | .ListComp e gs _ _ => e :: gs.flatMap fun g => g.target :: g.iter :: g.ifs
  | .DictComp k v gs _ _ => k :: v :: gs.flatMap fun g => g.target :: g.iter :: g.ifs
  | .Compare l _ rs _ => l :: rs
  | .Call f as _ _ => f :: as
  | .Attribute e _ _ => [e]
  | .Subscript e s _ => [e, s]
  | .Slice a b c _ => [a, b, c].filterMap id
  | .List es _ => es
  | .Tuple es _ _ => es
  | _ => []
def subS : Stmt → List Stmt
  | .For _ _ b o _ => b ++ o
  | .While _ b o _ => b ++ o
  | .If _ b o _ => b ++ o
  | .Try b _ _ _ _ => b
  | _ => []
def exprS : Stmt → List Expr
  | .Return e _ => [e].filterMap id
  | .Assign ts e _ => e :: ts
  | .AugAssign t _ e _ => [e, t]
  | .For t i _ _ _ => [i, t]
  | .While t _ _ _ => [t]
  | .If t _ _ _ => [t]
  | .Raise e _ _ => [e].filterMap id
  | .Expr e _ => [e]
  | _ => []
def goE (e : Expr) (is : List Nat) : Expr := is.foldl (fun e i => (kidsE e).getD i e) e
def goS (ss : List Stmt) (d : Stmt) : List Nat → Stmt
  | [] => d
  | i :: is => goS (subS (ss.getD i d)) (ss.getD i d) is
/-- the scope of the comprehension at the statement's way and the expression's -/
def scAt (d : Stmt) (p q : List Nat) : Scope := match goE ((exprS (goS (defBody d) d p)).getD (q.headD 0) (.Name "" ⟨0, 0, 0, 0⟩)) q.tail with
  | .ListComp _ _ sc _ => sc
  | .DictComp _ _ _ sc _ => sc
  | .Lambda _ _ sc _ => sc
  | _ => defScope d
end
end Pl

set_option Elab.async false
set_option linter.all false
set_option maxRecDepth 100000
set_option maxHeartbeats 4000000
/-! enumerate of a tuple -/
namespace Zm
open PySem PySem.Spec PyProof.Rows L2
theorem en_meets (a : Addr) (us : Array Value) :
    Meets (Builtin.«enumerate.__new__» ⟨[.type "enumerate", .ref a], []⟩) (fun _ R s => s.heap.IsTuple a us ∧ R (.ok (.ret (.ref (hA s.heap a).objs.size))) { s with heap := (hA s.heap a).push { cls := .type "enumerate", data := .fields #[.none, .bool false, .ref s.heap.objs.size, rawInt 0, .none, .none] } }) :=
  .of_wp fun prog w A R s z => by
    obtain ⟨hp, g, d, tk, os⟩ := s
    obtain ⟨za, z⟩ := z
    have se := sub_enumerate
    obtain ⟨⟨cls, dd, dt, sl⟩, ho, hc, n, hd⟩ := id za
    simp only at hc hd
    subst hc
    subst hd
    have La : Heap.IsTuple (Shared.heap ⟨hp, g, d, tk, os⟩) a us := za
    wp_walk using AutoSeq1.wpAny_loadPart' ho
    refine wpAny_stack_any fun st => wpAny_pure ?_
    split
    · rename_i c _ _ _ _ _
      cases (c == Value.type "enumerate")
      · wp_walk using AutoSeq1.wpAny_loadPart' ho, wpAny_pyIter_tuple La
        exact ⟨_, rfl, z⟩
      · wp_walk using AutoSeq1.wpAny_loadPart' ho, wpAny_pyIter_tuple La
        exact ⟨_, rfl, z⟩
    · wp_walk using AutoSeq1.wpAny_loadPart' ho, wpAny_pyIter_tuple La
      exact ⟨_, rfl, z⟩
end Zm
namespace Zm
open PySem PySem.Spec PyProof.Rows L2
section
variable {S : Src} {P : Program} {w : World} {A : Around} {E : Value → Shared → Prop} {s : Shared} {ee jt a : Addr} {n : Nat} {us : Array Value} {u old : Value}
theorem en_next {Q : Value → Shared → Prop} (ge : IsEnum s.heap ee jt n old) (gi : S.it s.heap jt a n) (gs : S.sq s.heap a us) (eu : us[n]? = some u) (ne : ee ≠ jt)
    (q : ∀ g, IsEnumOut g ee jt ((n : Int) + 1) u s.heap.objs.size → S.it g jt a (n + 1) → g.get? s.heap.objs.size = some { cls := .type "tuple", data := .seq #[.int n s.toks, u] } →
      (∀ b o, b ≠ ee → b ≠ jt → s.heap.get? b = some o → g.get? b = some o) → Q (.ref s.heap.objs.size) { s with heap := g, toks := s.toks + 1 }) :
    wpAny (model P w) A (Builtin.«enumerate.__next__» ⟨[.ref ee], []⟩) (fun f t => ∃ r, f = .done (.ret r) ∧ Q r t) E s := by
  obtain ⟨h0, gg, dd, tk, os⟩ := s
  show wpAny _ _ (field (.ref ee) 2 >>= _) _ _ _
  refine wpAny_bind (wpAny_field ge rfl (x := .ref jt) rfl (wpAny_bind (S.nx gi gs eu fun k₁ gi₁ t₁ => ?_)))
  replace t₁ : Heap.SameBut jt h0 k₁ := t₁
  have ge₁ : IsEnum k₁ ee jt n old := (t₁.2 ee ne).trans ge
  show wpAny _ _ (field (.ref ee) 3 >>= _) _ _ ⟨k₁, gg, dd, tk, os⟩
  refine wpAny_bind (wpAny_field ge₁ rfl (x := rawInt n) rfl ?_)
  show wpAny _ _ (field (.ref ee) 4 >>= _) _ _ ⟨k₁, gg, dd, tk, os⟩
  refine wpAny_bind (wpAny_field ge₁ rfl (x := .none) rfl ?_)
  show wpAny _ _ (mkInt n >>= _) _ _ ⟨k₁, gg, dd, tk, os⟩
  refine wpAny_bind (wpAny_mkInt ?_)
  show wpAny _ _ (setField (.ref ee) 3 (rawInt ((n : Int) + 1)) >>= _) _ _ ⟨k₁, gg, dd, tk + 1, os⟩
  refine wpAny_bind (wpAny_setField_rec ge₁ (by simp) fun k₂ ge₂ t₂ => ?_)
  replace t₂ : Heap.SameBut ee k₁ k₂ := t₂
  replace ge₂ : IsEnum k₂ ee jt ((n : Int) + 1) old := ge₂
  show wpAny _ _ (setField (.ref ee) 4 .none >>= _) _ _ ⟨k₂, gg, dd, tk + 1, os⟩
  refine wpAny_bind (wpAny_setField_rec ge₂ (by simp) fun k₃ ge₃ t₃ => ?_)
  replace t₃ : Heap.SameBut ee k₂ k₃ := t₃
  replace ge₃ : IsEnum k₃ ee jt ((n : Int) + 1) old := ge₃
  show wpAny _ _ (newTuple [.int n tk, u] >>= _) _ _ ⟨k₃, gg, dd, tk + 1, os⟩
  refine wpAny_bind (wpAny_newTuple ?_)
  have sz : k₃.objs.size = h0.objs.size := by rw [t₃.1, t₂.1, t₁.1]
  obtain ⟨k₄, e₄⟩ : ∃ k₄, k₃.push { cls := .type "tuple", data := .seq #[.int n tk, u] } = k₄ := ⟨_, rfl⟩
  have up : ∀ b o, b ≠ ee → b ≠ jt → h0.get? b = some o → k₄.get? b = some o := fun b o nb nj e => by
    rw [← e₄]
    exact Heap.get?_push_of_some _ (t₃.extBut b o nb (t₂.extBut b o nb (t₁.extBut b o nj e)))
  have ge₄ : IsEnum k₄ ee jt ((n : Int) + 1) old := by rw [← e₄]; exact Heap.get?_push_of_some _ ge₃
  have pr : k₄.get? h0.objs.size = some { cls := .type "tuple", data := .seq #[.int n tk, u] } := by rw [← e₄, ← sz]; exact Heap.get?_push_size _ rfl
  have gi₄ : S.it k₄ jt a (n + 1) := S.itK gi₁ fun o e => by
    rw [← e₄]
    exact Heap.get?_push_of_some _ (t₃.extBut _ _ ne.symm (t₂.extBut _ _ ne.symm e))
  have le : ee < h0.objs.size := Heap.lt_size ge
  rw [e₄, sz]
  show wpAny _ _ (Builtin.SmallTypes.ownedTupleIsFree (.ref ee) >>= _) _ _ ⟨k₄, gg, dd, tk + 1, os⟩
  refine wpAny_bind (by
    unfold Builtin.SmallTypes.ownedTupleIsFree
    refine wpAny_bind (wpAny_field ge₄ rfl (x := .none) rfl (wpAny_pure ?_))
    simp only [if_true]
    refine wpAny_bind (wpAny_rule (wpAny_bind (wpAny_field ge₄ rfl (x := old) rfl (wpAny_bind (wpAny_setField_rec ge₄ (by simp) fun k₅ ge₅ t₅ => ?_)))))
    replace t₅ : Heap.SameBut ee k₄ k₅ := t₅
    replace ge₅ : IsEnum k₅ ee jt ((n : Int) + 1) u := ge₅
    show wpAny _ _ (Builtin.SmallTypes.ownedTupleHandOut (.ref ee) (.ref h0.objs.size) >>= _) _ _ ⟨k₅, gg, dd, tk + 1, os⟩
    refine wpAny_bind (by
      unfold Builtin.SmallTypes.ownedTupleHandOut
      refine wpAny_bind (wpAny_setField_rec ge₅ (by simp) fun k₆ ge₆ t₆ => ?_)
      replace t₆ : Heap.SameBut ee k₅ k₆ := t₆
      replace ge₆ : IsEnumOut k₆ ee jt ((n : Int) + 1) u h0.objs.size := ge₆
      refine wpAny_setField_rec ge₆ (by simp) fun k₇ ge₇ t₇ => ?_
      replace t₇ : Heap.SameBut ee k₆ k₇ := t₇
      replace ge₇ : IsEnumOut k₇ ee jt ((n : Int) + 1) u h0.objs.size := ge₇
      have on : ∀ b o, b ≠ ee → k₄.get? b = some o → k₇.get? b = some o := fun b o nb e => t₇.extBut b o nb (t₆.extBut b o nb (t₅.extBut b o nb e))
      exact wpAny_bind (wpAny_letGo (wpAny_pure ⟨_, rfl, q k₇ ge₇ (S.itK gi₄ fun o e => on _ o ne.symm e) (on _ _ (Nat.ne_of_gt le) pr) fun b o nb nj e => on b o nb (up b o nb nj e)⟩))))
theorem en_pn {Q : Option Value → Shared → Prop} (ge : IsEnum s.heap ee jt n old) (gi : S.it s.heap jt a n) (gs : S.sq s.heap a us) (eu : us[n]? = some u) (ne : ee ≠ jt)
    (q : ∀ g, IsEnumOut g ee jt ((n : Int) + 1) u s.heap.objs.size → S.it g jt a (n + 1) → g.get? s.heap.objs.size = some { cls := .type "tuple", data := .seq #[.int n s.toks, u] } →
      (∀ b o, b ≠ ee → b ≠ jt → s.heap.get? b = some o → g.get? b = some o) → Q (some (.ref s.heap.objs.size)) { s with heap := g, toks := s.toks + 1 }) : wpAny (model P w) A (pyNext (.ref ee)) Q E s := by
  have ty : s.TypeIs (.ref ee) "enumerate" := ⟨_, ge, rfl⟩
  unfold pyNext
  exact wpAny_bind (wpAny_attempt (wpAny_callSpecial?_slot (name := Str.ofString "__next__") ty F.slot_enumerate_next (wpAny_call_entry F.slot_enumerate_next ty F.entry_enumerate_next
    (en_next ge gi gs eu ne fun g x1 x2 x3 x4 => wpAny_pure (q g x1 x2 x3 x4)) (F.args_enumerate_next_1 _))))
theorem en_pe {Q : Option Value → Shared → Prop} (hh : A.handled = none) (ge : IsEnum s.heap ee jt n old) (gi : S.it s.heap jt a n) (gs : S.sq s.heap a us) (no : us[n]? = none) (q : ∀ g, Heap.ExtBut jt s.heap g → Q none { s with heap := g }) :
    wpAny (model P w) A (pyNext (.ref ee)) Q E s := by
  have ty : s.TypeIs (.ref ee) "enumerate" := ⟨_, ge, rfl⟩
  unfold pyNext
  refine wpAny_bind (wpAny_attempt (wpAny_callSpecial?_slot (name := Str.ofString "__next__") ty F.slot_enumerate_next (wpAny_call_entry F.slot_enumerate_next ty F.entry_enumerate_next ?_ (F.args_enumerate_next_1 _))))
  show wpAny _ _ (field (.ref ee) 2 >>= _) _ _ _
  refine wpAny_bind (wpAny_field ge rfl (x := .ref jt) rfl (wpAny_bind (S.fi hh gi gs no fun g e k he => ?_)))
  obtain ⟨o, h1, h2⟩ := he
  exact wpAny_bind (wpAny_isInstance (T := "StopIteration") (b := true) ⟨o, h1, h2⟩ isSubtype_stop (wpAny_pure (q g k)))
end
end Zm

set_option Elab.async false
set_option linter.all false
set_option maxRecDepth 100000
set_option maxHeartbeats 4000000
namespace Zm
open PySem PySem.Spec PyProof.Rows L2
section
variable {P : Program} {w : World} {A : Around} {E : Value → Shared → Prop} {s : Shared}
theorem en_call {a : Addr} {us : Array Value} {Q : Value → Shared → Prop} (ha : s.heap.IsTuple a us)
    (q : ∀ g, IsEnum g (s.heap.objs.size + 1) s.heap.objs.size 0 .none → g.IsTupleIter s.heap.objs.size a 0 → (∀ c o, s.heap.get? c = some o → g.get? c = some o) → Q (.ref (s.heap.objs.size + 1)) { s with heap := g }) :
    wpAny (model P w) A (call (.type "enumerate") [.ref a]) Q E s := by
  refine callType_new F.called_enumerate (by decide) (F.typeCall_enumerate_1 _) (F.newCall_enumerate_1 _) (fun obj => F.args_object_init_2 obj _) F.entry_enumerate_new (en_meets a us) ⟨ha, ?_⟩
  have z1 : (hA s.heap a).objs.size = s.heap.objs.size + 1 := Heap.size_push ..
  have p2 : ((hA s.heap a).push { cls := .type "enumerate", data := .fields #[.none, .bool false, .ref s.heap.objs.size, rawInt 0, .none, .none] }).get? (hA s.heap a).objs.size = some _ := Heap.get?_push_size _ rfl
  have p1 : ((hA s.heap a).push { cls := .type "enumerate", data := .fields #[.none, .bool false, .ref s.heap.objs.size, rawInt 0, .none, .none] }).get? s.heap.objs.size = some _ := Heap.get?_push_of_some _ (Heap.get?_push_size _ rfl)
  show _ ∧ _
  rw [z1] at p2 ⊢
  exact ⟨⟨_, p2, rfl⟩, q _ p2 ⟨_, p1, rfl, rfl⟩ fun c o x => Heap.get?_push_of_some _ (Heap.get?_push_of_some _ x)⟩
end
/-- the tuple at a as it stands at each turn, beside its places -/
def IteT (K : PySem.W.Frag) (a : Addr) : It :=
  ⟨fun i H => ∃ (xs : List V) (x : V), SqT K H a xs ∧ xs[i]? = some x, fun i H v H' => ∃ T x, v = .ref T ∧ H T = none ∧ H' = upd H T (.tup [.int (i : Nat), x]) ∧ ∀ xs, SqT K H a xs → xs[i]? = some x, fun i H => ∃ xs : List V, SqT K H a xs ∧ xs.length ≤ i⟩
theorem two {e j c : Addr} (h : c ∈ [e, j]) : c = e ∨ c = j := by simpa using h
theorem out2 {e j c : Addr} (h : c ∉ [e, j]) : c ≠ e ∧ c ≠ j := by simpa using h
theorem en_turn {P : Program} {w : World} {K : PySem.W.Frag} {elts : List Expr} {kk : Nat} {tpos : Pos} (a e j : Addr) :
    Turn P w K (.Tuple elts kk tpos) (IteT K a) [e, j] e (fun i h => (∃ old, IsEnum h e j ((i : Nat) : Int) old) ∧ srcT.it h j a i ∧ e ≠ j) where
  mem := by simp
  obj := fun i h st c hc => by
    obtain ⟨⟨old, ge⟩, gi, _⟩ := st
    rcases two hc with z | z <;> subst z
    · exact ⟨_, ge, fun v q => nomatch q⟩
    · exact srcT.ob gi
  keep := fun i h g st k => by
    obtain ⟨⟨old, ge⟩, gi, ne⟩ := st
    exact ⟨⟨old, k e (by simp) _ ge⟩, srcT.itK gi fun o q => k j (by simp) o q, ne⟩
  item := by
    intro X hP hw hK hc i pins s σ H E I hf st go
    subst hP hw hK
    obtain ⟨⟨old, ge⟩, gi, ne⟩ := st
    obtain ⟨xs, x, sx, ex⟩ := go
    obtain ⟨i1, r1, p1, _⟩ := I.tuple sx
    obtain ⟨u, eu, ru⟩ := r1.get ex
    have le : e < s.heap.objs.size := Heap.lt_size ge
    have lj : j < s.heap.objs.size := by obtain ⟨_, q, _⟩ := srcT.ob gi; exact Heap.lt_size q
    have q1 : srcT.sq s.heap a i1.toArray := p1
    refine en_pn ge gi q1 (u := u) (by simpa using eu) ne fun g go gi' hT kp => ?_
    refine ⟨_, rfl, wpAny_letOwnedTupleGo_enum (s := { s with heap := g, toks := s.toks + 1 }) go fun g' ge' sb => ?_⟩
    have hT2 : g'.get? s.heap.objs.size = some { cls := .type "tuple", data := .seq #[.int i s.toks, u] } := (sb.2 _ (Nat.ne_of_gt le)).trans hT
    have ok : ObjOk X.prog X.w (upd H s.heap.objs.size (.tup [.int (i : Nat), x])) g' s.heap.objs.size (.tup [.int (i : Nat), x]) := ⟨by show 2 ≤ sizeLine; decide, [.int i s.toks, u], .cons ⟨_, rfl⟩ (.cons ru .nil), ⟨_, hT2, rfl, _, rfl⟩⟩
    have J : Inv X pins σ (upd H s.heap.objs.size (.tup [.int (i : Nat), x])) { s with heap := g', toks := s.toks + 1 } := I.turnedNew (ch := [e, j]) (fun b o hb q => by
      obtain ⟨n0, n1⟩ := out2 hb
      exact (sb.2 b n0).trans (kp b o n0 n1 q)) hf (Nat.le_refl _) ok
    refine ⟨.ref s.heap.objs.size, _, J, rfl, ⟨_, x, rfl, I.hok.fresh (Nat.le_refl _), rfl, fun ys hy => by rw [I.tuple_inj hy sx]; exact ex⟩, ⟨⟨u, ?_⟩, srcT.itK gi' fun o q => (sb.2 j ne.symm).trans q, ne⟩, fun c hcm => ?_⟩
    · have e1 : ((i + 1 : Nat) : Int) = (i : Int) + 1 := by omega
      rw [e1]
      exact ge'
    · have lt : c < s.heap.objs.size := by
        rcases two hcm with z | z <;> subst z
        · exact le
        · exact lj
      rw [upd_ne (Nat.ne_of_lt lt)]
      exact (hf c hcm).1
  done := by
    intro X hP hw hK hc i pins s σ H E I hf st go
    subst hP hw hK
    obtain ⟨⟨old, ge⟩, gi, ne⟩ := st
    obtain ⟨xs, sx, no⟩ := go
    obtain ⟨i1, r1, p1, _⟩ := I.tuple sx
    have l1 := r1.length
    have q1 : srcT.sq s.heap a i1.toArray := p1
    obtain ⟨f0, f1, f2, f3, f4, f5⟩ := hf j (by simp)
    exact en_pe (I.ok.hd hc) ge gi q1 (by simp; omega) fun g eb => ⟨rfl, I.turned (t' := s.toks) (fun b o hb q => eb b o hb q) f0 f1 f3 f4 f5⟩
  self := fun A i s Q E st h => by
    obtain ⟨⟨_, ge⟩, _⟩ := st
    exact wpAny_pyIter_enum ge h
/-- enumerate of a list, of a tuple -/
def iEnA (K : PySem.W.Frag) (ta : TA) : TI := fun σ H R => ta σ H fun vs H1 => ∃ a xs, vs = [.ref a] ∧ ((SqL K H1 a xs ∧ R (Ite K a) H1) ∨ (SqT K H1 a xs ∧ R (IteT K a) H1))
theorem pi_enA {X : Cx} {e : Expr} {ta : TA} {p pos tpos : Pos} {elts : List Expr} {kk : Nat} (hg : Gl X "enumerate") (hm : X.mg "enumerate" = none) (ha : PA X [e] ta) (hs : starEach [e] X.env = [(false, eval e X.env)] := by rfl) :
    PI X (.Tuple elts kk tpos) (.Call (.Name "enumerate" p) [e] [] pos) (iEnA X.K ta) := by
  refine ⟨fun pins s σ H R I h => Call_ (ld_blt I hg hm boot_enumerate (PyProof.Rows.callWith_type1 (thn (ha.run pos pins s σ H _ I h) fun us s1 ⟨vs, H1, I1, r1, q1⟩ => ?_) hs rfl))⟩
  obtain ⟨a, xs, ex, q⟩ := q1
  subst ex
  cases r1 with
  | cons r rr =>
    cases rr
    cases r
    have big : ∀ c, c ∈ [s1.heap.objs.size + 1, s1.heap.objs.size] → s1.heap.objs.size ≤ c := fun c hcm => by
      rcases two hcm with z | z <;> subst z
      · exact Nat.le_add_right _ _
      · exact Nat.le_refl _
    rcases q with ⟨sx, q⟩ | ⟨sx, q⟩
    · obtain ⟨i1, rv, p1, _⟩ := I1.list sx
      refine call_enumerate_list p1.isList fun g ge gi _ kp => wpAny_pyIter_enum ge ?_
      exact ⟨s1.heap.objs.size + 1, [s1.heap.objs.size + 1, s1.heap.objs.size], _, _, H1, rfl, I1.kept (t' := s1.toks) kp, turn_enum a (s1.heap.objs.size + 1) s1.heap.objs.size, ⟨⟨.none, ge⟩, gi, Nat.succ_ne_self _⟩, fun c hcm => I1.fpOk (big c hcm) (I1.hok.fresh (big c hcm)), q⟩
    · obtain ⟨i1, rv, p1, _⟩ := I1.tuple sx
      refine en_call (show s1.heap.IsTuple a i1.toArray from p1) fun g ge gi kp => wpAny_pyIter_enum ge ?_
      exact ⟨s1.heap.objs.size + 1, [s1.heap.objs.size + 1, s1.heap.objs.size], _, _, H1, rfl, I1.kept (t' := s1.toks) kp, en_turn a (s1.heap.objs.size + 1) s1.heap.objs.size, ⟨⟨.none, ge⟩, gi, Nat.succ_ne_self _⟩, fun c hcm => I1.fpOk (big c hcm) (I1.hok.fresh (big c hcm)), q⟩
theorem en_walk {K : PySem.W.Frag} {a : Addr} {xs : List V} : Walk (IteT K a) xs.length (fun H => SqT K H a xs) (YPair (fun i => some (.int (i : Nat))) fun i => xs[i]?) where
  goes := fun i H hi g => ⟨xs, xs[i], g, List.getElem?_eq_getElem hi⟩
  stops := fun H g => ⟨xs, g, Nat.le_refl _⟩
  yields := fun i H x H' hi g y => by
    obtain ⟨T, u, e1, e2, e3, e4⟩ := y
    exact ⟨T, _, u, e1, e2, e3, rfl, e4 xs g⟩
end Zm
namespace Pl
open PySem PySem.Spec PyProof.Rows L2 Zm
section
variable {pr : Bool} {X : Kx} {blk : Bool} {F H : Hp} {os : List Addr} {st : List Cn} {p : Addr} {xs : List V} {ds : List D}
theorem itok_enumT (k : StOk X F os H st) (hp : SqT X.K F p xs) (r : Drs X F xs ds) : ItOk true X blk F os H (IteT X.K p) (enumD 0 ds) := by
  have w := @en_walk X.K p xs
  rw [r.len, ← enumD_len ds 0] at w
  refine ⟨_, _, w, fun H' h => Same.sqT (stays_same k h) hp, ?_⟩
  intro i H1 x H2 hi hs y
  obtain ⟨T, a, b, e1, e2, e3, e4, e5⟩ := y
  cases e4
  obtain ⟨d, hd, rd⟩ := r.get e5
  refine ⟨_, enumD_get ds 0 i d hd, .inr ⟨T, _, b, _, d, e1, e2, e3, rfl, ?_, rd, .inl rfl⟩⟩
  rw [Nat.zero_add]
  exact .int _
end
section
variable {pr : Bool} {X : Cx} {ec : List (Addr × Str)} {W : WX} {blk : Bool} {e : Expr} {m : EM} {pos : Pos}
def enaI (r : AM) : IM := fun env st => (r env st).bindI fun vs st1 => match vs with
  | [.dat (.list ds)] => .ok (enumD 0 ds) st1
  | [.dat (.tuple ds)] => .ok (enumD 0 ds) st1
  | [.scr ds] => .ok (enumD 0 ds) st1
  | _ => .stk
theorem pi_ena {r : AM} {p tpos : Pos} {elts : List Expr} {kk : Nat} (hg : Gl X "enumerate") (hm : X.mg "enumerate" = none) (ha : PA X [e] (tA (kx X ec) W r)) (hs : starEach [e] X.env = [(false, eval e X.env)] := by rfl) :
    PI X (.Tuple elts kk tpos) (.Call (.Name "enumerate" p) [e] [] pos) (tI true (kx X ec) blk W (enaI r)) :=
  (pi_enA hg hm ha hs).imp fun σ H R h => by
    obtain ⟨B, F, os, env, st, Rl, h⟩ := h
    refine ⟨B, F, os, env, st, Rl, PoI.bindL h ?_⟩
    intro v st1 x F1 os1 H1 ev e1 k1 r1 p1
    split at p1
    · rename_i ds
      cases r1 with
      | cons a b =>
        cases b
        cases a with
        | dat a =>
          cases a with
          | lst h1 h2 => exact ⟨_, _, rfl, .inl ⟨SqL.of (k1.sub _ _ h1), p1 _ _ _ _ e1 k1 (itok_enum k1 (SqL.of h1) h2)⟩⟩
    · rename_i ds
      cases r1 with
      | cons a b =>
        cases b
        cases a with
        | dat a =>
          cases a with
          | tup h1 _ h2 => exact ⟨_, _, rfl, .inr ⟨Same.sqT k1.sub h1, p1 _ _ _ _ e1 k1 (itok_enumT k1 h1 h2)⟩⟩
    · rename_i ds
      cases r1 with
      | cons a b =>
        cases b
        cases a with
        | scr h1 h2 => exact ⟨_, _, rfl, .inl ⟨Same.sqL k1.sub h1, p1 _ _ _ _ e1 k1 (itok_enum k1 h1 h2)⟩⟩
    · exact False.elim p1
end
end Pl

set_option Elab.async false
set_option linter.all false
set_option maxRecDepth 100000
namespace Pl
open PySem PySem.Spec PyProof.Rows L2 RT
section
variable {X : Kx} {blk : Bool} {F H : Hp} {os : List Addr} {st : List Cn} {p : Addr} {xs : List V} {ds : List D}
variable {X : Cx} {ec : List (Addr × Str)} {W : WX} {blk : Bool} {tg e a b c : Expr} {m ma mb mc : EM} {pos : Pos}
/-! ### tuple(range(..)) -/
theorem intsD_ns (lo : Int) (n : Nat) : strsB (intsD lo n) = false := by
  cases n with
  | zero => rfl
  | succ n =>
    unfold intsD
    rw [List.range_succ_eq_map]
    rfl
def trgV (v : Val) : Option Val := match v with
  | .dat (.int j) => if rgOk 0 j = true then some (.dat (.tuple (intsD 0 j.toNat))) else none
  | _ => none
def trg1M (m : EM) : EM := fun env st => (m env st).bind fun v st1 => Ou.of st1 (trgV v)
theorem pe_trg1 {p p2 q : Pos} (hc : X.calm = true) (hl : Gl X "tuple") (hlm : X.mg "tuple" = none) (hg : Gl X "range") (hm : X.mg "range" = none) (he : PE X e (tM (kx X ec) W m)) (na : starEach [e] X.env = (false, eval e X.env) :: starEach [] X.env := by rfl)
    (nb : starEach [.Call (.Name "range" p2) [e] [] q] X.env = (false, eval (.Call (.Name "range" p2) [e] [] q) X.env) :: starEach [] X.env := by rfl) :
    PE X (.Call (.Name "tuple" p) [.Call (.Name "range" p2) [e] [] q] [] pos) (tM (kx X ec) W (trg1M m)) := (pe_tupRg hc hl hlm (prg_1 hg hm he na) nb).imp fun σ H Q h => by
  obtain ⟨B, F, os, env, st, R, h⟩ := h
  refine ⟨B, F, os, env, st, R, Po.bind h ?_⟩
  intro v st1 x F1 os1 H1 ev e1 k1 r1 f1 p1
  obtain ⟨z, hz, q⟩ := p1.of
  unfold trgV at hz
  split at hz
  · rename_i j
    have := r1.int
    subst this
    split at hz
    · rename_i hr
      cases hz
      refine ⟨j, rfl, rgOk_ok hr, fun p hp => q _ _ _ _ (e1.trans (Ext.newF k1 hp)) (k1.newF hp) ?_ Frs.dat⟩
      have := drs_rg (K := kx X ec) (F := F1) 0 j
      rw [Int.sub_zero] at this
      exact VR.newTup k1 hp this (intsD_ns _ _)
    · cases hz
  · cases hz
end
end Pl

set_option Elab.async false
set_option linter.all false
set_option maxRecDepth 100000
set_option maxHeartbeats 4000000
namespace Pl
open PySem PySem.Spec PyProof.Rows L2
/-! ### t.index(x): texts in a tuple without a dict -/
theorem tup_is {X : Cx} {ec : List (Addr × Str)} {pins : List (Addr × Obj)} {σ : L2.St} {F H : Hp} {s : Shared} {a : Addr} (I : Inv X pins σ H s) (k : Same F H) (h : NoD X.K F a) :
    s.TypeIs (.ref a) "tuple" ∧ ∀ b, Value.ref a = .ref b → ∃ ob, s.heap.get? b = some ob ∧ ob.dict = none := by
  rcases h with ⟨o, xs, e, hc, hd⟩ | ⟨o, e, hc, hd⟩
  · have g : s.heap.get? a = some o := (show ObjOk X.prog X.w H s.heap a (.frz o (.tup xs)) from I.hok a _ (k _ _ e)).1
    exact ⟨⟨o, g, hc⟩, fun b z => by cases z; exact ⟨o, g, hd⟩⟩
  · have g := I.kIn a o e
    exact ⟨⟨o, g, hc⟩, fun b z => by cases z; exact ⟨o, g, hd⟩⟩
section
variable {X : Cx} {ec : List (Addr × Str)} {W : WX} {o e : Expr} {mo me : EM} {pos apos cpos : Pos}
def strs1 : List D → Option (List Str)
  | [] => some []
  | .str x :: r => (strs1 r).map (x :: ·)
  | _ :: _ => none
theorem strs1_ok {K : Kx} {F : Hp} : ∀ {ds : List D} {xs : List V} {ys : List Str}, Drs K F xs ds → strs1 ds = some ys → xs = ys.map V.str ∧ (ds ≠ [] → strsB ds = true) := by
  intro ds
  induction ds with
  | nil => intro xs ys r h; cases r; cases h; exact ⟨rfl, fun z => absurd rfl z⟩
  | cons d ds ih =>
    intro xs ys r h
    cases r with
    | cons a b =>
      cases d <;> simp only [strs1] at h <;> try cases h
      rename_i x
      cases a
      cases hs : strs1 ds with
      | none => rw [hs] at h; cases h
      | some zs =>
        rw [hs] at h
        cases h
        obtain ⟨h1, h2⟩ := ih b hs
        refine ⟨by rw [h1]; rfl, fun _ => ?_⟩
        cases ds with
        | nil => rfl
        | cons d2 ds2 =>
          have := h2 (fun z => nomatch z)
          simp only [strsB, Bool.and_eq_true] at this ⊢
          exact ⟨rfl, by simp [this.1]; simpa using this.2⟩
/-- the first place of x among texts -/
def placeS (x : Str) : List Str → Nat → Option Nat
  | [], _ => none
  | y :: r, n => if y = x then some n else placeS x r (n + 1)
theorem placeS_ok {x : Str} : ∀ {ys : List Str} {n j : Nat}, placeS x ys n = some j → n ≤ j ∧ ys[j - n]? = some x ∧ ∀ m, m < j - n → ys[m]? ≠ some x := by
  intro ys
  induction ys with
  | nil => intro n j h; cases h
  | cons y r ih =>
    intro n j h
    rw [placeS] at h
    split at h
    · rename_i hy
      cases h
      refine ⟨Nat.le_refl _, by simp [hy], fun m hm => by omega⟩
    · rename_i hy
      obtain ⟨h1, h2, h3⟩ := ih h
      have e : j - n = (j - (n + 1)) + 1 := by omega
      refine ⟨by omega, by rw [e]; simpa using h2, fun m hm => ?_⟩
      cases m with
      | zero => simpa using hy
      | succ m => simpa using h3 m (by omega)
def tixV (ys : List Str) : List Val → Option Val
  | [.dat (.str x)] => (placeS x ys 0).map fun j => .dat (.int (j : Nat))
  | _ => none
def tixM (mo : EM) (r : AM) : EM := fun env st => (mo env st).bind fun v st1 => match asTup v with
  | some ds => if strsB ds = true then (match strs1 ds with
    | some ys => (r env st1).bind fun vs st2 => Ou.of st2 (tixV ys vs)
    | none => .stk) else .stk
  | none => .stk
theorem VR.tupN {K : Kx} {F H : Hp} {os : List Addr} {x : V} {v : Val} (r : VR K F os H x v) {ds : List D} (e : asTup v = some ds) : v = .dat (.tuple ds) ∧ ∃ p xs, x = .ref p ∧ SqT K.K F p xs ∧ (strsB ds = true → NoD K.K F p) ∧ Drs K F xs ds := by
  cases r with
  | dat r =>
    cases r <;> simp only [asTup] at e <;> try cases e
    rename_i a n b
    exact ⟨rfl, _, _, rfl, a, n, b⟩
  | fr a b c d => cases e
  | bor a b c d => cases e
  | obj a => cases e
  | scr a b => cases e
/-- a tuple that is known to have no own dict -/
def tyNd (K : PySem.W.Frag) (x : V) (H : Hp) : Prop := ∃ F p, x = .ref p ∧ Same F H ∧ NoD K F p
theorem ty_nd : TyOk X "tuple" (tyNd X.K) := by
  intro pins σ H s x v I r ty
  obtain ⟨F, p, rfl, k, nd⟩ := ty
  cases r
  exact tup_is (ec := []) I k nd
theorem pe_tix {r : AM} (ho : PE X o (tM (kx X ec) W mo)) (ha : PA X [e] (tA (kx X ec) W r))
    (hbase : attributeBase o ("index" : Str) X.env (eval o X.env) = eval o X.env := by rfl)
    (hfew : ((backTo cpos (starEach [e] X.env)).all (fun x => !x.1) && (backToKw cpos (keywordEach [] X.env)).all (fun x => x.1.isSome)
      && decide ([e].length + ([] : List Keyword).length + (if ([] : List Keyword).isEmpty then 0 else 1) < 30)) = true := by rfl)
    (hline : (apos.endLine == cpos.line) = true := by rfl) (hs : starEach [e] X.env = (false, eval e X.env) :: starEach [] X.env := by rfl) (hp : (backTo cpos (starEach [] X.env)).any (·.1) = false := by rfl) :
    PE X (.Call (.Attribute o ("index" : Str) apos) [e] [] cpos) (tM (kx X ec) W (tixM mo r)) :=
  (pe_mG ty_nd PySem.F.plainAttrs_tuple PySem.F.slot_tuple_index rfl mt_tup_index ho ha hbase hfew hline hs hp).imp fun σ H Q h => by
    obtain ⟨B, F, os, env, st, R, h⟩ := h
    refine ⟨B, F, os, env, st, R, h.bind ?_⟩
    intro v st1 x F1 os1 H1 ev e1 k1 r1 f1 p1
    cases ht : asTup v with
    | none => rw [ht] at p1; exact p1.elim
    | some ds =>
      rw [ht] at p1
      dsimp only at p1
      split at p1
      · rename_i hb
        cases hy : strs1 ds with
        | none => rw [hy] at p1; exact p1.elim
        | some ys =>
          rw [hy] at p1
          dsimp only at p1
          obtain ⟨e2, p, xs, rfl, h1F, nd', d1⟩ := r1.tupN ht
          subst e2
          have nd := nd' hb
          have hx := (strs1_ok d1 hy).1
          subst hx
          refine ⟨⟨F1, p, rfl, k1.sub, nd⟩, B, F1, os1, env, st1, R.ext e1 k1, PoL.bind (p1.shift e1) ?_⟩
          intro vs st2 us F2 os2 H2 ev2 e2 k2 r2 n2 p2
          obtain ⟨z, hz, q⟩ := p2.of
          unfold tixV at hz
          split at hz
          · rename_i x
            cases hp : placeS x ys 0 with
            | none => rw [hp] at hz; cases hz
            | some j =>
              rw [hp] at hz
              cases hz
              cases r2 with
              | cons a b =>
                cases b
                have := a.str
                subst this
                obtain ⟨_, hj, hno⟩ := placeS_ok hp
                exact ⟨p, ys, x, j, rfl, rfl, Same.sqT (e2.fz.trans k2.sub) h1F, hj, hno, q _ _ _ _ e2 k2 (.dat (.int _)) Frs.dat⟩
          · cases hz
      · exact p1.elim
end
end Pl

set_option Elab.async false
set_option linter.all false
set_option maxRecDepth 100000
set_option maxHeartbeats 4000000
namespace Pl
open PySem PySem.Spec PyProof.Rows L2
/-! ### abs -/
def gAbs : List Val → Option Val
  | [.dat (.int i)] => some (.dat (.int (if i < 0 then -i else i)))
  | _ => none
theorem snd_abs {K : Kx} : SndN K (fun xs H Q => ∃ i, xs = [.int i] ∧ Q (.int (if i < 0 then -i else i)) H) gAbs := by
  intro F os H st xs vs z Q k r e q
  unfold gAbs at e
  split at e
  · rename_i i
    cases e
    cases r with
    | cons a b =>
      cases b
      have := a.int
      subst this
      exact ⟨i, rfl, q _ F H (Ext.refl _ _ _) k (.dat (.int _)) Frs.dat⟩
  · cases e
end Pl

set_option Elab.async false
set_option linter.all false
set_option maxRecDepth 100000
set_option maxHeartbeats 4000000
namespace Zr
open PySem PySem.Spec PyProof.Rows L2 HT
/-! t[::-1], t a tuple -/
theorem adj_rev (n : Nat) : Builtin.Slice.sliceAdjust none none (-1) (n : Int) = ((n : Int) - 1, -1) := rfl
theorem pl_rev (n : Nat) : Builtin.Slice.slicePlaces ((n : Int) - 1) (-1) (-1) = n := by
  unfold Builtin.Slice.slicePlaces
  have h1 : ¬ ((-1 : Int) > 0) := by decide
  rw [if_neg h1, show (-(-1) : Int) = 1 by decide, Int.ediv_one]
  split <;> omega
theorem pick_rev (xs : Array Value) : ((List.range xs.size).filterMap fun (m : Nat) => xs[(((xs.size : Int) - 1) + (m : Int) * (-1)).toNat]?).toArray = xs.toList.reverse.toArray := by
  have e : (fun (m : Nat) => xs[(((xs.size : Int) - 1) + (m : Int) * (-1)).toNat]?) = fun m => xs[xs.size - 1 - m]? := by
    funext m
    have : (((xs.size : Int) - 1) + (m : Int) * (-1)).toNat = xs.size - 1 - m := by omega
    rw [this]
  rw [e]
  have h : (List.range xs.size).filterMap (fun m => xs[xs.size - 1 - m]?) = ((List.range xs.size).map fun k => xs.size - 1 - k).filterMap (xs[·]?) := by
    rw [List.filterMap_map]
    rfl
  rw [h, PySem.W.krv_range, List.filterMap_reverse, PySem.W.krv_all]
section
variable {prog : Program} {w : World} {A : Around} {E : Value → Shared → Prop} {s : Shared}
theorem applied_rev {sl : Addr} {vl vu vs : Value} {n : Nat} {Q : Int × Int × Nat → Shared → Prop} (hs : s.heap.IsSliceOf sl vl vu vs) (pl : IsPart vl none) (pu : IsPart vu none) (ps : IsPart vs (some (-1)))
    (h : Q (((n : Int) - 1), -1, n) s) : wpAny (model prog w) A (Builtin.Slice.sliceApplied (.ref sl) (pure (n : Int))) Q E s := by
  obtain ⟨ob, g1, g2, g3⟩ := id hs
  unfold Builtin.Slice.sliceApplied Builtin.Slice.sliceFields
  refine wpAny_bind (wpAny_bind (wpAny_field g1 g3 (x := vl) rfl (wpAny_bind (wpAny_field g1 g3 (x := vu) rfl (wpAny_bind (wpAny_field g1 g3 (x := vs) rfl (wpAny_pure ?_)))))))
  refine wpAny_bind (slicePart_ ps ?_)
  show wpAny _ _ (if ((-1 : Int) == 0) = true then _ else _) _ _ s
  rw [if_neg (by decide)]
  refine wpAny_bind (slicePart_ pl (wpAny_bind (slicePart_ pu (wpAny_bind (wpAny_pure ?_)))))
  show wpAny _ _ (match Builtin.Slice.sliceAdjust none none (-1) (n : Int) with | (lo, hi) => pure (lo, (-1 : Int), Builtin.Slice.slicePlaces lo hi (-1))) _ _ s
  rw [adj_rev n]
  show wpAny _ _ (pure ((n : Int) - 1, (-1 : Int), Builtin.Slice.slicePlaces ((n : Int) - 1) (-1) (-1))) _ _ s
  rw [pl_rev]
  exact wpAny_pure h
theorem get_rev {t sl : Addr} {items : Array Value} {vl vu vs : Value} {Q : Value → Shared → Prop} (ht : IsTup s.heap t items) (hs : s.heap.IsSliceOf sl vl vu vs) (pl : IsPart vl none) (pu : IsPart vu none) (ps : IsPart vs (some (-1)))
    (h : Q (.ref s.heap.objs.size) { s with heap := s.heap.push { cls := .type "tuple", data := .seq items.toList.reverse.toArray } })
    (hsz : items.size ≤ sizeLine) : wpAny (model prog w) A (getItem (.ref t) (.ref sl)) Q E s := by
  have hz : sizeOk (.seq items.toList.reverse.toArray) := by
    show items.toList.reverse.toArray.size ≤ sizeLine
    rw [List.size_toArray, List.length_reverse, Array.length_toList]
    exact hsz
  obtain ⟨ob, g1, g2, g3⟩ := id hs
  have hT : s.TypeIs (.ref sl) "slice" := ⟨ob, g1, g2⟩
  unfold getItem
  try with_reducible refine wpAny_holding ?_
  first | refine wpAny_bind (wpAny_pure ?_) | skip
  refine wpAny_bind (wpAny_sequenceKey ht.typeIs (by decide) ?_)
  refine wpAny_bind (wpAny_callSpecial?_slot (name := Str.ofString "__getitem__") ht.typeIs PyProof.Rows.slot_tuple_getitem (wpAny_call_entry PyProof.Rows.slot_tuple_getitem ht.typeIs entry_tuple_getitem ?_ (args_tuple_getitem _ _)))
  show wpAny _ _ (Builtin.Tuple.tupleItemsOf (.ref t) >>= _) _ _ s
  refine wpAny_bind (tupleItemsOf_ ht ?_)
  refine wpAny_bind (wpAny_typeOf hT ?_)
  rw [if_pos (by decide)]
  refine wpAny_bind (applied_rev hs pl pu ps ?_)
  have hno : ¬ ((((items.size : Int) - 1 == 0) && ((-1 : Int) == 1) && (items.size == items.size)) = true) := by
    intro q
    rw [Bool.and_eq_true, Bool.and_eq_true] at q
    exact absurd q.1.2 (by decide)
  show wpAny _ _ (if (((items.size : Int) - 1 == 0) && ((-1 : Int) == 1) && (items.size == items.size)) = true then _ else _) _ _ s
  rw [if_neg hno, pick_rev]
  first
    | exact wpAny_bind (m := Builtin.Tuple.tupleExact _) (wpAny_newObj_type (wpAny_pure ⟨_, rfl, wpAny_pure h⟩) hz)
    | exact wpAny_bind (m := Builtin.Tuple.tupleExact _) (wpAny_newObj_type (wpAny_bind (wpAny_pure (wpAny_pure ⟨_, rfl, wpAny_pure h⟩))) hz)
    | exact wpAny_bind (wpAny_bind (m := Builtin.Tuple.tupleExact _) (wpAny_newObj_type (wpAny_pure (wpAny_pure ⟨_, rfl, wpAny_pure h⟩)) hz))
    | exact wpAny_bind (wpAny_bind (m := Builtin.Tuple.tupleExact _) (wpAny_newObj_type (wpAny_pure ⟨_, rfl, wpAny_pure h⟩) hz))
end
end Zr
namespace Pl
open PySem PySem.Spec PyProof.Rows L2
def tRevT (K : PySem.W.Frag) (te : TE) : TE := fun σ H Q => te σ H fun x H1 => ∃ a xs, x = .ref a ∧ SqT K H1 a xs ∧ ∀ p ob, H1 p = none → NdO ob → Q (.ref p) (upd H1 p (.frz ob (.tup xs.reverse)))
theorem pe_revT {X : Cx} {e : Expr} {te : TE} {k : Nat} {p1 p2 p3 pos : Pos} (he : PE X e te) : PE X (.Subscript e (.Slice none none (some (.UnaryOp .USub (.Constant (.int 1) k p1) p2)) p3) pos) (tRevT X.K te) := by
  constructor
  intro pins s σ H Q I h
  apply Subscript_
  refine thn (he.run pins s σ H _ I h) ?_
  rintro v s1 ⟨x, H1, I1, r1, a, xs, rfl, hx, q⟩
  cases r1
  have st : PO X (some (.UnaryOp .USub (.Constant (.int 1) k p1) p2)) (tPart (tUn (rU fun i => .int (-i)) (tC (.int 1)))) := po_some (pe_un un_neg pe_int)
  apply wpAny_Slice
  refine thn (po_none.run pins s1 σ H1 (fun o G => o = none ∧ G = H1) I1 ⟨rfl, rfl⟩) ?_
  rintro vl s2 ⟨l, H2, I2, pl, rfl, rfl⟩
  refine thn (po_none.run pins s2 σ _ (fun o G => o = none ∧ G = H2) I2 ⟨rfl, rfl⟩) ?_
  rintro vu s3 ⟨u, H3, I3, pu, rfl, rfl⟩
  refine thn (st.run pins s3 σ _ (fun o G => o = some (-1) ∧ G = H3) I3 ⟨1, rfl, -1, rfl, rfl, rfl⟩) ?_
  rintro vs s4 ⟨o, H4, I4, ps, rfl, rfl⟩
  have I5 : Inv X pins σ H4 { s4 with heap := s4.heap.push { cls := .type "slice", data := .fields #[vl, vu, vs] } } := I4.kept (t' := s4.toks) fun c ob z => Heap.get?_push_of_some _ z
  obtain ⟨its, r, ht, hz⟩ := I5.tuple hx
  have hn := r.length
  refine tail_any (ops := [.ref a, .ref s4.heap.objs.size]) ht.typeIs PyProof.Rows.slot_tuple_getitem.lookup ?_ (by with_unfolding_all rfl)
  refine Zr.get_rev ht (Heap.IsSliceOf.new _ vl vu vs) pl pu ps ?_ (by rw [List.size_toArray]; omega)
  have hf := I5.hok.fresh (Nat.le_refl _)
  refine ⟨.ref _, _, I5.laid (t' := s4.toks) (o := .frz _ (.tup xs.reverse)) (fun c ob z => Heap.get?_push_of_some _ z) (Nat.le_refl _) ⟨Heap.get?_push_size _ rfl, ?_⟩, rfl, q _ _ hf ⟨rfl, rfl⟩⟩
  exact ⟨by rw [List.length_reverse]; exact hz, _, r.reverse, IsTup.new _ _⟩
section
variable {X : Cx} {ec : List (Addr × Str)} {W : WX} {e : Expr} {m : EM} {pos : Pos}
def rvtM (m : EM) : EM := fun env st => (m env st).bind fun v st1 => Ou.of st1 ((asTup v).map fun ds => .dat (.tuple ds.reverse))
theorem pe_rvt {k : Nat} {p1 p2 p3 : Pos} (he : PE X e (tM (kx X ec) W m)) : PE X (.Subscript e (.Slice none none (some (.UnaryOp .USub (.Constant (.int 1) k p1) p2)) p3) pos) (tM (kx X ec) W (rvtM m)) := (pe_revT he).imp fun σ H Q h => by
  obtain ⟨B, F, os, env, st, R, h⟩ := h
  refine ⟨B, F, os, env, st, R, Po.bind h ?_⟩
  intro v st1 x F1 os1 H1 ev e1 k1 r1 f1 p1
  obtain ⟨z, hz, q⟩ := p1.of
  cases hl : asTup v with
  | none => rw [hl] at hz; cases hz
  | some ds =>
    rw [hl] at hz
    cases hz
    obtain ⟨_, p, xs, rfl, hp, rd⟩ := r1.tup k1 hl
    exact ⟨p, xs, rfl, hp, fun p' ob hp' hn => q _ _ _ _ (e1.trans (Ext.newF k1 hp')) (k1.newF hp') (VR.newTupN k1 hp' hn rd.rev) Frs.dat⟩
end
end Pl

set_option Elab.async false
set_option linter.all false
set_option maxRecDepth 100000
set_option maxHeartbeats 4000000
namespace Pl
open PySem PySem.Spec PyProof.Rows L2
/-! ### max and min of a list of numbers -/
theorem foldl_max : ∀ (ns : List Int) (n : Int), n ≤ ns.foldl max n ∧ (∀ y ∈ ns, y ≤ ns.foldl max n) ∧ (ns.foldl max n = n ∨ ns.foldl max n ∈ ns)
  | [], n => ⟨Int.le_refl _, (fun _ h => nomatch h), .inl rfl⟩
  | a :: ns, n => by
    obtain ⟨h1, h2, h3⟩ := foldl_max ns (max n a)
    refine ⟨?_, fun y hy => ?_, ?_⟩
    · show n ≤ ns.foldl max (max n a)
      omega
    · show y ≤ ns.foldl max (max n a)
      rcases List.mem_cons.mp hy with rfl | hy
      · omega
      · exact h2 y hy
    · show ns.foldl max (max n a) = n ∨ ns.foldl max (max n a) ∈ a :: ns
      rcases h3 with h | h
      · by_cases q : n ≤ a
        · exact .inr (by rw [h, show max n a = a by omega]; simp)
        · exact .inl (by rw [h]; omega)
      · exact .inr (by simp [h])
theorem foldl_min : ∀ (ns : List Int) (n : Int), ns.foldl min n ≤ n ∧ (∀ y ∈ ns, ns.foldl min n ≤ y) ∧ (ns.foldl min n = n ∨ ns.foldl min n ∈ ns)
  | [], n => ⟨Int.le_refl _, (fun _ h => nomatch h), .inl rfl⟩
  | a :: ns, n => by
    obtain ⟨h1, h2, h3⟩ := foldl_min ns (min n a)
    refine ⟨?_, fun y hy => ?_, ?_⟩
    · show ns.foldl min (min n a) ≤ n
      omega
    · show ns.foldl min (min n a) ≤ y
      rcases List.mem_cons.mp hy with rfl | hy
      · omega
      · exact h2 y hy
    · show ns.foldl min (min n a) = n ∨ ns.foldl min (min n a) ∈ a :: ns
      rcases h3 with h | h
      · by_cases q : a ≤ n
        · exact .inr (by rw [h, show min n a = a by omega]; simp)
        · exact .inl (by rw [h]; omega)
      · exact .inr (by simp [h])
def gMaxL : List Val → Option Val
  | [v] => match asList v with
    | some ds => match ints? ds with
      | some (n :: ns) => some (.dat (.int (ns.foldl max n)))
      | _ => none
    | none => none
  | _ => none
def gMinL : List Val → Option Val
  | [v] => match asList v with
    | some ds => match ints? ds with
      | some (n :: ns) => some (.dat (.int (ns.foldl min n)))
      | _ => none
    | none => none
  | _ => none
theorem snd_maxL {K : Kx} : SndN K (rMax K.K) gMaxL := by
  intro F os H st xs vs z Q k r e q
  unfold gMaxL at e
  split at e
  · rename_i v
    cases ha : asList v with
    | none => rw [ha] at e; cases e
    | some ds =>
      rw [ha] at e
      dsimp only at e
      split at e
      · rename_i n ns hi
        cases e
        cases r with
        | cons a b =>
          cases b
          obtain ⟨p, ys, rfl, h1, d1⟩ := a.list k ha
          have := ints_ok d1 hi
          subst this
          obtain ⟨m1, m2, m3⟩ := foldl_max ns n
          refine ⟨p, n :: ns, rfl, SqL.of h1, by simp, fun m hm hy => ?_⟩
          have hin : ns.foldl max n ∈ n :: ns := by
            rcases m3 with h | h
            · rw [h]; simp
            · simp [h]
          have e1 := hy _ hin
          have e2 : m ≤ ns.foldl max n := by
            rcases List.mem_cons.mp hm with rfl | hm
            · exact m1
            · exact m2 _ hm
          have : m = ns.foldl max n := by omega
          subst this
          exact q _ F H (Ext.refl _ _ _) k (.dat (.int _)) Frs.dat
      · cases e
  · cases e
theorem snd_minL {K : Kx} : SndN K (rMin K.K) gMinL := by
  intro F os H st xs vs z Q k r e q
  unfold gMinL at e
  split at e
  · rename_i v
    cases ha : asList v with
    | none => rw [ha] at e; cases e
    | some ds =>
      rw [ha] at e
      dsimp only at e
      split at e
      · rename_i n ns hi
        cases e
        cases r with
        | cons a b =>
          cases b
          obtain ⟨p, ys, rfl, h1, d1⟩ := a.list k ha
          have := ints_ok d1 hi
          subst this
          obtain ⟨m1, m2, m3⟩ := foldl_min ns n
          refine ⟨p, n :: ns, rfl, SqL.of h1, by simp, fun m hm hy => ?_⟩
          have hin : ns.foldl min n ∈ n :: ns := by
            rcases m3 with h | h
            · rw [h]; simp
            · simp [h]
          have e1 := hy _ hin
          have e2 : ns.foldl min n ≤ m := by
            rcases List.mem_cons.mp hm with rfl | hm
            · exact m1
            · exact m2 _ hm
          have : m = ns.foldl min n := by omega
          subst this
          exact q _ F H (Ext.refl _ _ _) k (.dat (.int _)) Frs.dat
      · cases e
  · cases e
end Pl

set_option Elab.async false
set_option linter.all false
set_option maxRecDepth 100000
set_option maxHeartbeats 4000000
namespace Pl
open PySem PySem.Spec PyProof.Rows L2
/-! ### methods of texts, str, int of a text -/
section
variable {X : Cx} {ec : List (Addr × Str)} {W : WX} {o e a b : Expr} {mo me ma mb m : EM} {pos apos cpos : Pos}
def isSV : Val → Bool
  | .dat (.str _) => true
  | _ => false
/-- a method of a text with one argument -/
def sm1M (g : Val → Val → Option Val) (ma mb : EM) : EM := fun env st => (ma env st).bind fun v st1 => if isSV v = true then (mb env st1).bind fun w st2 => Ou.of st2 (g v w) else .stk
theorem sm1_ok {K : Kx} {r : V → List V → Hp → VK → Prop} {g : Val → Val → Option Val} (hs : Snd2 K (fun x y H Q => r x [y] H Q) g) {σ : L2.St} {H : Hp} {Q : VK} (h : tM K W (sm1M g ma mb) σ H Q) : L2.tM1 r (tM K W ma) (tM K W mb) σ H Q := by
  obtain ⟨B, F, os, env, st, R, h⟩ := h
  refine ⟨B, F, os, env, st, R, h.bind ?_⟩
  intro v st1 x F1 os1 H1 ev e1 k1 r1 f1 p1
  split at p1
  · rename_i hv
    have hx : ∃ a, x = .str a := by
      cases r1 with
      | dat r1 => cases r1 <;> first | exact ⟨_, rfl⟩ | simp [isSV, errD] at hv
      | fr a b c d => simp [isSV] at hv
      | bor a b c d => simp [isSV] at hv
      | obj a => simp [isSV] at hv
      | scr a b => simp [isSV] at hv
    refine ⟨hx, B, F1, os1, env, st1, R.ext e1 k1, (p1.shift e1).bind ?_⟩
    intro w st2 y F2 os2 H2 ew e2 k2 r2 f2 p2
    obtain ⟨z, hz, q⟩ := p2.of
    refine hs F2 os2 H2 st2 x y v w z Q k2 (r1.ext e2) r2 hz fun x' F' H' e k r f => q x' F' os2 H' (e2.trans e) k r fun c p ev ex => e2.nn (f c p ev ex)
  · exact p1.elim
def gSplit : Val → Val → Option Val
  | .dat (.str a), .dat (.str b) => if (b.length == 0) = false ∧ Nat.ble (a.length + 2) sizeLine = true then some (.fr (.lst ((Txt.split a b).map .str))) else none
  | _, _ => none
theorem drs_strs {K : Kx} {F : Hp} : ∀ ys : List Str, Drs K F (ys.map V.str) (ys.map .str)
  | [] => .nil
  | y :: ys => .cons (.str y) (drs_strs ys)
theorem snd_split {K : Kx} : Snd2 K (fun x y H Q => ∃ a b, x = .str a ∧ [y] = [.str b] ∧ (b.length == 0) = false ∧ a.length + 2 ≤ sizeLine ∧ rNewStrs (Txt.split a b) H Q) gSplit := by
  intro F os H st x y v w z Q k rx ry e q
  unfold gSplit at e
  split at e
  · rename_i a b
    split at e
    · rename_i hg
      cases e
      have := rx.str
      subst this
      have := ry.str
      subst this
      exact ⟨a, b, rfl, rfl, hg.1, Nat.le_of_ble_eq_true hg.2, fun p hp => q _ _ _ (Ext.newO k hp) (k.newO hp) (VR.newLst k hp (drs_strs _)) (Frs.new hp)⟩
    · cases e
  · cases e
theorem pe_spl (ho : PE X o (tM (kx X ec) W mo)) (he : PE X e (tM (kx X ec) W me)) (hs : starEach [e] X.env = [(false, eval e X.env)] := by rfl) (hbase : attributeBase o "split" X.env (eval o X.env) = eval o X.env := by rfl) (hline : (apos.endLine == pos.line) = true := by rfl) :
    PE X (.Call (.Attribute o "split" apos) [e] [] pos) (tM (kx X ec) W (sm1M gSplit mo me)) := (pe_split ho he hs hbase hline).imp fun _ _ _ => sm1_ok snd_split
def gJoin (v w : Val) : Option Val := match v, asSeq w with
  | .dat (.str a), some ds => match strs1 ds with
    | some ys => if Nat.ble ((ys.map (·.length)).sum + ys.length * a.length) 16777216 = true then some (.dat (.str (Txt.join a ys))) else none
    | none => none
  | _, _ => none
theorem VR.seqv {K : Kx} {F H : Hp} {os : List Addr} {st : List Cn} {x : V} {v : Val} (k : StOk K F os H st) (r : VR K F os H x v) {ds : List D} (e : asSeq v = some ds) : ∃ p xs, x = .ref p ∧ (SqL K.K H p xs ∨ SqT K.K H p xs) ∧ Drs K F xs ds := by
  unfold asSeq at e
  cases hl : asList v with
  | some es =>
    rw [hl] at e
    cases e
    obtain ⟨p, xs, e, h1, h2⟩ := r.list k hl
    exact ⟨p, xs, e, .inl (SqL.of h1), h2⟩
  | none =>
    rw [hl] at e
    obtain ⟨_, p, xs, e, h1, h2⟩ := r.tup k (show asTup v = some ds from e)
    exact ⟨p, xs, e, .inr h1, h2⟩
theorem snd_join {X : Cx} {ec : List (Addr × Str)} : Snd2 (kx X ec) (fun x y H Q => ∃ a p, ∃ ys : List Str, x = .str a ∧ [y] = [.ref p] ∧ (SqL X.K H p (ys.map V.str) ∨ SqT X.K H p (ys.map V.str)) ∧
      (ys.map (·.length)).sum + ys.length * a.length ≤ 16777216 ∧ Q (.str (Txt.join a ys)) H) gJoin := by
  intro F os H st x y v w z Q k rx ry e q
  unfold gJoin at e
  split at e
  · rename_i a ds hw
    split at e
    · rename_i ys hy
      split at e
      · rename_i hg
        cases e
        have := rx.str
        subst this
        obtain ⟨p, xs, rfl, h1, h2⟩ := ry.seqv k hw
        have hx := (strs1_ok h2 hy).1
        subst hx
        exact ⟨a, p, ys, rfl, rfl, h1, Nat.le_of_ble_eq_true hg, q _ F H (Ext.refl _ _ _) k (.dat (.str _)) Frs.dat⟩
      · cases e
    · cases e
  · cases e
theorem pe_jn (ho : PE X o (tM (kx X ec) W mo)) (he : PE X e (tM (kx X ec) W me)) (hs : starEach [e] X.env = [(false, eval e X.env)] := by rfl) (hbase : attributeBase o "join" X.env (eval o X.env) = eval o X.env := by rfl) (hline : (apos.endLine == pos.line) = true := by rfl) :
    PE X (.Call (.Attribute o "join" apos) [e] [] pos) (tM (kx X ec) W (sm1M gJoin mo me)) := (pe_join ho he hs hbase hline).imp fun _ _ _ => sm1_ok snd_join
/-- str(int) -/
def numS (i : Int) : Str := Str.ofString (toString i)
def cNum (i : Int) : Bool := Nat.ble i.natAbs 18446744073709551615
theorem cNum_ok {i : Int} (h : cNum i = true) : i.natAbs.log2 < 1920 := by
  have h1 : i.natAbs ≤ 18446744073709551615 := Nat.le_of_ble_eq_true h
  by_cases h0 : i.natAbs = 0
  · rw [h0]; decide
  · exact (Nat.log2_lt h0).mpr (Nat.lt_of_le_of_lt h1 (Nat.lt_of_lt_of_le (by decide : 18446744073709551615 < 2 ^ 64) (Nat.pow_le_pow_right (by decide) (by decide))))
def gStr1 : List Val → Option Val
  | [.dat (.int i)] => if cNum i = true then some (.dat (.str (numS i))) else none
  | _ => none
theorem snd_str1 {K : Kx} : SndN K (fun xs H Q => ∃ i : Int, xs = [.int i] ∧ i.natAbs.log2 < 1920 ∧ Q (.str (toString i)) H) gStr1 := by
  intro F os H st xs vs z Q k r e q
  unfold gStr1 at e
  split at e
  · rename_i i
    split at e
    · rename_i hc
      cases e
      cases r with
      | cons a b =>
        cases b
        have := a.int
        subst this
        exact ⟨i, rfl, cNum_ok hc, q _ F H (Ext.refl _ _ _) k (.dat (.str _)) Frs.dat⟩
    · cases e
  · cases e
/-- int(text) -/
def gIntS : List Val → Option Val
  | [.dat (.str a)] => match PySem.intText? a with
    | some n => if Nat.ble a.length 640 = true then some (.dat (.int n)) else none
    | none => none
  | _ => none
theorem snd_ints {K : Kx} : SndN K (fun xs H Q => ∃ a n, xs = [.str a] ∧ PySem.intText? a = some n ∧ a.length ≤ 640 ∧ Q (.int n) H) gIntS := by
  intro F os H st xs vs z Q k r e q
  unfold gIntS at e
  split at e
  · rename_i a
    split at e
    · rename_i n hn
      split at e
      · rename_i hc
        cases e
        cases r with
        | cons r b =>
          cases b
          have := r.str
          subst this
          exact ⟨a, n, rfl, hn, Nat.le_of_ble_eq_true hc, q _ F H (Ext.refl _ _ _) k (.dat (.int _)) Frs.dat⟩
      · cases e
    · cases e
  · cases e
/-- a part of an f-string -/
def gFmt : Val → Option Val
  | .dat (.str y) => if Nat.ble y.length sizeLine = true then some (.dat (.str y)) else none
  | .dat (.int i) => if cNum i = true then some (.dat (.str (numS i))) else none
  | _ => none
theorem snd_fmt {K : Kx} : Snd1 K (fun x H Q => (∃ y : Str, x = .str y ∧ y.length ≤ sizeLine ∧ Q (.str y) H) ∨ ∃ i : Int, x = .int i ∧ i.natAbs.log2 < 1920 ∧ Q (.str (toString i)) H) gFmt := by
  intro F os H st x v z Q k r e q
  unfold gFmt at e
  split at e
  · split at e
    · rename_i hc
      cases e
      have := r.str
      subst this
      exact .inl ⟨_, rfl, Nat.le_of_ble_eq_true hc, q _ F H (Ext.refl _ _ _) k (.dat (.str _)) Frs.dat⟩
    · cases e
  · split at e
    · rename_i hc
      cases e
      have := r.int
      subst this
      exact .inr ⟨_, rfl, cNum_ok hc, q _ F H (Ext.refl _ _ _) k (.dat (.str _)) Frs.dat⟩
    · cases e
  · cases e
theorem pe_fm (he : PE X e (tM (kx X ec) W m)) : PE X (.FormattedValue e (-1) none pos) (tM (kx X ec) W (unM gFmt m)) := (pe_fmt he).imp fun _ _ _ => un_ok snd_fmt
/-- the parts of an f-string, one behind the other -/
def jsM : List EM → Str → EM
  | [], acc => fun _ st => .ok (.dat (.str acc)) st
  | m :: ms, acc => fun env st => (m env st).bind fun v st1 => match v with
    | .dat (.str y) => if Nat.ble (acc ++ y).length sizeLine = true then jsM ms (acc ++ y) env st1 else .stk
    | _ => .stk
theorem js_ok {K : Kx} {σ : L2.St} {Q : VK} : ∀ (ms : List EM) (acc : Str) (H : Hp), tM K W (jsM ms acc) σ H Q → tJs (ms.map (tM K W)) acc σ H fun out H1 => Q (.str out) H1
  | [], acc, H, h => by
    obtain ⟨B, F, os, env, st, R, h⟩ := h
    exact h _ _ _ _ (Ext.refl _ _ _) R.ok (.dat (.str _)) Frs.dat
  | m :: ms, acc, H, h => by
    obtain ⟨B, F, os, env, st, R, h⟩ := h
    refine ⟨B, F, os, env, st, R, Po.bind h ?_⟩
    intro v st1 x F1 os1 H1 ev e1 k1 r1 f1 p1
    split at p1
    · rename_i y
      split at p1
      · rename_i hc
        have := r1.str
        subst this
        exact ⟨y, rfl, Nat.le_of_ble_eq_true hc, js_ok ms _ H1 ⟨B, F1, os1, env, st1, R.ext e1 k1, p1.shift e1⟩⟩
      · exact p1.elim
    · exact p1.elim
theorem pe_js {v1 v2 : Expr} {rest : List Expr} {ms : List EM} (h : PJ X (v1 :: v2 :: rest) (ms.map (tM (kx X ec) W))) : PE X (.JoinedStr (v1 :: v2 :: rest) pos) (tM (kx X ec) W (jsM ms Str.empty)) :=
  (pe_joined h).imp fun _ _ _ => js_ok ms _ _
end
end Pl

set_option Elab.async false
set_option linter.all false
set_option maxRecDepth 100000
set_option maxHeartbeats 4000000
namespace Pl
open PySem PySem.Spec PyProof.Rows L2 StX
/-! ### stars in displays -/
section
variable {X : Cx} {ec : List (Addr × Str)} {W : WX} {o e a b : Expr} {mo me ma mb m : EM} {pos apos cpos p : Pos}
def astar (m : EM) (r : AM) : AM := fun env st => (m env st).bindL fun v st1 => match v.frz with
  | some (.dat d) => match asSeq (.dat d) with
    | some ds => (r env st1).bindL fun vs st2 => .ok (ds.map Val.dat ++ vs) st2
    | none => .stk
  | _ => .stk
theorem vrs_dats {K : Kx} {F H : Hp} {os : List Addr} : ∀ {xs : List V} {ds : List D} {ys : List V} {vs : List Val}, Drs K F xs ds → VRs K F os H ys vs → VRs K F os H (xs ++ ys) (ds.map Val.dat ++ vs)
  | _, _, _, _, .nil, s => s
  | _, _, _, _, .cons r t, s => .cons (.dat r) (vrs_dats t s)
theorem VR.seqd {K : Kx} {F H : Hp} {os : List Addr} {x : V} {d : D} (k : Same F H) (r : VR K F os H x (.dat d)) {ds : List D} (e : asSeq (.dat d) = some ds) : ∃ p xs, x = .ref p ∧ (SqT K.K H p xs ∨ SqL K.K H p xs) ∧ Drs K F xs ds := by
  cases r with
  | dat r =>
    cases r <;> simp [asSeq, asList, asTup, Option.or, errD] at e <;> try cases e
    · rename_i h1 h2
      exact ⟨_, _, rfl, .inr (SqL.of (k _ _ h1)), h2⟩
    · rename_i h1 h3 h2
      exact ⟨_, _, rfl, .inl (Same.sqT k h1), h2⟩
theorem astar_ok {K : Kx} {r : AM} {σ : L2.St} {H : Hp} {Q : List V → Hp → Prop} (h : tA K W (astar m r) σ H Q) : tStar K.K (tM K W (frzM m)) (tA K W r) σ H Q := by
  obtain ⟨B, F, os, env, st, R, h⟩ := h
  refine ⟨B, F, os, env, st, R, ?_⟩
  unfold astar at h
  unfold frzM
  cases hm : m env st with
  | stk => rw [hm] at h; exact h
  | exc c d st1 => rw [hm] at h; exact h
  | ok v st1 =>
    rw [hm] at h
    dsimp only [Ou.bindL, Ou.bind] at h ⊢
    cases hv : v.frz with
    | none => rw [hv] at h; exact h.elim
    | some w =>
      rw [hv] at h
      intro x F1 os1 H1 e1 k1 r1 f1
      cases w with
      | dat d =>
        dsimp only at h
        cases hd : asSeq (.dat d) with
        | none => rw [hd] at h; exact h.elim
        | some ds =>
          rw [hd] at h
          obtain ⟨p, xs, ex, hx, rd⟩ := r1.seqd k1.sub hd
          refine ⟨p, xs, ex, hx, B, F1, os1, env, st1, R.ext e1 k1, ?_⟩
          dsimp only at h
          cases hr : r env st1 with
          | stk => rw [hr] at h; exact h
          | exc c d st2 =>
            rw [hr] at h
            exact fun cls dd F2 os2 H2 e2 k2 r2 => h cls dd F2 os2 H2 (e1.trans e2) k2 r2
          | ok vs st2 =>
            rw [hr] at h
            dsimp only [OuL.bindL] at h
            exact fun ys F2 os2 H2 e2 k2 r2 f2 => h (xs ++ ys) F2 os2 H2 (e1.trans e2) k2 (vrs_dats (Drs.mono e2.fz _ _ rd) r2) (by
              rw [List.all_append, f2, Bool.and_true, List.all_map]
              exact List.all_eq_true.mpr fun _ _ => rfl)
      | _ => exact h.elim
theorem pa_st {r : AM} {es : List Expr} (he : PE X e (tM (kx X ec) W m)) (hr : PA X es (tA (kx X ec) W r)) (hs : starEach (.Starred e p :: es) X.env = (true, eval e X.env) :: starEach es X.env := by rfl) : PA X (.Starred e p :: es) (tA (kx X ec) W (astar m r)) :=
  (pa_star (pe_frz he) hr hs).imp fun _ _ _ => astar_ok
end

/-! ### several names from a list, the last one for all that is left -/
section
variable {prog : Program} {w : World} {A : Around} {E : Value → Shared → Prop} {s : Shared}
/-- from a place on -/
theorem _root_.PySem.WalksS.from {I : Addr} {fp wr : List Addr} {G : Array GenState → Array GenState → Prop} {n : Nat} {P : Nat → Value → Prop} {St : Nat → Shared → Prop} (W : WalksS prog w A I fp wr G n P St) {k : Nat} (hk : k ≤ n) :
    WalksS prog w A I fp wr G (n - k) (fun i v => P (i + k) v) (fun i s => St (i + k) s) where
  sub := W.sub
  grefl := W.grefl
  gtrans := W.gtrans
  frame := fun i s h' tk st ht hb => W.frame (i + k) s h' tk st ht hb
  item := fun i s Q E hi st hQ => W.item (i + k) s Q E (by omega) st fun v s' hP st' hm => hQ v s' hP (by rw [show i + 1 + k = i + k + 1 by omega]; exact st') hm
  done := fun s Q E st hQ => W.done s Q E (by rw [show n = n - k + k by omega]; exact st) hQ
  self := fun i s Q E st hQ => W.self (i + k) s Q E st hQ
theorem unpackItems_star1 {t : Addr} {items : Array Value} {Q : List Value → Shared → Prop} (hh : A.handled = none) (ht : s.heap.IsList t items) (h1 : 1 ≤ items.size) (hz : items.size ≤ sizeLine)
    (hQ : ∀ (h' : Heap) (tk : Nat), (∀ b o, s.heap.get? b = some o → h'.get? b = some o) → Q (items.toList.take 1 ++ [.ref h'.objs.size]) { s with heap := h'.push { cls := .type "list", data := .seq (items.toList.drop 1).toArray }, toks := tk }) :
    wpAny (model prog w) A (unpackItems (.ref t) 2 (some 1)) Q E s := by
  have hlt : t ≠ s.heap.objs.size := fun z => by
    obtain ⟨o, ho, _⟩ := ht
    exact absurd (Heap.lt_size ho) (by rw [z]; exact Nat.lt_irrefl _)
  unfold unpackItems
  refine wpAny_bind ?_
  · unfold notIterableAtAll
    refine wpAny_bind (wpAny_specialOf ht.typeIs F.slot_list_iter.lookup (wpAny_pure ?_))
    simp only [if_false, Bool.false_eq_true]
    refine wpAny_bind (wpAny_holding (wpAny_pyIter_list ht (wpAny_bind (wpAny_holding (PySem.W.kun_draw hlt 1 0 _ _ ⟨_, Heap.get?_push_size _ rfl, rfl, rfl⟩ (ht.push _) (by omega) fun h₁ hit₁ hs₁ => ?_)))))
    have hall : List.take 1 (List.drop 0 items.toList) = items.toList.take 1 := by rw [List.drop_zero]
    rw [hall]
    have hlen : (items.toList.take 1).length = 1 := by simp; omega
    rw [if_neg (by rw [hlen]; decide)]
    have ht₁ : h₁.IsList t items := (ht.push _).extBut hs₁.extBut hlt
    have hsz : s.heap.objs.size < h₁.objs.size := by obtain ⟨o, ho, _⟩ := hit₁; exact Heap.lt_size ho
    refine wpAny_bind (wpAny_holding (wpAny_collect_iter (.inr (.inr (.inl rfl))) ((Walks.list (A := A.in1) hh s.heap.objs.size t hlt items).toS.from h1) (fun _ _ st => st.1.typeIs) ⟨hit₁, ht₁⟩ (fun b hb => ?_) (by simp) (fun s' acc hm ha => ?_) (by omega)))
    · rcases List.mem_cons.mp hb with e | e
      · rw [e]; exact hsz
      · rw [List.mem_singleton.mp e]; obtain ⟨o, ho, _⟩ := ht₁; exact Heap.lt_size ho
    · have hacc : acc.toList = items.toList.drop 1 := by
        apply List.ext_getElem?
        intro j
        by_cases hj : j < acc.size
        · have hv := ha.2 j acc[j] (by simp [hj])
          rw [List.getElem?_drop, show 1 + j = j + 1 by omega]
          simp only [Array.getElem?_toList]
          rw [hv]
          simp [hj]
        · rw [List.getElem?_eq_none (by simpa using hj), List.getElem?_eq_none]
          have := ha.1
          simp
          omega
      rw [hacc]
      simp only [show 2 - 1 - 1 = 0 from rfl, Nat.sub_zero]
      rw [if_neg (by simp)]
      rw [List.take_length, List.drop_length]
      rw [Moved.eq_with hm]
      have hkeep : ∀ b o, s.heap.get? b = some o → s'.heap.get? b = some o := fun b o e => hm.heap b o (fun hb => by
        rw [List.mem_singleton.mp hb] at e
        exact absurd (Heap.lt_size e) (Nat.lt_irrefl _)) (hs₁.extBut b o (fun z => by
        rw [z] at e
        exact absurd (Heap.lt_size e) (Nat.lt_irrefl _)) (Heap.get?_push_of_some _ e))
      refine wpAny_bind (wpAny_newObj_type (wpAny_pure ?_) (by
        show (List.drop 1 items.toList).toArray.size ≤ sizeLine
        have : items.toList.length = items.size := Array.length_toList
        rw [List.size_toArray, List.length_drop, this]; omega))
      rw [List.append_nil]
      exact hQ s'.heap s'.toks hkeep
end
section
variable {X : Cx} {ec : List (Addr × Str)} {W : WX} {e : Expr} {m : EM} {pos : Pos}
def unpLM (is : List Nat) (m : EM) : SM := fun env st => (m env st).bindS env fun v st1 => match v with
  | .dat (.list ds) => match bindAll is ds env with
    | some env' => .nx env' st1
    | none => .stk
  | _ => .stk
theorem bindAll_len : ∀ {is : List Nat} {ds : List D} {env env' : Env}, bindAll is ds env = some env' → is.length = ds.length := by
  intro is
  induction is with
  | nil => intro ds env env' h; cases ds with | nil => rfl | cons d ds => cases h
  | cons i is ih => intro ds env env' h; cases ds with | nil => cases h | cons d ds => simp [ih h]
theorem ps_unL {is : List Nat} {tge : Expr} {n : Nat} (he : PE X e (tM (kx X ec) W m)) (hgp : PG X tge (gUnl X.K n (gNames is))) (hi : is.length = n) (hs : swapsWithSole [tge] e pos.line X.env = pure false := by rfl) (hw : swappedStores [tge] e X.env = pure none := by rfl)
    (h1 : (assignEach [tge] X.env).map (·.2) = [assign tge X.env] := by rfl) : PS X (.Assign [tge] e pos) (tS (kx X ec) W (unpLM is m)) := (ps_asg he hgp hs hw h1).imp fun E σ H h => by
  obtain ⟨B, F, os, env, st, R, h⟩ := h
  refine ⟨B, F, os, env, st, R, PoS.bind R h ?_⟩
  intro v st1 x F1 os1 H1 ev e1 R1 r1 f1 p1
  split at p1
  · rename_i ds
    cases hb : bindAll is ds env with
    | none => rw [hb] at p1; exact False.elim p1
    | some env' =>
      rw [hb] at p1
      cases r1 with
      | dat r1 =>
        cases r1 with
        | lst a b =>
          exact ⟨_, _, rfl, SqL.of (R1.ok.sub _ _ a), by rw [b.len, ← hi, bindAll_len hb], names_ok is R1 b hb fun σ' R' _ => p1 F1 os1 σ' H1 R'⟩
  · exact False.elim p1
/-- a, *b = a list -/
def gStar1 (K : PySem.W.Frag) (i j : Nat) : TG := fun v σ H Q => ∃ a x xs, v = .ref a ∧ SqL K H a (x :: xs) ∧ ∀ p, H p = none → Q ((σ.set i (some x)).set j (some (.ref p))) (upd H p (.lst xs))
theorem pg_star1 {i j k : Nat} {x y : Str} {px py ps : Pos} (hc : X.calm = true) (hN : X.N.Nodup) (hi : X.N[i]? = some x) (hx : Loc X.env.scope x) (hj : X.N[j]? = some y) (hy : Loc X.env.scope y)
    (hfx : X.fn x = true ∨ X.env.scope.names.lookup x = some .local := by first | exact .inl rfl | exact .inr rfl | assumption) (hfy : X.fn y = true ∨ X.env.scope.names.lookup y = some .local := by first | exact .inl rfl | exact .inr rfl | assumption) :
    PG X (.Tuple [.Name x px, .Starred (.Name y py) ps] k pos) (gStar1 X.K i j) := by
  refine ⟨fun pins s σ H v u Q I r hg => ?_⟩
  obtain ⟨a, x0, xs, e1, hq, hw⟩ := hg
  subst e1
  cases r
  obtain ⟨its, rv, ht, hz⟩ := I.list hq
  cases rv with
  | cons r0 rs =>
  rename_i u0 us
  rw [arm_assign_Tuple]
  refine wpAny_bind (m := standAt _) (wpAny_standAt ?_)
  unfold unpack
  have e2 : (assignEach [.Name x px, .Starred (.Name y py) ps] X.env).length = 2 := rfl
  have e3 : (assignEach [.Name x px, .Starred (.Name y py) ps] X.env).findIdx? (·.1) = some 1 := rfl
  have e4 : (assignEach [.Name x px, .Starred (.Name y py) ps] X.env).map (·.2) = [assign (.Name x px) X.env, assign (.Name y py) X.env] := rfl
  have hlen := rs.length
  rw [e2, e3, e4]
  refine wpAny_bind (wpAny_holding (unpackItems_star1 (I.ok.hd hc) ht.isList (by simp) (by simp at hz ⊢; omega) fun h' tk hk => ?_))
  have I1 : Inv X pins σ H { s with heap := h', toks := s.toks } := I.kept (t' := s.toks) hk
  have hp : H h'.objs.size = none := I1.hok.fresh (Nat.le_refl _)
  have I2 : Inv X pins σ (upd H h'.objs.size (.lst xs)) { s with heap := h'.push { cls := .type "list", data := .seq us.toArray }, toks := tk } :=
    I1.laid (t' := tk) (fun b o z => Heap.get?_push_of_some _ z) (Nat.le_refl _) ⟨by simp at hz; omega, us, _, rs, Heap.get?_push_size _ rfl⟩
  have r1 : RelV (.ref h'.objs.size) (Value.ref h'.objs.size) := rfl
  have hres : List.take 1 (u0 :: us).toArray.toList ++ [Value.ref h'.objs.size] = [u0, .ref h'.objs.size] := rfl
  have hres2 : (List.drop 1 (u0 :: us).toArray.toList).toArray = us.toArray := rfl
  rw [hres, hres2]
  refine (pgs_cons (pg_name hN hi hx hfx) (pgs_cons (pg_name hN hj hy hfy) pgs_nil)).run pins _ σ _ [x0, .ref h'.objs.size] _ Q I2 (.cons r0 (.cons r1 .nil)) ⟨x0, _, rfl, _, _, rfl, rfl, hw _ hp⟩
def unpSM (i j : Nat) (m : EM) : SM := fun env st => (m env st).bindS env fun v st1 => match asList v with
  | some (d :: ds) => .nx ((env.set i (some (.dat d))).set j (some (.dat (.list ds)))) st1
  | _ => .stk
theorem ps_unS {i j : Nat} {tge : Expr} (he : PE X e (tM (kx X ec) W m)) (hgp : PG X tge (gStar1 X.K i j)) (hs : swapsWithSole [tge] e pos.line X.env = pure false := by rfl) (hw : swappedStores [tge] e X.env = pure none := by rfl)
    (h1 : (assignEach [tge] X.env).map (·.2) = [assign tge X.env] := by rfl) : PS X (.Assign [tge] e pos) (tS (kx X ec) W (unpSM i j m)) := (ps_asg he hgp hs hw h1).imp fun E σ H h => by
  obtain ⟨B, F, os, env, st, R, h⟩ := h
  refine ⟨B, F, os, env, st, R, PoS.bind R h ?_⟩
  intro v st1 x F1 os1 H1 ev e1 R1 r1 f1 p1
  split at p1
  · rename_i d ds hv
    obtain ⟨p, xs, rfl, hp, rd⟩ := r1.list R1.ok hv
    cases rd with
    | @cons x0 xs0 _ _ r rs =>
      refine ⟨_, _, _, rfl, SqL.of hp, fun q hq => ?_⟩
      have e2 := Ext.newF (o := .lst xs0) R1.ok hq
      have k2 := R1.ok.newF (o := .lst xs0) hq
      have R2 := R1.ext e2 k2
      have rl := Dr.lst (K := kx X ec) (a := q) upd_same (Drs.mono e2.fz _ _ rs)
      exact p1 _ _ _ _ ((R2.set (.dat (Dr.mono e2.fz _ _ r)) rfl fun _ _ h _ => nomatch h).set (.dat rl) rfl fun _ _ h _ => nomatch h)
  · exact False.elim p1
end
end Pl

set_option Elab.async false
set_option linter.all false
set_option maxRecDepth 100000
set_option maxHeartbeats 4000000
namespace Pl
open PySem PySem.Spec PyProof.Rows L2 StX
/-! ### list comprehensions with two for -/
section
variable {pr pr1 : Bool} {X : Cx} {ec : List (Addr × Str)} {W : WX} {blk : Bool} {tg e a b : Expr} {m ma mb : EM} {pos : Pos}
/-- only what is data -/
def datE (env : Env) : Env := env.map fun
  | some (.dat d) => some (.dat d)
  | _ => none
theorem datE_get {env : Env} {i : Nat} {x : Val} (h : (datE env)[i]? = some (some x)) : ∃ d, x = .dat d ∧ env[i]? = some (some (.dat d)) := by
  unfold datE at h
  rw [List.getElem?_map] at h
  cases q : env[i]? with
  | none => rw [q] at h; cases h
  | some y =>
    rw [q] at h
    cases y with
    | none => simp at h
    | some v =>
      cases v <;> simp at h
      exact ⟨_, h.symm, rfl⟩
theorem Rel.datE {K : Kx} {B : Bs} {F : Hp} {os : List Addr} {σ : L2.St} {H : Hp} {env : Env} {st : List Cn} (R : Rel K B F os σ H env st) : Rel K B F os σ H (datE env) st where
  ok := R.ok
  len := by unfold Pl.datE; rw [List.length_map]; exact R.len
  slv := fun i x h => by
    obtain ⟨d, rfl, q⟩ := datE_get h
    exact R.slv i _ q
  own := fun i j c c' p hij h1 h2 => by
    obtain ⟨d, q, _⟩ := datE_get h1
    cases q
  ownB := fun i c p h => by
    obtain ⟨d, q, _⟩ := datE_get h
    cases q
  borB := fun i c p h => by
    obtain ⟨d, q, _⟩ := datE_get h
    cases q
  bs := R.bs
  pin := R.pin
/-- a new object that no name holds is written, all names being data -/
theorem Rel.writeD {K : Kx} {B : Bs} {F : Hp} {os : List Addr} {σ : L2.St} {H : Hp} {env : Env} {st : List Cn} {p : Addr} {o : HO} (hd : ∀ (i : Nat) (x : Val), env[i]? = some (some x) → ∃ d, x = .dat d) (hB : B.H p = none) (R : Rel K B F os σ H env st) (hf : F p = none) (ho : p ∉ os) : Rel K B F os σ (upd H p o) env st := by
  refine ⟨⟨fun a u h => ?_, R.ok.len, fun n a c h1 h2 => ?_, R.ok.nd⟩, R.len, fun i x h => ?_, R.own, R.ownB, R.borB, ⟨R.bs.fz, fun a u h hn => ?_, R.bs.new, R.bs.os, fun a h => upd_ne_none (R.bs.dom a h)⟩, R.pin⟩
  · rw [upd_ne (fun z => by rw [z, hf] at h; cases h)]; exact R.ok.sub _ _ h
  · obtain ⟨f, u, q, r⟩ := R.ok.stv n a c h1 h2
    exact ⟨f, u, by rw [upd_ne (fun z => ho (by rw [← z]; exact List.mem_of_getElem? h1))]; exact q, r⟩
  · obtain ⟨y, a, b⟩ := R.slv i x h
    obtain ⟨d, rfl⟩ := hd i x h
    refine ⟨y, a, ?_⟩
    cases b with
    | dat r => exact .dat r
  · rw [upd_ne (fun z => by rw [z, hB] at h; cases h)]; exact R.bs.keep _ _ h hn
theorem wipeE_dat {env : Env} (hd : ∀ (i : Nat) (x : Val), env[i]? = some (some x) → ∃ d, x = .dat d) : ∀ (vs : List Nat) (i : Nat) (x : Val), (wipeE env vs)[i]? = some (some x) → ∃ d, x = .dat d
  | [], i, x, h => hd i x h
  | v :: vs, i, x, h => by
    unfold wipeE at h
    have ne := unset_ne h
    rw [List.getElem?_set_ne ne] at h
    exact wipeE_dat hd vs i x h
def lc2M (tg : Tg) (im1 : IM) (own1 : List Nat) (tg1 : Tg) (me : EM) : List D → List D → EM
  | [], acc => fun _ st => .ok (.fr (.lst acc)) st
  | d :: ds, acc => fun env st => match bindT tg d env with
    | none => .stk
    | some env1 => match im1 (datE env1) st with
      | .ok items1 st1 => match lcM tg1 yesM me items1 acc (wipeE (datE env1) own1) st1 with
        | .ok (.fr (.lst acc')) st2 => lc2M tg im1 own1 tg1 me ds acc' env st2
        | _ => .stk
      | _ => .stk
def comp2M (im : IM) (own : List Nat) (tg : Tg) (im1 : IM) (own1 : List Nat) (tg1 : Tg) (me : EM) : EM := fun env st => match im env st with
  | .stk => .stk
  | .exc c d st1 => .exc c d st1
  | .ok items st1 => lc2M tg im1 own1 tg1 me items [] (wipeE env own) st1
theorem bindT_len {tg : Tg} {d : D} {env env1 : Env} (hb : bindT tg d env = some env1) : env1.length = env.length := by
  have aux : ∀ (is : List Nat) (ds : List D) (env env' : Env), bindAll is ds env = some env' → env'.length = env.length := by
    intro is
    induction is with
    | nil => intro ds env env' h; cases ds with | nil => cases h; rfl | cons d ds => cases h
    | cons i is ih => intro ds env env' h; cases ds with | nil => cases h | cons d ds => simpa using ih _ _ _ h
  cases tg with
  | nm i => cases hb; simp
  | tp is => cases d with
    | tuple ds => exact aux _ _ _ _ hb
    | _ => cases hb
theorem comp2_ok {im im1 : IM} {tgt tgt1 : Tg} {g g1 : TG} {me : EM} {own own1 : List Nat} (hg : TgOk pr X ec tgt g) (hin : ∀ i ∈ tgIx tgt, i ∈ own) (hg1 : TgOk pr1 X ec tgt1 g1) (hin1 : ∀ i ∈ tgIx tgt1, i ∈ own1) {σ : L2.St} {H : Hp} {Q : VK}
    (h : tM (kx X ec) W (comp2M im own tgt im1 own1 tgt1 me) σ H Q) :
    tLc2 (tI pr (kx X ec) true W im) g (tT (kx X ec) W0 yesM) (tI pr1 (kx X ec) false W0 im1) g1 (tT (kx X ec) W0 yesM) (tM (kx X ec) W0 me) own own1 σ H Q := by
  obtain ⟨B, F0, os0, env, st0, R0, h⟩ := h
  refine ⟨B, F0, os0, env, st0, R0, ?_⟩
  unfold comp2M at h
  cases hi : im env st0 with
  | stk => rw [hi] at h; exact h
  | exc c d st1 => rw [hi] at h; exact h
  | ok items st1 =>
    rw [hi] at h
    intro J F1 os1 H1 e1 k1 it p hp
    obtain ⟨G, Y, w, hG, hY⟩ := it
    have R1 := (R0.ext e1 k1).wipe own
    have e2 := Ext.newO (o := .lst []) k1 hp
    have k2 := k1.newO (o := .lst []) hp
    have hBp : B.H p = none := R1.bs.nn hp
    -- the outer turns
    let Pv : Nat → Hp → Prop := fun i H2 => ∃ F os st acc xs, Rel (kx X ec) B F os (L2.wipe σ own) H2 (wipeE env own) st ∧ Ext F1 os1 H1 F os H2 ∧ H2 p = some (.lst xs) ∧ F p = none ∧ p ∉ os ∧ Drs (kx X ec) F xs acc ∧
      Po (kx X ec) W σ F0 os0 H (lc2M tgt im1 own1 tgt1 me (items.drop i) acc (wipeE env own) st) Q
    refine ⟨fun i m H => m = items.length - i ∧ i ≤ items.length ∧ Pv i H, ⟨items.length, by simp, Nat.zero_le _, F1, os1, st1, [], [], R1.ext e2 k2, e2, upd_same, (k1.free hp).2, (k1.free hp).1, .nil, h⟩, ?_⟩
    rintro i m H2 ⟨rfl, hi2, pv⟩
    have hG2 : G H2 := by
      obtain ⟨F, os, st, acc, xs, R, e, _⟩ := pv
      exact hG H2 fun a o h1 h2 => e.keep a o h1 h2
    by_cases hlt : i < items.length
    · refine .inr ⟨w.goes i H2 hlt hG2, Pv (i + 1), fun H' p' => ⟨items.length - (i + 1), by omega, rfl, hlt, p'⟩, fun x H3 y => ?_⟩
      have y := w.yields i H2 x H3 hlt hG2 y
      obtain ⟨F, os, st, acc, xs, R, e, hpx, hpF, hpo, rx, po⟩ := pv
      obtain ⟨d, hd, yd⟩ := hY i H2 x H3 hlt (fun a o h1 h2 => e.keep a o h1 h2) y
      obtain ⟨F3, e3, R3, rd⟩ := yd_ok R e.fz yd
      have hdrop : items.drop i = d :: items.drop (i + 1) := by
        obtain ⟨hl, he⟩ := List.getElem?_eq_some_iff.mp hd
        rw [← he]
        exact List.drop_eq_getElem_cons hl
      rw [hdrop] at po
      unfold lc2M at po
      cases hb : bindT tgt d (wipeE env own) with
      | none => rw [hb] at po; exact False.elim po
      | some env1 =>
        rw [hb] at po
        dsimp only at po
        refine hg B F3 os (L2.wipe σ own) H3 (wipeE env own) st x d env1 _ R3 rd hb fun σ2 R4 hk => ⟨?_, ?_⟩
        · refine wipe_same ?_ fun i hi => hk i ?_
          · have l1 := R4.len
            have l2 := bindT_len hb
            have l3 := R3.len
            rw [wipe_length] at l3
            omega
          · cases tgt with
            | nm j => exact fun z => hi (hin _ (by rw [z]; exact List.mem_cons_self))
            | tp is => exact fun z => hi (hin _ z)
        · refine ⟨B, F3, os, env1, st, R4, true, rfl, fun F5 os5 H5 e5 k5 => iteT ?_⟩
          -- the inner source
          have RD := (R4.ext e5 k5).datE
          refine ⟨B, F5, os5, datE env1, st, RD, ?_⟩
          cases hm1 : im1 (datE env1) st with
          | stk => rw [hm1] at po; exact False.elim po
          | exc c d st2 => rw [hm1] at po; exact False.elim po
          | ok items1 st2 =>
            rw [hm1] at po
            dsimp only at po
            intro J1 F6 os6 H6 e6 k6 it1
            obtain ⟨G1, Y1, w1, hG1, hY1⟩ := it1
            have R6 := (RD.ext e6 k6).wipe own1
            have hdat : ∀ (i : Nat) (x : Val), (wipeE (datE env1) own1)[i]? = some (some x) → ∃ d, x = .dat d := wipeE_dat (fun i x h => by obtain ⟨d, e, _⟩ := datE_get h; exact ⟨d, e⟩) own1
            have eo3 : Ext F os H2 F6 os6 H6 := (e3.trans e5).trans e6
            have RO : Rel (kx X ec) B F6 os6 (L2.wipe σ own) H6 (wipeE env own) st2 := R.ext eo3 k6
            have E06 := e.trans eo3
            let Pw : Nat → Hp → Prop := fun j H7 => ∃ F os st acc xs, Rel (kx X ec) B F os (L2.wipe σ own) H7 (wipeE env own) st ∧ Rel (kx X ec) B F os (L2.wipe σ2 own1) H7 (wipeE (datE env1) own1) st ∧
              Ext F1 os1 H1 F os H7 ∧ Same F6 F ∧ H7 p = some (.lst xs) ∧ F p = none ∧ p ∉ os ∧ Drs (kx X ec) F xs acc ∧
              ∃ acc' st', lcM tgt1 yesM me (items1.drop j) acc (wipeE (datE env1) own1) st = .ok (.fr (.lst acc')) st' ∧
                Po (kx X ec) W σ F0 os0 H (lc2M tgt im1 own1 tgt1 me (items.drop (i + 1)) acc' (wipeE env own) st') Q
            have start : Pw 0 H6 := by
              refine ⟨F6, os6, st2, acc, xs, RO, R6, E06, Same.refl _, eo3.keep _ _ hpx hpo, eo3.fnone hpF hpx, eo3.nos hpo hpx, Drs.mono eo3.fz _ _ rx, ?_⟩
              rw [List.drop_zero]
              revert po
              cases lcM tgt1 yesM me items1 acc (wipeE (datE env1) own1) st2 with
              | stk => exact fun z => False.elim z
              | exc c d s => exact fun z => False.elim z
              | ok v s =>
                cases v with
                | fr c =>
                  cases c with
                  | lst acc' => exact fun po => ⟨acc', s, rfl, po⟩
                  | dk _ => exact fun z => False.elim z
                | _ => exact fun z => False.elim z
            refine ⟨fun j k H7 => k = items1.length - j ∧ j ≤ items1.length ∧ Pw j H7, ⟨items1.length, by simp, Nat.zero_le _, start⟩, ?_⟩
            rintro j k H7 ⟨rfl, hj, pw⟩
            obtain ⟨F7, os7, st7, acc7, xs7, RO7, RI7, E7, s67, hpx7, hpF7, hpo7, rx7, acc', st', hlc, po7⟩ := pw
            have hst7 : Stays false F6 os6 H6 H7 := s67.trans RO7.ok.sub
            have hG7 : G1 H7 := hG1 H7 hst7
            by_cases hlt1 : j < items1.length
            · refine .inr ⟨w1.goes j H7 hlt1 hG7, Pw (j + 1), fun H' p' => ⟨items1.length - (j + 1), by omega, rfl, hlt1, p'⟩, fun x1 H8 y1 => ?_⟩
              have y1 := w1.yields j H7 x1 H8 hlt1 hG7 y1
              obtain ⟨d1, hd1, yd1⟩ := hY1 j H7 x1 H8 hlt1 hst7 y1
              obtain ⟨F8, e8, R8, rd1⟩ := yd_ok RI7 s67 yd1
              have hdrop1 : items1.drop j = d1 :: items1.drop (j + 1) := by
                obtain ⟨hl, he⟩ := List.getElem?_eq_some_iff.mp hd1
                rw [← he]
                exact List.drop_eq_getElem_cons hl
              rw [hdrop1] at hlc
              unfold lcM at hlc
              cases hb1 : bindT tgt1 d1 (wipeE (datE env1) own1) with
              | none => rw [hb1] at hlc; cases hlc
              | some env2 =>
                rw [hb1] at hlc
                dsimp only [yesM] at hlc
                refine hg1 B F8 os7 (L2.wipe σ2 own1) H8 (wipeE (datE env1) own1) st7 x1 d1 env2 _ R8 rd1 hb1 fun σ3 R9 hk1 => ⟨?_, ?_⟩
                · refine wipe_same ?_ fun i hi => hk1 i ?_
                  · have l1 := R9.len
                    have l2 := bindT_len hb1
                    have l3 := R8.len
                    rw [wipe_length] at l3
                    omega
                  · cases tgt1 with
                    | nm j => exact fun z => hi (hin1 _ (by rw [z]; exact List.mem_cons_self))
                    | tp is => exact fun z => hi (hin1 _ z)
                · refine ⟨B, F8, os7, env2, st7, R9, true, rfl, fun F10 os10 H10 e10 k10 => iteT ⟨B, F10, os10, env2, _, R9.ext e10 k10, Po.dat ?_⟩⟩
                  cases hme : me env2 st7 with
                  | stk => rw [hme] at hlc; cases hlc
                  | exc c d st4 => rw [hme] at hlc; cases hlc
                  | ok u st4 =>
                    rw [hme] at hlc
                    dsimp only [Ou.bind] at hlc ⊢
                    cases hz : asDat u with
                    | none => rw [hz] at hlc; cases hlc
                    | some z =>
                      rw [hz] at hlc
                      dsimp only at hlc
                      split at hlc
                      · rename_i hlen
                        intro y F11 os11 H11 e11 k11 r11 f11
                        have ee := (e8.trans e10).trans e11
                        have hp11 := ee.keep _ _ hpx7 hpo7
                        have ef := ee.fnone hpF7 hpx7
                        have eo := ee.nos hpo7 hpx7
                        have E11 := E7.trans ee
                        have RO11 : Rel (kx X ec) B F11 os11 (L2.wipe σ own) H11 (wipeE env own) st4 := RO7.ext ee k11
                        have RI11 : Rel (kx X ec) B F11 os11 (L2.wipe σ2 own1) H11 (wipeE (datE env1) own1) st4 := RI7.ext ee k11
                        refine ⟨xs7, hp11, by rw [rx7.len]; exact hlen, F11, os11, st4, acc7 ++ [z], xs7 ++ [y], R1.writeN hp RO11 ef eo, RI11.writeD hdat hBp ef eo, ⟨E11.fz, fun a o h1 h2 => ?_, E11.new, E11.os, fun a h => upd_ne_none (E11.dom a h)⟩, s67.trans ee.fz, upd_same, ef, eo, ?_, acc', st', hlc, po7⟩
                        · rw [upd_ne (ne_of_none h1 hp)]; exact E11.keep a o h1 h2
                        · cases r11 with
                          | dat r11 => exact (Drs.mono ee.fz _ _ rx7).append (.cons r11 .nil)
                      · cases hlc
            · have ej : j = items1.length := by omega
              subst ej
              refine .inl ⟨w1.stops H7 hG7, F7, os7, st7, acc7, xs7, RO7, E7, hpx7, hpF7, hpo7, rx7, ?_⟩
              rw [List.drop_length] at hlc
              unfold lcM at hlc
              cases hlc
              exact po7
    · have ei : i = items.length := by omega
      subst ei
      obtain ⟨F, os, st, acc, xs, R, e, hpx, hpF, hpo, rx, po⟩ := pv
      rw [List.drop_length] at po
      exact .inl ⟨w.stops H2 hG2, po (.ref p) F os H2 (e1.trans e) R.ok (.fr hpF hpo hpx (.lst rx)) (Frs.new (e1.nn hp))⟩
theorem pe_comp2 {elt te iter te1 iter1 : Expr} {scope : Scope} {own : List (Str × Nat)} {own1 : List Nat} {im im1 : IM} {tgt tgt1 : Tg} {g g1 : TG} {me : EM} (hc : X.calm = true) (hN : X.N.Nodup) (hi : PI X te iter (tI pr (kx X ec) true W im)) (ok : BlkOk X.N X.env.scope scope own) (hv : ∀ i ∈ own1, i ∈ own.map (·.2))
    (hgp : ∀ (s : Shared) (H : Hp) (C : Addr) (cl : List (Str × Addr)) (fp : List Addr), PG (X.blk s H scope (compEnvC scope cl C X.env) fp) te g)
    (hi1 : ∀ (s : Shared) (H : Hp) (C : Addr) (cl : List (Str × Addr)) (fp : List Addr), PI (X.blk s H scope (compEnvC scope cl C X.env) fp) te1 iter1 (tI pr1 (kx X ec) false W0 im1))
    (hgp1 : ∀ (s : Shared) (H : Hp) (C : Addr) (cl : List (Str × Addr)) (fp : List Addr), PG (X.blk s H scope (compEnvC scope cl C X.env) fp) te1 g1)
    (he : ∀ (s : Shared) (H : Hp) (C : Addr) (cl : List (Str × Addr)) (fp : List Addr), PE (X.blk s H scope (compEnvC scope cl C X.env) fp) elt (tM (kx X ec) W0 me)) (hg : TgOk pr X ec tgt g) (hin : ∀ i ∈ tgIx tgt, i ∈ own.map (·.2)) (hg1 : TgOk pr1 X ec tgt1 g1) (hin1 : ∀ i ∈ tgIx tgt1, i ∈ own1) (hs : ∀ x, foldedSetIterable iter X.env x = pure x := by intro _; rfl)
    (hs1 : ∀ env x, foldedSetIterable iter1 env x = pure x := by intro _ _; rfl) :
    PE X (.ListComp elt [⟨te, iter, [], 0⟩, ⟨te1, iter1, [], 0⟩] scope pos) (tM (kx X ec) W (comp2M im (own.map (·.2)) tgt im1 own1 tgt1 me)) :=
  (pe_lc2 hc hN hi ok hv hgp (fun _ _ _ _ _ => pts_n) hi1 hgp1 (fun _ _ _ _ _ => pts_n) he hs hs1).imp fun _ _ _ => comp2_ok hg hin hg1 hin1
end
end Pl

set_option Elab.async false
set_option linter.all false
set_option maxRecDepth 100000
set_option maxHeartbeats 4000000
/-! enumerate(list, start=1) -/
namespace Zm
open PySem PySem.Spec PyProof.Rows L2
/-- a list, its places counted from 1 on -/
def srcS : Src where
  it := fun h i l k => ∃ j, k = j + 1 ∧ h.IsListIter i l j
  sq := fun h l us => ∃ vs : Array Value, us = #[Value.none] ++ vs ∧ h.IsList l vs
  nx := fun a b c d => by
    obtain ⟨j, rfl, a⟩ := a
    obtain ⟨vs, rfl, b⟩ := b
    exact wpAny_nextOf_list_item a b (by simpa [Array.getElem?_append] using c) fun g x y => d g ⟨_, rfl, x⟩ y
  fi := fun h a b c d => by
    obtain ⟨j, rfl, a⟩ := a
    obtain ⟨vs, rfl, b⟩ := b
    exact wpAny_nextOf_list_end h a b (by simpa [Array.getElem?_append] using c) d
  itK := fun ⟨j, e, a⟩ b => ⟨j, e, a.at b⟩
  sqK := fun ⟨vs, e, a⟩ b => ⟨vs, e, a.at b⟩
  ob := fun ⟨_, _, o, e, _, d⟩ => ⟨o, e, fun v q => by rw [d] at q; cases q⟩
def hL (h : Heap) (a : Addr) : Heap := h.push { cls := .type "list_iterator", data := .fields #[.ref a, .int 0 0] }
theorem es_meets (a : Addr) (us : Array Value) (t : Tok) :
    Meets (Builtin.«enumerate.__new__» ⟨[.type "enumerate", .ref a], [(("start" : Str), .int 1 t)]⟩) (fun _ R s => s.heap.IsList a us ∧ R (.ok (.ret (.ref (hL s.heap a).objs.size))) { s with heap := (hL s.heap a).push { cls := .type "enumerate", data := .fields #[.none, .bool false, .ref s.heap.objs.size, rawInt 1, .none, .none] } }) :=
  .of_wp fun prog w A R s z => by
    obtain ⟨hp, g, d, tk, os⟩ := s
    obtain ⟨za, z⟩ := z
    have se := sub_enumerate
    obtain ⟨⟨cls, dd, dt, sl⟩, ho, hc, n, hd⟩ := id za
    simp only at hc hd
    subst hc
    subst hd
    have La : Heap.IsList (Shared.heap ⟨hp, g, d, tk, os⟩) a us := za
    wp_walk using AutoSeq1.wpAny_loadPart' ho
    refine wpAny_stack_any fun st => wpAny_pure ?_
    split
    · rename_i c _ _ _ _ _
      cases (c == Value.type "enumerate")
      · wp_walk using AutoSeq1.wpAny_loadPart' ho, wpAny_pyIter_list La
        exact ⟨_, rfl, z⟩
      · wp_walk using AutoSeq1.wpAny_loadPart' ho, wpAny_pyIter_list La
        exact ⟨_, rfl, z⟩
    · wp_walk using AutoSeq1.wpAny_loadPart' ho, wpAny_pyIter_list La
      exact ⟨_, rfl, z⟩
section
variable {P : Program} {w : World} {A : Around} {E : Value → Shared → Prop} {s : Shared}
theorem init_kw {T nid : String} {me a : Value} {kw : List (Str × Value)} (lk : typeLookup (.type T) "__init__" = pure (some (.builtin "object.__init__"))) (mk : Bind.madeBy (.type T) = pure (some nid)) (nn : (some nid != some "object.__new__") = true) :
    Meets (Builtin.«object.__init__» ⟨[me, a], kw⟩) (fun _ R s => s.TypeIs me T ∧ R (.ok (.ret .none)) s) := Meets.of_wp fun prog w A R s hs => by
  obtain ⟨ty, q⟩ := hs
  repeat (any_goals (first | assumption | wp_step | fail))
  exact ⟨_, rfl, q⟩
/-- a type called with keywords -/
theorem type_kw {T nid : String} {Bn : Builtin} {l : Value} {kw : List (Str × Value)} {S : PySem.Spec} {Q : Value → Shared → Prop} (tc : TypeCalled T nid "object.__init__") (nn : (some nid != some "object.__new__") = true)
    (c1 : checkTypeCall T ⟨[l], kw⟩ = pure ()) (c2 : checkBuiltinCall nid ⟨[.type T, l], kw⟩ = pure ()) (c3 : ∀ o, argsOk "object.__init__" ⟨[o, l], kw⟩) (eN : entryFor table nid = some Bn) (m : Meets (Bn ⟨[.type T, l], kw⟩) S)
    (h : S A.in1 (wants (fun o t => t.TypeIs o T ∧ Q o t) E) s) : wpAny (model P w) A (call (.type T) [l] kw) Q E s := by
  obtain ⟨c, tl, mro⟩ := tc.mro
  have made := tc.made
  have sub := tc.sub
  have i1 := tc.init.lookup
  refine wpAny_call (codeAny_of_tree (show wpAny _ _ (callAny (.type T) _) _ _ _ from wpAny_pure ⟨Code.quiet_builtin _ (by decide +kernel), codeAny_builtin F.entry_type_call ?_⟩))
  rw [Around.under_plain (weight_type_call_type T [l] kw) (units_type_call_type T [l] kw)]
  have n1 := tc.notType
  have n2 := tc.canCreate
  repeat (any_goals (first | assumption | wp_step | fail))
  refine codeAny_mono (codeAny_call_builtin tc.plain eN (wpAny_of_eq c2 (m P w A.in1 _ s h))) fun r t hr => ?_
  cases r with
  | error e => exact hr
  | ok f =>
    cases f with
    | ret o =>
      obtain ⟨ty, q⟩ := hr
      have b1 := tc.init.bind o
      repeat (any_goals (first | assumption | wp_step | fail))
      refine codeAny_mono (codeAny_call_builtin tc.init.plain F.entry_object_init (tc.init.check _ _ _ _ _ _ _ _ ty (c3 o) (init_kw i1 made nn P w A.in1 (wants (fun r u => r = .none ∧ Q o u) E) t ⟨ty, rfl, q⟩))) fun r u hr2 => ?_
      cases r with
      | error e => exact hr2
      | ok f2 =>
        cases f2 with
        | ret x =>
          obtain ⟨rfl, q2⟩ := hr2
          repeat (any_goals (first | assumption | wp_step | fail))
        | _ => exact hr2.elim
    | _ => exact hr.elim
theorem es_c1 (a : Value) (t : Tok) : checkTypeCall "enumerate" ⟨[a], [(("start" : Str), .int 1 t)]⟩ = pure () := by kernel_rfl
theorem es_c2 (a : Value) (t : Tok) : checkBuiltinCall "enumerate.__new__" ⟨[.type "enumerate", a], [(("start" : Str), .int 1 t)]⟩ = pure () := by kernel_rfl
theorem es_c3 (o a : Value) (t : Tok) : argsOk "object.__init__" ⟨[o, a], [(("start" : Str), .int 1 t)]⟩ := by unfold argsOk; kernel_rfl
theorem es_call {a : Addr} {us : Array Value} {t : Tok} {Q : Value → Shared → Prop} (ha : s.heap.IsList a us)
    (q : ∀ g, IsEnum g (s.heap.objs.size + 1) s.heap.objs.size 1 .none → g.IsListIter s.heap.objs.size a 0 → (∀ c o, s.heap.get? c = some o → g.get? c = some o) → Q (.ref (s.heap.objs.size + 1)) { s with heap := g }) :
    wpAny (model P w) A (call (.type "enumerate") [.ref a] [(("start" : Str), .int 1 t)]) Q E s := by
  refine type_kw F.called_enumerate (by decide) (es_c1 _ t) (es_c2 _ t) (fun o => es_c3 o _ t) F.entry_enumerate_new (es_meets a us t) ⟨ha, ?_⟩
  have z1 : (hL s.heap a).objs.size = s.heap.objs.size + 1 := Heap.size_push ..
  have p2 : ((hL s.heap a).push { cls := .type "enumerate", data := .fields #[.none, .bool false, .ref s.heap.objs.size, rawInt 1, .none, .none] }).get? (hL s.heap a).objs.size = some _ := Heap.get?_push_size _ rfl
  have p1 : ((hL s.heap a).push { cls := .type "enumerate", data := .fields #[.none, .bool false, .ref s.heap.objs.size, rawInt 1, .none, .none] }).get? s.heap.objs.size = some _ := Heap.get?_push_of_some _ (Heap.get?_push_size _ rfl)
  show _ ∧ _
  rw [z1] at p2 ⊢
  exact ⟨⟨_, p2, rfl⟩, q _ p2 ⟨_, p1, rfl, rfl⟩ fun c o x => Heap.get?_push_of_some _ (Heap.get?_push_of_some _ x)⟩
end
/-- the list at a as it stands at each turn, beside its places from 1 on -/
def IteS (K : PySem.W.Frag) (a : Addr) : It :=
  ⟨fun i H => ∃ (xs : List V) (x : V), SqL K H a xs ∧ xs[i]? = some x, fun i H v H' => ∃ T x, v = .ref T ∧ H T = none ∧ H' = upd H T (.tup [.int ((i + 1 : Nat) : Int), x]) ∧ ∀ xs, SqL K H a xs → xs[i]? = some x, fun i H => ∃ xs : List V, SqL K H a xs ∧ xs.length ≤ i⟩
theorem es_turn {P : Program} {w : World} {K : PySem.W.Frag} {elts : List Expr} {kk : Nat} {tpos : Pos} (a e j : Addr) :
    Turn P w K (.Tuple elts kk tpos) (IteS K a) [e, j] e (fun i h => (∃ old, IsEnum h e j ((i + 1 : Nat) : Int) old) ∧ srcS.it h j a (i + 1) ∧ e ≠ j) where
  mem := by simp
  obj := fun i h st c hc => by
    obtain ⟨⟨old, ge⟩, gi, _⟩ := st
    rcases two hc with z | z <;> subst z
    · exact ⟨_, ge, fun v q => nomatch q⟩
    · exact srcS.ob gi
  keep := fun i h g st k => by
    obtain ⟨⟨old, ge⟩, gi, ne⟩ := st
    exact ⟨⟨old, k e (by simp) _ ge⟩, srcS.itK gi fun o q => k j (by simp) o q, ne⟩
  item := by
    intro X hP hw hK hc i pins s σ H E I hf st go
    subst hP hw hK
    obtain ⟨⟨old, ge⟩, gi, ne⟩ := st
    obtain ⟨xs, x, sx, ex⟩ := go
    obtain ⟨i1, r1, p1, _⟩ := I.list sx
    obtain ⟨u, eu, ru⟩ := r1.get ex
    have le : e < s.heap.objs.size := Heap.lt_size ge
    have lj : j < s.heap.objs.size := by obtain ⟨_, q, _⟩ := srcS.ob gi; exact Heap.lt_size q
    have q1 : srcS.sq s.heap a (#[Value.none] ++ i1.toArray) := ⟨_, rfl, p1.isList⟩
    refine en_pn (S := srcS) ge gi q1 (u := u) (by simpa [Array.getElem?_append] using eu) ne fun g go gi' hT kp => ?_
    refine ⟨_, rfl, wpAny_letOwnedTupleGo_enum (s := { s with heap := g, toks := s.toks + 1 }) go fun g' ge' sb => ?_⟩
    have hT2 : g'.get? s.heap.objs.size = some { cls := .type "tuple", data := .seq #[.int ((i + 1 : Nat) : Int) s.toks, u] } := (sb.2 _ (Nat.ne_of_gt le)).trans hT
    have ok : ObjOk X.prog X.w (upd H s.heap.objs.size (.tup [.int ((i + 1 : Nat) : Int), x])) g' s.heap.objs.size (.tup [.int ((i + 1 : Nat) : Int), x]) := ⟨by show 2 ≤ sizeLine; decide, [.int ((i + 1 : Nat) : Int) s.toks, u], .cons ⟨_, rfl⟩ (.cons ru .nil), ⟨_, hT2, rfl, _, rfl⟩⟩
    have J : Inv X pins σ (upd H s.heap.objs.size (.tup [.int ((i + 1 : Nat) : Int), x])) { s with heap := g', toks := s.toks + 1 } := I.turnedNew (ch := [e, j]) (fun b o hb q => by
      obtain ⟨n0, n1⟩ := out2 hb
      exact (sb.2 b n0).trans (kp b o n0 n1 q)) hf (Nat.le_refl _) ok
    refine ⟨.ref s.heap.objs.size, _, J, rfl, ⟨_, x, rfl, I.hok.fresh (Nat.le_refl _), rfl, fun ys hy => by rw [I.list_inj hy sx]; exact ex⟩, ⟨⟨u, ?_⟩, srcS.itK gi' fun o q => (sb.2 j ne.symm).trans q, ne⟩, fun c hcm => ?_⟩
    · have e1 : ((i + 1 + 1 : Nat) : Int) = ((i + 1 : Nat) : Int) + 1 := by omega
      rw [e1]
      exact ge'
    · have lt : c < s.heap.objs.size := by
        rcases two hcm with z | z <;> subst z
        · exact le
        · exact lj
      rw [upd_ne (Nat.ne_of_lt lt)]
      exact (hf c hcm).1
  done := by
    intro X hP hw hK hc i pins s σ H E I hf st go
    subst hP hw hK
    obtain ⟨⟨old, ge⟩, gi, ne⟩ := st
    obtain ⟨xs, sx, no⟩ := go
    obtain ⟨i1, r1, p1, _⟩ := I.list sx
    have l1 := r1.length
    have q1 : srcS.sq s.heap a (#[Value.none] ++ i1.toArray) := ⟨_, rfl, p1.isList⟩
    obtain ⟨f0, f1, f2, f3, f4, f5⟩ := hf j (by simp)
    exact en_pe (S := srcS) (I.ok.hd hc) ge gi q1 (by simp; omega) fun g eb => ⟨rfl, I.turned (t' := s.toks) (fun b o hb q => eb b o hb q) f0 f1 f3 f4 f5⟩
  self := fun A i s Q E st h => by
    obtain ⟨⟨_, ge⟩, _⟩ := st
    exact wpAny_pyIter_enum ge h
theorem cw_type {M : Model} {A : Around} {E : Value → Shared → Prop} {s : Shared} {env : Env} {pos : Pos} {T : String} {e : Expr} {rest : List Expr} {kws : List Keyword} {Q : Value → Shared → Prop}
    (h : wpAny M A (spliced (backTo pos (starEach (e :: rest) env))) (fun vs t => wpAny M A (evalAll ((backToKw pos (keywordEach kws env)).map (·.2))) (fun ks u => wpAny M A (call (.type T) vs (((backToKw pos (keywordEach kws env)).filterMap (·.1)).zip ks)) Q E u) E t) E s)
    (he : starEach (e :: rest) env = (false, eval e env) :: starEach rest env) (h1 : (backTo pos (starEach (e :: rest) env)).any (·.1) = false) (h2 : (backToKw pos (keywordEach kws env)).any (·.1.isNone) = false) (h3 : (backToKw pos (keywordEach kws env)).all (·.1.isSome) = true) :
    wpAny M A (callWith pos (.type T) [] (backTo pos (starEach (e :: rest) env)) (backToKw pos (keywordEach kws env))) Q E s := by
  unfold callWith
  have ev := evalArgs_kw2 (f := .type T) (Q := fun x t => wpAny M A (call (.type T) ([] ++ x.pos) x.kw) Q E t) h3 h he
  refine wpAny_bind (wpAny_holding (wpAny_mono ev (fun x t q => wpAny_bind (wpAny_standAt ?_)) fun _ _ z => z))
  simp only [h1, h2, Bool.or_false]
  exact wpAny_bind (wpAny_pure (wpAny_bind (wpAny_mono q (fun r u hr => wpAny_bind (wpAny_holding (wpAny_point (wpAny_pure hr)))) fun _ _ z => z)))
def iEnS (K : PySem.W.Frag) (ta : TA) : TI := fun σ H R => ta σ H fun vs H1 => ∃ a xs, vs = [.ref a] ∧ SqL K H1 a xs ∧ R (IteS K a) H1
theorem pi_enS {X : Cx} {e : Expr} {ta : TA} {p pos tpos p1 p2 : Pos} {elts : List Expr} {kk k1 : Nat} (hg : Gl X "enumerate") (hm : X.mg "enumerate" = none) (ha : PA X [e] ta) (hs : starEach [e] X.env = (false, eval e X.env) :: starEach [] X.env := by rfl)
    (h1 : (backTo pos (starEach [e] X.env)).any (·.1) = false := by rfl) (h2 : (backToKw pos (keywordEach [⟨some "start", .Constant (.int 1) k1 p1, p2⟩] X.env)).any (·.1.isNone) = false := by rfl) (h3 : (backToKw pos (keywordEach [⟨some "start", .Constant (.int 1) k1 p1, p2⟩] X.env)).all (·.1.isSome) = true := by rfl) :
    PI X (.Tuple elts kk tpos) (.Call (.Name "enumerate" p) [e] [⟨some "start", .Constant (.int 1) k1 p1, p2⟩] pos) (iEnS X.K ta) := by
  refine ⟨fun pins s σ H R I h => ?_⟩
  refine wpAny_Call_Name_kw (ld_blt I hg hm boot_enumerate (cw_type (thn (ha.run pos pins s σ H _ I h) fun us s1 ⟨vs, H1, I1, r1, q1⟩ => kws_cons ?_) hs h1 h2 h3))
  refine thn ((pe_int (X := X) (i := 1)).run pins s1 σ H1 (fun v H' => v = .int 1 ∧ H' = H1) I1 ⟨rfl, rfl⟩) fun v s2 ⟨x, H2, I2, r2, q2⟩ => kws_nil ?_
  obtain ⟨rfl, rfl⟩ := q2
  obtain ⟨t, rfl⟩ := r2
  obtain ⟨a, xs, ex, sx, q⟩ := q1
  subst ex
  cases r1 with
  | cons r rr =>
    cases rr
    cases r
    have big : ∀ c, c ∈ [s2.heap.objs.size + 1, s2.heap.objs.size] → s2.heap.objs.size ≤ c := fun c hcm => by
      rcases two hcm with z | z <;> subst z
      · exact Nat.le_add_right _ _
      · exact Nat.le_refl _
    obtain ⟨i1, rv, p1, _⟩ := I2.list sx
    refine es_call p1.isList fun g ge gi kp => wpAny_pyIter_enum ge ?_
    exact ⟨s2.heap.objs.size + 1, [s2.heap.objs.size + 1, s2.heap.objs.size], _, _, H2, rfl, I2.kept (t' := s2.toks) kp, es_turn a (s2.heap.objs.size + 1) s2.heap.objs.size, ⟨⟨.none, ge⟩, ⟨0, rfl, gi⟩, Nat.succ_ne_self _⟩, fun c hcm => I2.fpOk (big c hcm) (I2.hok.fresh (big c hcm)), q⟩
theorem es_walk {K : PySem.W.Frag} {a : Addr} {xs : List V} : Walk (IteS K a) xs.length (fun H => SqL K H a xs) (YPair (fun i => some (.int ((i + 1 : Nat) : Int))) fun i => xs[i]?) where
  goes := fun i H hi g => ⟨xs, xs[i], g, List.getElem?_eq_getElem hi⟩
  stops := fun H g => ⟨xs, g, Nat.le_refl _⟩
  yields := fun i H x H' hi g y => by
    obtain ⟨T, u, e1, e2, e3, e4⟩ := y
    exact ⟨T, _, u, e1, e2, e3, rfl, e4 xs g⟩
end Zm
namespace Pl
open PySem PySem.Spec PyProof.Rows L2 Zm
section
variable {pr : Bool} {X : Kx} {blk : Bool} {F H : Hp} {os : List Addr} {st : List Cn} {p : Addr} {xs : List V} {ds : List D}
theorem itok_enumS (k : StOk X F os H st) (hp : SqL X.K F p xs) (r : Drs X F xs ds) : ItOk true X blk F os H (IteS X.K p) (enumD 1 ds) := by
  have w := @es_walk X.K p xs
  rw [r.len, ← enumD_len ds 1] at w
  refine ⟨_, _, w, fun H' h => Same.sqL (stays_same k h) hp, ?_⟩
  intro i H1 x H2 hi hs y
  obtain ⟨T, a, b, e1, e2, e3, e4, e5⟩ := y
  cases e4
  obtain ⟨d, hd, rd⟩ := r.get e5
  refine ⟨_, enumD_get ds 1 i d hd, .inr ⟨T, _, b, _, d, e1, e2, e3, rfl, ?_, rd, .inl rfl⟩⟩
  rw [Nat.add_comm 1 i]
  exact .int _
end
section
variable {pr : Bool} {X : Cx} {ec : List (Addr × Str)} {W : WX} {blk : Bool} {e : Expr} {m : EM} {pos : Pos}
def ensI (r : AM) : IM := fun env st => (r env st).bindI fun vs st1 => match vs with
  | [.dat (.list ds)] => .ok (enumD 1 ds) st1
  | _ => .stk
theorem pi_ens {r : AM} {p tpos p1 p2 : Pos} {elts : List Expr} {kk k1 : Nat} (hg : Gl X "enumerate") (hm : X.mg "enumerate" = none) (ha : PA X [e] (tA (kx X ec) W r)) (hs : starEach [e] X.env = (false, eval e X.env) :: starEach [] X.env := by rfl)
    (h1 : (backTo pos (starEach [e] X.env)).any (·.1) = false := by rfl) (h2 : (backToKw pos (keywordEach [⟨some "start", .Constant (.int 1) k1 p1, p2⟩] X.env)).any (·.1.isNone) = false := by rfl) (h3 : (backToKw pos (keywordEach [⟨some "start", .Constant (.int 1) k1 p1, p2⟩] X.env)).all (·.1.isSome) = true := by rfl) :
    PI X (.Tuple elts kk tpos) (.Call (.Name "enumerate" p) [e] [⟨some "start", .Constant (.int 1) k1 p1, p2⟩] pos) (tI true (kx X ec) blk W (ensI r)) :=
  (pi_enS hg hm ha hs h1 h2 h3).imp fun σ H R h => by
    obtain ⟨B, F, os, env, st, Rl, h⟩ := h
    refine ⟨B, F, os, env, st, Rl, PoI.bindL h ?_⟩
    intro v st1 x F1 os1 H1 ev e1 k1 r1 p1
    split at p1
    · rename_i ds
      cases r1 with
      | cons a b =>
        cases b
        cases a with
        | dat a =>
          cases a with
          | lst h1 h2 => exact ⟨_, _, rfl, SqL.of (k1.sub _ _ h1), p1 _ _ _ _ e1 k1 (itok_enumS k1 (SqL.of h1) h2)⟩
    · exact False.elim p1
end
end Pl

set_option Elab.async false
set_option linter.all false
namespace Pl
open PySem PySem.Spec PyProof.Rows L2
/-! ### what is never reached -/
section
variable {X : Cx} {ec : List (Addr × Str)} {W : WX} {e : Expr} {s : Stmt}
def stkM : EM := fun _ _ => .stk
def stkS : SM := fun _ _ => .stk
theorem pe_stk : PE X e (tM (kx X ec) W stkM) := ⟨fun pins s σ H Q I h => by
  obtain ⟨B, F, os, env, st, R, h⟩ := h
  exact False.elim h⟩
theorem ps_stk : PS X s (tS (kx X ec) W stkS) := ⟨fun pins s σ H Q I h => by
  obtain ⟨B, F, os, env, st, R, h⟩ := h
  exact False.elim h⟩
/-! ### one sign of a text -/
variable {a b : Expr} {ma mb : EM} {pos : Pos}
def gIxS : Val → Val → Option Val
  | .dat (.str x), .dat (.int i) => if Nat.ble x.length sizeLine = true then (match atI x.cps.toList i with
    | some c => some (.dat (.str ⟨#[c]⟩))
    | none => none) else none
  | _, _ => none
theorem snd_ixS {K : Kx} : Snd2 K L2.rIxS gIxS := by
  intro F os H st x y v w z Q k rx ry e q
  unfold gIxS at e
  split at e
  · rename_i x i
    split at e
    · rename_i h0
      split at e
      · rename_i c hc
        cases e
        have := rx.str
        subst this
        have := ry.int
        subst this
        exact ⟨x, i, c, rfl, rfl, Nat.le_of_ble_eq_true h0, hc, q _ F H (Ext.refl _ _ _) k (.dat (.str _)) Frs.dat⟩
      · cases e
    · cases e
  · cases e
theorem pe_ixs (ha : PE X a (tM (kx X ec) W ma)) (hb : PE X b (tM (kx X ec) W mb)) (hp : PlainIx b := by exact fun _ _ => rfl) : PE X (.Subscript a b pos) (tM (kx X ec) W (binM gIxS ma mb)) := pe_sub ix_str snd_ixS ha hb hp
end
end Pl

set_option linter.all false
namespace Ts
/-! fractions -/
def frac (p o : Int) : Int × Int := (p / (Int.gcd p o : Int), o / (Int.gcd p o : Int))
theorem frac_spec {p o : Int} (ho : 0 < o) : ∃ g : Nat, 0 < g ∧ (frac p o).1 * g = p ∧ (frac p o).2 * g = o ∧ 0 < (frac p o).2 ∧ Nat.Coprime (frac p o).1.natAbs (frac p o).2.natAbs := by
  have hg : 0 < Int.gcd p o := Int.gcd_pos_of_ne_zero_right _ (by omega)
  have h1 : ((Int.gcd p o : Nat) : Int) ∣ p := Int.gcd_dvd_left ..
  have h2 : ((Int.gcd p o : Nat) : Int) ∣ o := Int.gcd_dvd_right ..
  refine ⟨Int.gcd p o, hg, Int.ediv_mul_cancel h1, Int.ediv_mul_cancel h2, ?_, ?_⟩
  · have e : (frac p o).2 * (Int.gcd p o : Int) = o := Int.ediv_mul_cancel h2
    have hg' : (0 : Int) < (Int.gcd p o : Int) := by exact_mod_cast hg
    by_cases h : 0 < (frac p o).2
    · exact h
    · have : (frac p o).2 * (Int.gcd p o : Int) ≤ 0 := Int.mul_nonpos_of_nonpos_of_nonneg (by omega) (by omega)
      omega
  · show Nat.gcd _ _ = 1
    have e1 : (frac p o).1.natAbs = p.natAbs / Int.gcd p o := by
      show (p / (Int.gcd p o : Int)).natAbs = _
      rw [Int.natAbs_ediv_of_dvd h1, Int.natAbs_natCast]
    have e2 : (frac p o).2.natAbs = o.natAbs / Int.gcd p o := by
      show (o / (Int.gcd p o : Int)).natAbs = _
      rw [Int.natAbs_ediv_of_dvd h2, Int.natAbs_natCast]
    rw [e1, e2]
    exact Nat.gcd_div_gcd_div_gcd_of_pos_right (by omega)
theorem cop_unique {a b c d : Nat} (hb : 0 < b) (hd : 0 < d) (h1 : Nat.Coprime a b) (h2 : Nat.Coprime c d) (e : a * d = b * c) : a = c ∧ b = d := by
  have x1 : b ∣ d := h1.symm.dvd_of_dvd_mul_left (by rw [e]; exact Nat.dvd_mul_right ..)
  have x2 : d ∣ b := h2.symm.dvd_of_dvd_mul_right (by rw [← e]; exact Nat.dvd_mul_left ..)
  have eb : b = d := Nat.dvd_antisymm x1 x2
  refine ⟨?_, eb⟩
  subst eb
  rw [Nat.mul_comm b c] at e
  exact Nat.eq_of_mul_eq_mul_right hb e
theorem frac_eq {P Q S W : Int} (hQ : 0 < Q) (hW : 0 < W) (hP : 0 ≤ P) (hS : 0 ≤ S) (e : P * W = Q * S) : frac P Q = frac S W := by
  obtain ⟨g, hg, p1, p2, p3, p4⟩ := frac_spec (p := P) hQ
  obtain ⟨k, hk, q1, q2, q3, q4⟩ := frac_spec (p := S) hW
  generalize frac P Q = x at *
  generalize frac S W = y at *
  obtain ⟨a, b⟩ := x
  obtain ⟨c, d⟩ := y
  dsimp only at *
  have hg' : (0 : Int) < g := by exact_mod_cast hg
  have hk' : (0 : Int) < k := by exact_mod_cast hk
  have ha : 0 ≤ a := by
    by_cases h : 0 ≤ a
    · exact h
    · have : a * g < 0 := Int.mul_neg_of_neg_of_pos (by omega) hg'
      omega
  have hc : 0 ≤ c := by
    by_cases h : 0 ≤ c
    · exact h
    · have : c * k < 0 := Int.mul_neg_of_neg_of_pos (by omega) hk'
      omega
  have e2 : a * d = b * c := by
    have : (a * d) * (g * k) = (b * c) * (g * k) := by
      calc (a * d) * (g * k) = (a * g) * (d * k) := by simp only [Int.mul_assoc, Int.mul_comm, Int.mul_left_comm]
        _ = (b * g) * (c * k) := by rw [p1, p2, q1, q2, e]
        _ = (b * c) * (g * k) := by simp only [Int.mul_assoc, Int.mul_comm, Int.mul_left_comm]
    exact Int.eq_of_mul_eq_mul_right (by have := Int.mul_pos hg' hk'; omega) this
  obtain ⟨a', rfl⟩ := Int.eq_ofNat_of_zero_le ha
  obtain ⟨c', rfl⟩ := Int.eq_ofNat_of_zero_le hc
  obtain ⟨b', rfl⟩ := Int.eq_ofNat_of_zero_le (Int.le_of_lt p3)
  obtain ⟨d', rfl⟩ := Int.eq_ofNat_of_zero_le (Int.le_of_lt q3)
  have e3 : a' * d' = b' * c' := by exact_mod_cast e2
  obtain ⟨r1, r2⟩ := cop_unique (by exact_mod_cast p3) (by exact_mod_cast q3) (by simpa using p4) (by simpa using q4) e3
  rw [r1, r2]
theorem frac_zero {o : Int} (ho : 0 < o) : frac 0 o = (0, 1) := by
  rw [frac_eq (P := 0) (Q := o) (S := 0) (W := 1) ho (by omega) (by omega) (by omega) (by simp)]
  rfl
theorem frac_one {o : Int} (ho : 0 < o) : frac 1 o = (1, o) := by
  unfold frac
  simp
/-- the law's sum, not yet in least terms -/
def lSum2 (s : Int × Int) (one : Int × Int) : Int × Int := (s.1 * one.2 + one.1 * s.2, s.2 * one.2)
theorem lSum2_fold {W : Int} (hW : 0 < W) : ∀ (ps : List Int) (s : Int × Int) (S : Int), (∀ p ∈ ps, 0 ≤ p) → 0 < s.2 → 0 ≤ s.1 → 0 ≤ S → s.1 * W = s.2 * S →
    let z := (ps.map fun p => frac p W).foldl lSum2 s
    0 < z.2 ∧ 0 ≤ z.1 ∧ z.1 * W = z.2 * (S + ps.sum)
  | [], s, S, _, h1, h2, h3, h4 => by simpa using ⟨h1, h2, h4⟩
  | p :: ps, s, S, hp, h1, h2, h3, h4 => by
    obtain ⟨g, hg, p1, p2, p3, _⟩ := frac_spec (p := p) hW
    have hp0 : 0 ≤ p := hp p (by simp)
    have hg' : (0 : Int) < g := by exact_mod_cast hg
    have ha : 0 ≤ (frac p W).1 := by
      by_cases h : 0 ≤ (frac p W).1
      · exact h
      · have : (frac p W).1 * g < 0 := Int.mul_neg_of_neg_of_pos (by omega) hg'
        omega
    have e : (frac p W).1 * W = (frac p W).2 * p := by
      calc (frac p W).1 * W = (frac p W).1 * ((frac p W).2 * g) := by rw [p2]
        _ = (frac p W).2 * ((frac p W).1 * g) := by simp only [Int.mul_assoc, Int.mul_comm, Int.mul_left_comm]
        _ = (frac p W).2 * p := by rw [p1]
    have := lSum2_fold hW ps (lSum2 s (frac p W)) (S + p) (fun q hq => hp q (by simp [hq])) (Int.mul_pos h1 p3) (by
      have := Int.mul_nonneg h2 (Int.le_of_lt p3)
      have := Int.mul_nonneg ha (Int.le_of_lt h1)
      show 0 ≤ s.1 * (frac p W).2 + (frac p W).1 * s.2
      omega) (by omega) (by
      show (s.1 * (frac p W).2 + (frac p W).1 * s.2) * W = s.2 * (frac p W).2 * (S + p)
      calc (s.1 * (frac p W).2 + (frac p W).1 * s.2) * W = (s.1 * W) * (frac p W).2 + ((frac p W).1 * W) * s.2 := by
            rw [Int.add_mul]; simp only [Int.mul_assoc, Int.mul_comm, Int.mul_left_comm]
        _ = (s.2 * S) * (frac p W).2 + ((frac p W).2 * p) * s.2 := by rw [h4, e]
        _ = s.2 * (frac p W).2 * (S + p) := by rw [Int.mul_add]; simp only [Int.mul_assoc, Int.mul_comm, Int.mul_left_comm])
    simpa [Int.add_assoc] using this
theorem lSum_frac {W : Int} (hW : 0 < W) (ps : List Int) (hp : ∀ p ∈ ps, 0 ≤ p) :
    let z := (ps.map fun p => frac p W).foldl lSum2 (0, 1)
    frac z.1 z.2 = frac ps.sum W := by
  obtain ⟨h1, h2, h3⟩ := lSum2_fold hW ps (0, 1) 0 hp (by decide) (by decide) (by decide) (by simp)
  exact frac_eq h1 hW h2 (by
    clear h1 h2 h3
    induction ps with
    | nil => simp
    | cons p ps ih =>
      have := ih (fun q hq => hp q (by simp [hq]))
      have := hp p (by simp)
      simp only [List.sum_cons]
      omega) (by simpa using h3)
end Ts

set_option linter.all false
namespace Ts
section
variable {α : Type} [DecidableEq α]
inductive On | all | first | last
deriving DecidableEq
/-- the places of those that stay -/
def staying (o : On) (names : List α) : List Nat := match o with
  | .all => List.range names.length
  | .first => (List.range names.length).filter fun p => decide (∀ x, names[p]? = some x → x ∉ names.take p)
  | .last => (List.range names.length).filter fun p => decide (∀ x, names[p]? = some x → x ∉ names.drop (p + 1))
/-- the law's -/
def lawStay (o : On) (κ : Nat → α) (some : List Nat) : List Nat := match o with
  | .all => some
  | .first => some.filter fun k => (some.filter fun j => κ j = κ k).head? == Option.some k
  | .last => some.filter fun k => (some.filter fun j => κ j = κ k).getLast? == Option.some k
theorem range_map_getD (xs : List Nat) : (List.range xs.length).map (fun p => xs.getD p 0) = xs := by
  apply List.ext_getElem
  · simp
  · intro i h1 h2
    simp at h1
    simp [List.getD_eq_getElem?_getD, h1]
theorem filter_map_getD (xs : List Nat) (q : Nat → Bool) : ((List.range xs.length).filter fun p => q (xs.getD p 0)).map (fun p => xs.getD p 0) = xs.filter q := by
  have := List.filter_map (f := fun p => xs.getD p 0) (p := q) (l := List.range xs.length)
  rw [range_map_getD] at this
  rw [this]
  rfl
theorem headA {κ : Nat → α} {A B : List Nat} {k : Nat} (nd : (A ++ k :: B).Nodup) : (((A ++ k :: B).filter fun j => κ j = κ k).head? = some k) ↔ κ k ∉ A.map κ := by
  have nk : k ∉ A := fun h => (List.nodup_append.mp nd).2.2 k h k (by simp) rfl
  rw [List.filter_append]
  constructor
  · intro hh hm
    obtain ⟨y, hy, ey⟩ := List.mem_map.mp hm
    cases hc : A.filter (fun j => decide (κ j = κ k)) with
    | nil =>
      have : y ∈ A.filter (fun j => decide (κ j = κ k)) := List.mem_filter.mpr ⟨hy, by simpa using ey⟩
      rw [hc] at this
      simp at this
    | cons z zs =>
      rw [hc] at hh
      have hz : z ∈ A := (List.mem_filter.mp (by rw [hc]; simp : z ∈ A.filter (fun j => decide (κ j = κ k)))).1
      have : z = k := by simpa using hh
      exact nk (this ▸ hz)
  · intro hn
    have hnil : A.filter (fun j => decide (κ j = κ k)) = [] := by
      rw [List.filter_eq_nil_iff]
      intro y hy hq
      exact hn (List.mem_map.mpr ⟨y, hy, by simpa using hq⟩)
    rw [hnil]
    simp
theorem lastA {κ : Nat → α} {A B : List Nat} {k : Nat} (nd : (A ++ k :: B).Nodup) : (((A ++ k :: B).filter fun j => κ j = κ k).getLast? = some k) ↔ κ k ∉ B.map κ := by
  have nk : k ∉ B := (List.nodup_cons.mp (List.nodup_append.mp nd).2.1).1
  have e2 : (A ++ k :: B).filter (fun j => decide (κ j = κ k)) = A.filter (fun j => decide (κ j = κ k)) ++ k :: B.filter (fun j => decide (κ j = κ k)) := by
    rw [List.filter_append]
    simp
  rw [e2]
  constructor
  · intro hh hm
    obtain ⟨y, hy, ey⟩ := List.mem_map.mp hm
    cases hc : B.filter (fun j => decide (κ j = κ k)) with
    | nil =>
      have : y ∈ B.filter (fun j => decide (κ j = κ k)) := List.mem_filter.mpr ⟨hy, by simpa using ey⟩
      rw [hc] at this
      simp at this
    | cons z zs =>
      rw [hc] at hh
      have hl : (z :: zs).getLast? = some k := by simpa [List.getLast?_append, List.getLast?_cons] using hh
      have hm2 : k ∈ B.filter (fun j => decide (κ j = κ k)) := by rw [hc]; exact List.mem_of_getLast? hl
      exact nk (List.mem_filter.mp hm2).1
  · intro hn
    have hnil : B.filter (fun j => decide (κ j = κ k)) = [] := by
      rw [List.filter_eq_nil_iff]
      intro y hy hq
      exact hn (List.mem_map.mpr ⟨y, hy, by simpa using hq⟩)
    rw [hnil]
    simp
theorem head_iff {κ : Nat → α} {xs : List Nat} (nd : xs.Nodup) {p : Nat} (h : p < xs.length) {k : Nat} (hk : xs[p] = k) :
    ((xs.filter fun j => κ j = κ k).head? = some k) ↔ κ k ∉ (xs.take p).map κ := by
  have e : xs.take p ++ k :: xs.drop (p + 1) = xs := by
    rw [← hk, ← List.drop_eq_getElem_cons h, List.take_append_drop]
  have := headA (κ := κ) (A := xs.take p) (B := xs.drop (p + 1)) (k := k) (by rw [e]; exact nd)
  rw [e] at this
  exact this
theorem last_iff {κ : Nat → α} {xs : List Nat} (nd : xs.Nodup) {p : Nat} (h : p < xs.length) {k : Nat} (hk : xs[p] = k) :
    ((xs.filter fun j => κ j = κ k).getLast? = some k) ↔ κ k ∉ (xs.drop (p + 1)).map κ := by
  have e : xs.take p ++ k :: xs.drop (p + 1) = xs := by
    rw [← hk, ← List.drop_eq_getElem_cons h, List.take_append_drop]
  have := lastA (κ := κ) (A := xs.take p) (B := xs.drop (p + 1)) (k := k) (by rw [e]; exact nd)
  rw [e] at this
  exact this
theorem stay_eq (o : On) (κ : Nat → α) (xs : List Nat) (nd : xs.Nodup) : (staying o (xs.map κ)).map (fun p => xs.getD p 0) = lawStay o κ xs := by
  cases o with
  | all =>
    show (List.range (xs.map κ).length).map _ = xs
    rw [List.length_map]
    exact range_map_getD xs
  | first =>
    show ((List.range (xs.map κ).length).filter _).map _ = _
    rw [List.length_map]
    show _ = xs.filter _
    rw [← filter_map_getD xs]
    congr 1
    apply List.filter_congr
    intro p hp
    have hp : p < xs.length := by simpa using hp
    have e : xs.getD p 0 = xs[p] := by simp [List.getD_eq_getElem?_getD, hp]
    rw [e]
    have := head_iff (κ := κ) nd hp rfl
    rw [List.getElem?_map, List.getElem?_eq_getElem hp, ← List.map_take]
    by_cases hq : κ xs[p] ∈ (xs.take p).map κ
    · rw [decide_eq_false (by intro z; exact z _ rfl hq)]
      symm
      rw [beq_eq_false_iff_ne]
      exact fun z => (this.mp z) hq
    · rw [decide_eq_true (by intro x hx; cases hx; exact hq)]
      symm
      rw [beq_iff_eq]
      exact this.mpr hq
  | last =>
    show ((List.range (xs.map κ).length).filter _).map _ = _
    rw [List.length_map]
    show _ = xs.filter _
    rw [← filter_map_getD xs]
    congr 1
    apply List.filter_congr
    intro p hp
    have hp : p < xs.length := by simpa using hp
    have e : xs.getD p 0 = xs[p] := by simp [List.getD_eq_getElem?_getD, hp]
    rw [e]
    have := last_iff (κ := κ) nd hp rfl
    rw [List.getElem?_map, List.getElem?_eq_getElem hp, ← List.map_drop]
    by_cases hq : κ xs[p] ∈ (xs.drop (p + 1)).map κ
    · rw [decide_eq_false (by intro z; exact z _ rfl hq)]
      symm
      rw [beq_eq_false_iff_ne]
      exact fun z => (this.mp z) hq
    · rw [decide_eq_true (by intro x hx; cases hx; exact hq)]
      symm
      rw [beq_iff_eq]
      exact this.mpr hq
end
end Ts

set_option linter.all false
namespace Ts
/-! what is reached -/
def wthn (a : Int) : Option Int → Bool
  | none => true
  | some l => decide (a ≤ l)
def reachR (w g : Option Int) : Int → List Int → Nat
  | _, [] => 0
  | nr, a :: as => if wthn a w && wthn (a - nr) g then reachR w g a as + 1 else 0
theorem reachR_le (w g : Option Int) : ∀ (as : List Int) (nr : Int), reachR w g nr as ≤ as.length
  | [], _ => Nat.le_refl _
  | a :: as, nr => by
    unfold reachR
    have := reachR_le w g as a
    split
    · simp; omega
    · simp
/-- the law's turn -/
def lawTurn (w g : Option Int) (s : List Nat × Int × Bool) (k : Nat) (a : Int) : List Nat × Int × Bool :=
  (if (s.2.2 && (wthn a w && wthn (a - s.2.1) g)) = true then k :: s.1 else s.1, a, s.2.2 && (wthn a w && wthn (a - s.2.1) g))
/-- over the touches from the last one back; m: how many are left -/
def lawWalk (w g : Option Int) : List Int → List Nat × Int × Bool → List Nat
  | [], s => s.1
  | a :: as, s => lawWalk w g as (lawTurn w g s as.length a)
theorem lawWalk_off (w g : Option Int) : ∀ (as : List Int) (f : List Nat) (nr : Int), lawWalk w g as (f, nr, false) = f
  | [], _, _ => rfl
  | a :: as, f, nr => by
    unfold lawWalk lawTurn
    simp only [Bool.false_and, Bool.false_eq_true, if_false]
    exact lawWalk_off w g as f a
theorem lawWalk_on (w g : Option Int) : ∀ (as : List Int) (t : Nat) (nr : Int), lawWalk w g as (List.range' as.length t, nr, true) = List.range' (as.length - reachR w g nr as) (reachR w g nr as + t)
  | [], t, nr => by simp [lawWalk, reachR]
  | a :: as, t, nr => by
    unfold lawWalk lawTurn reachR
    simp only [Bool.true_and]
    cases h : (wthn a w && wthn (a - nr) g) with
    | false =>
      simp only [Bool.false_eq_true, if_false]
      rw [lawWalk_off]
      simp
    | true =>
      simp only [if_true]
      have e : as.length :: List.range' (a :: as).length t = List.range' as.length (t + 1) := by
        rw [List.range'_succ]
        rfl
      rw [e, lawWalk_on w g as (t + 1) a]
      have e2 : (a :: as).length - (reachR w g a as + 1) = as.length - reachR w g a as := by simp
      have e3 : reachR w g a as + (t + 1) = reachR w g a as + 1 + t := by omega
      rw [e2, e3]
theorem lawWalk_eq (w g : Option Int) (as : List Int) : lawWalk w g as ([], 0, true) = List.range' (as.length - reachR w g 0 as) (reachR w g 0 as) := lawWalk_on w g as 0 0
/-! rules -/
inductive Sh
  | even
  | places (rows : List (List Int))
  | ages (marks weights : List Int)
structure Rl (α : Type) where
  ks : List α
  w : Option Int
  g : Option Int
  wk : List α
  o : On
  fst : Bool
  n : Nat
  sh : Sh
abbrev Jy (α : Type) := List (α × Int)
/-- what of SHARES is used -/
def ShOk (n : Nat) : Sh → Prop
  | .even => True
  | .places rows => rows.length = n ∧ ∀ i row, rows[i]? = some row → row.length = i + 1 ∧ (∀ x ∈ row, 0 ≤ x ∧ x ≤ 100) ∧ row.sum ≤ 100
  | .ages marks weights => (∀ x ∈ marks, 1 ≤ x ∧ x ≤ 60) ∧ marks.length ≤ 3 ∧ marks.Pairwise (· < ·) ∧ weights.length = marks.length + 1 ∧ ∀ x ∈ weights, 0 ≤ x ∧ x ≤ 9
section
variable {α : Type} [DecidableEq α] [Inhabited α]
def kindAt (j : Jy α) (k : Nat) : α := (j.getD k default).1
def ageAt (j : Jy α) (k : Nat) : Int := (j.getD k default).2
def reachN (r : Rl α) (j : Jy α) : Nat := reachR r.w r.g 0 (j.map (·.2)).reverse
theorem reachN_le (r : Rl α) (j : Jy α) : reachN r j ≤ j.length := by
  have := reachR_le r.w r.g (j.map (·.2)).reverse 0
  rw [List.length_reverse, List.length_map] at this
  exact this
def rch (r : Rl α) (j : Jy α) : List Nat := List.range' (j.length - reachN r j) (reachN r j)
def count (r : Rl α) (j : Jy α) : List Nat := if (rch r j).filter (fun k => decide (kindAt j k ∉ r.wk)) = [] then rch r j else (rch r j).filter fun k => decide (kindAt j k ∉ r.wk)
def pick {β : Type} (r : Rl α) (xs : List β) : List β := if r.fst then xs.take r.n else xs.drop (xs.length - r.n)
def stayed (r : Rl α) (j : Jy α) : List Nat := (staying r.o ((count r j).map (kindAt j))).map fun p => (count r j).getD p 0
def chosen (r : Rl α) (j : Jy α) : List Nat := pick r (stayed r j)
theorem reach_nodup (r : Rl α) (j : Jy α) : (rch r j).Nodup := List.nodup_range'
theorem count_sub (r : Rl α) (j : Jy α) : (count r j).Sublist (rch r j) := by
  unfold count
  split
  · exact List.Sublist.refl _
  · exact List.filter_sublist
theorem count_nodup (r : Rl α) (j : Jy α) : (count r j).Nodup := (count_sub r j).nodup (reach_nodup r j)
theorem stayed_law (r : Rl α) (j : Jy α) : stayed r j = lawStay r.o (kindAt j) (count r j) := stay_eq _ _ _ (count_nodup r j)
theorem stayed_sub (r : Rl α) (j : Jy α) : (stayed r j).Sublist (count r j) := by
  rw [stayed_law]
  cases r.o with
  | all => exact List.Sublist.refl _
  | first => exact List.filter_sublist
  | last => exact List.filter_sublist
theorem chosen_sub (r : Rl α) (j : Jy α) : (chosen r j).Sublist (rch r j) := by
  refine List.Sublist.trans ?_ ((stayed_sub r j).trans (count_sub r j))
  unfold chosen pick
  split
  · exact List.take_sublist _ _
  · exact List.drop_sublist _ _
theorem chosen_lt (r : Rl α) (j : Jy α) : ∀ k ∈ chosen r j, k < j.length := fun k hk => by
  have := (chosen_sub r j).subset hk
  have h := reachN_le r j
  simp [rch, List.mem_range'_1] at this
  omega
theorem chosen_nodup (r : Rl α) (j : Jy α) : (chosen r j).Nodup := (chosen_sub r j).nodup (reach_nodup r j)
theorem chosen_len (r : Rl α) (j : Jy α) : (chosen r j).length ≤ r.n := by
  unfold chosen pick
  split
  · simp; omega
  · simp; omega
/-! shares -/
def cls (sh : Sh) (a : Int) : Nat := match sh with
  | .ages m _ => (m.filter fun x => decide (x ≤ a)).length
  | _ => 0
def shParts (sh : Sh) (cs : List Nat) : List Int × Int := if cs = [] then ([], 1) else match sh with
  | .even => (List.replicate cs.length 1, cs.length)
  | .places rows => (rows.getD (cs.length - 1) [], 100)
  | .ages _ ws => (cs.map fun c => ws.getD c 0, max 1 (cs.map fun c => ws.getD c 0).sum)
def setAll {β : Type} (z : List β) (ps : List (Nat × β)) : List β := ps.foldl (fun z p => z.set p.1 p.2) z
theorem setAll_map {β γ : Type} (f : β → γ) : ∀ (ps : List (Nat × β)) (z : List β), (setAll z ps).map f = setAll (z.map f) (ps.map fun p => (p.1, f p.2))
  | [], _ => rfl
  | p :: ps, z => by
    show (setAll (z.set p.1 p.2) ps).map f = setAll ((z.map f).set p.1 (f p.2)) (ps.map fun p => (p.1, f p.2))
    rw [setAll_map f ps, List.map_set]
theorem setAll_len {β : Type} : ∀ (ps : List (Nat × β)) (z : List β), (setAll z ps).length = z.length
  | [], _ => rfl
  | p :: ps, z => by
    show (setAll (z.set p.1 p.2) ps).length = _
    rw [setAll_len ps]
    simp
theorem setAll_all {β : Type} {P : β → Prop} : ∀ (ps : List (Nat × β)) (z : List β), (∀ x ∈ z, P x) → (∀ p ∈ ps, P p.2) → ∀ x ∈ setAll z ps, P x
  | [], _, h, _ => h
  | p :: ps, z, h, g => setAll_all ps (z.set p.1 p.2) (fun x hx => by
      rcases List.mem_or_eq_of_mem_set hx with h1 | h1
      · exact h x h1
      · exact h1 ▸ g p (by simp)) fun q hq => g q (by simp [hq])
def chParts (r : Rl α) (j : Jy α) : List Int × Int := shParts r.sh ((chosen r j).map fun k => cls r.sh (ageAt j k))
def tParts (r : Rl α) (j : Jy α) : List Int := setAll (List.replicate j.length 0) ((chosen r j).zip (chParts r j).1)
def whole (r : Rl α) (j : Jy α) : Int := (chParts r j).2
def tCredits (r : Rl α) (j : Jy α) : List (Int × Int) := (tParts r j).map fun p => frac p (whole r j)
def kindSum (r : Rl α) (j : Jy α) (x : α) : Int := (((j.zip (tParts r j)).filter fun p => decide (p.1.1 = x)).map (·.2)).sum
def kCredits (r : Rl α) (j : Jy α) : List (Int × Int) := r.ks.map fun x => frac (kindSum r j x) (whole r j)
def given (r : Rl α) (j : Jy α) : Int × Int := frac (tParts r j).sum (whole r j)
theorem shParts_ok {n : Nat} {sh : Sh} (h : ShOk n sh) (cs : List Nat) (hn : cs.length ≤ n) (hc : ∀ a ws, sh = .ages a ws → ∀ c ∈ cs, c < ws.length) : (shParts sh cs).1.length = cs.length ∧ (∀ x ∈ (shParts sh cs).1, 0 ≤ x ∧ x ≤ 100) ∧ 0 < (shParts sh cs).2 := by
  unfold shParts
  split
  · rename_i e
    subst e
    simp
  · rename_i e
    have hp : 0 < cs.length := List.length_pos_iff.mpr e
    cases sh with
    | even => exact ⟨by simp, by simp, by dsimp only; omega⟩
    | places rows =>
      obtain ⟨h1, h2⟩ := h
      have hlt : cs.length - 1 < rows.length := by omega
      have hg : rows[cs.length - 1]? = some rows[cs.length - 1] := List.getElem?_eq_getElem hlt
      obtain ⟨h3, h4, _⟩ := h2 _ _ hg
      have e2 : rows.getD (cs.length - 1) [] = rows[cs.length - 1] := by simp [List.getD_eq_getElem?_getD, hlt]
      dsimp only
      rw [e2]
      exact ⟨by omega, h4, by omega⟩
    | ages m ws =>
      obtain ⟨h1, h2, h3, h4, h5⟩ := h
      refine ⟨by simp, ?_, ?_⟩
      · intro x hx
        obtain ⟨c, hc1, rfl⟩ := List.mem_map.mp hx
        have hlt := hc m ws rfl c hc1
        have e2 : ws.getD c 0 = ws[c] := by simp [List.getD_eq_getElem?_getD, hlt]
        rw [e2]
        have := h5 ws[c] (List.getElem_mem _)
        omega
      · dsimp only
        omega
theorem cls_lt {n : Nat} {sh : Sh} (h : ShOk n sh) (a : Int) : ∀ m ws, sh = .ages m ws → cls sh a < ws.length := by
  intro m ws e
  subst e
  obtain ⟨_, _, _, h4, _⟩ := h
  have := List.length_filter_le (fun x => decide (x ≤ a)) m
  show (m.filter fun x => decide (x ≤ a)).length < ws.length
  omega
theorem chParts_ok {r : Rl α} (h : ShOk r.n r.sh) (j : Jy α) : (chParts r j).1.length = (chosen r j).length ∧ (∀ x ∈ (chParts r j).1, 0 ≤ x ∧ x ≤ 100) ∧ 0 < whole r j := by
  have := shParts_ok h ((chosen r j).map fun k => cls r.sh (ageAt j k)) (by rw [List.length_map]; exact chosen_len r j) (fun a ws e c hc => by
    obtain ⟨k, _, rfl⟩ := List.mem_map.mp hc
    exact cls_lt h _ a ws e)
  rw [List.length_map] at this
  exact this
theorem tParts_len (r : Rl α) (j : Jy α) : (tParts r j).length = j.length := by
  unfold tParts
  rw [setAll_len]
  simp
theorem tParts_ok {r : Rl α} (h : ShOk r.n r.sh) (j : Jy α) : ∀ x ∈ tParts r j, 0 ≤ x ∧ x ≤ 100 := by
  refine setAll_all _ _ (by simp) fun p hp => ?_
  exact (chParts_ok h j).2.1 _ (List.of_mem_zip hp).2
/-! the law's credits -/
/-- the fraction of one that is credited: place spot of them -/
def lawFr (r : Rl α) (j : Jy α) (spot : Nat) : Int × Int := match r.sh with
  | .even => (1, (chosen r j).length)
  | .places rows => frac ((rows.getD ((chosen r j).length - 1) []).getD spot 0) 100
  | .ages _ ws =>
    let ps := (chosen r j).map fun k => ws.getD (cls r.sh (ageAt j k)) 0
    if 0 < ps.sum then frac (ps.getD spot 0) ps.sum else (0, 1)
def enumFrom {β : Type} : Nat → List β → List (Nat × β)
  | _, [] => []
  | n, x :: xs => (n, x) :: enumFrom (n + 1) xs
def lawCredits (r : Rl α) (j : Jy α) : List (Int × Int) := setAll (List.replicate j.length (0, 1)) ((enumFrom 0 (chosen r j)).map fun p => (p.2, lawFr r j p.1))
theorem sum_nonneg : ∀ {ps : List Int}, (∀ x ∈ ps, 0 ≤ x) → 0 ≤ ps.sum
  | [], _ => by simp
  | p :: ps, h => by
    have := sum_nonneg (ps := ps) fun x hx => h x (by simp [hx])
    have := h p (by simp)
    simp only [List.sum_cons]
    omega
theorem sum_zero : ∀ {ps : List Int}, (∀ x ∈ ps, 0 ≤ x) → ps.sum ≤ 0 → ∀ x ∈ ps, x = 0
  | [], _, _ => by simp
  | p :: ps, h, hs => by
    have h1 := sum_nonneg (ps := ps) fun x hx => h x (by simp [hx])
    have h2 := h p (by simp)
    simp only [List.sum_cons] at hs
    have h3 := sum_zero (ps := ps) (fun x hx => h x (by simp [hx])) (by omega)
    intro x hx
    rcases List.mem_cons.mp hx with rfl | hm
    · omega
    · exact h3 x hm
theorem enum_zip {β γ : Type} (f : Nat → γ) : ∀ (xs : List β) (ys : List γ) (n : Nat), ys.length = xs.length → (∀ i y, ys[i]? = some y → f (n + i) = y) → (enumFrom n xs).map (fun p => (p.2, f p.1)) = xs.zip ys
  | [], _, _, _, _ => rfl
  | x :: xs, [], _, h, _ => by simp at h
  | x :: xs, y :: ys, n, h, g => by
    have ih := enum_zip f xs ys (n + 1) (by simpa using h) (fun i z hz => by
      have := g (i + 1) z (by simpa using hz)
      rw [← this]
      congr 1
      omega)
    simp only [enumFrom, List.map_cons, List.zip_cons_cons, ih]
    congr 2
    exact g 0 y (by simp)
theorem credits_eq {r : Rl α} (h : ShOk r.n r.sh) (j : Jy α) : lawCredits r j = tCredits r j := by
  obtain ⟨h1, h2, h3⟩ := chParts_ok h j
  unfold lawCredits tCredits tParts
  rw [setAll_map]
  congr 1
  · simp [frac_zero h3]
  · have ez : ((chosen r j).zip (chParts r j).1).map (fun p => (p.1, frac p.2 (whole r j))) = (chosen r j).zip ((chParts r j).1.map fun p => frac p (whole r j)) := by
      have := List.zip_map (l₁ := chosen r j) (l₂ := (chParts r j).1) (f := id) (g := fun p => frac p (whole r j))
      rw [List.map_id] at this
      rw [this]
      rfl
    rw [ez]
    refine enum_zip (lawFr r j) _ _ 0 (by rw [List.length_map, h1]) fun i y hy => ?_
    rw [Nat.zero_add]
    rw [List.getElem?_map] at hy
    cases hx : (chParts r j).1[i]? with
    | none => rw [hx] at hy; cases hy
    | some x =>
      rw [hx] at hy
      cases hy
      have hne : chosen r j ≠ [] := by
        intro e
        rw [e] at h1
        have : (chParts r j).1 = [] := List.eq_nil_of_length_eq_zero (by simpa using h1)
        rw [this] at hx
        simp at hx
      have hpos : 0 < (chosen r j).length := List.length_pos_iff.mpr hne
      have hmne : ((chosen r j).map fun k => cls r.sh (ageAt j k)) ≠ [] := by simpa using hne
      unfold lawFr
      unfold whole
      have hch : chParts r j = shParts r.sh ((chosen r j).map fun k => cls r.sh (ageAt j k)) := rfl
      rw [hch] at hx h2 ⊢
      unfold shParts at hx h2 ⊢
      rw [if_neg hmne] at hx h2 ⊢
      cases hsh : r.sh with
      | even =>
        rw [hsh] at hx
        dsimp only at hx ⊢
        have : x = 1 := by
          have hm := List.mem_of_getElem? hx
          exact (List.mem_replicate.mp hm).2
        subst this
        rw [List.length_map]
        exact (frac_one (by omega)).symm
      | places rows =>
        rw [hsh] at hx
        dsimp only at hx ⊢
        rw [List.length_map] at hx
        rw [List.getD_eq_getElem?_getD (l := rows.getD _ _), hx]
        rfl
      | ages m ws =>
        rw [hsh] at hx h2
        dsimp only at hx h2 ⊢
        rw [List.map_map] at hx h2 ⊢
        have e1 : ((chosen r j).map ((fun c => ws.getD c 0) ∘ fun k => cls (Sh.ages m ws) (ageAt j k))) = ((chosen r j).map fun k => ws.getD (cls (Sh.ages m ws) (ageAt j k)) 0) := rfl
        rw [e1] at hx h2 ⊢
        generalize ((chosen r j).map fun k => ws.getD (cls (Sh.ages m ws) (ageAt j k)) 0) = ps at hx h2 ⊢
        have hxx : ps.getD i 0 = x := by rw [List.getD_eq_getElem?_getD, hx]; rfl
        rw [hxx]
        by_cases hs : 0 < ps.sum
        · rw [if_pos hs]
          congr 1
          omega
        · rw [if_neg hs]
          have := sum_zero (fun y hy => (h2 y hy).1) (by omega) x (List.mem_of_getElem? hx)
          subst this
          exact (frac_zero (by omega)).symm
/-- the law's sum -/
def lawSum (xs : List (Int × Int)) : Int × Int := let z := xs.foldl lSum2 (0, 1); frac z.1 z.2
theorem given_eq {r : Rl α} (h : ShOk r.n r.sh) (j : Jy α) : lawSum (tCredits r j) = given r j :=
  lSum_frac (chParts_ok h j).2.2 (tParts r j) fun p hp => (tParts_ok h j p hp).1
theorem range_zip (j : Jy α) (x : α) : ∀ (ps : List Int), ps.length = j.length → ∀ (W : Int), ((List.range j.length).filter fun k => decide (kindAt j k = x)).map (fun k => (ps.map fun p => frac p W).getD k (0, 1)) = (((j.zip ps).filter fun p => decide (p.1.1 = x)).map (·.2)).map fun p => frac p W := by
  intro ps hl W
  have e : j.zip ps = (List.range j.length).map fun k => (j.getD k default, ps.getD k 0) := by
    apply List.ext_getElem
    · simp [hl]
    · intro i h1 h2
      simp at h1
      have g1 : i < j.length := by omega
      have g2 : i < ps.length := by omega
      simp [List.getD_eq_getElem?_getD, g1, g2]
  rw [e, List.filter_map, List.map_map, List.map_map]
  have ef : ((fun p : (α × Int) × Int => decide (p.1.1 = x)) ∘ fun k => (j.getD k default, ps.getD k 0)) = fun k => decide (kindAt j k = x) := rfl
  rw [ef]
  apply List.map_congr_left
  intro k hk
  have hk : k < j.length := by simpa using (List.mem_filter.mp hk).1
  have hk2 : k < ps.length := by omega
  simp [List.getD_eq_getElem?_getD, hk2]
theorem kinds_eq {r : Rl α} (h : ShOk r.n r.sh) (j : Jy α) : (r.ks.map fun x => lawSum (((List.range j.length).filter fun k => decide (kindAt j k = x)).map fun k => (tCredits r j).getD k (0, 1))) = kCredits r j := by
  unfold kCredits
  apply List.map_congr_left
  intro x _
  unfold tCredits
  rw [range_zip j x (tParts r j) (tParts_len r j) (whole r j)]
  refine lSum_frac (chParts_ok h j).2.2 _ fun p hp => ?_
  obtain ⟨q, hq, rfl⟩ := List.mem_map.mp hp
  exact (tParts_ok h j _ (List.of_mem_zip (List.mem_filter.mp hq).1).2).1
end
end Ts

set_option Elab.async false
set_option linter.all false
set_option maxRecDepth 100000
set_option maxHeartbeats 1000000
namespace Pl
open PySem PySem.Spec PyProof.Rows L2
/-! ### the models, step by step: rules for simp, that look at what comes first alone -/
theorem Ou.bind_cg {o o' : Ou} {k : Val → List Cn → Ou} (h : o = o') : o.bind k = o'.bind k := by rw [h]
theorem OuL.bind_cg {o o' : OuL} {k : List Val → List Cn → Ou} (h : o = o') : o.bind k = o'.bind k := by rw [h]
theorem Ou.bindL_cg {o o' : Ou} {k : Val → List Cn → OuL} (h : o = o') : o.bindL k = o'.bindL k := by rw [h]
theorem OuL.bindL_cg {o o' : OuL} {k : List Val → List Cn → OuL} (h : o = o') : o.bindL k = o'.bindL k := by rw [h]
theorem Ou.bindS_cg {o o' : Ou} {env : Env} {k : Val → List Cn → Os} (h : o = o') : o.bindS env k = o'.bindS env k := by rw [h]
theorem OuL.bindS_cg {o o' : OuL} {env : Env} {k : List Val → List Cn → Os} (h : o = o') : o.bindS env k = o'.bindS env k := by rw [h]
theorem Ou.bindI_cg {o o' : Ou} {k : Val → List Cn → Oi} (h : o = o') : o.bindI k = o'.bindI k := by rw [h]
theorem OuL.bindI_cg {o o' : OuL} {k : List Val → List Cn → Oi} (h : o = o') : o.bindI k = o'.bindI k := by rw [h]
@[simp] theorem OuL.bindS_ok (v st e k) : (OuL.ok v st).bindS e k = k v st := rfl
@[simp] theorem OuL.bindS_exc (c d st e k) : (OuL.exc c d st).bindS e k = .exc c d e st := rfl
@[simp] theorem OuL.bindL_ok' (v st k) : (OuL.ok v st).bindL k = k v st := rfl
@[simp] theorem OuL.bindL_exc' (c d st k) : (OuL.exc c d st).bindL k = .exc c d st := rfl
/-- one statement, then the others -/
def Os.an (o : Os) (m : SM) : Os := match o with
  | .nx env st => m env st
  | o => o
theorem Os.an_cg {o o' : Os} {m : SM} (h : o = o') : o.an m = o'.an m := by rw [h]
@[simp] theorem Os.an_nx (env st m) : (Os.nx env st).an m = m env st := rfl
@[simp] theorem Os.an_ret (v st m) : (Os.ret v st).an m = .ret v st := rfl
@[simp] theorem Os.an_exc (c d env st m) : (Os.exc c d env st).an m = .exc c d env st := rfl
@[simp] theorem Os.an_brk (env st m) : (Os.brk env st).an m = .brk env st := rfl
@[simp] theorem Os.an_cnt (env st m) : (Os.cnt env st).an m = .cnt env st := rfl
@[simp] theorem Os.fin_nx (env st) : (Os.nx env st).fin = .ok (.dat .none) st := rfl
@[simp] theorem Os.fin_ret (v st) : (Os.ret v st).fin = .ok v st := rfl
@[simp] theorem Os.fin_exc (c d env st) : (Os.exc c d env st).fin = .exc c d st := rfl
@[simp] theorem Os.fin_if {p : Prop} [Decidable p] (a b : Os) : (if p then a else b).fin = if p then a.fin else b.fin := by split <;> rfl
@[simp] theorem Ou.bind_if {p : Prop} [Decidable p] (a b : Ou) (k) : (if p then a else b).bind k = if p then a.bind k else b.bind k := by split <;> rfl
@[simp] theorem Ou.bindS_if {p : Prop} [Decidable p] (a b : Ou) (e k) : (if p then a else b).bindS e k = if p then a.bindS e k else b.bindS e k := by split <;> rfl
@[simp] theorem Os.an_if {p : Prop} [Decidable p] (a b : Os) (m) : (if p then a else b).an m = if p then a.an m else b.an m := by split <;> rfl
/-- by a truth value -/
def onB {α : Type} (s : α) (v : Val) (a b : α) : α := match v with
  | .dat (.bool true) => a
  | .dat (.bool false) => b
  | _ => s
theorem onB_cg {α : Type} {s : α} {v v' : Val} {a b : α} (h : v = v') : onB s v a b = onB s v' a b := by rw [h]
@[simp] theorem onB_t {α : Type} (s a b : α) : onB s (.dat (.bool true)) a b = a := rfl
@[simp] theorem onB_f {α : Type} (s a b : α) : onB s (.dat (.bool false)) a b = b := rfl
theorem onB_b {α : Type} (s : α) (k : Bool) (a b : α) : onB s (.dat (.bool k)) a b = if k = true then a else b := by cases k <;> rfl
section
variable {env : Env} {st : List Cn} {g g' : Val → Val → Option Val} {gu : Val → Option Val} {gn : List Val → Option Val} {a b c m : EM} {r : AM} {s1 s2 : SM}
@[simp] theorem varM_ap (i : Nat) : varM i env st = match env[i]? with
    | some (some (.fr c)) => .ok (.bor c) st
    | some (some v) => .ok v st
    | _ => .stk := rfl
@[simp] theorem cstM_ap (d : D) : cstM d env st = .ok (.dat d) st := rfl
@[simp] theorem binM_ap : binM g a b env st = (a env st).bind fun v st1 => (b env st1).bind fun w st2 => Ou.of st2 (g v w) := rfl
@[simp] theorem unM_ap : unM gu a env st = (a env st).bind fun v st1 => Ou.of st1 (gu v) := rfl
@[simp] theorem frzM_ap : frzM a env st = (a env st).bind fun v st1 => Ou.of st1 v.frz := rfl
@[simp] theorem callM_ap : callM gn r env st = (r env st).bind fun vs st1 => Ou.of st1 (gn vs) := rfl
@[simp] theorem anil_ap : anil env st = .ok [] st := rfl
def ofL (v : Option Val) (k : Val → OuL) : OuL := match v with
  | none => .stk
  | some w => k w
@[simp] theorem ofL_some (w : Val) (k) : ofL (some w) k = k w := rfl
@[simp] theorem acons_ap : acons a r env st = (a env st).bindL fun v st1 => ofL v.frz fun w => (r env st1).bindL fun vs st2 => .ok (w :: vs) st2 := rfl
@[simp] theorem frz_dat (d : D) : (Val.dat d).frz = some (.dat d) := rfl
@[simp] theorem frz_fr (c : Cn) : (Val.fr c).frz = some (.dat (cnD c)) := rfl
@[simp] theorem frz_obj (n : Nat) : (Val.obj n).frz = some (.obj n) := rfl
@[simp] theorem frz_bor (c : Cn) : (Val.bor c).frz = some (.bor c) := rfl
@[simp] theorem frz_scr (ds : List D) : (Val.scr ds).frz = some (.scr ds) := rfl
@[simp] theorem cnD_lst (ds : List D) : cnD (.lst ds) = .list ds := rfl
@[simp] theorem asDat_dat (d : D) : asDat (.dat d) = some d := rfl
@[simp] theorem asDat_fr (c : Cn) : asDat (.fr c) = some (cnD c) := rfl
@[simp] theorem nobor_dat (d : D) : nobor (.dat d) = true := rfl
@[simp] theorem nobor_fr (c : Cn) : nobor (.fr c) = true := rfl
@[simp] theorem nobor_obj (n : Nat) : nobor (.obj n) = true := rfl
@[simp] theorem dats_nil : dats [] = some [] := rfl
@[simp] theorem dats_cons (d : D) (vs : List Val) : dats (.dat d :: vs) = (dats vs).map (d :: ·) := by
  simp only [dats]
@[simp] theorem tupM_ap : tupM r env st = (r env st).bind fun vs st1 => Ou.of st1 (match dats vs with | some ds => if ds.length ≤ sizeLine then some (.dat (.tuple ds)) else none | none => none) := rfl
@[simp] theorem lstM_ap : lstM r env st = (r env st).bind fun vs st1 => Ou.of st1 (match dats vs with | some ds => if ds.length ≤ sizeLine then some (.fr (.lst ds)) else none | none => none) := rfl
@[simp] theorem truM_ap : truM a env st = (a env st).bind fun v st1 => Ou.of st1 ((truth v).map fun b => .dat (.bool b)) := rfl
def notV (v : Val) : Option Val := match v with
  | .dat (.bool b) => some (.dat (.bool (!b)))
  | _ => none
@[simp] theorem notV_b (b : Bool) : notV (.dat (.bool b)) = some (.dat (.bool (!b))) := rfl
@[simp] theorem notM_ap : notM a env st = (a env st).bind fun v st1 => Ou.of st1 (notV v) := rfl
@[simp] theorem andM_ap : andM a b env st = (a env st).bind fun v st1 => onB .stk v (b env st1) (.ok (.dat (.bool false)) st1) := rfl
@[simp] theorem orM_ap : orM a b env st = (a env st).bind fun v st1 => onB .stk v (.ok (.dat (.bool true)) st1) (b env st1) := rfl
def onT {α : Type} (s : α) (t : Option Bool) (a b : α) : α := match t with
  | some true => a
  | some false => b
  | none => s
theorem onT_cg {α : Type} {s : α} {v v' : Option Bool} {a b : α} (h : v = v') : onT s v a b = onT s v' a b := by rw [h]
@[simp] theorem onT_t {α : Type} (s a b : α) : onT s (some true) a b = a := rfl
@[simp] theorem onT_f {α : Type} (s a b : α) : onT s (some false) a b = b := rfl
theorem onT_b {α : Type} (s : α) (k : Bool) (a b : α) : onT s (some k) a b = if k = true then a else b := by cases k <;> rfl
@[simp] theorem andV_ap : andV a b env st = (a env st).bind fun v st1 => onT .stk (truth v) (b env st1) (.ok v st1) := by
  unfold andV onT
  cases a env st <;> rfl
@[simp] theorem orV_ap : orV a b env st = (a env st).bind fun v st1 => onT .stk (truth v) (.ok v st1) (b env st1) := by
  unfold orV onT
  cases a env st <;> rfl
@[simp] theorem ifM_ap : ifM c a b env st = (c env st).bind fun v st1 => onB .stk v (a env st1) (b env st1) := rfl
def onO (o : Option Val) (a b : Ou) : Ou := match o with
  | some (.dat (.bool true)) => a
  | some (.dat (.bool false)) => b
  | _ => .stk
theorem onO_cg {v v' : Option Val} {a b : Ou} (h : v = v') : onO v a b = onO v' a b := by rw [h]
@[simp] theorem onO_t (a b : Ou) : onO (some (.dat (.bool true))) a b = a := rfl
@[simp] theorem onO_f (a b : Ou) : onO (some (.dat (.bool false))) a b = b := rfl
theorem onO_b (k : Bool) (a b : Ou) : onO (some (.dat (.bool k))) a b = if k = true then a else b := by cases k <;> rfl
@[simp] theorem chM_ap : chM g g' a b c env st = (a env st).bind fun v st1 => (b env st1).bind fun w st2 => onO (g v w) ((c env st2).bind fun u st3 => Ou.of st3 (g' w u)) (.ok (.dat (.bool false)) st2) := by
  unfold chM onO
  cases a env st with
  | ok v st1 =>
    dsimp only [Ou.bind]
    first | done | (cases b env st1 <;> rfl)
  | _ => rfl
@[simp] theorem paBind_no (k) : paBind .no env st k = k none st := rfl
def onI (v : Val) (k : Int → Ou) : Ou := match v with
  | .dat (.int i) => k i
  | _ => .stk
@[simp] theorem onI_i (i : Int) (k) : onI (.dat (.int i)) k = k i := rfl
@[simp] theorem paBind_som (m : EM) (k) : paBind (.som m) env st k = (m env st).bind fun v st1 => onI v fun i => k (some i) st1 := rfl
@[simp] theorem sliM_ap (lo hi : PaM) : sliM m lo hi env st = (m env st).bind fun v st1 => paBind lo env st1 fun l st2 => paBind hi env st2 fun h st3 => Ou.of st3 (gCut v l h) := rfl
@[simp] theorem getM_ap : getM a b env st = (a env st).bind fun v st1 => (b env st1).bind fun w st2 => Ou.of st2 (match asDk st2 v, w with
    | some kvs, .dat d => (keyD d).bind fun k => (dlook kvs k).map .dat
    | _, _ => none) := rfl
@[simp] theorem callF_ap (n : Nat) (fm : FM) : callF n fm r env st = (r env st).bind fun vs st1 => if vs.length = n then fm vs st1 else .stk := rfl
@[simp] theorem isiM_ap (T : String) : isiM T m env st = (m env st).bind fun v st1 => Ou.of st1 (match asView v with
    | some d => if isErr d = false then (kitB (tyN d) T).map fun b => .dat (.bool b) else none
    | none => none) := rfl
@[simp] theorem nilM_ap : nilM env st = .nx env st := rfl
@[simp] theorem brkM_ap : brkM env st = .brk env st := rfl
@[simp] theorem seqM_ap : seqM s1 s2 env st = (s1 env st).an s2 := rfl
@[simp] theorem setM_ap (i : Nat) : setM i m env st = (m env st).bindS env fun v st1 => if nobor v = true then .nx (env.set i (some v)) st1 else .stk := rfl
@[simp] theorem parM_ap (i j : Nat) : parM i j a b env st = (a env st).bindS env fun v st1 => (b env st1).bindS env fun w st2 => if nobor v = true ∧ nobor w = true then .nx ((env.set i (some v)).set j (some w)) st2 else .stk := rfl
@[simp] theorem par3M_ap (i j l : Nat) : par3M i j l r env st = (r env st).bindS env fun vs st1 => match vs with
    | [u, v, w] => if nobor u = true ∧ nobor v = true ∧ nobor w = true then .nx (((env.set i (some u)).set j (some v)).set l (some w)) st1 else .stk
    | _ => .stk := rfl
@[simp] theorem retM_ap : retM m env st = (m env st).bindS env fun v st1 => if nobor v = true then .ret v st1 else .stk := rfl
@[simp] theorem ifS_ap : ifS m s1 s2 env st = (m env st).bindS env fun v st1 => onB .stk v (s1 env st1) (s2 env st1) := rfl
@[simp] theorem exM_ap : exM m env st = (m env st).bindS env fun _ st1 => .nx env st1 := rfl
@[simp] theorem raiM_ap (c : Nat) : raiM c m env st = (frzM m env st).bindS env fun v st1 => match v with
    | .dat d => .exc c d env st1
    | _ => .stk := rfl
def onE (o : Option Env) (k : Env → Os) : Os := match o with
  | some e => k e
  | none => .stk
@[simp] theorem onE_some (e : Env) (k) : onE (some e) k = k e := rfl
@[simp] theorem unpM_ap (tg : Tg) : unpM tg m env st = (m env st).bindS env fun v st1 => match v with
    | .dat d => onE (bindT tg d env) fun e => .nx e st1
    | _ => .stk := by
  unfold unpM onE
  cases m env st with
  | ok v st1 =>
    dsimp only [Ou.bindS]
    first | done | (cases v <;> rfl)
  | _ => rfl
@[simp] theorem fzM_ap (i : Nat) : fzM i s1 env st = match env[i]? with
    | some (some (.fr c)) => s1 (env.set i (some (.dat (cnD c)))) st
    | _ => s1 env st := rfl
@[simp] theorem bindT_nm (i : Nat) (d : D) : bindT (.nm i) d env = some (env.set i (some (.dat d))) := rfl
@[simp] theorem bindT_tp (is : List Nat) (ds : List D) : bindT (.tp is) (.tuple ds) env = bindAll is ds env := rfl
@[simp] theorem bindAll_nil : bindAll [] [] env = some env := rfl
@[simp] theorem bindAll_cons (i : Nat) (is : List Nat) (d : D) (ds : List D) : bindAll (i :: is) (d :: ds) env = bindAll is ds (env.set i (some (.dat d))) := rfl
def onOi (o : Oi) (e : Int → D → List Cn → Os) (k : List D → List Cn → Os) : Os := match o with
  | .stk => .stk
  | .exc c d st => e c d st
  | .ok items st => k items st
@[simp] theorem frM_ap (im : IM) (tg : Tg) (mt : SM) (items : List D) (st1 : List Cn) (h : im env st = .ok items st1) : frM im tg mt env st = forM tg mt items env st1 := by
  unfold frM
  rw [h]
@[simp] theorem compM_ap (im : IM) (own : List Nat) (tg : Tg) (mc me : EM) (items : List D) (st1 : List Cn) (h : im env st = .ok items st1) : compM im own tg mc me env st = lcM tg mc me items [] (wipeE env own) st1 := by
  unfold compM
  rw [h]
@[simp] theorem yesM_ap : yesM env st = .ok (.dat (.bool true)) st := rfl
theorem fnM_ap (n : Nat) (m : SM) (vs : List Val) : fnM n m vs st = (m (envOf n vs) st).fin := rfl
end
/-! ### sources -/
section
variable {env : Env} {st : List Cn} {m : EM} {r : AM} {blk : Bool}
def seqV (blk : Bool) (v : Val) (st : List Cn) : Oi := match v with
  | .dat (.list ds) => .ok ds st
  | .dat (.tuple ds) => .ok ds st
  | .dat (.str x) => .ok (signs x) st
  | .fr (.lst ds) => .ok ds st
  | .scr ds => .ok ds st
  | .bor (.lst ds) => if blk = true then .ok ds st else .stk
  | _ => .stk
@[simp] theorem seqV_l (ds) : seqV blk (.dat (.list ds)) st = .ok ds st := rfl
@[simp] theorem seqV_t (ds) : seqV blk (.dat (.tuple ds)) st = .ok ds st := rfl
@[simp] theorem seqV_s (x) : seqV blk (.dat (.str x)) st = .ok (signs x) st := rfl
@[simp] theorem seqV_f (ds) : seqV blk (.fr (.lst ds)) st = .ok ds st := rfl
@[simp] theorem seqV_c (ds) : seqV blk (.scr ds) st = .ok ds st := rfl
@[simp] theorem seqV_b (ds) : seqV true (.bor (.lst ds)) st = .ok ds st := rfl
@[simp] theorem seqI_ap : seqI blk m env st = (m env st).bindI fun v st1 => seqV blk v st1 := rfl
@[simp] theorem revI_ap : revI m env st = (m env st).bindI fun v st1 => match v with
    | .dat (.list ds) => .ok ds.reverse st1
    | .dat (.tuple ds) => .ok ds.reverse st1
    | _ => .stk := rfl
@[simp] theorem rng1I_ap : rng1I r env st = (r env st).bindI fun vs st1 => match vs with
    | [.dat (.int j)] => if inb j = true then .ok (intsD 0 j.toNat) st1 else .stk
    | _ => .stk := rfl
@[simp] theorem rng2I_ap : rng2I r env st = (r env st).bindI fun vs st1 => match vs with
    | [.dat (.int i), .dat (.int j)] => if (inb i && inb j) = true then .ok (intsD i (j - i).toNat) st1 else .stk
    | _ => .stk := rfl
@[simp] theorem enaI_ap : enaI r env st = (r env st).bindI fun vs st1 => match vs with
    | [.dat (.list ds)] => .ok (enumD 0 ds) st1
    | [.dat (.tuple ds)] => .ok (enumD 0 ds) st1
    | [.scr ds] => .ok (enumD 0 ds) st1
    | _ => .stk := rfl
@[simp] theorem zipI_ap : zipI r env st = (r env st).bindI fun vs st1 => match vs with
    | [.dat (.list ds), .dat (.list es)] => .ok (zipD ds es) st1
    | [.dat (.tuple ds), .dat (.tuple es)] => .ok (zipD ds es) st1
    | _ => .stk := rfl
@[simp] theorem zipMI_ap : zipMI r env st = (r env st).bindI fun vs st1 => match vs with
    | [.dat (.tuple ds), .dat (.list es)] => .ok (zipD ds es) st1
    | _ => .stk := rfl
@[simp] theorem rvlM_ap : rvlM m env st = (m env st).bind fun v st1 => Ou.of st1 ((asList v).map fun ds => .fr (.lst ds.reverse)) := rfl
end
/-! ### loops -/
/-- a comprehension whose parts change nothing -/
theorem lc_map {α : Type} (enc : α → D) (f : α → D) (p : α → Bool) {i : Nat} {mc me : EM} {env : Env} {st : List Cn} : ∀ (xs : List α) (acc : List D), acc.length + xs.length ≤ sizeLine →
    (∀ x ∈ xs, mc (env.set i (some (.dat (enc x)))) st = .ok (.dat (.bool (p x))) st) → (∀ x ∈ xs, p x = true → ∃ v, me (env.set i (some (.dat (enc x)))) st = .ok v st ∧ asDat v = some (f x)) →
    lcM (.nm i) mc me (xs.map enc) acc env st = .ok (.fr (.lst (acc ++ (xs.filter p).map f))) st
  | [], acc, _, _, _ => by simp [lcM]
  | x :: xs, acc, hl, hc, he => by
    simp only [List.length_cons] at hl
    have ih := fun acc hl => lc_map enc f p (i := i) (mc := mc) (me := me) (env := env) (st := st) xs acc hl (fun y hy => hc y (by simp [hy])) fun y hy => he y (by simp [hy])
    rw [List.map_cons, lcM]
    dsimp only
    rw [bindT_nm]
    dsimp only
    rw [hc x (by simp)]
    cases hp : p x with
    | false =>
      dsimp only
      rw [ih acc (by omega), List.filter_cons_of_neg (by simp [hp])]
    | true =>
      dsimp only
      obtain ⟨v, h1, h2⟩ := he x (by simp) hp
      rw [h1]
      dsimp only
      rw [h2]
      dsimp only
      rw [if_pos (by omega), ih (acc ++ [f x]) (by simp; omega), List.filter_cons_of_pos hp]
      simp
/-- over pairs -/
theorem lc_map2 {α : Type} (enc : α → D) (e1 e2 : α → D) (f : α → D) (p : α → Bool) {i j : Nat} {mc me : EM} {env : Env} {st : List Cn} (h12 : ∀ x, enc x = .tuple [e1 x, e2 x]) : ∀ (xs : List α) (acc : List D), acc.length + xs.length ≤ sizeLine →
    (∀ x ∈ xs, mc ((env.set i (some (.dat (e1 x)))).set j (some (.dat (e2 x)))) st = .ok (.dat (.bool (p x))) st) → (∀ x ∈ xs, p x = true → ∃ v, me ((env.set i (some (.dat (e1 x)))).set j (some (.dat (e2 x)))) st = .ok v st ∧ asDat v = some (f x)) →
    lcM (.tp [i, j]) mc me (xs.map enc) acc env st = .ok (.fr (.lst (acc ++ (xs.filter p).map f))) st
  | [], acc, _, _, _ => by simp [lcM]
  | x :: xs, acc, hl, hc, he => by
    simp only [List.length_cons] at hl
    have ih := fun acc hl => lc_map2 enc e1 e2 f p (i := i) (j := j) (mc := mc) (me := me) (env := env) (st := st) h12 xs acc hl (fun y hy => hc y (by simp [hy])) fun y hy => he y (by simp [hy])
    rw [List.map_cons, lcM, h12 x]
    dsimp only
    rw [bindT_tp, bindAll_cons, bindAll_cons, bindAll_nil]
    dsimp only
    rw [hc x (by simp)]
    cases hp : p x with
    | false =>
      dsimp only
      rw [ih acc (by omega), List.filter_cons_of_neg (by simp [hp])]
    | true =>
      dsimp only
      obtain ⟨v, h1, h2⟩ := he x (by simp) hp
      rw [h1]
      dsimp only
      rw [h2]
      dsimp only
      rw [if_pos (by omega), ih (acc ++ [f x]) (by simp; omega), List.filter_cons_of_pos hp]
      simp
/-- a loop by its invariant: what the turns make of a state -/
theorem for_inv {α β : Type} (enc : α → D) {tg : Tg} {mt : SM} (R : β → Env → List Cn → Prop) (step : β → α → β) : ∀ (xs : List α) (s : β) (env : Env) (st : List Cn), R s env st →
    (∀ x ∈ xs, ∀ s env st, R s env st → ∃ env1, bindT tg (enc x) env = some env1 ∧ ∃ env' st', mt env1 st = .nx env' st' ∧ R (step s x) env' st') →
    ∃ env' st', forM tg mt (xs.map enc) env st = .nx env' st' ∧ R (xs.foldl step s) env' st'
  | [], s, env, st, h, _ => ⟨env, st, rfl, h⟩
  | x :: xs, s, env, st, h, hs => by
    obtain ⟨env1, h1, env2, st2, h2, h3⟩ := hs x (by simp) s env st h
    obtain ⟨env3, st3, h4, h5⟩ := for_inv enc R step xs _ env2 st2 h3 fun y hy => hs y (by simp [hy])
    refine ⟨env3, st3, ?_, h5⟩
    rw [List.map_cons, forM]
    dsimp only
    rw [h1]
    dsimp only
    rw [h2]
    exact h4
/-- the same with a state that is a list of its own: env is told by s -/
theorem for_fold {α β : Type} (enc : α → D) {tg : Tg} {mt : SM} {st : List Cn} (E : β → Env) (step : β → α → β) (xs : List α) (s : β) (hs : ∀ x ∈ xs, ∀ s, ∃ env1, bindT tg (enc x) (E s) = some env1 ∧ mt env1 st = .nx (E (step s x)) st) :
    forM tg mt (xs.map enc) (E s) st = .nx (E (xs.foldl step s)) st := by
  obtain ⟨e, t, h1, h2, h3⟩ := for_inv enc (tg := tg) (mt := mt) (fun s env st' => env = E s ∧ st' = st) step xs s (E s) st ⟨rfl, rfl⟩ fun x hx s env st' h => by
    obtain ⟨rfl, rfl⟩ := h
    obtain ⟨env1, h1, h2⟩ := hs x hx s
    exact ⟨env1, h1, _, _, h2, rfl, rfl⟩
  rw [h1, h2, h3]
end Pl

set_option Elab.async false
set_option linter.all false
set_option maxRecDepth 100000
set_option maxHeartbeats 1000000
namespace Pl
open PySem PySem.Spec PyProof.Rows L2 PySem.W
/-! ### the operators at plain data -/
section
variable {i j : Int} {x y : Str} {ds es : List D} {d : D}
@[simp] theorem gAdd_i : gAdd (.dat (.int i)) (.dat (.int j)) = some (.dat (.int (i + j))) := rfl
@[simp] theorem gAddI_i : gAddI (.dat (.int i)) (.dat (.int j)) = some (.dat (.int (i + j))) := rfl
@[simp] theorem gSub_i : gSub (.dat (.int i)) (.dat (.int j)) = some (.dat (.int (i - j))) := rfl
@[simp] theorem gLe_i : gLe (.dat (.int i)) (.dat (.int j)) = some (.dat (.bool (decide (i ≤ j)))) := rfl
@[simp] theorem gLt_i : gLt (.dat (.int i)) (.dat (.int j)) = some (.dat (.bool (decide (i < j)))) := rfl
@[simp] theorem gGt_i : gGt (.dat (.int i)) (.dat (.int j)) = some (.dat (.bool (decide (j < i)))) := rfl
@[simp] theorem gGe_i : gGe (.dat (.int i)) (.dat (.int j)) = some (.dat (.bool (decide (j ≤ i)))) := rfl
@[simp] theorem gLt_s : gLt (.dat (.str x)) (.dat (.str y)) = some (.dat (.bool (strLt x y))) := rfl
@[simp] theorem gLe_s : gLe (.dat (.str x)) (.dat (.str y)) = some (.dat (.bool (strLe x y))) := rfl
@[simp] theorem gNeg_i : gNeg (.dat (.int i)) = some (.dat (.int (-i))) := rfl
theorem gMul_i (h : cMul i j = true) : gMul (.dat (.int i)) (.dat (.int j)) = some (.dat (.int (i * j))) := by
  show ((if cMul i j then some (Val.dat (.int (i * j))) else none).or _) = _
  rw [if_pos h]
  rfl
theorem gMod_i (h : 0 < j) : gMod (.dat (.int i)) (.dat (.int j)) = some (.dat (.int (i % j))) := if_pos (decide_eq_true h)
theorem gDiv_i (h : 0 < j) (h2 : j < 1073741824) : gDiv (.dat (.int i)) (.dat (.int j)) = some (.dat (.int (i / j))) := if_pos (decide_eq_true ⟨h, h2⟩)
theorem sh_int : SeqAt.shaped (.int i) = true := rfl
theorem sh_none : SeqAt.shaped .none = true := rfl
@[simp] theorem gEq_i : gEqq (.dat (.int i)) (.dat (.int j)) = some (.dat (.bool (decide (i = j)))) := by
  show (none : Option Val).or (some (Val.dat (.bool (i == j)))) = _
  rfl
@[simp] theorem gNe_i : gNeq (.dat (.int i)) (.dat (.int j)) = some (.dat (.bool (!decide (i = j)))) := by
  show (none : Option Val).or (some (Val.dat (.bool (!(i == j))))) = _
  rfl
@[simp] theorem gEq_s : gEqq (.dat (.str x)) (.dat (.str y)) = some (.dat (.bool (decide (x = y)))) := rfl
@[simp] theorem gNe_s : gNeq (.dat (.str x)) (.dat (.str y)) = some (.dat (.bool (!decide (x = y)))) := rfl
theorem gEq_d {v w : Val} {d e : D} (h1 : asView v = some d) (h2 : asView w = some e) (s1 : SeqAt.shaped d = true) (s2 : SeqAt.shaped e = true) (n : gEqS v w = none) : gEqq v w = some (.dat (.bool (PyData.eqv d e))) := by
  unfold gEqq gEq
  rw [n, h1, h2]
  dsimp only
  rw [if_pos ⟨s1, s2⟩]
  rfl
theorem gNe_d {v w : Val} {d e : D} (h1 : asView v = some d) (h2 : asView w = some e) (s1 : SeqAt.shaped d = true) (s2 : SeqAt.shaped e = true) (n : gNeS v w = none) : gNeq v w = some (.dat (.bool (!PyData.eqv d e))) := by
  unfold gNeq gNe
  rw [n, h1, h2]
  dsimp only
  rw [if_pos ⟨s1, s2⟩]
  rfl
@[simp] theorem asView_dat : asView (.dat d) = some d := rfl
@[simp] theorem asView_fr : asView (.fr (.lst ds)) = some (.list ds) := rfl
@[simp] theorem asView_bor : asView (.bor (.lst ds)) = some (.list ds) := rfl
@[simp] theorem asList_dat : asList (.dat (.list ds)) = some ds := rfl
@[simp] theorem asList_fr : asList (.fr (.lst ds)) = some ds := rfl
@[simp] theorem asList_bor : asList (.bor (.lst ds)) = some ds := rfl
@[simp] theorem asList_tup : asList (.dat (.tuple ds)) = none := rfl
@[simp] theorem asTup_dat : asTup (.dat (.tuple ds)) = some ds := rfl
@[simp] theorem asSeq_dat : asSeq (.dat (.list ds)) = some ds := rfl
@[simp] theorem asSeq_fr : asSeq (.fr (.lst ds)) = some ds := rfl
@[simp] theorem asSeq_bor : asSeq (.bor (.lst ds)) = some ds := rfl
@[simp] theorem asSeq_tup : asSeq (.dat (.tuple ds)) = some ds := rfl
@[simp] theorem gIx_t : gIx (.dat (.tuple ds)) (.dat (.int i)) = (atI ds i).map .dat := rfl
@[simp] theorem gIx_l : gIx (.dat (.list ds)) (.dat (.int i)) = (atI ds i).map .dat := rfl
@[simp] theorem gIx_f : gIx (.fr (.lst ds)) (.dat (.int i)) = (atI ds i).map .dat := rfl
@[simp] theorem gIx_b : gIx (.bor (.lst ds)) (.dat (.int i)) = (atI ds i).map .dat := rfl
theorem atI_nat {n : Nat} (h : n < ds.length) : atI ds (n : Int) = some ds[n] := by
  unfold atI ixN
  rw [if_pos (by omega), if_pos (by omega)]
  simp [h]
@[simp] theorem atI_0 : atI (d :: ds) 0 = some d := by
  have := atI_nat (ds := d :: ds) (n := 0) (by simp)
  simpa using this
theorem atI_cons (n : Nat) : atI (d :: ds) ((n : Int) + 1) = atI ds (n : Int) := by
  unfold atI ixN
  by_cases h : n < ds.length
  · rw [if_pos (by omega), if_pos (by simp; omega), if_pos (by omega), if_pos (by omega)]
    simp only [Option.bind_some, Int.toNat_natCast]
    rw [show ((n : Int) + 1).toNat = n + 1 by omega]
    simp
  · rw [if_pos (by omega), if_neg (by simp; omega), if_pos (by omega), if_neg (by omega)]
    rfl
@[simp] theorem atI_1 {a : D} : atI (a :: d :: ds) 1 = some d := (atI_cons 0).trans atI_0
@[simp] theorem atI_2 {a b : D} : atI (a :: b :: d :: ds) 2 = some d := (atI_cons 1).trans atI_1
@[simp] theorem atI_3 {a b c : D} : atI (a :: b :: c :: d :: ds) 3 = some d := (atI_cons 2).trans atI_2
@[simp] theorem atI_4 {a b c e : D} : atI (a :: b :: c :: e :: d :: ds) 4 = some d := (atI_cons 3).trans atI_3
@[simp] theorem atI_5 {a b c e f : D} : atI (a :: b :: c :: e :: f :: d :: ds) 5 = some d := (atI_cons 4).trans atI_4
@[simp] theorem atI_6 {a b c e f g : D} : atI (a :: b :: c :: e :: f :: g :: d :: ds) 6 = some d := (atI_cons 5).trans atI_5
@[simp] theorem gLen_t : gLen [.dat (.tuple ds)] = some (.dat (.int (ds.length : Nat))) := rfl
@[simp] theorem gLen_l : gLen [.dat (.list ds)] = some (.dat (.int (ds.length : Nat))) := rfl
@[simp] theorem gLen_f : gLen [.fr (.lst ds)] = some (.dat (.int (ds.length : Nat))) := rfl
@[simp] theorem gLen_b : gLen [.bor (.lst ds)] = some (.dat (.int (ds.length : Nat))) := rfl
@[simp] theorem gLen_c : gLen [.scr ds] = some (.dat (.int (ds.length : Nat))) := rfl
theorem gLen_s (h : x.length ≤ sizeLine) : gLen [.dat (.str x)] = some (.dat (.int (x.length : Nat))) := if_pos h
@[simp] theorem gInt_i : gInt [.dat (.int i)] = some (.dat (.int i)) := rfl
@[simp] theorem gTuple_l : gTuple [.dat (.list ds)] = some (.dat (.tuple ds)) := rfl
@[simp] theorem gTuple_t : gTuple [.dat (.tuple ds)] = some (.dat (.tuple ds)) := rfl
@[simp] theorem gTuple_b : gTuple [.bor (.lst ds)] = some (.dat (.tuple ds)) := rfl
@[simp] theorem gList_l : gList [.dat (.list ds)] = some (.fr (.lst ds)) := rfl
@[simp] theorem gList_t : gList [.dat (.tuple ds)] = some (.fr (.lst ds)) := rfl
@[simp] theorem gList_c : gList [.scr ds] = some (.fr (.lst ds)) := rfl
@[simp] theorem gMin_i : gMin [.dat (.int i), .dat (.int j)] = some (.dat (.int (if j < i then j else i))) := rfl
@[simp] theorem gMax_i : gMax [.dat (.int i), .dat (.int j)] = some (.dat (.int (if j > i then j else i))) := rfl
theorem gIs_none (f : Bool → Bool) : gIs f (.dat d) (.dat .none) = some (.dat (.bool (f (match d with | .none => true | _ => false)))) := by
  cases d <;> rfl
theorem bools_map (ys : List Bool) : bools? (ys.map PyData.bool) = some ys := by
  induction ys with
  | nil => rfl
  | cons y ys ih => rw [List.map_cons, bools?, ih]; rfl
theorem ints_map (ys : List Int) : ints? (ys.map PyData.int) = some ys := by
  induction ys with
  | nil => rfl
  | cons y ys ih => rw [List.map_cons, ints?, ih]; rfl
theorem gAll_b {α : Type} (f : α → Bool) (xs : List α) : gAll [.dat (.list (xs.map fun x => .bool (f x)))] = some (.dat (.bool (xs.all f))) := by
  show (bools? (xs.map fun x => PyData.bool (f x))).map _ = _
  have : (xs.map fun x => PyData.bool (f x)) = (xs.map f).map PyData.bool := by rw [List.map_map]; rfl
  rw [this, bools_map]
  simp
theorem gSum_t (ys : List Int) : gSum [.dat (.tuple (ys.map .int))] = some (.dat (.int ys.sum)) := by
  show (ints? (ys.map PyData.int)).map _ = _
  rw [ints_map]
  rfl
theorem gSum_l (ys : List Int) : gSum [.dat (.list (ys.map .int))] = some (.dat (.int ys.sum)) := by
  show (ints? (ys.map PyData.int)).map _ = _
  rw [ints_map]
  rfl
theorem gSum_b (ys : List Int) : gSum [.bor (.lst (ys.map .int))] = some (.dat (.int ys.sum)) := by
  show (ints? (ys.map PyData.int)).map _ = _
  rw [ints_map]
  rfl
@[simp] theorem truth_bool (b : Bool) : truth (.dat (.bool b)) = some b := rfl
@[simp] theorem truth_tup : truth (.dat (.tuple ds)) = some (!ds.isEmpty) := rfl
@[simp] theorem truth_list : truth (.dat (.list ds)) = some (!ds.isEmpty) := rfl
@[simp] theorem truth_fr : truth (.fr (.lst ds)) = some (!ds.isEmpty) := rfl
@[simp] theorem truth_bor : truth (.bor (.lst ds)) = some (!ds.isEmpty) := rfl
/-- x in a tuple or a list of texts -/
theorem flat_strs (ys : List Str) : (ys.map PyData.str).all flatD = true := by
  rw [List.all_map]
  exact List.all_eq_true.mpr fun _ _ => rfl
theorem any_strs (ys : List Str) (x : Str) : ((ys.map PyData.str).any fun e => PyData.eqv e (.str x)) = decide (x ∈ ys) := by
  induction ys with
  | nil => rfl
  | cons y ys ih =>
    rw [List.map_cons, List.any_cons, ih]
    show ((y == x) || decide (x ∈ ys)) = _
    by_cases h : y = x
    · subst h; simp
    · have : (y == x) = false := by simpa using h
      rw [this]
      have h2 : x ≠ y := fun e => h e.symm
      simp [h2]
theorem gIn_s {v : Val} {ys : List Str} (h : asSeq v = some (ys.map .str)) (neg : Bool) : gIn neg (.dat (.str x)) v = some (.dat (.bool (if neg then !decide (x ∈ ys) else decide (x ∈ ys)))) := by
  unfold gIn
  rw [h]
  dsimp only [asView_dat]
  rw [if_pos ⟨rfl, flat_strs ys⟩, any_strs]
end
/-! ### isinstance of data -/
def isT (T : String) (d : D) : Bool := match T, d with
  | "int", .int _ => true
  | "int", .bool _ => true
  | "bool", .bool _ => true
  | "str", .str _ => true
  | "tuple", .tuple _ => true
  | "list", .list _ => true
  | _, _ => false
@[simp] theorem kit_int (d : D) : kitB (tyN d) "int" = some (isT "int" d) := by cases d <;> rfl
@[simp] theorem kit_bool (d : D) : kitB (tyN d) "bool" = some (isT "bool" d) := by cases d <;> rfl
@[simp] theorem kit_str (d : D) : kitB (tyN d) "str" = some (isT "str" d) := by cases d <;> rfl
@[simp] theorem kit_tuple (d : D) : kitB (tyN d) "tuple" = some (isT "tuple" d) := by cases d <;> rfl
@[simp] theorem kit_list (d : D) : kitB (tyN d) "list" = some (isT "list" d) := by cases d <;> rfl
theorem ok_err {d : D} (h : okD d = true) : isErr d = false := by
  cases d with
  | dict kvs =>
    cases kvs with
    | nil => rfl
    | cons p r =>
      obtain ⟨k, v⟩ := p
      cases r with
      | nil =>
        cases k with
        | list _ => simp [okD, okDk, notL] at h
        | _ => rfl
      | cons q r => simp [isErr]
  | _ => rfl
theorem ok_tup {ds : List D} (h : okD (.tuple ds) = true) : ∀ d ∈ ds, okD d = true := by
  have aux : ∀ ds : List D, okDs ds = true → ∀ d ∈ ds, okD d = true := by
    intro ds
    induction ds with
    | nil => intro _ d hd; cases hd
    | cons e es ih =>
      intro h d hd
      simp only [okDs, Bool.and_eq_true] at h
      rcases List.mem_cons.mp hd with rfl | hm
      · exact h.1
      · exact ih h.2 d hm
  exact aux ds h
@[simp] theorem err_none : isErr .none = false := rfl
@[simp] theorem err_bool (b : Bool) : isErr (.bool b) = false := rfl
@[simp] theorem err_int (b : Int) : isErr (.int b) = false := rfl
@[simp] theorem err_str (b : Str) : isErr (.str b) = false := rfl
@[simp] theorem err_list (b : List D) : isErr (.list b) = false := rfl
@[simp] theorem err_tup (b : List D) : isErr (.tuple b) = false := rfl
end Pl

set_option Elab.async false
set_option linter.all false
set_option maxRecDepth 100000
set_option maxHeartbeats 4000000
namespace Pl.Law
open PySem PySem.Spec PyProof.Rows L2 PySem.W Pl
abbrev PR : Program := PySem.Challenge.pw_touchshare_k17_texts_back_and_forth
def topS (i : Nat) : Stmt := PR.main.body.getD i (.Pass ⟨0, 0, 0, 0⟩)
structure Txt (K : Frag) (mg : Str → Option Value) (ec : List (Addr × Str)) : Prop where
  d_is_any_integer : Dn K mg "is_any_integer" (topS 9)
  d_is_at_least : Dn K mg "is_at_least" (topS 8)
  d_is_integer : Dn K mg "is_integer" (topS 7)
  d_is_word : Dn K mg "is_word" (topS 10)
  d_written_integer : Dn K mg "written_integer" (topS 11)
  d_is_one_of : Dn K mg "is_one_of" (topS 12)
  d_is_tuple : Dn K mg "is_tuple" (topS 13)
  d_are_integers : Dn K mg "are_integers" (topS 14)
  d_is_ascending : Dn K mg "is_ascending" (topS 15)
  d__are_kinds : Dn K mg "_are_kinds" (topS 23)
  d__is_limit : Dn K mg "_is_limit" (topS 24)
  d__are_weak : Dn K mg "_are_weak" (topS 25)
  d__is_pick : Dn K mg "_is_pick" (topS 26)
  d__is_row : Dn K mg "_is_row" (topS 29)
  d__are_rows : Dn K mg "_are_rows" (topS 28)
  d__are_marks : Dn K mg "_are_marks" (topS 30)
  d__are_weights : Dn K mg "_are_weights" (topS 31)
  d__is_shares : Dn K mg "_is_shares" (topS 27)
  d__wrong_part : Dn K mg "_wrong_part" (topS 22)
  d_need_rule : Dn K mg "need_rule" (topS 20)
  d__is_touch : Dn K mg "_is_touch" (topS 32)
  d_need_journey : Dn K mg "need_journey" (topS 21)
  d__shares_words : Dn K mg "_shares_words" (topS 44)
  d__limit_word : Dn K mg "_limit_word" (topS 43)
  d_rule_text : Dn K mg "rule_text" (topS 38)
  d__need_string : Dn K mg "_need_string" (topS 42)
  d__told_words : Dn K mg "_told_words" (topS 46)
  d__told_limit : Dn K mg "_told_limit" (topS 47)
  d__told_once : Dn K mg "_told_once" (topS 48)
  d__told_pick : Dn K mg "_told_pick" (topS 49)
  d__told_places : Dn K mg "_told_places" (topS 51)
  d__told_shares : Dn K mg "_told_shares" (topS 50)
  d__told_rule : Dn K mg "_told_rule" (topS 45)
  d_read_rule : Dn K mg "read_rule" (topS 39)
  d_journey_text : Dn K mg "journey_text" (topS 40)
  d__told_touch : Dn K mg "_told_touch" (topS 53)
  d_read_journey : Dn K mg "read_journey" (topS 41)
  d__law_begun : Dn K mg "_law_begun" (topS 55)
  d__law_draw : Dn K mg "_law_draw" (topS 56)
  d__law_of : Dn K mg "_law_of" (topS 57)
  d__law_kinds : Dn K mg "_law_kinds" (topS 58)
  d__law_shares : Dn K mg "_law_shares" (topS 59)
  d__law_rule : Dn K mg "_law_rule" (topS 60)
  d__law_journey : Dn K mg "_law_journey" (topS 61)
  d__law_rule_rows : Dn K mg "_law_rule_rows" (topS 62)
  d__law_way_rows : Dn K mg "_law_way_rows" (topS 63)
  d_law : Dn K mg "law" (topS 64)
  g_GREATEST_AGE : GI mg "GREATEST_AGE" 1000000
  g_KINDS : GI mg "KINDS" 0
  g_MANY_ROWS : GI mg "MANY_ROWS" 8
  g_MOST_FIGURES : GI mg "MOST_FIGURES" 7
  g_MOST_TOUCHES : GI mg "MOST_TOUCHES" 200
  b_all : mg "all" = none
  b_bool : mg "bool" = none
  b_enumerate : mg "enumerate" = none
  b_int : mg "int" = none
  b_isinstance : mg "isinstance" = none
  b_len : mg "len" = none
  b_list : mg "list" = none
  b_min : mg "min" = none
  b_range : mg "range" = none
  b_repr : mg "repr" = none
  b_str : mg "str" = none
  b_sum : mg "sum" = none
  b_tuple : mg "tuple" = none
  b_zip : mg "zip" = none
  e_BadRule : ErrM PR K mg ec "BadRule" 0 "part"
  e_BadJourney : ErrM PR K mg ec "BadJourney" 1 "number"
  e_BadText : ErrM PR K mg ec "BadText" 2 "line"
  h_BadRule : HdN K mg ec ["BadRule"] [true, false, false]
  u_part : ∀ c ∈ ([0] : List Nat), ∃ C : Addr, ec[c]? = some (C, ("part" : Str))
  eci : EcI K ec
section
variable {w : World} {K : Frag} {mg : Str → Option Value} {base : Heap} {ec : List (Addr × Str)}
abbrev s_is_any_integer : Stmt := topS 9
abbrev N_is_any_integer : List Str := ["value"]
theorem nd_is_any_integer : N_is_any_integer.Nodup := by decide +kernel
def m_is_any_integer : SM := (retM (andV (isiM "int" (varM 0)) (notM (truM (isiM "bool" (varM 0))))))
abbrev f_is_any_integer : FM := fnM 1 m_is_any_integer
theorem cal_is_any_integer (T : Txt K mg ec) (SB : SysM base) : Cal PR w K mg base ec 1 1 "is_any_integer" f_is_any_integer :=
  cal_of (ps := ["value"]) (N := N_is_any_integer) (st := s_is_any_integer) (k := 0) T.d_is_any_integer ⟨rfl, rfl, rfl, by decide +kernel, rfl, by decide +kernel, by decide +kernel⟩ (fun _ _ _ _ _ _ us hl => match us, hl with | [_], _ => rfl) (by
  intro f cdv A outer s H E hr hg
  exact (pss_1 (ps_r (pe_a (pe_isi (T := "int") (pe_v 0) (by rfl) (by exact T.b_isinstance) (by rfl) (by exact T.b_int) (by decide +kernel)) (pe_1 (pe_n (pe_isi (T := "bool") (pe_v 0) (by rfl) (by exact T.b_isinstance) (by rfl) (by exact T.b_bool) (by decide +kernel))))))))

abbrev s_is_at_least : Stmt := topS 8
abbrev N_is_at_least : List Str := ["value", "least"]
theorem nd_is_at_least : N_is_at_least.Nodup := by decide +kernel
def m_is_at_least : SM := (retM (andV (callF 1 f_is_any_integer (acons (varM 0) anil)) (binM gLe (varM 1) (varM 0))))
abbrev f_is_at_least : FM := fnM 2 m_is_at_least
theorem cal_is_at_least (T : Txt K mg ec) (SB : SysM base) : Cal PR w K mg base ec 2 2 "is_at_least" f_is_at_least :=
  cal_of (ps := ["value", "least"]) (N := N_is_at_least) (st := s_is_at_least) (k := 1) T.d_is_at_least ⟨rfl, rfl, rfl, by decide +kernel, rfl, by decide +kernel, by decide +kernel⟩ (fun _ _ _ _ _ _ us hl => match us, hl with | [_, _], _ => rfl) (by
  intro f cdv A outer s H E hr hg
  exact (pss_1 (ps_r (pe_a (pe_cal (by exact cal_is_any_integer T SB) (by exact hr.mono (by decide)) (by exact hg) (by rfl) fn_tk (pa_c (pe_v 0) pa_n)) (pe_1 (pe_le  (pe_v 1) (pe_v 0)))))))

abbrev s_is_integer : Stmt := topS 7
abbrev N_is_integer : List Str := ["value", "least", "greatest"]
theorem nd_is_integer : N_is_integer.Nodup := by decide +kernel
def m_is_integer : SM := (retM (andV (callF 2 f_is_at_least (acons (varM 0) (acons (varM 1) anil))) (binM gLe (varM 0) (varM 2))))
abbrev f_is_integer : FM := fnM 3 m_is_integer
theorem cal_is_integer (T : Txt K mg ec) (SB : SysM base) : Cal PR w K mg base ec 3 3 "is_integer" f_is_integer :=
  cal_of (ps := ["value", "least", "greatest"]) (N := N_is_integer) (st := s_is_integer) (k := 2) T.d_is_integer ⟨rfl, rfl, rfl, by decide +kernel, rfl, by decide +kernel, by decide +kernel⟩ (fun _ _ _ _ _ _ us hl => match us, hl with | [_, _, _], _ => rfl) (by
  intro f cdv A outer s H E hr hg
  exact (pss_1 (ps_r (pe_a (pe_cal (by exact cal_is_at_least T SB) (by exact hr.mono (by decide)) (by exact hg) (by rfl) fn_tk (pa_c (pe_v 0) (pa_c (pe_v 1) pa_n))) (pe_1 (pe_le  (pe_v 0) (pe_v 2)))))))

abbrev s_is_word : Stmt := topS 10
abbrev N_is_word : List Str := ["value", "sign"]
theorem nd_is_word : N_is_word.Nodup := by decide +kernel
def m_is_word : SM := (seqM (ifS (orM (notM (truM (isiM "str" (varM 0)))) (notM (chM gLe gLe (cstM (.int 1)) (callM gLen (acons (varM 0) anil)) (cstM (.int 6))))) (retM (cstM (.bool false))) nilM)
  (retM (callM gAll (acons (compM (seqI true (varM 0)) [1] (.nm 1) yesM (chM gLe gLe (cstM (.str "a")) (varM 1) (cstM (.str "z")))) anil))))
abbrev f_is_word : FM := fnM 2 m_is_word
theorem cal_is_word (T : Txt K mg ec) (SB : SysM base) : Cal PR w K mg base ec 1 1 "is_word" f_is_word :=
  cal_of (ps := ["value"]) (N := N_is_word) (st := s_is_word) (k := 0) T.d_is_word ⟨rfl, rfl, rfl, by decide +kernel, rfl, by decide +kernel, by decide +kernel⟩ (fun _ _ _ _ _ _ us hl => match us, hl with | [_], _ => rfl) (by
  intro f cdv A outer s H E hr hg
  exact (pss_c (ps_i (pw_o (pt_n (pt_tru (pe_isi (T := "str") (pe_v 0) (by rfl) (by exact T.b_isinstance) (by rfl) (by exact T.b_str) (by decide +kernel)))) (pw_o1 (pt_n (pt_lele pe_ci (pe_cB call_len snd_len (by rfl) (by exact T.b_len) (by decide +kernel) (pa_c (pe_v 0) pa_n)) pe_ci)))).pt (pss_1 (ps_r pe_cb)) pss_n)
  (pss_1 (ps_r (pe_cB (cr_all rfl) snd_all (by rfl) (by exact T.b_all) (by decide +kernel) (pa_c (pe_comp (own := [("sign", 1)]) (by rfl) (by exact nd_is_word) (pi_any (pe_v 0)) (blkOk_by (N := N_is_word) (sc := (defScope s_is_word)) (own := [("sign", 1)]) (by decide +kernel)) (fun _ _ _ _ _ => (pg_name (by exact nd_is_word) (by rfl) (by exact .inl rfl))) (fun _ _ _ _ _ => pts_n) (fun _ _ _ _ _ => (pe_lele pe_cs (pe_v 1) pe_cs)) tg_nm (by decide)) pa_n))))))

abbrev s_written_integer : Stmt := topS 11
abbrev N_written_integer : List Str := ["word", "sign"]
theorem nd_written_integer : N_written_integer.Nodup := by decide +kernel
def m_written_integer : SM := (seqM (ifS (orM (notM (chM gLe gLe (cstM (.int 1)) (callM gLen (acons (varM 0) anil)) (cstM (.int 7)))) (notM (truM (callM gAll (acons (compM (seqI true (varM 0)) [1] (.nm 1) yesM (chM gLe gLe (cstM (.str "0")) (varM 1) (cstM (.str "9")))) anil))))) (retM (cstM .none)) nilM)
  (seqM (ifS (andM (binM gEqq (binM gIxS (varM 0) (cstM (.int 0))) (cstM (.str "0"))) (binM gNeq (varM 0) (cstM (.str "0")))) (retM (cstM .none)) nilM)
  (retM (callM gIntS (acons (varM 0) anil)))))
abbrev f_written_integer : FM := fnM 2 m_written_integer
theorem cal_written_integer (T : Txt K mg ec) (SB : SysM base) : Cal PR w K mg base ec 1 1 "written_integer" f_written_integer :=
  cal_of (ps := ["word"]) (N := N_written_integer) (st := s_written_integer) (k := 0) T.d_written_integer ⟨rfl, rfl, rfl, by decide +kernel, rfl, by decide +kernel, by decide +kernel⟩ (fun _ _ _ _ _ _ us hl => match us, hl with | [_], _ => rfl) (by
  intro f cdv A outer s H E hr hg
  exact (pss_c (ps_i (pw_o (pt_n (pt_lele pe_ci (pe_cB call_len snd_len (by rfl) (by exact T.b_len) (by decide +kernel) (pa_c (pe_v 0) pa_n)) (pe_gI (by exact T.g_MOST_FIGURES) (by rfl)))) (pw_o1 (pt_n (pt_tru (pe_cB (cr_all rfl) snd_all (by rfl) (by exact T.b_all) (by decide +kernel) (pa_c (pe_comp (own := [("sign", 1)]) (by rfl) (by exact nd_written_integer) (pi_any (pe_v 0)) (blkOk_by (N := N_written_integer) (sc := (defScope s_written_integer)) (own := [("sign", 1)]) (by decide +kernel)) (fun _ _ _ _ _ => (pg_name (by exact nd_written_integer) (by rfl) (by exact .inl rfl))) (fun _ _ _ _ _ => pts_n) (fun _ _ _ _ _ => (pe_lele pe_cs (pe_v 1) pe_cs)) tg_nm (by decide)) pa_n)))))).pt (pss_1 (ps_r pe_cn)) pss_n)
  (pss_c (ps_i (pw_a (pt_eq (by exact hr.units) (pe_ixs (pe_v 0) pe_ci) pe_cs) (pw_a1 (pt_ne (by exact hr.units) (pe_v 0) pe_cs))).pt (pss_1 (ps_r pe_cn)) pss_n)
  (pss_1 (ps_r (pe_cT call_int_str snd_ints (by rfl) (by exact T.b_int) (by decide +kernel) (pa_c (pe_v 0) pa_n)))))))

abbrev s_is_one_of : Stmt := topS 12
abbrev N_is_one_of : List Str := ["value", "words"]
theorem nd_is_one_of : N_is_one_of.Nodup := by decide +kernel
def m_is_one_of : SM := (retM (andV (isiM "str" (varM 0)) (binM (gIn false) (varM 0) (varM 1))))
abbrev f_is_one_of : FM := fnM 2 m_is_one_of
theorem cal_is_one_of (T : Txt K mg ec) (SB : SysM base) : Cal PR w K mg base ec 1 2 "is_one_of" f_is_one_of :=
  cal_of (ps := ["value", "words"]) (N := N_is_one_of) (st := s_is_one_of) (k := 0) T.d_is_one_of ⟨rfl, rfl, rfl, by decide +kernel, rfl, by decide +kernel, by decide +kernel⟩ (fun _ _ _ _ _ _ us hl => match us, hl with | [_, _], _ => rfl) (by
  intro f cdv A outer s H E hr hg
  exact (pss_1 (ps_r (pe_a (pe_isi (T := "str") (pe_v 0) (by rfl) (by exact T.b_isinstance) (by rfl) (by exact T.b_str) (by decide +kernel)) (pe_1 (pe_in  (pe_v 0) (pe_v 1)))))))

abbrev s_is_tuple : Stmt := topS 13
abbrev N_is_tuple : List Str := ["value", "many"]
theorem nd_is_tuple : N_is_tuple.Nodup := by decide +kernel
def m_is_tuple : SM := (retM (andV (isiM "tuple" (varM 0)) (binM gEqq (callM gLen (acons (varM 0) anil)) (varM 1))))
abbrev f_is_tuple : FM := fnM 2 m_is_tuple
theorem cal_is_tuple (T : Txt K mg ec) (SB : SysM base) : Cal PR w K mg base ec 1 2 "is_tuple" f_is_tuple :=
  cal_of (ps := ["value", "many"]) (N := N_is_tuple) (st := s_is_tuple) (k := 0) T.d_is_tuple ⟨rfl, rfl, rfl, by decide +kernel, rfl, by decide +kernel, by decide +kernel⟩ (fun _ _ _ _ _ _ us hl => match us, hl with | [_, _], _ => rfl) (by
  intro f cdv A outer s H E hr hg
  exact (pss_1 (ps_r (pe_a (pe_isi (T := "tuple") (pe_v 0) (by rfl) (by exact T.b_isinstance) (by rfl) (by exact T.b_tuple) (by decide +kernel)) (pe_1 (pe_eq (by exact hr.units) (pe_cB call_len snd_len (by rfl) (by exact T.b_len) (by decide +kernel) (pa_c (pe_v 0) pa_n)) (pe_v 1)))))))

abbrev s_are_integers : Stmt := topS 14
abbrev N_are_integers : List Str := ["value", "least", "greatest", "one"]
theorem nd_are_integers : N_are_integers.Nodup := by decide +kernel
def m_are_integers : SM := (retM (andV (isiM "tuple" (varM 0)) (callM gAll (acons (compM (seqI true (varM 0)) [3] (.nm 3) yesM (callF 3 f_is_integer (acons (varM 3) (acons (varM 1) (acons (varM 2) anil))))) anil))))
abbrev f_are_integers : FM := fnM 4 m_are_integers
theorem cal_are_integers (T : Txt K mg ec) (SB : SysM base) : Cal PR w K mg base ec 4 3 "are_integers" f_are_integers :=
  cal_of (ps := ["value", "least", "greatest"]) (N := N_are_integers) (st := s_are_integers) (k := 3) T.d_are_integers ⟨rfl, rfl, rfl, by decide +kernel, rfl, by decide +kernel, by decide +kernel⟩ (fun _ _ _ _ _ _ us hl => match us, hl with | [_, _, _], _ => rfl) (by
  intro f cdv A outer s H E hr hg
  exact (pss_1 (ps_r (pe_a (pe_isi (T := "tuple") (pe_v 0) (by rfl) (by exact T.b_isinstance) (by rfl) (by exact T.b_tuple) (by decide +kernel)) (pe_1 (pe_cB (cr_all rfl) snd_all (by rfl) (by exact T.b_all) (by decide +kernel) (pa_c (pe_comp (own := [("one", 3)]) (by rfl) (by exact nd_are_integers) (pi_any (pe_v 0)) (blkOk_by (N := N_are_integers) (sc := (defScope s_are_integers)) (own := [("one", 3)]) (by decide +kernel)) (fun _ _ _ _ _ => (pg_name (by exact nd_are_integers) (by rfl) (by exact .inl rfl))) (fun _ _ _ _ _ => pts_n) (fun _ _ _ _ _ => (pe_cal (by exact cal_is_integer T SB) (by exact hr.mono (by decide)) (by exact hg) (by rfl) blk_tk (pa_c (pe_v 3) (pa_c (pe_v 1) (pa_c (pe_v 2) pa_n))))) tg_nm (by decide)) pa_n)))))))

abbrev s_is_ascending : Stmt := topS 15
abbrev N_is_ascending : List Str := ["things", "ahead", "thing"]
theorem nd_is_ascending : N_is_ascending.Nodup := by decide +kernel
def m_is_ascending : SM := (retM (callM gAll (acons (compM (zipI (acons (varM 0) (acons (sliM (varM 0) (.som (cstM (.int 1))) .no) anil))) [1, 2] (.tp [1, 2]) yesM (binM gLt (varM 1) (varM 2))) anil)))
abbrev f_is_ascending : FM := fnM 3 m_is_ascending
theorem cal_is_ascending (T : Txt K mg ec) (SB : SysM base) : Cal PR w K mg base ec 1 1 "is_ascending" f_is_ascending :=
  cal_of (ps := ["things"]) (N := N_is_ascending) (st := s_is_ascending) (k := 0) T.d_is_ascending ⟨rfl, rfl, rfl, by decide +kernel, rfl, by decide +kernel, by decide +kernel⟩ (fun _ _ _ _ _ _ us hl => match us, hl with | [_], _ => rfl) (by
  intro f cdv A outer s H E hr hg
  exact (pss_1 (ps_r (pe_cB (cr_all rfl) snd_all (by rfl) (by exact T.b_all) (by decide +kernel) (pa_c (pe_comp (own := [("ahead", 1), ("thing", 2)]) (by rfl) (by exact nd_is_ascending) (pi_zp (by rfl) (by exact T.b_zip) (pa_c (pe_v 0) (pa_c (pe_sl (pe_v 0) (po_s pe_ci) po_n) pa_n))) (blkOk_by (N := N_is_ascending) (sc := (defScope s_is_ascending)) (own := [("ahead", 1), ("thing", 2)]) (by decide +kernel)) (fun _ _ _ _ _ => (pg_tup (by rfl) (pgs_cons (pg_name (by exact nd_is_ascending) (i := 1) (by rfl) (by exact .inl rfl)) (pgs_cons (pg_name (by exact nd_is_ascending) (i := 2) (by rfl) (by exact .inl rfl)) pgs_nil)))) (fun _ _ _ _ _ => pts_n) (fun _ _ _ _ _ => (pe_lt  (pe_v 1) (pe_v 2))) (tg_tp (is := [1, 2])) (by decide)) pa_n)))))

abbrev s__are_kinds : Stmt := topS 23
abbrev N__are_kinds : List Str := ["value", "kind"]
theorem nd__are_kinds : N__are_kinds.Nodup := by decide +kernel
def m__are_kinds : SM := (seqM (ifS (orM (notM (truM (isiM "tuple" (varM 0)))) (notM (chM gLe gLe (cstM (.int 1)) (callM gLen (acons (varM 0) anil)) (cstM (.int 4))))) (retM (cstM (.bool false))) nilM)
  (retM (andV (callM gAll (acons (compM (seqI true (varM 0)) [1] (.nm 1) yesM (callF 1 f_is_word (acons (varM 1) anil))) anil)) (callF 1 f_is_ascending (acons (varM 0) anil)))))
abbrev f__are_kinds : FM := fnM 2 m__are_kinds
theorem cal__are_kinds (T : Txt K mg ec) (SB : SysM base) : Cal PR w K mg base ec 2 1 "_are_kinds" f__are_kinds :=
  cal_of (ps := ["value"]) (N := N__are_kinds) (st := s__are_kinds) (k := 1) T.d__are_kinds ⟨rfl, rfl, rfl, by decide +kernel, rfl, by decide +kernel, by decide +kernel⟩ (fun _ _ _ _ _ _ us hl => match us, hl with | [_], _ => rfl) (by
  intro f cdv A outer s H E hr hg
  exact (pss_c (ps_i (pw_o (pt_n (pt_tru (pe_isi (T := "tuple") (pe_v 0) (by rfl) (by exact T.b_isinstance) (by rfl) (by exact T.b_tuple) (by decide +kernel)))) (pw_o1 (pt_n (pt_lele pe_ci (pe_cB call_len snd_len (by rfl) (by exact T.b_len) (by decide +kernel) (pa_c (pe_v 0) pa_n)) pe_ci)))).pt (pss_1 (ps_r pe_cb)) pss_n)
  (pss_1 (ps_r (pe_a (pe_cB (cr_all rfl) snd_all (by rfl) (by exact T.b_all) (by decide +kernel) (pa_c (pe_comp (own := [("kind", 1)]) (by rfl) (by exact nd__are_kinds) (pi_any (pe_v 0)) (blkOk_by (N := N__are_kinds) (sc := (defScope s__are_kinds)) (own := [("kind", 1)]) (by decide +kernel)) (fun _ _ _ _ _ => (pg_name (by exact nd__are_kinds) (by rfl) (by exact .inl rfl))) (fun _ _ _ _ _ => pts_n) (fun _ _ _ _ _ => (pe_cal (by exact cal_is_word T SB) (by exact hr.mono (by decide)) (by exact hg) (by rfl) blk_tk (pa_c (pe_v 1) pa_n))) tg_nm (by decide)) pa_n)) (pe_1 (pe_cal (by exact cal_is_ascending T SB) (by exact hr.mono (by decide)) (by exact hg) (by rfl) fn_tk (pa_c (pe_v 0) pa_n))))))))

abbrev s__is_limit : Stmt := topS 24
abbrev N__is_limit : List Str := ["value", "greatest"]
theorem nd__is_limit : N__is_limit.Nodup := by decide +kernel
def m__is_limit : SM := (retM (orV (binM (gIs id) (varM 0) (cstM .none)) (callF 3 f_is_integer (acons (varM 0) (acons (cstM (.int 0)) (acons (varM 1) anil))))))
abbrev f__is_limit : FM := fnM 2 m__is_limit
theorem cal__is_limit (T : Txt K mg ec) (SB : SysM base) : Cal PR w K mg base ec 4 2 "_is_limit" f__is_limit :=
  cal_of (ps := ["value", "greatest"]) (N := N__is_limit) (st := s__is_limit) (k := 3) T.d__is_limit ⟨rfl, rfl, rfl, by decide +kernel, rfl, by decide +kernel, by decide +kernel⟩ (fun _ _ _ _ _ _ us hl => match us, hl with | [_, _], _ => rfl) (by
  intro f cdv A outer s H E hr hg
  exact (pss_1 (ps_r (pe_o (pe_is  (pe_v 0) pe_cn) (pe_1 (pe_cal (by exact cal_is_integer T SB) (by exact hr.mono (by decide)) (by exact hg) (by rfl) fn_tk (pa_c (pe_v 0) (pa_c pe_ci (pa_c (pe_v 1) pa_n)))))))))

abbrev s__are_weak : Stmt := topS 25
abbrev N__are_weak : List Str := ["kinds", "value", "kind"]
theorem nd__are_weak : N__are_weak.Nodup := by decide +kernel
def m__are_weak : SM := (seqM (ifS (notM (truM (isiM "tuple" (varM 1)))) (retM (cstM (.bool false))) nilM)
  (retM (andV (callM gAll (acons (compM (seqI true (varM 1)) [2] (.nm 2) yesM (callF 2 f_is_one_of (acons (varM 2) (acons (varM 0) anil)))) anil)) (callF 1 f_is_ascending (acons (varM 1) anil)))))
abbrev f__are_weak : FM := fnM 3 m__are_weak
theorem cal__are_weak (T : Txt K mg ec) (SB : SysM base) : Cal PR w K mg base ec 2 2 "_are_weak" f__are_weak :=
  cal_of (ps := ["kinds", "value"]) (N := N__are_weak) (st := s__are_weak) (k := 1) T.d__are_weak ⟨rfl, rfl, rfl, by decide +kernel, rfl, by decide +kernel, by decide +kernel⟩ (fun _ _ _ _ _ _ us hl => match us, hl with | [_, _], _ => rfl) (by
  intro f cdv A outer s H E hr hg
  exact (pss_c (ps_i (pt_n (pt_tru (pe_isi (T := "tuple") (pe_v 1) (by rfl) (by exact T.b_isinstance) (by rfl) (by exact T.b_tuple) (by decide +kernel)))) (pss_1 (ps_r pe_cb)) pss_n)
  (pss_1 (ps_r (pe_a (pe_cB (cr_all rfl) snd_all (by rfl) (by exact T.b_all) (by decide +kernel) (pa_c (pe_comp (own := [("kind", 2)]) (by rfl) (by exact nd__are_weak) (pi_any (pe_v 1)) (blkOk_by (N := N__are_weak) (sc := (defScope s__are_weak)) (own := [("kind", 2)]) (by decide +kernel)) (fun _ _ _ _ _ => (pg_name (by exact nd__are_weak) (by rfl) (by exact .inl rfl))) (fun _ _ _ _ _ => pts_n) (fun _ _ _ _ _ => (pe_cal (by exact cal_is_one_of T SB) (by exact hr.mono (by decide)) (by exact hg) (by rfl) blk_tk (pa_c (pe_v 2) (pa_c (pe_v 0) pa_n)))) tg_nm (by decide)) pa_n)) (pe_1 (pe_cal (by exact cal_is_ascending T SB) (by exact hr.mono (by decide)) (by exact hg) (by rfl) fn_tk (pa_c (pe_v 1) pa_n))))))))

abbrev s__is_pick : Stmt := topS 26
abbrev N__is_pick : List Str := ["value"]
theorem nd__is_pick : N__is_pick.Nodup := by decide +kernel
def m__is_pick : SM := (retM (andV (callF 2 f_is_tuple (acons (varM 0) (acons (cstM (.int 2)) anil))) (andV (callF 2 f_is_one_of (acons (binM gIx (varM 0) (cstM (.int 0))) (acons (tupM (acons (cstM (.str "first")) (acons (cstM (.str "last")) anil))) anil))) (callF 3 f_is_integer (acons (binM gIx (varM 0) (cstM (.int 1))) (acons (cstM (.int 1)) (acons (cstM (.int 4)) anil)))))))
abbrev f__is_pick : FM := fnM 1 m__is_pick
theorem cal__is_pick (T : Txt K mg ec) (SB : SysM base) : Cal PR w K mg base ec 4 1 "_is_pick" f__is_pick :=
  cal_of (ps := ["value"]) (N := N__is_pick) (st := s__is_pick) (k := 3) T.d__is_pick ⟨rfl, rfl, rfl, by decide +kernel, rfl, by decide +kernel, by decide +kernel⟩ (fun _ _ _ _ _ _ us hl => match us, hl with | [_], _ => rfl) (by
  intro f cdv A outer s H E hr hg
  exact (pss_1 (ps_r (pe_a (pe_cal (by exact cal_is_tuple T SB) (by exact hr.mono (by decide)) (by exact hg) (by rfl) fn_tk (pa_c (pe_v 0) (pa_c pe_ci pa_n))) (pe_a (pe_cal (by exact cal_is_one_of T SB) (by exact hr.mono (by decide)) (by exact hg) (by rfl) fn_tk (pa_c (pe_ixx (pe_v 0) pe_ci) (pa_c (pe_tu (pa_c pe_cs (pa_c pe_cs pa_n))) pa_n))) (pe_1 (pe_cal (by exact cal_is_integer T SB) (by exact hr.mono (by decide)) (by exact hg) (by rfl) fn_tk (pa_c (pe_ixx (pe_v 0) pe_ci) (pa_c pe_ci (pa_c pe_ci pa_n))))))))))

abbrev s__is_row : Stmt := topS 29
abbrev N__is_row : List Str := ["value", "many"]
theorem nd__is_row : N__is_row.Nodup := by decide +kernel
def m__is_row : SM := (retM (andV (callF 2 f_is_tuple (acons (varM 0) (acons (varM 1) anil))) (andV (callF 3 f_are_integers (acons (varM 0) (acons (cstM (.int 0)) (acons (cstM (.int 100)) anil)))) (binM gLe (callM gSum (acons (varM 0) anil)) (cstM (.int 100))))))
abbrev f__is_row : FM := fnM 2 m__is_row
theorem cal__is_row (T : Txt K mg ec) (SB : SysM base) : Cal PR w K mg base ec 5 2 "_is_row" f__is_row :=
  cal_of (ps := ["value", "many"]) (N := N__is_row) (st := s__is_row) (k := 4) T.d__is_row ⟨rfl, rfl, rfl, by decide +kernel, rfl, by decide +kernel, by decide +kernel⟩ (fun _ _ _ _ _ _ us hl => match us, hl with | [_, _], _ => rfl) (by
  intro f cdv A outer s H E hr hg
  exact (pss_1 (ps_r (pe_a (pe_cal (by exact cal_is_tuple T SB) (by exact hr.mono (by decide)) (by exact hg) (by rfl) fn_tk (pa_c (pe_v 0) (pa_c (pe_v 1) pa_n))) (pe_a (pe_cal (by exact cal_are_integers T SB) (by exact hr.mono (by decide)) (by exact hg) (by rfl) fn_tk (pa_c (pe_v 0) (pa_c pe_ci (pa_c pe_ci pa_n)))) (pe_1 (pe_le  (pe_cB (cr_sumA rfl) snd_sum (by rfl) (by exact T.b_sum) (by decide +kernel) (pa_c (pe_v 0) pa_n)) pe_ci)))))))

abbrev s__are_rows : Stmt := topS 28
abbrev N__are_rows : List Str := ["value", "most", "place", "row"]
theorem nd__are_rows : N__are_rows.Nodup := by decide +kernel
def m__are_rows : SM := (seqM (ifS (notM (truM (callF 2 f_is_tuple (acons (varM 0) (acons (varM 1) anil))))) (retM (cstM (.bool false))) nilM)
  (retM (callM gAll (acons (compM (enaI (acons (varM 0) anil)) [2, 3] (.tp [2, 3]) yesM (callF 2 f__is_row (acons (varM 3) (acons (binM gAdd (varM 2) (cstM (.int 1))) anil)))) anil))))
abbrev f__are_rows : FM := fnM 4 m__are_rows
theorem cal__are_rows (T : Txt K mg ec) (SB : SysM base) : Cal PR w K mg base ec 6 2 "_are_rows" f__are_rows :=
  cal_of (ps := ["value", "most"]) (N := N__are_rows) (st := s__are_rows) (k := 5) T.d__are_rows ⟨rfl, rfl, rfl, by decide +kernel, rfl, by decide +kernel, by decide +kernel⟩ (fun _ _ _ _ _ _ us hl => match us, hl with | [_, _], _ => rfl) (by
  intro f cdv A outer s H E hr hg
  exact (pss_c (ps_i (pt_n (pt_tru (pe_cal (by exact cal_is_tuple T SB) (by exact hr.mono (by decide)) (by exact hg) (by rfl) fn_tk (pa_c (pe_v 0) (pa_c (pe_v 1) pa_n))))) (pss_1 (ps_r pe_cb)) pss_n)
  (pss_1 (ps_r (pe_cB (cr_all rfl) snd_all (by rfl) (by exact T.b_all) (by decide +kernel) (pa_c (pe_comp (own := [("place", 2), ("row", 3)]) (by rfl) (by exact nd__are_rows) (pi_ena (by rfl) (by exact T.b_enumerate) (pa_c (pe_v 0) pa_n)) (blkOk_by (N := N__are_rows) (sc := (defScope s__are_rows)) (own := [("place", 2), ("row", 3)]) (by decide +kernel)) (fun _ _ _ _ _ => (pg_tup (by rfl) (pgs_cons (pg_name (by exact nd__are_rows) (i := 2) (by rfl) (by exact .inl rfl)) (pgs_cons (pg_name (by exact nd__are_rows) (i := 3) (by rfl) (by exact .inl rfl)) pgs_nil)))) (fun _ _ _ _ _ => pts_n) (fun _ _ _ _ _ => (pe_cal (by exact cal__is_row T SB) (by exact hr.mono (by decide)) (by exact hg) (by rfl) blk_tk (pa_c (pe_v 3) (pa_c (pe_add (pe_v 2) pe_ci) pa_n)))) (tg_tp (is := [2, 3])) (by decide)) pa_n))))))

abbrev s__are_marks : Stmt := topS 30
abbrev N__are_marks : List Str := ["value"]
theorem nd__are_marks : N__are_marks.Nodup := by decide +kernel
def m__are_marks : SM := (retM (andV (callF 3 f_are_integers (acons (varM 0) (acons (cstM (.int 1)) (acons (cstM (.int 60)) anil)))) (andV (binM gLe (callM gLen (acons (varM 0) anil)) (cstM (.int 3))) (callF 1 f_is_ascending (acons (varM 0) anil)))))
abbrev f__are_marks : FM := fnM 1 m__are_marks
theorem cal__are_marks (T : Txt K mg ec) (SB : SysM base) : Cal PR w K mg base ec 5 1 "_are_marks" f__are_marks :=
  cal_of (ps := ["value"]) (N := N__are_marks) (st := s__are_marks) (k := 4) T.d__are_marks ⟨rfl, rfl, rfl, by decide +kernel, rfl, by decide +kernel, by decide +kernel⟩ (fun _ _ _ _ _ _ us hl => match us, hl with | [_], _ => rfl) (by
  intro f cdv A outer s H E hr hg
  exact (pss_1 (ps_r (pe_a (pe_cal (by exact cal_are_integers T SB) (by exact hr.mono (by decide)) (by exact hg) (by rfl) fn_tk (pa_c (pe_v 0) (pa_c pe_ci (pa_c pe_ci pa_n)))) (pe_a (pe_le  (pe_cB call_len snd_len (by rfl) (by exact T.b_len) (by decide +kernel) (pa_c (pe_v 0) pa_n)) pe_ci) (pe_1 (pe_cal (by exact cal_is_ascending T SB) (by exact hr.mono (by decide)) (by exact hg) (by rfl) fn_tk (pa_c (pe_v 0) pa_n))))))))

abbrev s__are_weights : Stmt := topS 31
abbrev N__are_weights : List Str := ["value", "many"]
theorem nd__are_weights : N__are_weights.Nodup := by decide +kernel
def m__are_weights : SM := (retM (andV (callF 2 f_is_tuple (acons (varM 0) (acons (varM 1) anil))) (callF 3 f_are_integers (acons (varM 0) (acons (cstM (.int 0)) (acons (cstM (.int 9)) anil))))))
abbrev f__are_weights : FM := fnM 2 m__are_weights
theorem cal__are_weights (T : Txt K mg ec) (SB : SysM base) : Cal PR w K mg base ec 5 2 "_are_weights" f__are_weights :=
  cal_of (ps := ["value", "many"]) (N := N__are_weights) (st := s__are_weights) (k := 4) T.d__are_weights ⟨rfl, rfl, rfl, by decide +kernel, rfl, by decide +kernel, by decide +kernel⟩ (fun _ _ _ _ _ _ us hl => match us, hl with | [_, _], _ => rfl) (by
  intro f cdv A outer s H E hr hg
  exact (pss_1 (ps_r (pe_a (pe_cal (by exact cal_is_tuple T SB) (by exact hr.mono (by decide)) (by exact hg) (by rfl) fn_tk (pa_c (pe_v 0) (pa_c (pe_v 1) pa_n))) (pe_1 (pe_cal (by exact cal_are_integers T SB) (by exact hr.mono (by decide)) (by exact hg) (by rfl) fn_tk (pa_c (pe_v 0) (pa_c pe_ci (pa_c pe_ci pa_n)))))))))

abbrev s__is_shares : Stmt := topS 27
abbrev N__is_shares : List Str := ["value", "most"]
theorem nd__is_shares : N__is_shares.Nodup := by decide +kernel
def m__is_shares : SM := (seqM (ifS (orM (notM (truM (isiM "tuple" (varM 0)))) (orM (notM (truM (varM 0))) (notM (truM (isiM "str" (binM gIx (varM 0) (cstM (.int 0)))))))) (retM (cstM (.bool false))) nilM)
  (seqM (ifS (binM gEqq (binM gIx (varM 0) (cstM (.int 0))) (cstM (.str "even"))) (retM (binM gEqq (callM gLen (acons (varM 0) anil)) (cstM (.int 1)))) nilM)
  (seqM (ifS (binM gEqq (binM gIx (varM 0) (cstM (.int 0))) (cstM (.str "places"))) (retM (andV (binM gEqq (callM gLen (acons (varM 0) anil)) (cstM (.int 2))) (callF 2 f__are_rows (acons (binM gIx (varM 0) (cstM (.int 1))) (acons (varM 1) anil))))) nilM)
  (seqM (ifS (binM gEqq (binM gIx (varM 0) (cstM (.int 0))) (cstM (.str "ages"))) (retM (andV (binM gEqq (callM gLen (acons (varM 0) anil)) (cstM (.int 3))) (andV (callF 1 f__are_marks (acons (binM gIx (varM 0) (cstM (.int 1))) anil)) (callF 2 f__are_weights (acons (binM gIx (varM 0) (cstM (.int 2))) (acons (binM gAdd (callM gLen (acons (binM gIx (varM 0) (cstM (.int 1))) anil)) (cstM (.int 1))) anil)))))) nilM)
  (retM (cstM (.bool false)))))))
abbrev f__is_shares : FM := fnM 2 m__is_shares
theorem cal__is_shares (T : Txt K mg ec) (SB : SysM base) : Cal PR w K mg base ec 7 2 "_is_shares" f__is_shares :=
  cal_of (ps := ["value", "most"]) (N := N__is_shares) (st := s__is_shares) (k := 6) T.d__is_shares ⟨rfl, rfl, rfl, by decide +kernel, rfl, by decide +kernel, by decide +kernel⟩ (fun _ _ _ _ _ _ us hl => match us, hl with | [_, _], _ => rfl) (by
  intro f cdv A outer s H E hr hg
  exact (pss_c (ps_i (pw_o (pt_n (pt_tru (pe_isi (T := "tuple") (pe_v 0) (by rfl) (by exact T.b_isinstance) (by rfl) (by exact T.b_tuple) (by decide +kernel)))) (pw_o (pt_n (pt_tru (pe_v 0))) (pw_o1 (pt_n (pt_tru (pe_isi (T := "str") (pe_ixx (pe_v 0) pe_ci) (by rfl) (by exact T.b_isinstance) (by rfl) (by exact T.b_str) (by decide +kernel))))))).pt (pss_1 (ps_r pe_cb)) pss_n)
  (pss_c (ps_i (pt_eq (by exact hr.units) (pe_ixx (pe_v 0) pe_ci) pe_cs) (pss_1 (ps_r (pe_eq (by exact hr.units) (pe_cB call_len snd_len (by rfl) (by exact T.b_len) (by decide +kernel) (pa_c (pe_v 0) pa_n)) pe_ci))) pss_n)
  (pss_c (ps_i (pt_eq (by exact hr.units) (pe_ixx (pe_v 0) pe_ci) pe_cs) (pss_1 (ps_r (pe_a (pe_eq (by exact hr.units) (pe_cB call_len snd_len (by rfl) (by exact T.b_len) (by decide +kernel) (pa_c (pe_v 0) pa_n)) pe_ci) (pe_1 (pe_cal (by exact cal__are_rows T SB) (by exact hr.mono (by decide)) (by exact hg) (by rfl) fn_tk (pa_c (pe_ixx (pe_v 0) pe_ci) (pa_c (pe_v 1) pa_n))))))) pss_n)
  (pss_c (ps_i (pt_eq (by exact hr.units) (pe_ixx (pe_v 0) pe_ci) pe_cs) (pss_1 (ps_r (pe_a (pe_eq (by exact hr.units) (pe_cB call_len snd_len (by rfl) (by exact T.b_len) (by decide +kernel) (pa_c (pe_v 0) pa_n)) pe_ci) (pe_a (pe_cal (by exact cal__are_marks T SB) (by exact hr.mono (by decide)) (by exact hg) (by rfl) fn_tk (pa_c (pe_ixx (pe_v 0) pe_ci) pa_n)) (pe_1 (pe_cal (by exact cal__are_weights T SB) (by exact hr.mono (by decide)) (by exact hg) (by rfl) fn_tk (pa_c (pe_ixx (pe_v 0) pe_ci) (pa_c (pe_add (pe_cB call_len snd_len (by rfl) (by exact T.b_len) (by decide +kernel) (pa_c (pe_ixx (pe_v 0) pe_ci) pa_n)) pe_ci) pa_n)))))))) pss_n)
  (pss_1 (ps_r pe_cb)))))))

abbrev s__wrong_part : Stmt := topS 22
abbrev N__wrong_part : List Str := ["things", "kinds", "window", "gap", "weak", "once", "pick", "shares"]
theorem nd__wrong_part : N__wrong_part.Nodup := by decide +kernel
def m__wrong_part : SM := (seqM (unpM (.tp [1, 2, 3, 4, 5, 6, 7]) (frzM (varM 0)))
  (seqM (ifS (notM (truM (callF 1 f__are_kinds (acons (varM 1) anil)))) (retM (cstM (.str "kinds"))) nilM)
  (seqM (ifS (notM (truM (callF 2 f__is_limit (acons (varM 2) (acons (cstM (.int 60)) anil))))) (retM (cstM (.str "window"))) nilM)
  (seqM (ifS (notM (truM (callF 2 f__is_limit (acons (varM 3) (acons (cstM (.int 24)) anil))))) (retM (cstM (.str "gap"))) nilM)
  (seqM (ifS (notM (truM (callF 2 f__are_weak (acons (varM 1) (acons (varM 4) anil))))) (retM (cstM (.str "weak"))) nilM)
  (seqM (ifS (notM (truM (callF 2 f_is_one_of (acons (varM 5) (acons (tupM (acons (cstM (.str "all")) (acons (cstM (.str "first")) (acons (cstM (.str "last")) anil)))) anil))))) (retM (cstM (.str "once"))) nilM)
  (seqM (ifS (notM (truM (callF 1 f__is_pick (acons (varM 6) anil)))) (retM (cstM (.str "pick"))) nilM)
  (seqM (ifS (notM (truM (callF 2 f__is_shares (acons (varM 7) (acons (binM gIx (varM 6) (cstM (.int 1))) anil))))) (retM (cstM (.str "shares"))) nilM)
  (retM (cstM .none))))))))))
abbrev f__wrong_part : FM := fnM 8 m__wrong_part
theorem cal__wrong_part (T : Txt K mg ec) (SB : SysM base) : Cal PR w K mg base ec 8 1 "_wrong_part" f__wrong_part :=
  cal_of (ps := ["things"]) (N := N__wrong_part) (st := s__wrong_part) (k := 7) T.d__wrong_part ⟨rfl, rfl, rfl, by decide +kernel, rfl, by decide +kernel, by decide +kernel⟩ (fun _ _ _ _ _ _ us hl => match us, hl with | [_], _ => rfl) (by
  intro f cdv A outer s H E hr hg
  exact (pss_c (ps_un (pe_frz (pe_v 0)) (pg_tup (by rfl) (pgs_cons (pg_name (by exact nd__wrong_part) (i := 1) (by rfl) (by exact .inl rfl)) (pgs_cons (pg_name (by exact nd__wrong_part) (i := 2) (by rfl) (by exact .inl rfl)) (pgs_cons (pg_name (by exact nd__wrong_part) (i := 3) (by rfl) (by exact .inl rfl)) (pgs_cons (pg_name (by exact nd__wrong_part) (i := 4) (by rfl) (by exact .inl rfl)) (pgs_cons (pg_name (by exact nd__wrong_part) (i := 5) (by rfl) (by exact .inl rfl)) (pgs_cons (pg_name (by exact nd__wrong_part) (i := 6) (by rfl) (by exact .inl rfl)) (pgs_cons (pg_name (by exact nd__wrong_part) (i := 7) (by rfl) (by exact .inl rfl)) pgs_nil)))))))) (tg_tp (is := [1, 2, 3, 4, 5, 6, 7])))
  (pss_c (ps_i (pt_n (pt_tru (pe_cal (by exact cal__are_kinds T SB) (by exact hr.mono (by decide)) (by exact hg) (by rfl) fn_tk (pa_c (pe_v 1) pa_n)))) (pss_1 (ps_r pe_cs)) pss_n)
  (pss_c (ps_i (pt_n (pt_tru (pe_cal (by exact cal__is_limit T SB) (by exact hr.mono (by decide)) (by exact hg) (by rfl) fn_tk (pa_c (pe_v 2) (pa_c pe_ci pa_n))))) (pss_1 (ps_r pe_cs)) pss_n)
  (pss_c (ps_i (pt_n (pt_tru (pe_cal (by exact cal__is_limit T SB) (by exact hr.mono (by decide)) (by exact hg) (by rfl) fn_tk (pa_c (pe_v 3) (pa_c pe_ci pa_n))))) (pss_1 (ps_r pe_cs)) pss_n)
  (pss_c (ps_i (pt_n (pt_tru (pe_cal (by exact cal__are_weak T SB) (by exact hr.mono (by decide)) (by exact hg) (by rfl) fn_tk (pa_c (pe_v 1) (pa_c (pe_v 4) pa_n))))) (pss_1 (ps_r pe_cs)) pss_n)
  (pss_c (ps_i (pt_n (pt_tru (pe_cal (by exact cal_is_one_of T SB) (by exact hr.mono (by decide)) (by exact hg) (by rfl) fn_tk (pa_c (pe_v 5) (pa_c (pe_tu (pa_c pe_cs (pa_c pe_cs (pa_c pe_cs pa_n)))) pa_n))))) (pss_1 (ps_r pe_cs)) pss_n)
  (pss_c (ps_i (pt_n (pt_tru (pe_cal (by exact cal__is_pick T SB) (by exact hr.mono (by decide)) (by exact hg) (by rfl) fn_tk (pa_c (pe_v 6) pa_n)))) (pss_1 (ps_r pe_cs)) pss_n)
  (pss_c (ps_i (pt_n (pt_tru (pe_cal (by exact cal__is_shares T SB) (by exact hr.mono (by decide)) (by exact hg) (by rfl) fn_tk (pa_c (pe_v 7) (pa_c (pe_ixx (pe_v 6) pe_ci) pa_n))))) (pss_1 (ps_r pe_cs)) pss_n)
  (pss_1 (ps_r pe_cn)))))))))))

abbrev s_need_rule : Stmt := topS 20
abbrev N_need_rule : List Str := ["thing", "part"]
theorem nd_need_rule : N_need_rule.Nodup := by decide +kernel
def m_need_rule : SM := (seqM (ifS (notM (truM (callF 2 f_is_tuple (acons (varM 0) (acons (cstM (.int 7)) anil))))) (raiM 0 (cstM (.str "form"))) nilM)
  (seqM (setM 1 (frzM (callF 1 f__wrong_part (acons (varM 0) anil))))
  (seqM (ifS (binM (gIs (!·)) (varM 1) (cstM .none)) (raiM 0 (varM 1)) nilM)
  (retM (varM 0)))))
abbrev f_need_rule : FM := fnM 2 m_need_rule
theorem cal_need_rule (T : Txt K mg ec) (SB : SysM base) : Cal PR w K mg base ec 9 1 "need_rule" f_need_rule :=
  cal_of (ps := ["thing"]) (N := N_need_rule) (st := s_need_rule) (k := 8) T.d_need_rule ⟨rfl, rfl, rfl, by decide +kernel, rfl, by decide +kernel, by decide +kernel⟩ (fun _ _ _ _ _ _ us hl => match us, hl with | [_], _ => rfl) (by
  intro f cdv A outer s H E hr hg
  exact (pss_c (ps_i (pt_n (pt_tru (pe_cal (by exact cal_is_tuple T SB) (by exact hr.mono (by decide)) (by exact hg) (by rfl) fn_tk (pa_c (pe_v 0) (pa_c pe_ci pa_n))))) (pss_1 (ps_raM (by exact T.e_BadRule) (by exact hr.mono (by decide)) (by rfl) fn_tk (by rfl) pe_cs)) pss_n)
  (pss_c (ps_s (by exact nd_need_rule) (i := 1) (by rfl) (by exact .inl rfl) (pe_frz (pe_cal (by exact cal__wrong_part T SB) (by exact hr.mono (by decide)) (by exact hg) (by rfl) fn_tk (pa_c (pe_v 0) pa_n))))
  (pss_c (ps_i (pt_isn  (pe_v 1) pe_cn) (pss_1 (ps_raM (by exact T.e_BadRule) (by exact hr.mono (by decide)) (by rfl) fn_tk (by rfl) (pe_v 1))) pss_n)
  (pss_1 (ps_r (pe_v 0)))))))

abbrev s__is_touch : Stmt := topS 32
abbrev N__is_touch : List Str := ["kinds", "value", "greatest"]
theorem nd__is_touch : N__is_touch.Nodup := by decide +kernel
def m__is_touch : SM := (retM (andV (callF 2 f_is_tuple (acons (varM 1) (acons (cstM (.int 2)) anil))) (andV (callF 2 f_is_one_of (acons (binM gIx (varM 1) (cstM (.int 0))) (acons (varM 0) anil))) (callF 3 f_is_integer (acons (binM gIx (varM 1) (cstM (.int 1))) (acons (cstM (.int 0)) (acons (varM 2) anil)))))))
abbrev f__is_touch : FM := fnM 3 m__is_touch
theorem cal__is_touch (T : Txt K mg ec) (SB : SysM base) : Cal PR w K mg base ec 4 3 "_is_touch" f__is_touch :=
  cal_of (ps := ["kinds", "value", "greatest"]) (N := N__is_touch) (st := s__is_touch) (k := 3) T.d__is_touch ⟨rfl, rfl, rfl, by decide +kernel, rfl, by decide +kernel, by decide +kernel⟩ (fun _ _ _ _ _ _ us hl => match us, hl with | [_, _, _], _ => rfl) (by
  intro f cdv A outer s H E hr hg
  exact (pss_1 (ps_r (pe_a (pe_cal (by exact cal_is_tuple T SB) (by exact hr.mono (by decide)) (by exact hg) (by rfl) fn_tk (pa_c (pe_v 1) (pa_c pe_ci pa_n))) (pe_a (pe_cal (by exact cal_is_one_of T SB) (by exact hr.mono (by decide)) (by exact hg) (by rfl) fn_tk (pa_c (pe_ixx (pe_v 1) pe_ci) (pa_c (pe_v 0) pa_n))) (pe_1 (pe_cal (by exact cal_is_integer T SB) (by exact hr.mono (by decide)) (by exact hg) (by rfl) fn_tk (pa_c (pe_ixx (pe_v 1) pe_ci) (pa_c pe_ci (pa_c (pe_v 2) pa_n))))))))))

abbrev s_need_journey : Stmt := topS 21
abbrev N_need_journey : List Str := ["rule", "thing", "ahead", "number", "touch"]
theorem nd_need_journey : N_need_journey.Nodup := by decide +kernel
def m_need_journey : SM := (seqM (exM (callF 1 f_need_rule (acons (varM 0) anil)))
  (seqM (ifS (orM (notM (truM (isiM "tuple" (varM 1)))) (binM gGt (callM gLen (acons (varM 1) anil)) (cstM (.int 200)))) (raiM 1 (cstM .none)) nilM)
  (seqM (setM 2 (frzM (cstM (.int 1000000))))
  (seqM (frM (enaI (acons (varM 1) anil)) (.tp [3, 4]) (seqM (ifS (notM (truM (callF 3 f__is_touch (acons (binM gIx (varM 0) (cstM (.int 0))) (acons (varM 4) (acons (varM 2) anil)))))) (raiM 1 (varM 3)) nilM)
  (setM 2 (frzM (binM gIx (varM 4) (cstM (.int 1)))))))
  (retM (varM 1))))))
abbrev f_need_journey : FM := fnM 5 m_need_journey
theorem cal_need_journey (T : Txt K mg ec) (SB : SysM base) : Cal PR w K mg base ec 10 2 "need_journey" f_need_journey :=
  cal_of (ps := ["rule", "thing"]) (N := N_need_journey) (st := s_need_journey) (k := 9) T.d_need_journey ⟨rfl, rfl, rfl, by decide +kernel, rfl, by decide +kernel, by decide +kernel⟩ (fun _ _ _ _ _ _ us hl => match us, hl with | [_, _], _ => rfl) (by
  intro f cdv A outer s H E hr hg
  exact (pss_c (ps_ex (pe_cal (by exact cal_need_rule T SB) (by exact hr.mono (by decide)) (by exact hg) (by rfl) fn_tk (pa_c (pe_v 0) pa_n)))
  (pss_c (ps_i (pw_o (pt_n (pt_tru (pe_isi (T := "tuple") (pe_v 1) (by rfl) (by exact T.b_isinstance) (by rfl) (by exact T.b_tuple) (by decide +kernel)))) (pw_o1 (pt_gt  (pe_cB call_len snd_len (by rfl) (by exact T.b_len) (by decide +kernel) (pa_c (pe_v 1) pa_n)) (pe_gI (by exact T.g_MOST_TOUCHES) (by rfl))))).pt (pss_1 (ps_raM (by exact T.e_BadJourney) (by exact hr.mono (by decide)) (by rfl) fn_tk (by rfl) pe_cn)) pss_n)
  (pss_c (ps_s (by exact nd_need_journey) (i := 2) (by rfl) (by exact .inl rfl) (pe_frz (pe_gI (by exact T.g_GREATEST_AGE) (by rfl))))
  (pss_c (ps_f fn_po (by rfl) (pi_ena (by rfl) (by exact T.b_enumerate) (pa_c (pe_v 1) pa_n)) (pg_tup (by rfl) (pgs_cons (pg_name (by exact nd_need_journey) (i := 3) (by rfl) (by exact .inl rfl)) (pgs_cons (pg_name (by exact nd_need_journey) (i := 4) (by rfl) (by exact .inl rfl)) pgs_nil))) (tg_tp (is := [3, 4])) (pss_c (ps_i (pt_n (pt_tru (pe_cal (by exact cal__is_touch T SB) (by exact hr.mono (by decide)) (by exact hg) (by rfl) fn_tk (pa_c (pe_ixx (pe_v 0) (pe_gI (by exact T.g_KINDS) (by rfl))) (pa_c (pe_v 4) (pa_c (pe_v 2) pa_n)))))) (pss_1 (ps_raM (by exact T.e_BadJourney) (by exact hr.mono (by decide)) (by rfl) fn_tk (by rfl) (pe_v 3))) pss_n)
  (pss_1 (ps_s (by exact nd_need_journey) (i := 2) (by rfl) (by exact .inl rfl) (pe_frz (pe_ixx (pe_v 4) pe_ci))))))
  (pss_1 (ps_r (pe_v 1))))))))

abbrev s__shares_words : Stmt := topS 44
abbrev N__shares_words : List Str := ["shares", "row", "part"]
theorem nd__shares_words : N__shares_words.Nodup := by decide +kernel
def m__shares_words : SM := (seqM (ifS (binM gEqq (binM gIx (varM 0) (cstM (.int 0))) (cstM (.str "even"))) (retM (lstM (acons (cstM (.str "-")) anil))) nilM)
  (seqM (ifS (binM gEqq (binM gIx (varM 0) (cstM (.int 0))) (cstM (.str "places"))) (retM (comp2M (seqI true (binM gIx (varM 0) (cstM (.int 1)))) [1, 2] (.nm 1) (seqI false (varM 1)) [2] (.nm 2) (callM gStr1 (acons (varM 2) anil)))) nilM)
  (retM (compM (seqI true (lstM (acons (callM gLen (acons (binM gIx (varM 0) (cstM (.int 1))) anil)) (astar (binM gIx (varM 0) (cstM (.int 1))) (astar (binM gIx (varM 0) (cstM (.int 2))) anil))))) [2] (.nm 2) yesM (callM gStr1 (acons (varM 2) anil))))))
abbrev f__shares_words : FM := fnM 3 m__shares_words
theorem cal__shares_words (T : Txt K mg ec) (SB : SysM base) : Cal PR w K mg base ec 1 1 "_shares_words" f__shares_words :=
  cal_of (ps := ["shares"]) (N := N__shares_words) (st := s__shares_words) (k := 0) T.d__shares_words ⟨rfl, rfl, rfl, by decide +kernel, rfl, by decide +kernel, by decide +kernel⟩ (fun _ _ _ _ _ _ us hl => match us, hl with | [_], _ => rfl) (by
  intro f cdv A outer s H E hr hg
  exact (pss_c (ps_i (pt_eq (by exact hr.units) (pe_ixx (pe_v 0) pe_ci) pe_cs) (pss_1 (ps_r (pe_ls (pa_c pe_cs pa_n)))) pss_n)
  (pss_c (ps_i (pt_eq (by exact hr.units) (pe_ixx (pe_v 0) pe_ci) pe_cs) (pss_1 (ps_r (pe_comp2 (own := [("row", 1), ("part", 2)]) (own1 := [2]) (by rfl) (by exact nd__shares_words) (pi_any (pe_ixx (pe_v 0) pe_ci)) (blkOk_by (N := N__shares_words) (sc := (defScope s__shares_words)) (own := [("row", 1), ("part", 2)]) (by decide +kernel)) (by decide) (fun _ _ _ _ _ => pg_name (by exact nd__shares_words) (i := 1) (by rfl) (by exact .inl rfl)) (fun _ _ _ _ _ => (pi_any (pe_v 1))) (fun _ _ _ _ _ => pg_name (by exact nd__shares_words) (i := 2) (by rfl) (by exact .inl rfl)) (fun _ _ _ _ _ => (pe_cT call_str_int snd_str1 (by rfl) (by exact T.b_str) (by decide +kernel) (pa_c (pe_v 2) pa_n))) tg_nm (by decide) tg_nm (by decide)))) pss_n)
  (pss_1 (ps_r (pe_comp (own := [("part", 2)]) (by rfl) (by exact nd__shares_words) (pi_any (pe_ls (pa_c (pe_cB call_len snd_len (by rfl) (by exact T.b_len) (by decide +kernel) (pa_c (pe_ixx (pe_v 0) pe_ci) pa_n)) (pa_st (pe_ixx (pe_v 0) pe_ci) (pa_st (pe_ixx (pe_v 0) pe_ci) pa_n))))) (blkOk_by (N := N__shares_words) (sc := (defScope s__shares_words)) (own := [("part", 2)]) (by decide +kernel)) (fun _ _ _ _ _ => (pg_name (by exact nd__shares_words) (by rfl) (by exact .inl rfl))) (fun _ _ _ _ _ => pts_n) (fun _ _ _ _ _ => (pe_cT call_str_int snd_str1 (by rfl) (by exact T.b_str) (by decide +kernel) (pa_c (pe_v 2) pa_n))) tg_nm (by decide)))))))

abbrev s__limit_word : Stmt := topS 43
abbrev N__limit_word : List Str := ["limit"]
theorem nd__limit_word : N__limit_word.Nodup := by decide +kernel
def m__limit_word : SM := (retM (ifM (binM (gIs id) (varM 0) (cstM .none)) (cstM (.str "none")) (callM gStr1 (acons (varM 0) anil))))
abbrev f__limit_word : FM := fnM 1 m__limit_word
theorem cal__limit_word (T : Txt K mg ec) (SB : SysM base) : Cal PR w K mg base ec 1 1 "_limit_word" f__limit_word :=
  cal_of (ps := ["limit"]) (N := N__limit_word) (st := s__limit_word) (k := 0) T.d__limit_word ⟨rfl, rfl, rfl, by decide +kernel, rfl, by decide +kernel, by decide +kernel⟩ (fun _ _ _ _ _ _ us hl => match us, hl with | [_], _ => rfl) (by
  intro f cdv A outer s H E hr hg
  exact (pss_1 (ps_r (pe_if (pt_is  (pe_v 0) pe_cn) pe_cs (pe_cT call_str_int snd_str1 (by rfl) (by exact T.b_str) (by decide +kernel) (pa_c (pe_v 0) pa_n))))))

abbrev s_rule_text : Stmt := topS 38
abbrev N_rule_text : List Str := ["rule", "kinds", "window", "gap", "weak", "once", "pick", "shares", "rows", "words"]
theorem nd_rule_text : N_rule_text.Nodup := by decide +kernel
def m_rule_text : SM := (seqM (unpM (.tp [1, 2, 3, 4, 5, 6, 7]) (frzM (callF 1 f_need_rule (acons (varM 0) anil))))
  (seqM (setM 8 (frzM (lstM (acons (lstM (acons (cstM (.str "kinds")) (astar (varM 1) anil))) (acons (lstM (acons (cstM (.str "window")) (acons (callF 1 f__limit_word (acons (varM 2) anil)) anil))) (acons (lstM (acons (cstM (.str "gap")) (acons (callF 1 f__limit_word (acons (varM 3) anil)) anil))) (acons (lstM (acons (cstM (.str "weak")) (astar (varM 4) anil))) (acons (lstM (acons (cstM (.str "once")) (acons (varM 5) anil))) (acons (lstM (acons (cstM (.str "pick")) (acons (binM gIx (varM 6) (cstM (.int 0))) (acons (callM gStr1 (acons (binM gIx (varM 6) (cstM (.int 1))) anil)) anil)))) (acons (lstM (acons (binM gIx (varM 7) (cstM (.int 0))) anil)) (acons (callF 1 f__shares_words (acons (varM 7) anil)) anil)))))))))))
  (retM (sm1M gJoin (cstM (.str "\n")) (compM (seqI true (varM 8)) [9] (.nm 9) yesM (sm1M gJoin (cstM (.str " ")) (varM 9)))))))
abbrev f_rule_text : FM := fnM 10 m_rule_text
theorem cal_rule_text (T : Txt K mg ec) (SB : SysM base) : Cal PR w K mg base ec 10 1 "rule_text" f_rule_text :=
  cal_of (ps := ["rule"]) (N := N_rule_text) (st := s_rule_text) (k := 9) T.d_rule_text ⟨rfl, rfl, rfl, by decide +kernel, rfl, by decide +kernel, by decide +kernel⟩ (fun _ _ _ _ _ _ us hl => match us, hl with | [_], _ => rfl) (by
  intro f cdv A outer s H E hr hg
  exact (pss_c (ps_un (pe_frz (pe_cal (by exact cal_need_rule T SB) (by exact hr.mono (by decide)) (by exact hg) (by rfl) fn_tk (pa_c (pe_v 0) pa_n))) (pg_tup (by rfl) (pgs_cons (pg_name (by exact nd_rule_text) (i := 1) (by rfl) (by exact .inl rfl)) (pgs_cons (pg_name (by exact nd_rule_text) (i := 2) (by rfl) (by exact .inl rfl)) (pgs_cons (pg_name (by exact nd_rule_text) (i := 3) (by rfl) (by exact .inl rfl)) (pgs_cons (pg_name (by exact nd_rule_text) (i := 4) (by rfl) (by exact .inl rfl)) (pgs_cons (pg_name (by exact nd_rule_text) (i := 5) (by rfl) (by exact .inl rfl)) (pgs_cons (pg_name (by exact nd_rule_text) (i := 6) (by rfl) (by exact .inl rfl)) (pgs_cons (pg_name (by exact nd_rule_text) (i := 7) (by rfl) (by exact .inl rfl)) pgs_nil)))))))) (tg_tp (is := [1, 2, 3, 4, 5, 6, 7])))
  (pss_c (ps_s (by exact nd_rule_text) (i := 8) (by rfl) (by exact .inl rfl) (pe_frz (pe_ls (pa_c (pe_ls (pa_c pe_cs (pa_st (pe_v 1) pa_n))) (pa_c (pe_ls (pa_c pe_cs (pa_c (pe_cal (by exact cal__limit_word T SB) (by exact hr.mono (by decide)) (by exact hg) (by rfl) fn_tk (pa_c (pe_v 2) pa_n)) pa_n))) (pa_c (pe_ls (pa_c pe_cs (pa_c (pe_cal (by exact cal__limit_word T SB) (by exact hr.mono (by decide)) (by exact hg) (by rfl) fn_tk (pa_c (pe_v 3) pa_n)) pa_n))) (pa_c (pe_ls (pa_c pe_cs (pa_st (pe_v 4) pa_n))) (pa_c (pe_ls (pa_c pe_cs (pa_c (pe_v 5) pa_n))) (pa_c (pe_ls (pa_c pe_cs (pa_c (pe_ixx (pe_v 6) pe_ci) (pa_c (pe_cT call_str_int snd_str1 (by rfl) (by exact T.b_str) (by decide +kernel) (pa_c (pe_ixx (pe_v 6) pe_ci) pa_n)) pa_n)))) (pa_c (pe_ls (pa_c (pe_ixx (pe_v 7) pe_ci) pa_n)) (pa_c (pe_cal (by exact cal__shares_words T SB) (by exact hr.mono (by decide)) (by exact hg) (by rfl) fn_tk (pa_c (pe_v 7) pa_n)) pa_n)))))))))))
  (pss_1 (ps_r (pe_jn pe_cs (pe_comp (own := [("words", 9)]) (by rfl) (by exact nd_rule_text) (pi_any (pe_v 8)) (blkOk_by (N := N_rule_text) (sc := (defScope s_rule_text)) (own := [("words", 9)]) (by decide +kernel)) (fun _ _ _ _ _ => (pg_name (by exact nd_rule_text) (by rfl) (by exact .inl rfl))) (fun _ _ _ _ _ => pts_n) (fun _ _ _ _ _ => (pe_jn pe_cs (pe_v 9))) tg_nm (by decide))))))))

abbrev s__need_string : Stmt := topS 42
abbrev N__need_string : List Str := ["value"]
theorem nd__need_string : N__need_string.Nodup := by decide +kernel
def m__need_string : SM := (seqM (ifS (notM (truM (isiM "str" (varM 0)))) (raiM 2 (cstM (.int 0))) nilM)
  (retM (varM 0)))
abbrev f__need_string : FM := fnM 1 m__need_string
theorem cal__need_string (T : Txt K mg ec) (SB : SysM base) : Cal PR w K mg base ec 3 1 "_need_string" f__need_string :=
  cal_of (ps := ["value"]) (N := N__need_string) (st := s__need_string) (k := 2) T.d__need_string ⟨rfl, rfl, rfl, by decide +kernel, rfl, by decide +kernel, by decide +kernel⟩ (fun _ _ _ _ _ _ us hl => match us, hl with | [_], _ => rfl) (by
  intro f cdv A outer s H E hr hg
  exact (pss_c (ps_i (pt_n (pt_tru (pe_isi (T := "str") (pe_v 0) (by rfl) (by exact T.b_isinstance) (by rfl) (by exact T.b_str) (by decide +kernel)))) (pss_1 (ps_raM (by exact T.e_BadText) (by exact hr.mono (by decide)) (by rfl) fn_tk (by rfl) pe_ci)) pss_n)
  (pss_1 (ps_r (pe_v 0)))))

abbrev s__told_words : Stmt := topS 46
abbrev N__told_words : List Str := ["row", "name", "first", "words"]
theorem nd__told_words : N__told_words.Nodup := by decide +kernel
def m__told_words : SM := (seqM (unpSM 2 3 (sm1M gSplit (varM 0) (cstM (.str " "))))
  (retM (ifM (binM gEqq (varM 2) (varM 1)) (callM gTuple (acons (varM 3) anil)) (cstM .none))))
abbrev f__told_words : FM := fnM 4 m__told_words
theorem cal__told_words (T : Txt K mg ec) (SB : SysM base) : Cal PR w K mg base ec 1 2 "_told_words" f__told_words :=
  cal_of (ps := ["row", "name"]) (N := N__told_words) (st := s__told_words) (k := 0) T.d__told_words ⟨rfl, rfl, rfl, by decide +kernel, rfl, by decide +kernel, by decide +kernel⟩ (fun _ _ _ _ _ _ us hl => match us, hl with | [_, _], _ => rfl) (by
  intro f cdv A outer s H E hr hg
  exact (pss_c (ps_unS (pe_spl (pe_v 0) pe_cs) (pg_star1 (i := 2) (j := 3) (by rfl) (by exact nd__told_words) (by rfl) (by exact .inl rfl) (by rfl) (by exact .inl rfl)))
  (pss_1 (ps_r (pe_if (pt_eq (by exact hr.units) (pe_v 2) (pe_v 1)) (pe_cT call_tupleN snd_tuple (by rfl) (by exact T.b_tuple) (by decide +kernel) (pa_c (pe_v 3) pa_n)) pe_cn)))))

abbrev s__told_limit : Stmt := topS 47
abbrev N__told_limit : List Str := ["row", "name", "words", "number"]
theorem nd__told_limit : N__told_limit.Nodup := by decide +kernel
def m__told_limit : SM := (seqM (setM 2 (frzM (callF 2 f__told_words (acons (varM 0) (acons (varM 1) anil)))))
  (seqM (ifS (binM gEqq (varM 2) (tupM (acons (cstM (.str "none")) anil))) (retM (cstM .none)) nilM)
  (seqM (setM 3 (frzM (ifM (andM (binM (gIs (!·)) (varM 2) (cstM .none)) (binM gEqq (callM gLen (acons (varM 2) anil)) (cstM (.int 1)))) (callF 1 f_written_integer (acons (binM gIx (varM 2) (cstM (.int 0))) anil)) (cstM .none))))
  (retM (ifM (binM (gIs id) (varM 3) (cstM .none)) (unM gNeg (cstM (.int 1))) (varM 3))))))
abbrev f__told_limit : FM := fnM 4 m__told_limit
theorem cal__told_limit (T : Txt K mg ec) (SB : SysM base) : Cal PR w K mg base ec 2 2 "_told_limit" f__told_limit :=
  cal_of (ps := ["row", "name"]) (N := N__told_limit) (st := s__told_limit) (k := 1) T.d__told_limit ⟨rfl, rfl, rfl, by decide +kernel, rfl, by decide +kernel, by decide +kernel⟩ (fun _ _ _ _ _ _ us hl => match us, hl with | [_, _], _ => rfl) (by
  intro f cdv A outer s H E hr hg
  exact (pss_c (ps_s (by exact nd__told_limit) (i := 2) (by rfl) (by exact .inl rfl) (pe_frz (pe_cal (by exact cal__told_words T SB) (by exact hr.mono (by decide)) (by exact hg) (by rfl) fn_tk (pa_c (pe_v 0) (pa_c (pe_v 1) pa_n)))))
  (pss_c (ps_i (pt_eq (by exact hr.units) (pe_v 2) (pe_tu (pa_c pe_cs pa_n))) (pss_1 (ps_r pe_cn)) pss_n)
  (pss_c (ps_s (by exact nd__told_limit) (i := 3) (by rfl) (by exact .inl rfl) (pe_frz (pe_if (pw_a (pt_isn  (pe_v 2) pe_cn) (pw_a1 (pt_eq (by exact hr.units) (pe_cB call_len snd_len (by rfl) (by exact T.b_len) (by decide +kernel) (pa_c (pe_v 2) pa_n)) pe_ci))).pt (pe_cal (by exact cal_written_integer T SB) (by exact hr.mono (by decide)) (by exact hg) (by rfl) fn_tk (pa_c (pe_ixx (pe_v 2) pe_ci) pa_n)) pe_cn)))
  (pss_1 (ps_r (pe_if (pt_is  (pe_v 3) pe_cn) (pe_ng pe_ci) (pe_v 3))))))))

abbrev s__told_once : Stmt := topS 48
abbrev N__told_once : List Str := ["row", "words"]
theorem nd__told_once : N__told_once.Nodup := by decide +kernel
def m__told_once : SM := (seqM (setM 1 (frzM (callF 2 f__told_words (acons (varM 0) (acons (cstM (.str "once")) anil)))))
  (retM (ifM (andM (binM (gIs (!·)) (varM 1) (cstM .none)) (binM gEqq (callM gLen (acons (varM 1) anil)) (cstM (.int 1)))) (binM gIx (varM 1) (cstM (.int 0))) (cstM .none))))
abbrev f__told_once : FM := fnM 2 m__told_once
theorem cal__told_once (T : Txt K mg ec) (SB : SysM base) : Cal PR w K mg base ec 2 1 "_told_once" f__told_once :=
  cal_of (ps := ["row"]) (N := N__told_once) (st := s__told_once) (k := 1) T.d__told_once ⟨rfl, rfl, rfl, by decide +kernel, rfl, by decide +kernel, by decide +kernel⟩ (fun _ _ _ _ _ _ us hl => match us, hl with | [_], _ => rfl) (by
  intro f cdv A outer s H E hr hg
  exact (pss_c (ps_s (by exact nd__told_once) (i := 1) (by rfl) (by exact .inl rfl) (pe_frz (pe_cal (by exact cal__told_words T SB) (by exact hr.mono (by decide)) (by exact hg) (by rfl) fn_tk (pa_c (pe_v 0) (pa_c pe_cs pa_n)))))
  (pss_1 (ps_r (pe_if (pw_a (pt_isn  (pe_v 1) pe_cn) (pw_a1 (pt_eq (by exact hr.units) (pe_cB call_len snd_len (by rfl) (by exact T.b_len) (by decide +kernel) (pa_c (pe_v 1) pa_n)) pe_ci))).pt (pe_ixx (pe_v 1) pe_ci) pe_cn)))))

abbrev s__told_pick : Stmt := topS 49
abbrev N__told_pick : List Str := ["row", "words"]
theorem nd__told_pick : N__told_pick.Nodup := by decide +kernel
def m__told_pick : SM := (seqM (setM 1 (frzM (callF 2 f__told_words (acons (varM 0) (acons (cstM (.str "pick")) anil)))))
  (seqM (ifS (orM (binM (gIs id) (varM 1) (cstM .none)) (binM gNeq (callM gLen (acons (varM 1) anil)) (cstM (.int 2)))) (retM (cstM .none)) nilM)
  (retM (tupM (acons (binM gIx (varM 1) (cstM (.int 0))) (acons (callF 1 f_written_integer (acons (binM gIx (varM 1) (cstM (.int 1))) anil)) anil))))))
abbrev f__told_pick : FM := fnM 2 m__told_pick
theorem cal__told_pick (T : Txt K mg ec) (SB : SysM base) : Cal PR w K mg base ec 2 1 "_told_pick" f__told_pick :=
  cal_of (ps := ["row"]) (N := N__told_pick) (st := s__told_pick) (k := 1) T.d__told_pick ⟨rfl, rfl, rfl, by decide +kernel, rfl, by decide +kernel, by decide +kernel⟩ (fun _ _ _ _ _ _ us hl => match us, hl with | [_], _ => rfl) (by
  intro f cdv A outer s H E hr hg
  exact (pss_c (ps_s (by exact nd__told_pick) (i := 1) (by rfl) (by exact .inl rfl) (pe_frz (pe_cal (by exact cal__told_words T SB) (by exact hr.mono (by decide)) (by exact hg) (by rfl) fn_tk (pa_c (pe_v 0) (pa_c pe_cs pa_n)))))
  (pss_c (ps_i (pw_o (pt_is  (pe_v 1) pe_cn) (pw_o1 (pt_ne (by exact hr.units) (pe_cB call_len snd_len (by rfl) (by exact T.b_len) (by decide +kernel) (pa_c (pe_v 1) pa_n)) pe_ci))).pt (pss_1 (ps_r pe_cn)) pss_n)
  (pss_1 (ps_r (pe_tu (pa_c (pe_ixx (pe_v 1) pe_ci) (pa_c (pe_cal (by exact cal_written_integer T SB) (by exact hr.mono (by decide)) (by exact hg) (by rfl) fn_tk (pa_c (pe_ixx (pe_v 1) pe_ci) pa_n)) pa_n))))))))

abbrev s__told_places : Stmt := topS 51
abbrev N__told_places : List Str := ["numbers", "rows", "many"]
theorem nd__told_places : N__told_places.Nodup := by decide +kernel
def m__told_places : SM := (seqM (setM 1 (lstM anil))
  (seqM (whlM (truM (varM 0)) (seqM (setM 2 (frzM (binM gAdd (callM gLen (acons (varM 1) anil)) (cstM (.int 1)))))
  (seqM (appM 1 (callM gTuple (acons (sliM (varM 0) .no (.som (varM 2))) anil)))
  (setM 0 (frzM (sliM (varM 0) (.som (varM 2)) .no))))) 1000000000000)
  (retM (callM gTuple (acons (varM 1) anil)))))
abbrev f__told_places : FM := fnM 3 m__told_places
theorem cal__told_places (T : Txt K mg ec) (SB : SysM base) : Cal PR w K mg base ec 1 1 "_told_places" f__told_places :=
  cal_of (ps := ["numbers"]) (N := N__told_places) (st := s__told_places) (k := 0) T.d__told_places ⟨rfl, rfl, rfl, by decide +kernel, rfl, by decide +kernel, by decide +kernel⟩ (fun _ _ _ _ _ _ us hl => match us, hl with | [_], _ => rfl) (by
  intro f cdv A outer s H E hr hg
  exact (pss_c (ps_s (by exact nd__told_places) (i := 1) (by rfl) (by exact .inl rfl) (pe_ls pa_n))
  (pss_c (ps_w 1000000000000 fn_po (pt_tru (pe_v 0)) (pss_c (ps_s (by exact nd__told_places) (i := 2) (by rfl) (by exact .inl rfl) (pe_frz (pe_add (pe_cB call_len snd_len (by rfl) (by exact T.b_len) (by decide +kernel) (pa_c (pe_v 1) pa_n)) pe_ci)))
  (pss_c (ps_ap (i := 1) (by rfl) (by first | exact Or.inl rfl | exact Or.inr (Or.inl rfl)) (pe_cT call_tupleN snd_tuple (by rfl) (by exact T.b_tuple) (by decide +kernel) (pa_c (pe_sl (pe_v 0) po_n (po_s (pe_v 2))) pa_n)))
  (pss_1 (ps_s (by exact nd__told_places) (i := 0) (by rfl) (by exact .inl rfl) (pe_frz (pe_sl (pe_v 0) (po_s (pe_v 2)) po_n)))))))
  (pss_1 (ps_r (pe_cT call_tupleN snd_tuple (by rfl) (by exact T.b_tuple) (by decide +kernel) (pa_c (pe_v 1) pa_n)))))))

abbrev s__told_shares : Stmt := topS 50
abbrev N__told_shares : List Str := ["word", "row", "numbers", "told"]
theorem nd__told_shares : N__told_shares.Nodup := by decide +kernel
def m__told_shares : SM := (seqM (ifS (binM gEqq (varM 0) (cstM (.str "even"))) (retM (ifM (binM gEqq (varM 1) (cstM (.str "-"))) (tupM (acons (cstM (.str "even")) anil)) (cstM .none))) nilM)
  (seqM (setM 2 (compM (seqI true (sm1M gSplit (varM 1) (cstM (.str " ")))) [3] (.nm 3) yesM (callF 1 f_written_integer (acons (varM 3) anil)))) (fzM 2 (seqM (ifS (binM gEqq (varM 0) (cstM (.str "places"))) (retM (tupM (acons (cstM (.str "places")) (acons (callF 1 f__told_places (acons (varM 2) anil)) anil)))) nilM)
  (seqM (ifS (andM (binM gEqq (varM 0) (cstM (.str "ages"))) (binM (gIs (!·)) (binM gIx (varM 2) (cstM (.int 0))) (cstM .none))) (retM (tupM (acons (cstM (.str "ages")) (acons (callM gTuple (acons (sliM (varM 2) (.som (cstM (.int 1))) (.som (binM gAdd (binM gIx (varM 2) (cstM (.int 0))) (cstM (.int 1))))) anil)) (acons (callM gTuple (acons (sliM (varM 2) (.som (binM gAdd (binM gIx (varM 2) (cstM (.int 0))) (cstM (.int 1)))) .no) anil)) anil))))) nilM)
  (retM (cstM .none)))))))
abbrev f__told_shares : FM := fnM 4 m__told_shares
theorem cal__told_shares (T : Txt K mg ec) (SB : SysM base) : Cal PR w K mg base ec 2 2 "_told_shares" f__told_shares :=
  cal_of (ps := ["word", "row"]) (N := N__told_shares) (st := s__told_shares) (k := 1) T.d__told_shares ⟨rfl, rfl, rfl, by decide +kernel, rfl, by decide +kernel, by decide +kernel⟩ (fun _ _ _ _ _ _ us hl => match us, hl with | [_, _], _ => rfl) (by
  intro f cdv A outer s H E hr hg
  exact (pss_c (ps_i (pt_eq (by exact hr.units) (pe_v 0) pe_cs) (pss_1 (ps_r (pe_if (pt_eq (by exact hr.units) (pe_v 1) pe_cs) (pe_tu (pa_c pe_cs pa_n)) pe_cn))) pss_n)
  (pss_c (ps_comp (own := [("told", 3)]) (by rfl) (by exact nd__told_shares) (by rfl) (by rfl) (by exact sw_true rfl rfl rfl rfl) (pi_any (pe_spl (pe_v 1) pe_cs)) (blkOk_by (N := N__told_shares) (sc := (defScope s__told_shares)) (own := [("told", 3)]) (by decide +kernel)) (fun _ _ _ _ _ => (pg_name (by exact nd__told_shares) (by rfl) (by exact .inl rfl))) (fun _ _ _ _ _ => pts_n) (fun _ _ _ _ _ => (pe_cal (by exact cal_written_integer T SB) (by exact hr.mono (by decide)) (by exact hg) (by rfl) blk_tk (pa_c (pe_v 3) pa_n))) tg_nm (by decide)) (pss_fz 2 (pss_c (ps_i (pt_eq (by exact hr.units) (pe_v 0) pe_cs) (pss_1 (ps_r (pe_tu (pa_c pe_cs (pa_c (pe_cal (by exact cal__told_places T SB) (by exact hr.mono (by decide)) (by exact hg) (by rfl) fn_tk (pa_c (pe_v 2) pa_n)) pa_n))))) pss_n)
  (pss_c (ps_i (pw_a (pt_eq (by exact hr.units) (pe_v 0) pe_cs) (pw_a1 (pt_isn  (pe_ixx (pe_v 2) pe_ci) pe_cn))).pt (pss_1 (ps_r (pe_tu (pa_c pe_cs (pa_c (pe_cT call_tupleN snd_tuple (by rfl) (by exact T.b_tuple) (by decide +kernel) (pa_c (pe_sl (pe_v 2) (po_s pe_ci) (po_s (pe_add (pe_ixx (pe_v 2) pe_ci) pe_ci))) pa_n)) (pa_c (pe_cT call_tupleN snd_tuple (by rfl) (by exact T.b_tuple) (by decide +kernel) (pa_c (pe_sl (pe_v 2) (po_s (pe_add (pe_ixx (pe_v 2) pe_ci) pe_ci)) po_n) pa_n)) pa_n)))))) pss_n)
  (pss_1 (ps_r pe_cn))))))))

abbrev s__told_rule : Stmt := topS 45
abbrev N__told_rule : List Str := ["rows", "kinds", "window", "gap", "weak", "once", "pick", "word", "last"]
theorem nd__told_rule : N__told_rule.Nodup := by decide +kernel
def m__told_rule : SM := (seqM (unpLM [1, 2, 3, 4, 5, 6, 7, 8] (varM 0))
  (retM (tupM (acons (callF 2 f__told_words (acons (varM 1) (acons (cstM (.str "kinds")) anil))) (acons (callF 2 f__told_limit (acons (varM 2) (acons (cstM (.str "window")) anil))) (acons (callF 2 f__told_limit (acons (varM 3) (acons (cstM (.str "gap")) anil))) (acons (callF 2 f__told_words (acons (varM 4) (acons (cstM (.str "weak")) anil))) (acons (callF 1 f__told_once (acons (varM 5) anil)) (acons (callF 1 f__told_pick (acons (varM 6) anil)) (acons (callF 2 f__told_shares (acons (varM 7) (acons (varM 8) anil))) anil))))))))))
abbrev f__told_rule : FM := fnM 9 m__told_rule
theorem cal__told_rule (T : Txt K mg ec) (SB : SysM base) : Cal PR w K mg base ec 3 1 "_told_rule" f__told_rule :=
  cal_of (ps := ["rows"]) (N := N__told_rule) (st := s__told_rule) (k := 2) T.d__told_rule ⟨rfl, rfl, rfl, by decide +kernel, rfl, by decide +kernel, by decide +kernel⟩ (fun _ _ _ _ _ _ us hl => match us, hl with | [_], _ => rfl) (by
  intro f cdv A outer s H E hr hg
  exact (pss_c (ps_unL (is := [1, 2, 3, 4, 5, 6, 7, 8]) (pe_v 0) (pg_unl (by rfl) (pgs_cons (pg_name (by exact nd__told_rule) (i := 1) (by rfl) (by exact .inl rfl)) (pgs_cons (pg_name (by exact nd__told_rule) (i := 2) (by rfl) (by exact .inl rfl)) (pgs_cons (pg_name (by exact nd__told_rule) (i := 3) (by rfl) (by exact .inl rfl)) (pgs_cons (pg_name (by exact nd__told_rule) (i := 4) (by rfl) (by exact .inl rfl)) (pgs_cons (pg_name (by exact nd__told_rule) (i := 5) (by rfl) (by exact .inl rfl)) (pgs_cons (pg_name (by exact nd__told_rule) (i := 6) (by rfl) (by exact .inl rfl)) (pgs_cons (pg_name (by exact nd__told_rule) (i := 7) (by rfl) (by exact .inl rfl)) (pgs_cons (pg_name (by exact nd__told_rule) (i := 8) (by rfl) (by exact .inl rfl)) pgs_nil))))))))) (by rfl))
  (pss_1 (ps_r (pe_tu (pa_c (pe_cal (by exact cal__told_words T SB) (by exact hr.mono (by decide)) (by exact hg) (by rfl) fn_tk (pa_c (pe_v 1) (pa_c pe_cs pa_n))) (pa_c (pe_cal (by exact cal__told_limit T SB) (by exact hr.mono (by decide)) (by exact hg) (by rfl) fn_tk (pa_c (pe_v 2) (pa_c pe_cs pa_n))) (pa_c (pe_cal (by exact cal__told_limit T SB) (by exact hr.mono (by decide)) (by exact hg) (by rfl) fn_tk (pa_c (pe_v 3) (pa_c pe_cs pa_n))) (pa_c (pe_cal (by exact cal__told_words T SB) (by exact hr.mono (by decide)) (by exact hg) (by rfl) fn_tk (pa_c (pe_v 4) (pa_c pe_cs pa_n))) (pa_c (pe_cal (by exact cal__told_once T SB) (by exact hr.mono (by decide)) (by exact hg) (by rfl) fn_tk (pa_c (pe_v 5) pa_n)) (pa_c (pe_cal (by exact cal__told_pick T SB) (by exact hr.mono (by decide)) (by exact hg) (by rfl) fn_tk (pa_c (pe_v 6) pa_n)) (pa_c (pe_cal (by exact cal__told_shares T SB) (by exact hr.mono (by decide)) (by exact hg) (by rfl) fn_tk (pa_c (pe_v 7) (pa_c (pe_v 8) pa_n))) pa_n))))))))))))

abbrev s_read_rule : Stmt := topS 39
abbrev N_read_rule : List Str := ["string", "rows", "told", "rule", "wrong"]
theorem nd_read_rule : N_read_rule.Nodup := by decide +kernel
def m_read_rule : SM := (seqM (setM 1 (frzM (sm1M gSplit (callF 1 f__need_string (acons (varM 0) anil)) (cstM (.str "\n")))))
  (seqM (setM 2 (frzM (binM gAdd (sliM (varM 1) .no (.som (cstM (.int 8)))) (binM gMul (lstM (acons (cstM (.str "")) anil)) (binM gSub (cstM (.int 8)) (callM gLen (acons (varM 1) anil)))))))
  (seqM (tryM (setM 3 (frzM (callF 1 f_need_rule (acons (callF 1 f__told_rule (acons (varM 2) anil)) anil)))) [([true, false, false], (some 4), stkS)])
  (seqM (ifS (binM gGt (callM gLen (acons (varM 1) anil)) (cstM (.int 8))) (raiM 2 (binM gAdd (cstM (.int 8)) (cstM (.int 1)))) nilM)
  (retM (varM 3))))))
abbrev f_read_rule : FM := fnM 5 m_read_rule
theorem cal_read_rule (T : Txt K mg ec) (SB : SysM base) : Cal PR w K mg base ec 10 1 "read_rule" f_read_rule := by
  refine cal_of (ps := ["string"]) (N := N_read_rule) (st := s_read_rule) (k := 9) T.d_read_rule ⟨rfl, rfl, rfl, by decide +kernel, rfl, by decide +kernel, by decide +kernel⟩ (fun _ _ _ _ _ _ us hl => match us, hl with | [_], _ => rfl) fun f cdv A outer s H E hr hg => ?_
  obtain ⟨cs_h_BadRule, t_h_BadRule⟩ := hd_one (X := cxOf (L2.CX PR w) PR w K mg base N_read_rule "read_rule" (defScope s_read_rule) f cdv A outer s H E) T.h_BadRule (by rfl)
  exact (pss_c (ps_s (by exact nd_read_rule) (i := 1) (by rfl) (by exact .inl rfl) (pe_frz (pe_spl (pe_cal (by exact cal__need_string T SB) (by exact hr.mono (by decide)) (by exact hg) (by rfl) fn_tk (pa_c (pe_v 0) pa_n)) pe_cs)))
  (pss_c (ps_s (by exact nd_read_rule) (i := 2) (by rfl) (by exact .inl rfl) (pe_frz (pe_add (pe_sl (pe_v 1) po_n (po_s (pe_gI (by exact T.g_MANY_ROWS) (by rfl)))) (pe_ml (pe_ls (pa_c pe_cs pa_n)) (pe_sb (pe_gI (by exact T.g_MANY_ROWS) (by rfl)) (pe_cB call_len snd_len (by rfl) (by exact T.b_len) (by decide +kernel) (pa_c (pe_v 1) pa_n)))))))
  (pss_c (ps_ty (by rfl) (by rfl) (by rfl) (by exact nd_read_rule) fn_tk (fun W pn xe htk hpo => (pss_1 (ps_s (by exact nd_read_rule) (i := 3) (by rfl) (by exact .inl rfl) (pe_frz (pe_cal (by exact cal_need_rule T SB) (by exact hr.mono (by decide)) (by exact hg) (by rfl) htk (pa_c (pe_cal (by exact cal__told_rule T SB) (by exact hr.mono (by decide)) (by exact hg) (by rfl) htk (pa_c (pe_v 2) pa_n)) pa_n)))))) (.named ((t_h_BadRule).1 _) (t_h_BadRule).2 (i := 4) (by rfl) (by rfl) (fun a pn => (pss_1 ps_stk)) .nil))
  (pss_c (ps_i (pt_gt  (pe_cB call_len snd_len (by rfl) (by exact T.b_len) (by decide +kernel) (pa_c (pe_v 1) pa_n)) (pe_gI (by exact T.g_MANY_ROWS) (by rfl))) (pss_1 (ps_raM (by exact T.e_BadText) (by exact hr.mono (by decide)) (by rfl) fn_tk (by rfl) (pe_add (pe_gI (by exact T.g_MANY_ROWS) (by rfl)) pe_ci))) pss_n)
  (pss_1 (ps_r (pe_v 3)))))))

abbrev s_journey_text : Stmt := topS 40
abbrev N_journey_text : List Str := ["rule", "journey", "kind", "age"]
theorem nd_journey_text : N_journey_text.Nodup := by decide +kernel
def m_journey_text : SM := (seqM (exM (callF 2 f_need_journey (acons (varM 0) (acons (varM 1) anil))))
  (retM (sm1M gJoin (cstM (.str "\n")) (compM (seqI true (varM 1)) [2, 3] (.tp [2, 3]) yesM (jsM [(unM gFmt (varM 2)), (cstM (.str " ")), (unM gFmt (varM 3))] Str.empty)))))
abbrev f_journey_text : FM := fnM 4 m_journey_text
theorem cal_journey_text (T : Txt K mg ec) (SB : SysM base) : Cal PR w K mg base ec 11 2 "journey_text" f_journey_text :=
  cal_of (ps := ["rule", "journey"]) (N := N_journey_text) (st := s_journey_text) (k := 10) T.d_journey_text ⟨rfl, rfl, rfl, by decide +kernel, rfl, by decide +kernel, by decide +kernel⟩ (fun _ _ _ _ _ _ us hl => match us, hl with | [_, _], _ => rfl) (by
  intro f cdv A outer s H E hr hg
  exact (pss_c (ps_ex (pe_cal (by exact cal_need_journey T SB) (by exact hr.mono (by decide)) (by exact hg) (by rfl) fn_tk (pa_c (pe_v 0) (pa_c (pe_v 1) pa_n))))
  (pss_1 (ps_r (pe_jn pe_cs (pe_comp (own := [("kind", 2), ("age", 3)]) (by rfl) (by exact nd_journey_text) (pi_any (pe_v 1)) (blkOk_by (N := N_journey_text) (sc := (defScope s_journey_text)) (own := [("kind", 2), ("age", 3)]) (by decide +kernel)) (fun _ _ _ _ _ => (pg_tup (by rfl) (pgs_cons (pg_name (by exact nd_journey_text) (i := 2) (by rfl) (by exact .inl rfl)) (pgs_cons (pg_name (by exact nd_journey_text) (i := 3) (by rfl) (by exact .inl rfl)) pgs_nil)))) (fun _ _ _ _ _ => pts_n) (fun _ _ _ _ _ => (pe_js (ms := [(unM gFmt (varM 2)), (cstM (.str " ")), (unM gFmt (varM 3))]) (by exact (.cons (pe_fm (pe_v 2)) (.cons pe_cs (.cons (pe_fm (pe_v 3)) .nil)))))) (tg_tp (is := [2, 3])) (by decide)))))))

abbrev s__told_touch : Stmt := topS 53
abbrev N__told_touch : List Str := ["row", "words"]
theorem nd__told_touch : N__told_touch.Nodup := by decide +kernel
def m__told_touch : SM := (seqM (setM 1 (frzM (sm1M gSplit (varM 0) (cstM (.str " ")))))
  (seqM (ifS (binM gNeq (callM gLen (acons (varM 1) anil)) (cstM (.int 2))) (retM (tupM (acons (cstM .none) (acons (cstM .none) anil)))) nilM)
  (retM (tupM (acons (binM gIx (varM 1) (cstM (.int 0))) (acons (callF 1 f_written_integer (acons (binM gIx (varM 1) (cstM (.int 1))) anil)) anil))))))
abbrev f__told_touch : FM := fnM 2 m__told_touch
theorem cal__told_touch (T : Txt K mg ec) (SB : SysM base) : Cal PR w K mg base ec 2 1 "_told_touch" f__told_touch :=
  cal_of (ps := ["row"]) (N := N__told_touch) (st := s__told_touch) (k := 1) T.d__told_touch ⟨rfl, rfl, rfl, by decide +kernel, rfl, by decide +kernel, by decide +kernel⟩ (fun _ _ _ _ _ _ us hl => match us, hl with | [_], _ => rfl) (by
  intro f cdv A outer s H E hr hg
  exact (pss_c (ps_s (by exact nd__told_touch) (i := 1) (by rfl) (by exact .inl rfl) (pe_frz (pe_spl (pe_v 0) pe_cs)))
  (pss_c (ps_i (pt_ne (by exact hr.units) (pe_cB call_len snd_len (by rfl) (by exact T.b_len) (by decide +kernel) (pa_c (pe_v 1) pa_n)) pe_ci) (pss_1 (ps_r (pe_tu (pa_c pe_cn (pa_c pe_cn pa_n))))) pss_n)
  (pss_1 (ps_r (pe_tu (pa_c (pe_ixx (pe_v 1) pe_ci) (pa_c (pe_cal (by exact cal_written_integer T SB) (by exact hr.mono (by decide)) (by exact hg) (by rfl) fn_tk (pa_c (pe_ixx (pe_v 1) pe_ci) pa_n)) pa_n))))))))

abbrev s_read_journey : Stmt := topS 41
abbrev N_read_journey : List Str := ["rule", "string", "journey", "greatest", "number", "row", "touch"]
theorem nd_read_journey : N_read_journey.Nodup := by decide +kernel
def m_read_journey : SM := (seqM (exM (callF 1 f_need_rule (acons (varM 0) anil)))
  (seqM (ifS (binM gEqq (callF 1 f__need_string (acons (varM 1) anil)) (cstM (.str ""))) (retM (tupM anil)) nilM)
  (seqM (setM 2 (lstM anil))
  (seqM (setM 3 (frzM (cstM (.int 1000000))))
  (seqM (frM (ensI (acons (sm1M gSplit (varM 1) (cstM (.str "\n"))) anil)) (.tp [4, 5]) (seqM (setM 6 (frzM (callF 1 f__told_touch (acons (varM 5) anil))))
  (seqM (ifS (orM (binM gGt (varM 4) (cstM (.int 200))) (orM (binM (gIn true) (binM gIx (varM 6) (cstM (.int 0))) (binM gIx (varM 0) (cstM (.int 0)))) (notM (truM (callF 3 f_is_integer (acons (binM gIx (varM 6) (cstM (.int 1))) (acons (cstM (.int 0)) (acons (varM 3) anil)))))))) (raiM 2 (varM 4)) nilM)
  (seqM (appM 2 (varM 6))
  (setM 3 (frzM (binM gIx (varM 6) (cstM (.int 1)))))))))
  (retM (callM gTuple (acons (varM 2) anil))))))))
abbrev f_read_journey : FM := fnM 7 m_read_journey
theorem cal_read_journey (T : Txt K mg ec) (SB : SysM base) : Cal PR w K mg base ec 10 2 "read_journey" f_read_journey :=
  cal_of (ps := ["rule", "string"]) (N := N_read_journey) (st := s_read_journey) (k := 9) T.d_read_journey ⟨rfl, rfl, rfl, by decide +kernel, rfl, by decide +kernel, by decide +kernel⟩ (fun _ _ _ _ _ _ us hl => match us, hl with | [_, _], _ => rfl) (by
  intro f cdv A outer s H E hr hg
  exact (pss_c (ps_ex (pe_cal (by exact cal_need_rule T SB) (by exact hr.mono (by decide)) (by exact hg) (by rfl) fn_tk (pa_c (pe_v 0) pa_n)))
  (pss_c (ps_i (pt_eq (by exact hr.units) (pe_cal (by exact cal__need_string T SB) (by exact hr.mono (by decide)) (by exact hg) (by rfl) fn_tk (pa_c (pe_v 1) pa_n)) pe_cs) (pss_1 (ps_r (pe_tu pa_n))) pss_n)
  (pss_c (ps_s (by exact nd_read_journey) (i := 2) (by rfl) (by exact .inl rfl) (pe_ls pa_n))
  (pss_c (ps_s (by exact nd_read_journey) (i := 3) (by rfl) (by exact .inl rfl) (pe_frz (pe_gI (by exact T.g_GREATEST_AGE) (by rfl))))
  (pss_c (ps_f fn_po (by rfl) (pi_ens (by rfl) (by exact T.b_enumerate) (pa_c (pe_spl (pe_v 1) pe_cs) pa_n)) (pg_tup (by rfl) (pgs_cons (pg_name (by exact nd_read_journey) (i := 4) (by rfl) (by exact .inl rfl)) (pgs_cons (pg_name (by exact nd_read_journey) (i := 5) (by rfl) (by exact .inl rfl)) pgs_nil))) (tg_tp (is := [4, 5])) (pss_c (ps_s (by exact nd_read_journey) (i := 6) (by rfl) (by exact .inl rfl) (pe_frz (pe_cal (by exact cal__told_touch T SB) (by exact hr.mono (by decide)) (by exact hg) (by rfl) fn_tk (pa_c (pe_v 5) pa_n))))
  (pss_c (ps_i (pw_o (pt_gt  (pe_v 4) (pe_gI (by exact T.g_MOST_TOUCHES) (by rfl))) (pw_o (pt_nin  (pe_ixx (pe_v 6) pe_ci) (pe_ixx (pe_v 0) (pe_gI (by exact T.g_KINDS) (by rfl)))) (pw_o1 (pt_n (pt_tru (pe_cal (by exact cal_is_integer T SB) (by exact hr.mono (by decide)) (by exact hg) (by rfl) fn_tk (pa_c (pe_ixx (pe_v 6) pe_ci) (pa_c pe_ci (pa_c (pe_v 3) pa_n))))))))).pt (pss_1 (ps_raM (by exact T.e_BadText) (by exact hr.mono (by decide)) (by rfl) fn_tk (by rfl) (pe_v 4))) pss_n)
  (pss_c (ps_ap (i := 2) (by rfl) (by first | exact Or.inl rfl | exact Or.inr (Or.inl rfl)) (pe_v 6))
  (pss_1 (ps_s (by exact nd_read_journey) (i := 3) (by rfl) (by exact .inl rfl) (pe_frz (pe_ixx (pe_v 6) pe_ci))))))))
  (pss_1 (ps_r (pe_cT call_tupleN snd_tuple (by rfl) (by exact T.b_tuple) (by decide +kernel) (pa_c (pe_v 2) pa_n))))))))))

abbrev s__law_begun : Stmt := topS 55
abbrev N__law_begun : List Str := ["script", "great", "cell"]
theorem nd__law_begun : N__law_begun.Nodup := by decide +kernel
def m__law_begun : SM := (seqM (setM 1 (compM (seqI true (varM 0)) [2] (.nm 2) (binM gGe (varM 2) (binM gPow (cstM (.int 10)) (cstM (.int 18)))) (varM 2))) (fzM 1 (retM (dctM ["cells", "left", "spot"] (aof [(binM gAdd (callM gList (acons (varM 0) anil)) (lstM (acons (callM gLen (acons (varM 0) anil)) anil))), (ifM (binM gNeq (varM 1) (lstM anil)) (binM gIx (varM 1) (cstM (.int 0))) (cstM (.int 0))), (cstM (.int 0))])))))
abbrev f__law_begun : FM := fnM 3 m__law_begun
theorem cal__law_begun (T : Txt K mg ec) (SB : SysM base) : Cal PR w K mg base ec 1 1 "_law_begun" f__law_begun :=
  cal_of (ps := ["script"]) (N := N__law_begun) (st := s__law_begun) (k := 0) T.d__law_begun ⟨rfl, rfl, rfl, by decide +kernel, rfl, by decide +kernel, by decide +kernel⟩ (fun _ _ _ _ _ _ us hl => match us, hl with | [_], _ => rfl) (by
  intro f cdv A outer s H E hr hg
  exact (pss_c (ps_comp (own := [("cell", 2)]) (by rfl) (by exact nd__law_begun) (by rfl) (by rfl) (by exact sw_true rfl rfl rfl rfl) (pi_any (pe_v 0)) (blkOk_by (N := N__law_begun) (sc := (defScope s__law_begun)) (own := [("cell", 2)]) (by decide +kernel)) (fun _ _ _ _ _ => (pg_name (by exact nd__law_begun) (by rfl) (by exact .inl rfl))) (fun _ _ _ _ _ => (pts_one (pt_ge  (pe_v 2) (pe_pw pe_ci pe_ci)))) (fun _ _ _ _ _ => (pe_v 2)) tg_nm (by decide)) (pss_fz 1 (pss_1 (ps_r (pe_dct (ks := ["cells", "left", "spot"]) (ms := [(binM gAdd (callM gList (acons (varM 0) anil)) (lstM (acons (callM gLen (acons (varM 0) anil)) anil))), (ifM (binM gNeq (varM 1) (lstM anil)) (binM gIx (varM 1) (cstM (.int 0))) (cstM (.int 0))), (cstM (.int 0))]) (by exact (pps_cons pe_cs (pe_frz (pe_add (pe_cT call_list_of snd_list (by rfl) (by exact T.b_list) (by decide +kernel) (pa_c (pe_v 0) pa_n)) (pe_ls (pa_c (pe_cB call_len snd_len (by rfl) (by exact T.b_len) (by decide +kernel) (pa_c (pe_v 0) pa_n)) pa_n)))) (pps_cons pe_cs (pe_frz (pe_if (pt_ne (by exact hr.units) (pe_v 1) (pe_ls pa_n)) (pe_ixx (pe_v 1) pe_ci) pe_ci)) (pps_cons pe_cs (pe_frz pe_ci) pps_nil)))) rfl))))))

abbrev s__law_draw : Stmt := topS 56
abbrev N__law_draw : List Str := ["m", "many", "found", "spot", "cell", "mixed"]
theorem nd__law_draw : N__law_draw.Nodup := by decide +kernel
def m__law_draw : SM := (seqM (ifS (binM gGt (getM (varM 0) (cstM (.str "left"))) (cstM (.int 0))) (seqM (setM 2 (frzM (binM gMod (callM gInt (acons (getM (varM 0) (cstM (.str "left"))) anil)) (varM 1))))
  (seqM (putM (varM 0) (cstM (.str "left")) (binM gDiv (getM (varM 0) (cstM (.str "left"))) (varM 1)))
  (retM (varM 2)))) nilM)
  (seqM (setM 3 (frzM (binM gAdd (getM (varM 0) (cstM (.str "spot"))) (cstM (.int 1)))))
  (seqM (putM (varM 0) (cstM (.str "spot")) (varM 3))
  (seqM (setM 4 (frzM (binM gIx (getM (varM 0) (cstM (.str "cells"))) (binM gMod (callM gInt (acons (varM 3) anil)) (callM gLen (acons (getM (varM 0) (cstM (.str "cells"))) anil))))))
  (seqM (setM 5 (frzM (binM gMul (callM gInt (acons (binM gAdd (binM gAdd (binM gMod (callM gInt (acons (varM 4) anil)) (cstM (.int 2147483629))) (binM gMul (cstM (.int 6133)) (varM 3))) (binM gMul (binM gMul (cstM (.int 23)) (varM 3)) (varM 3))) anil)) (cstM (.int 48271)))))
  (seqM (setM 5 (frzM (binM gMul (callM gInt (acons (binM gAdd (binM gMod (callM gInt (acons (varM 5) anil)) (cstM (.int 2147483647))) (binM gMul (cstM (.int 93241)) (varM 3))) anil)) (cstM (.int 69621)))))
  (retM (binM gMod (callM gInt (acons (binM gDiv (binM gMod (callM gInt (acons (varM 5) anil)) (cstM (.int 2147483587))) (cstM (.int 13))) anil)) (varM 1)))))))))
abbrev f__law_draw : FM := fnM 6 m__law_draw
theorem cal__law_draw (T : Txt K mg ec) (SB : SysM base) : Cal PR w K mg base ec 1 2 "_law_draw" f__law_draw :=
  cal_of (ps := ["m", "many"]) (N := N__law_draw) (st := s__law_draw) (k := 0) T.d__law_draw ⟨rfl, rfl, rfl, by decide +kernel, rfl, by decide +kernel, by decide +kernel⟩ (fun _ _ _ _ _ _ us hl => match us, hl with | [_, _], _ => rfl) (by
  intro f cdv A outer s H E hr hg
  exact (pss_c (ps_i (pt_gt  (pe_get (by exact hu_of hr) (pe_v 0) pe_cs (by exact fun _ _ => rfl)) pe_ci) (pss_c (ps_s (by exact nd__law_draw) (i := 2) (by rfl) (by exact .inl rfl) (pe_frz (pe_md (pe_cT call_int1 snd_int (by rfl) (by exact T.b_int) (by decide +kernel) (pa_c (pe_get (by exact hu_of hr) (pe_v 0) pe_cs (by exact fun _ _ => rfl)) pa_n)) (pe_v 1))))
  (pss_c (ps_pt (by exact hu_of hr) (pe_v 0) pe_cs (pe_fd (pe_get (by exact hu_of hr) (pe_v 0) pe_cs (by exact fun _ _ => rfl)) (pe_v 1)))
  (pss_1 (ps_r (pe_v 2))))) pss_n)
  (pss_c (ps_s (by exact nd__law_draw) (i := 3) (by rfl) (by exact .inl rfl) (pe_frz (pe_add (pe_get (by exact hu_of hr) (pe_v 0) pe_cs (by exact fun _ _ => rfl)) pe_ci)))
  (pss_c (ps_pt (by exact hu_of hr) (pe_v 0) pe_cs (pe_v 3))
  (pss_c (ps_s (by exact nd__law_draw) (i := 4) (by rfl) (by exact .inl rfl) (pe_frz (pe_ixx (pe_get (by exact hu_of hr) (pe_v 0) pe_cs (by exact fun _ _ => rfl)) (pe_md (pe_cT call_int1 snd_int (by rfl) (by exact T.b_int) (by decide +kernel) (pa_c (pe_v 3) pa_n)) (pe_cB call_len snd_len (by rfl) (by exact T.b_len) (by decide +kernel) (pa_c (pe_get (by exact hu_of hr) (pe_v 0) pe_cs (by exact fun _ _ => rfl)) pa_n))))))
  (pss_c (ps_s (by exact nd__law_draw) (i := 5) (by rfl) (by exact .inl rfl) (pe_frz (pe_ml (pe_cT call_int1 snd_int (by rfl) (by exact T.b_int) (by decide +kernel) (pa_c (pe_add (pe_add (pe_md (pe_cT call_int1 snd_int (by rfl) (by exact T.b_int) (by decide +kernel) (pa_c (pe_v 4) pa_n)) pe_ci) (pe_ml pe_ci (pe_v 3))) (pe_ml (pe_ml pe_ci (pe_v 3)) (pe_v 3))) pa_n)) pe_ci)))
  (pss_c (ps_s (by exact nd__law_draw) (i := 5) (by rfl) (by exact .inl rfl) (pe_frz (pe_ml (pe_cT call_int1 snd_int (by rfl) (by exact T.b_int) (by decide +kernel) (pa_c (pe_add (pe_md (pe_cT call_int1 snd_int (by rfl) (by exact T.b_int) (by decide +kernel) (pa_c (pe_v 5) pa_n)) pe_ci) (pe_ml pe_ci (pe_v 3))) pa_n)) pe_ci)))
  (pss_1 (ps_r (pe_md (pe_cT call_int1 snd_int (by rfl) (by exact T.b_int) (by decide +kernel) (pa_c (pe_fd (pe_md (pe_cT call_int1 snd_int (by rfl) (by exact T.b_int) (by decide +kernel) (pa_c (pe_v 5) pa_n)) pe_ci) pe_ci) pa_n)) (pe_v 1)))))))))))

abbrev s__law_of : Stmt := topS 57
abbrev N__law_of : List Str := ["m", "some"]
theorem nd__law_of : N__law_of.Nodup := by decide +kernel
def m__law_of : SM := (retM (binM gIx (varM 1) (callF 2 f__law_draw (acons (varM 0) (acons (callM gLen (acons (varM 1) anil)) anil)))))
abbrev f__law_of : FM := fnM 2 m__law_of
theorem cal__law_of (T : Txt K mg ec) (SB : SysM base) : Cal PR w K mg base ec 2 2 "_law_of" f__law_of :=
  cal_of (ps := ["m", "some"]) (N := N__law_of) (st := s__law_of) (k := 1) T.d__law_of ⟨rfl, rfl, rfl, by decide +kernel, rfl, by decide +kernel, by decide +kernel⟩ (fun _ _ _ _ _ _ us hl => match us, hl with | [_, _], _ => rfl) (by
  intro f cdv A outer s H E hr hg
  exact (pss_1 (ps_r (pe_ixx (pe_v 1) (pe_cal (by exact cal__law_draw T SB) (by exact hr.mono (by decide)) (by exact hg) (by rfl) fn_tk (pa_c (pe_v 0) (pa_c (pe_cB call_len snd_len (by rfl) (by exact T.b_len) (by decide +kernel) (pa_c (pe_v 1) pa_n)) pa_n)))))))

abbrev s__law_kinds : Stmt := topS 58
abbrev N__law_kinds : List Str := ["m", "most", "some"]
theorem nd__law_kinds : N__law_kinds.Nodup := by decide +kernel
def m__law_kinds : SM := (seqM (setM 2 (frzM (lstM (acons (tupM (acons (cstM (.str "a")) (acons (cstM (.str "b")) (acons (cstM (.str "c")) (acons (cstM (.str "d")) anil))))) (acons (tupM (acons (cstM (.str "ad")) (acons (cstM (.str "mail")) (acons (cstM (.str "shop")) (acons (cstM (.str "web")) anil))))) (acons (tupM (acons (cstM (.str "a")) (acons (cstM (.str "aa")) (acons (cstM (.str "ab")) (acons (cstM (.str "zzzzzz")) anil))))) anil))))))
  (retM (sliM (callF 2 f__law_of (acons (varM 0) (acons (varM 2) anil))) .no (.som (binM gAdd (cstM (.int 1)) (callF 2 f__law_draw (acons (varM 0) (acons (varM 1) anil))))))))
abbrev f__law_kinds : FM := fnM 3 m__law_kinds
theorem cal__law_kinds (T : Txt K mg ec) (SB : SysM base) : Cal PR w K mg base ec 3 2 "_law_kinds" f__law_kinds :=
  cal_of (ps := ["m", "most"]) (N := N__law_kinds) (st := s__law_kinds) (k := 2) T.d__law_kinds ⟨rfl, rfl, rfl, by decide +kernel, rfl, by decide +kernel, by decide +kernel⟩ (fun _ _ _ _ _ _ us hl => match us, hl with | [_, _], _ => rfl) (by
  intro f cdv A outer s H E hr hg
  exact (pss_c (ps_s (by exact nd__law_kinds) (i := 2) (by rfl) (by exact .inl rfl) (pe_frz (pe_ls (pa_c (pe_tu (pa_c pe_cs (pa_c pe_cs (pa_c pe_cs (pa_c pe_cs pa_n))))) (pa_c (pe_tu (pa_c pe_cs (pa_c pe_cs (pa_c pe_cs (pa_c pe_cs pa_n))))) (pa_c (pe_tu (pa_c pe_cs (pa_c pe_cs (pa_c pe_cs (pa_c pe_cs pa_n))))) pa_n))))))
  (pss_1 (ps_r (pe_sl (pe_cal (by exact cal__law_of T SB) (by exact hr.mono (by decide)) (by exact hg) (by rfl) fn_tk (pa_c (pe_v 0) (pa_c (pe_v 2) pa_n))) po_n (po_s (pe_add pe_ci (pe_cal (by exact cal__law_draw T SB) (by exact hr.mono (by decide)) (by exact hg) (by rfl) fn_tk (pa_c (pe_v 0) (pa_c (pe_v 1) pa_n))))))))))

abbrev s__law_shares : Stmt := topS 59
abbrev N__law_shares : List Str := ["m", "count", "hours_so", "way", "rows", "k", "row", "spot", "part", "marks", "one"]
theorem nd__law_shares : N__law_shares.Nodup := by decide +kernel
def m__law_shares : SM := (seqM (parM 3 4 (frzM (callF 2 f__law_draw (acons (varM 0) (acons (cstM (.int 3)) anil)))) (lstM anil))
  (seqM (ifS (binM gEqq (varM 3) (cstM (.int 0))) (retM (tupM (acons (cstM (.str "even")) anil))) nilM)
  (seqM (ifS (binM gEqq (varM 3) (cstM (.int 1))) (seqM (frM (rng1I (acons (varM 1) anil)) (.nm 5) (seqM (setM 6 (frzM (tupM anil)))
  (seqM (frM (rng1I (acons (binM gAdd (varM 5) (cstM (.int 1))) anil)) (.nm 7) (seqM (setM 8 (frzM (callF 2 f__law_of (acons (varM 0) (acons (lstM (acons (cstM (.int 0)) (acons (cstM (.int 40)) (acons (cstM (.int 100)) (acons (callF 2 f__law_draw (acons (varM 0) (acons (cstM (.int 101)) anil))) anil))))) anil)))))
  (setM 6 (frzM (binM gAdd (varM 6) (tupM (acons (callM gMin (acons (varM 8) (acons (binM gSub (cstM (.int 100)) (callM gSum (acons (varM 6) anil))) anil))) anil)))))))
  (appM 4 (varM 6)))))
  (retM (tupM (acons (cstM (.str "places")) (acons (callM gTuple (acons (varM 4) anil)) anil))))) nilM)
  (seqM (setM 9 (frzM (callM gTuple (acons (sliM (compM (rng2I (acons (cstM (.int 1)) (acons (binM gAdd (varM 2) (cstM (.int 1))) anil))) [10] (.nm 10) (binM gEqq (callF 2 f__law_draw (acons (varM 0) (acons (cstM (.int 3)) anil))) (cstM (.int 0))) (varM 10)) .no (.som (cstM (.int 3)))) anil))))
  (retM (tupM (acons (cstM (.str "ages")) (acons (varM 9) (acons (callM gTuple (acons (compM (rng1I (acons (binM gAdd (callM gLen (acons (varM 9) anil)) (cstM (.int 1))) anil)) [5] (.nm 5) yesM (callF 2 f__law_draw (acons (varM 0) (acons (cstM (.int 4)) anil)))) anil)) anil)))))))))
abbrev f__law_shares : FM := fnM 11 m__law_shares
theorem cal__law_shares (T : Txt K mg ec) (SB : SysM base) : Cal PR w K mg base ec 3 3 "_law_shares" f__law_shares :=
  cal_of (ps := ["m", "count", "hours_so"]) (N := N__law_shares) (st := s__law_shares) (k := 2) T.d__law_shares ⟨rfl, rfl, rfl, by decide +kernel, rfl, by decide +kernel, by decide +kernel⟩ (fun _ _ _ _ _ _ us hl => match us, hl with | [_, _, _], _ => rfl) (by
  intro f cdv A outer s H E hr hg
  exact (pss_c (ps_pr (i := 3) (j := 4) (by rfl) (by exact nd__law_shares) (by rfl) (by rfl) (by decide) (by rfl) (by rfl) (pe_frz (pe_cal (by exact cal__law_draw T SB) (by exact hr.mono (by decide)) (by exact hg) (by rfl) fn_tk (pa_c (pe_v 0) (pa_c pe_ci pa_n)))) (pe_ls pa_n) (by rfl))
  (pss_c (ps_i (pt_eq (by exact hr.units) (pe_v 3) pe_ci) (pss_1 (ps_r (pe_tu (pa_c pe_cs pa_n)))) pss_n)
  (pss_c (ps_i (pt_eq (by exact hr.units) (pe_v 3) pe_ci) (pss_c (ps_f fn_po (by rfl) (pi_rg1 (by rfl) (by exact T.b_range) (pa_c (pe_v 1) pa_n)) (pg_name (by exact nd__law_shares) (by rfl) (by exact .inl rfl)) tg_nm (pss_c (ps_s (by exact nd__law_shares) (i := 6) (by rfl) (by exact .inl rfl) (pe_frz (pe_tu pa_n)))
  (pss_c (ps_f fn_po (by rfl) (pi_rg1 (by rfl) (by exact T.b_range) (pa_c (pe_add (pe_v 5) pe_ci) pa_n)) (pg_name (by exact nd__law_shares) (by rfl) (by exact .inl rfl)) tg_nm (pss_c (ps_s (by exact nd__law_shares) (i := 8) (by rfl) (by exact .inl rfl) (pe_frz (pe_cal (by exact cal__law_of T SB) (by exact hr.mono (by decide)) (by exact hg) (by rfl) fn_tk (pa_c (pe_v 0) (pa_c (pe_ls (pa_c pe_ci (pa_c pe_ci (pa_c pe_ci (pa_c (pe_cal (by exact cal__law_draw T SB) (by exact hr.mono (by decide)) (by exact hg) (by rfl) fn_tk (pa_c (pe_v 0) (pa_c pe_ci pa_n))) pa_n))))) pa_n)))))
  (pss_1 (ps_s (by exact nd__law_shares) (i := 6) (by rfl) (by exact .inl rfl) (pe_frz (pe_add (pe_v 6) (pe_tu (pa_c (pe_cB (call_min2 (by rfl)) snd_min (by rfl) (by exact T.b_min) (by decide +kernel) (pa_c (pe_v 8) (pa_c (pe_sb pe_ci (pe_cB (cr_sumA rfl) snd_sum (by rfl) (by exact T.b_sum) (by decide +kernel) (pa_c (pe_v 6) pa_n))) pa_n))) pa_n))))))))
  (pss_1 (ps_ap (i := 4) (by rfl) (by first | exact Or.inl rfl | exact Or.inr (Or.inl rfl)) (pe_v 6))))))
  (pss_1 (ps_r (pe_tu (pa_c pe_cs (pa_c (pe_cT call_tupleN snd_tuple (by rfl) (by exact T.b_tuple) (by decide +kernel) (pa_c (pe_v 4) pa_n)) pa_n)))))) pss_n)
  (pss_c (ps_s (by exact nd__law_shares) (i := 9) (by rfl) (by exact .inl rfl) (pe_frz (pe_cT call_tupleN snd_tuple (by rfl) (by exact T.b_tuple) (by decide +kernel) (pa_c (pe_sl (pe_comp (own := [("one", 10)]) (by rfl) (by exact nd__law_shares) (pi_rg2 (by rfl) (by exact T.b_range) (pa_c pe_ci (pa_c (pe_add (pe_v 2) pe_ci) pa_n))) (blkOk_by (N := N__law_shares) (sc := (defScope s__law_shares)) (own := [("one", 10)]) (by decide +kernel)) (fun _ _ _ _ _ => (pg_name (by exact nd__law_shares) (by rfl) (by exact .inl rfl))) (fun _ _ _ _ _ => (pts_one (pt_eq (by exact hr.units) (pe_cal (by exact cal__law_draw T SB) (by exact hr.mono (by decide)) (by exact hg) (by rfl) blk_tk (pa_c (pe_v 0) (pa_c pe_ci pa_n))) pe_ci))) (fun _ _ _ _ _ => (pe_v 10)) tg_nm (by decide)) po_n (po_s pe_ci)) pa_n))))
  (pss_1 (ps_r (pe_tu (pa_c pe_cs (pa_c (pe_v 9) (pa_c (pe_cT call_tupleN snd_tuple (by rfl) (by exact T.b_tuple) (by decide +kernel) (pa_c (pe_comp (own := [("k", 5)]) (by rfl) (by exact nd__law_shares) (pi_rg1 (by rfl) (by exact T.b_range) (pa_c (pe_add (pe_cB call_len snd_len (by rfl) (by exact T.b_len) (by decide +kernel) (pa_c (pe_v 9) pa_n)) pe_ci) pa_n)) (blkOk_by (N := N__law_shares) (sc := (defScope s__law_shares)) (own := [("k", 5)]) (by decide +kernel)) (fun _ _ _ _ _ => (pg_name (by exact nd__law_shares) (by rfl) (by exact .inl rfl))) (fun _ _ _ _ _ => pts_n) (fun _ _ _ _ _ => (pe_cal (by exact cal__law_draw T SB) (by exact hr.mono (by decide)) (by exact hg) (by rfl) blk_tk (pa_c (pe_v 0) (pa_c pe_ci pa_n)))) tg_nm (by decide)) pa_n)) pa_n)))))))))))

abbrev s__law_rule : Stmt := topS 60
abbrev N__law_rule : List Str := ["m", "most", "hours_so", "count", "some", "window", "gap", "weak", "number", "once", "end", "one"]
theorem nd__law_rule : N__law_rule.Nodup := by decide +kernel
def m__law_rule : SM := (seqM (setM 4 (frzM (callF 2 f__law_kinds (acons (varM 0) (acons (varM 1) anil)))))
  (seqM (parM 5 6 (frzM (binM gIx (lstM (acons (cstM .none) (acons (callF 2 f__law_draw (acons (varM 0) (acons (binM gAdd (varM 2) (cstM (.int 1))) anil))) anil))) (callF 2 f__law_draw (acons (varM 0) (acons (cstM (.int 2)) anil))))) (frzM (binM gIx (lstM (acons (cstM .none) (acons (callF 2 f__law_draw (acons (varM 0) (acons (cstM (.int 3)) anil))) anil))) (callF 2 f__law_draw (acons (varM 0) (acons (cstM (.int 2)) anil))))))
  (seqM (parM 7 8 (frzM (callM gTuple (acons (compM (seqI true (varM 4)) [11] (.nm 11) (binM gEqq (callF 2 f__law_draw (acons (varM 0) (acons (cstM (.int 4)) anil))) (cstM (.int 0))) (varM 11)) anil))) (frzM (binM gAdd (cstM (.int 1)) (callF 2 f__law_draw (acons (varM 0) (acons (varM 3) anil))))))
  (seqM (parM 9 10 (frzM (callF 2 f__law_of (acons (varM 0) (acons (lstM (acons (cstM (.str "all")) (acons (cstM (.str "all")) (acons (cstM (.str "first")) (acons (cstM (.str "last")) anil))))) anil)))) (frzM (callF 2 f__law_of (acons (varM 0) (acons (lstM (acons (cstM (.str "first")) (acons (cstM (.str "last")) anil))) anil)))))
  (retM (tupM (acons (varM 4) (acons (varM 5) (acons (varM 6) (acons (varM 7) (acons (varM 9) (acons (tupM (acons (varM 10) (acons (varM 8) anil))) (acons (callF 3 f__law_shares (acons (varM 0) (acons (varM 8) (acons (varM 2) anil)))) anil)))))))))))))
abbrev f__law_rule : FM := fnM 12 m__law_rule
theorem cal__law_rule (T : Txt K mg ec) (SB : SysM base) : Cal PR w K mg base ec 4 4 "_law_rule" f__law_rule :=
  cal_of (ps := ["m", "most", "hours_so", "count"]) (N := N__law_rule) (st := s__law_rule) (k := 3) T.d__law_rule ⟨rfl, rfl, rfl, by decide +kernel, rfl, by decide +kernel, by decide +kernel⟩ (fun _ _ _ _ _ _ us hl => match us, hl with | [_, _, _, _], _ => rfl) (by
  intro f cdv A outer s H E hr hg
  exact (pss_c (ps_s (by exact nd__law_rule) (i := 4) (by rfl) (by exact .inl rfl) (pe_frz (pe_cal (by exact cal__law_kinds T SB) (by exact hr.mono (by decide)) (by exact hg) (by rfl) fn_tk (pa_c (pe_v 0) (pa_c (pe_v 1) pa_n)))))
  (pss_c (ps_pr (i := 5) (j := 6) (by rfl) (by exact nd__law_rule) (by rfl) (by rfl) (by decide) (by rfl) (by rfl) (pe_frz (pe_ixx (pe_ls (pa_c pe_cn (pa_c (pe_cal (by exact cal__law_draw T SB) (by exact hr.mono (by decide)) (by exact hg) (by rfl) fn_tk (pa_c (pe_v 0) (pa_c (pe_add (pe_v 2) pe_ci) pa_n))) pa_n))) (pe_cal (by exact cal__law_draw T SB) (by exact hr.mono (by decide)) (by exact hg) (by rfl) fn_tk (pa_c (pe_v 0) (pa_c pe_ci pa_n))))) (pe_frz (pe_ixx (pe_ls (pa_c pe_cn (pa_c (pe_cal (by exact cal__law_draw T SB) (by exact hr.mono (by decide)) (by exact hg) (by rfl) fn_tk (pa_c (pe_v 0) (pa_c pe_ci pa_n))) pa_n))) (pe_cal (by exact cal__law_draw T SB) (by exact hr.mono (by decide)) (by exact hg) (by rfl) fn_tk (pa_c (pe_v 0) (pa_c pe_ci pa_n))))) (by rfl))
  (pss_c (ps_pr (i := 7) (j := 8) (by rfl) (by exact nd__law_rule) (by rfl) (by rfl) (by decide) (by rfl) (by rfl) (pe_frz (pe_cT call_tupleN snd_tuple (by rfl) (by exact T.b_tuple) (by decide +kernel) (pa_c (pe_comp (own := [("one", 11)]) (by rfl) (by exact nd__law_rule) (pi_any (pe_v 4)) (blkOk_by (N := N__law_rule) (sc := (defScope s__law_rule)) (own := [("one", 11)]) (by decide +kernel)) (fun _ _ _ _ _ => (pg_name (by exact nd__law_rule) (by rfl) (by exact .inl rfl))) (fun _ _ _ _ _ => (pts_one (pt_eq (by exact hr.units) (pe_cal (by exact cal__law_draw T SB) (by exact hr.mono (by decide)) (by exact hg) (by rfl) blk_tk (pa_c (pe_v 0) (pa_c pe_ci pa_n))) pe_ci))) (fun _ _ _ _ _ => (pe_v 11)) tg_nm (by decide)) pa_n))) (pe_frz (pe_add pe_ci (pe_cal (by exact cal__law_draw T SB) (by exact hr.mono (by decide)) (by exact hg) (by rfl) fn_tk (pa_c (pe_v 0) (pa_c (pe_v 3) pa_n))))) (by rfl))
  (pss_c (ps_pr (i := 9) (j := 10) (by rfl) (by exact nd__law_rule) (by rfl) (by rfl) (by decide) (by rfl) (by rfl) (pe_frz (pe_cal (by exact cal__law_of T SB) (by exact hr.mono (by decide)) (by exact hg) (by rfl) fn_tk (pa_c (pe_v 0) (pa_c (pe_ls (pa_c pe_cs (pa_c pe_cs (pa_c pe_cs (pa_c pe_cs pa_n))))) pa_n)))) (pe_frz (pe_cal (by exact cal__law_of T SB) (by exact hr.mono (by decide)) (by exact hg) (by rfl) fn_tk (pa_c (pe_v 0) (pa_c (pe_ls (pa_c pe_cs (pa_c pe_cs pa_n))) pa_n)))) (by rfl))
  (pss_1 (ps_r (pe_tu (pa_c (pe_v 4) (pa_c (pe_v 5) (pa_c (pe_v 6) (pa_c (pe_v 7) (pa_c (pe_v 9) (pa_c (pe_tu (pa_c (pe_v 10) (pa_c (pe_v 8) pa_n))) (pa_c (pe_cal (by exact cal__law_shares T SB) (by exact hr.mono (by decide)) (by exact hg) (by rfl) fn_tk (pa_c (pe_v 0) (pa_c (pe_v 8) (pa_c (pe_v 2) pa_n)))) pa_n)))))))))))))))

abbrev s__law_journey : Stmt := topS 61
abbrev N__law_journey : List Str := ["m", "law_so", "size", "hours_so", "age", "found", "k"]
theorem nd__law_journey : N__law_journey.Nodup := by decide +kernel
def m__law_journey : SM := (seqM (parM 4 5 (frzM (cstM (.int 0))) (frzM (lstM anil)))
  (seqM (frM (rng1I (acons (callF 2 f__law_draw (acons (varM 0) (acons (binM gAdd (varM 2) (cstM (.int 1))) anil))) anil)) (.nm 6) (seqM (setM 4 (frzM (binM gAdd (varM 4) (callF 2 f__law_of (acons (varM 0) (acons (lstM (acons (cstM (.int 0)) (acons (cstM (.int 0)) (acons (cstM (.int 1)) (acons (cstM (.int 1)) (acons (cstM (.int 2)) (acons (varM 3) (acons (cstM (.int 7)) anil)))))))) anil))))))
  (setM 5 (frzM (binM gAdd (lstM (acons (tupM (acons (callF 2 f__law_of (acons (varM 0) (acons (binM gIx (varM 1) (cstM (.int 0))) anil))) (acons (varM 4) anil))) anil)) (varM 5))))))
  (retM (callM gTuple (acons (varM 5) anil)))))
abbrev f__law_journey : FM := fnM 7 m__law_journey
theorem cal__law_journey (T : Txt K mg ec) (SB : SysM base) : Cal PR w K mg base ec 3 4 "_law_journey" f__law_journey :=
  cal_of (ps := ["m", "law_so", "size", "hours_so"]) (N := N__law_journey) (st := s__law_journey) (k := 2) T.d__law_journey ⟨rfl, rfl, rfl, by decide +kernel, rfl, by decide +kernel, by decide +kernel⟩ (fun _ _ _ _ _ _ us hl => match us, hl with | [_, _, _, _], _ => rfl) (by
  intro f cdv A outer s H E hr hg
  exact (pss_c (ps_pr (i := 4) (j := 5) (by rfl) (by exact nd__law_journey) (by rfl) (by rfl) (by decide) (by rfl) (by rfl) (pe_frz pe_ci) (pe_frz (pe_ls pa_n)) (by rfl))
  (pss_c (ps_f fn_po (by rfl) (pi_rg1 (by rfl) (by exact T.b_range) (pa_c (pe_cal (by exact cal__law_draw T SB) (by exact hr.mono (by decide)) (by exact hg) (by rfl) fn_tk (pa_c (pe_v 0) (pa_c (pe_add (pe_v 2) pe_ci) pa_n))) pa_n)) (pg_name (by exact nd__law_journey) (by rfl) (by exact .inl rfl)) tg_nm (pss_c (ps_s (by exact nd__law_journey) (i := 4) (by rfl) (by exact .inl rfl) (pe_frz (pe_add (pe_v 4) (pe_cal (by exact cal__law_of T SB) (by exact hr.mono (by decide)) (by exact hg) (by rfl) fn_tk (pa_c (pe_v 0) (pa_c (pe_ls (pa_c pe_ci (pa_c pe_ci (pa_c pe_ci (pa_c pe_ci (pa_c pe_ci (pa_c (pe_v 3) (pa_c pe_ci pa_n)))))))) pa_n))))))
  (pss_1 (ps_s (by exact nd__law_journey) (i := 5) (by rfl) (by exact .inl rfl) (pe_frz (pe_add (pe_ls (pa_c (pe_tu (pa_c (pe_cal (by exact cal__law_of T SB) (by exact hr.mono (by decide)) (by exact hg) (by rfl) fn_tk (pa_c (pe_v 0) (pa_c (pe_ixx (pe_v 1) pe_ci) pa_n))) (pa_c (pe_v 4) pa_n))) pa_n)) (pe_v 5)))))))
  (pss_1 (ps_r (pe_cT call_tupleN snd_tuple (by rfl) (by exact T.b_tuple) (by decide +kernel) (pa_c (pe_v 5) pa_n)))))))

abbrev s__law_rule_rows : Stmt := topS 62
abbrev N__law_rule_rows : List Str := ["law_so", "text", "one", "numbers", "row"]
theorem nd__law_rule_rows : N__law_rule_rows.Nodup := by decide +kernel
def m__law_rule_rows : SM := (seqM (setM 1 (frzM (cstM (.str "kinds"))))
  (seqM (frM (seqI false (binM gIx (varM 0) (cstM (.int 0)))) (.nm 2) (setM 1 (frzM (binM gAdd (binM gAdd (varM 1) (cstM (.str " "))) (varM 2)))))
  (seqM (setM 1 (frzM (binM gAdd (binM gAdd (varM 1) (cstM (.str "\nwindow "))) (ifM (binM (gIs id) (binM gIx (varM 0) (cstM (.int 1))) (cstM .none)) (cstM (.str "none")) (callM gStr1 (acons (binM gIx (varM 0) (cstM (.int 1))) anil))))))
  (seqM (setM 1 (frzM (binM gAdd (binM gAdd (binM gAdd (varM 1) (cstM (.str "\ngap "))) (ifM (binM (gIs id) (binM gIx (varM 0) (cstM (.int 2))) (cstM .none)) (cstM (.str "none")) (callM gStr1 (acons (binM gIx (varM 0) (cstM (.int 2))) anil)))) (cstM (.str "\nweak")))))
  (seqM (frM (seqI false (binM gIx (varM 0) (cstM (.int 3)))) (.nm 2) (setM 1 (frzM (binM gAdd (binM gAdd (varM 1) (cstM (.str " "))) (varM 2)))))
  (seqM (setM 1 (frzM (binM gAdd (binM gAdd (binM gAdd (binM gAdd (binM gAdd (binM gAdd (varM 1) (cstM (.str "\nonce "))) (binM gIx (varM 0) (cstM (.int 4)))) (cstM (.str "\npick "))) (binM gIx (binM gIx (varM 0) (cstM (.int 5))) (cstM (.int 0)))) (cstM (.str " "))) (callM gStr1 (acons (binM gIx (binM gIx (varM 0) (cstM (.int 5))) (cstM (.int 1))) anil)))))
  (seqM (setM 1 (frzM (binM gAdd (binM gAdd (varM 1) (cstM (.str "\n"))) (binM gIx (binM gIx (varM 0) (cstM (.int 6))) (cstM (.int 0))))))
  (seqM (setM 3 (frzM (lstM anil)))
  (seqM (ifS (binM gEqq (binM gIx (binM gIx (varM 0) (cstM (.int 6))) (cstM (.int 0))) (cstM (.str "places"))) (frM (seqI false (binM gIx (binM gIx (varM 0) (cstM (.int 6))) (cstM (.int 1)))) (.nm 4) (setM 3 (frzM (binM gAdd (varM 3) (callM gList (acons (varM 4) anil)))))) nilM)
  (seqM (ifS (binM gEqq (binM gIx (binM gIx (varM 0) (cstM (.int 6))) (cstM (.int 0))) (cstM (.str "ages"))) (setM 3 (frzM (binM gAdd (binM gAdd (lstM (acons (callM gLen (acons (binM gIx (binM gIx (varM 0) (cstM (.int 6))) (cstM (.int 1))) anil)) anil)) (callM gList (acons (binM gIx (binM gIx (varM 0) (cstM (.int 6))) (cstM (.int 1))) anil))) (callM gList (acons (binM gIx (binM gIx (varM 0) (cstM (.int 6))) (cstM (.int 2))) anil))))) nilM)
  (retM (binM gAdd (binM gAdd (varM 1) (cstM (.str "\n"))) (ifM (binM gNeq (varM 3) (lstM anil)) (sm1M gJoin (cstM (.str " ")) (compM (seqI true (varM 3)) [2] (.nm 2) yesM (callM gStr1 (acons (varM 2) anil)))) (cstM (.str "-")))))))))))))))
abbrev f__law_rule_rows : FM := fnM 5 m__law_rule_rows
theorem cal__law_rule_rows (T : Txt K mg ec) (SB : SysM base) : Cal PR w K mg base ec 1 1 "_law_rule_rows" f__law_rule_rows :=
  cal_of (ps := ["law_so"]) (N := N__law_rule_rows) (st := s__law_rule_rows) (k := 0) T.d__law_rule_rows ⟨rfl, rfl, rfl, by decide +kernel, rfl, by decide +kernel, by decide +kernel⟩ (fun _ _ _ _ _ _ us hl => match us, hl with | [_], _ => rfl) (by
  intro f cdv A outer s H E hr hg
  exact (pss_c (ps_s (by exact nd__law_rule_rows) (i := 1) (by rfl) (by exact .inl rfl) (pe_frz pe_cs))
  (pss_c (ps_f fn_po (by rfl) (pi_any (pe_ixx (pe_v 0) pe_ci)) (pg_name (by exact nd__law_rule_rows) (by rfl) (by exact .inl rfl)) tg_nm (pss_1 (ps_s (by exact nd__law_rule_rows) (i := 1) (by rfl) (by exact .inl rfl) (pe_frz (pe_add (pe_add (pe_v 1) pe_cs) (pe_v 2))))))
  (pss_c (ps_s (by exact nd__law_rule_rows) (i := 1) (by rfl) (by exact .inl rfl) (pe_frz (pe_add (pe_add (pe_v 1) pe_cs) (pe_if (pt_is  (pe_ixx (pe_v 0) pe_ci) pe_cn) pe_cs (pe_cT call_str_int snd_str1 (by rfl) (by exact T.b_str) (by decide +kernel) (pa_c (pe_ixx (pe_v 0) pe_ci) pa_n))))))
  (pss_c (ps_s (by exact nd__law_rule_rows) (i := 1) (by rfl) (by exact .inl rfl) (pe_frz (pe_add (pe_add (pe_add (pe_v 1) pe_cs) (pe_if (pt_is  (pe_ixx (pe_v 0) pe_ci) pe_cn) pe_cs (pe_cT call_str_int snd_str1 (by rfl) (by exact T.b_str) (by decide +kernel) (pa_c (pe_ixx (pe_v 0) pe_ci) pa_n)))) pe_cs)))
  (pss_c (ps_f fn_po (by rfl) (pi_any (pe_ixx (pe_v 0) pe_ci)) (pg_name (by exact nd__law_rule_rows) (by rfl) (by exact .inl rfl)) tg_nm (pss_1 (ps_s (by exact nd__law_rule_rows) (i := 1) (by rfl) (by exact .inl rfl) (pe_frz (pe_add (pe_add (pe_v 1) pe_cs) (pe_v 2))))))
  (pss_c (ps_s (by exact nd__law_rule_rows) (i := 1) (by rfl) (by exact .inl rfl) (pe_frz (pe_add (pe_add (pe_add (pe_add (pe_add (pe_add (pe_v 1) pe_cs) (pe_ixx (pe_v 0) pe_ci)) pe_cs) (pe_ixx (pe_ixx (pe_v 0) pe_ci) pe_ci)) pe_cs) (pe_cT call_str_int snd_str1 (by rfl) (by exact T.b_str) (by decide +kernel) (pa_c (pe_ixx (pe_ixx (pe_v 0) pe_ci) pe_ci) pa_n)))))
  (pss_c (ps_s (by exact nd__law_rule_rows) (i := 1) (by rfl) (by exact .inl rfl) (pe_frz (pe_add (pe_add (pe_v 1) pe_cs) (pe_ixx (pe_ixx (pe_v 0) pe_ci) pe_ci))))
  (pss_c (ps_s (by exact nd__law_rule_rows) (i := 3) (by rfl) (by exact .inl rfl) (pe_frz (pe_ls pa_n)))
  (pss_c (ps_i (pt_eq (by exact hr.units) (pe_ixx (pe_ixx (pe_v 0) pe_ci) pe_ci) pe_cs) (pss_1 (ps_f fn_po (by rfl) (pi_any (pe_ixx (pe_ixx (pe_v 0) pe_ci) pe_ci)) (pg_name (by exact nd__law_rule_rows) (by rfl) (by exact .inl rfl)) tg_nm (pss_1 (ps_s (by exact nd__law_rule_rows) (i := 3) (by rfl) (by exact .inl rfl) (pe_frz (pe_add (pe_v 3) (pe_cT call_list_of snd_list (by rfl) (by exact T.b_list) (by decide +kernel) (pa_c (pe_v 4) pa_n)))))))) pss_n)
  (pss_c (ps_i (pt_eq (by exact hr.units) (pe_ixx (pe_ixx (pe_v 0) pe_ci) pe_ci) pe_cs) (pss_1 (ps_s (by exact nd__law_rule_rows) (i := 3) (by rfl) (by exact .inl rfl) (pe_frz (pe_add (pe_add (pe_ls (pa_c (pe_cB call_len snd_len (by rfl) (by exact T.b_len) (by decide +kernel) (pa_c (pe_ixx (pe_ixx (pe_v 0) pe_ci) pe_ci) pa_n)) pa_n)) (pe_cT call_list_of snd_list (by rfl) (by exact T.b_list) (by decide +kernel) (pa_c (pe_ixx (pe_ixx (pe_v 0) pe_ci) pe_ci) pa_n))) (pe_cT call_list_of snd_list (by rfl) (by exact T.b_list) (by decide +kernel) (pa_c (pe_ixx (pe_ixx (pe_v 0) pe_ci) pe_ci) pa_n)))))) pss_n)
  (pss_1 (ps_r (pe_add (pe_add (pe_v 1) pe_cs) (pe_if (pt_ne (by exact hr.units) (pe_v 3) (pe_ls pa_n)) (pe_jn pe_cs (pe_comp (own := [("one", 2)]) (by rfl) (by exact nd__law_rule_rows) (pi_any (pe_v 3)) (blkOk_by (N := N__law_rule_rows) (sc := (defScope s__law_rule_rows)) (own := [("one", 2)]) (by decide +kernel)) (fun _ _ _ _ _ => (pg_name (by exact nd__law_rule_rows) (by rfl) (by exact .inl rfl))) (fun _ _ _ _ _ => pts_n) (fun _ _ _ _ _ => (pe_cT call_str_int snd_str1 (by rfl) (by exact T.b_str) (by decide +kernel) (pa_c (pe_v 2) pa_n))) tg_nm (by decide))) pe_cs)))))))))))))))

abbrev s__law_way_rows : Stmt := topS 63
abbrev N__law_way_rows : List Str := ["way", "kind", "age"]
theorem nd__law_way_rows : N__law_way_rows.Nodup := by decide +kernel
def m__law_way_rows : SM := (retM (sm1M gJoin (cstM (.str "\n")) (compM (seqI true (varM 0)) [1, 2] (.tp [1, 2]) yesM (binM gAdd (binM gAdd (varM 1) (cstM (.str " "))) (callM gStr1 (acons (varM 2) anil))))))
abbrev f__law_way_rows : FM := fnM 3 m__law_way_rows
theorem cal__law_way_rows (T : Txt K mg ec) (SB : SysM base) : Cal PR w K mg base ec 1 1 "_law_way_rows" f__law_way_rows :=
  cal_of (ps := ["way"]) (N := N__law_way_rows) (st := s__law_way_rows) (k := 0) T.d__law_way_rows ⟨rfl, rfl, rfl, by decide +kernel, rfl, by decide +kernel, by decide +kernel⟩ (fun _ _ _ _ _ _ us hl => match us, hl with | [_], _ => rfl) (by
  intro f cdv A outer s H E hr hg
  exact (pss_1 (ps_r (pe_jn pe_cs (pe_comp (own := [("kind", 1), ("age", 2)]) (by rfl) (by exact nd__law_way_rows) (pi_any (pe_v 0)) (blkOk_by (N := N__law_way_rows) (sc := (defScope s__law_way_rows)) (own := [("kind", 1), ("age", 2)]) (by decide +kernel)) (fun _ _ _ _ _ => (pg_tup (by rfl) (pgs_cons (pg_name (by exact nd__law_way_rows) (i := 1) (by rfl) (by exact .inl rfl)) (pgs_cons (pg_name (by exact nd__law_way_rows) (i := 2) (by rfl) (by exact .inl rfl)) pgs_nil)))) (fun _ _ _ _ _ => pts_n) (fun _ _ _ _ _ => (pe_add (pe_add (pe_v 1) pe_cs) (pe_cT call_str_int snd_str1 (by rfl) (by exact T.b_str) (by decide +kernel) (pa_c (pe_v 2) pa_n)))) (tg_tp (is := [1, 2])) (by decide))))))

abbrev s_law : Stmt := topS 64
abbrev N_law : List Str := ["script", "m", "lap", "law_so", "way", "text", "caught", "e", "one", "due", "two", "far"]
theorem nd_law : N_law.Nodup := by decide +kernel
def m_law : SM := (seqM (setO 1 (callF 1 f__law_begun (acons (varM 0) anil)))
  (seqM (frM (rng1I (acons (binM gAdd (cstM (.int 8)) (callM gMin (acons (callM gLen (acons (varM 0) anil)) (acons (cstM (.int 16)) anil)))) anil)) (.nm 2) (seqM (setM 3 (frzM (callF 4 f__law_rule (acons (varM 1) (acons (cstM (.int 4)) (acons (cstM (.int 60)) (acons (cstM (.int 4)) anil)))))))
  (seqM (setM 4 (frzM (callF 4 f__law_journey (acons (varM 1) (acons (varM 3) (acons (cstM (.int 9)) (acons (binM gPow (cstM (.int 10)) (cstM (.int 5))) anil)))))))
  (seqM (ifS (orM (binM gNeq (callF 1 f_rule_text (acons (varM 3) anil)) (callF 1 f__law_rule_rows (acons (varM 3) anil))) (binM gNeq (callM gRepr (acons (callF 1 f_read_rule (acons (callF 1 f__law_rule_rows (acons (varM 3) anil)) anil)) anil)) (callM gRepr (acons (varM 3) anil)))) (retM (cstM (.bool false))) nilM)
  (seqM (setM 5 (frzM (callF 1 f__law_way_rows (acons (varM 4) anil))))
  (seqM (ifS (orM (binM gNeq (callF 2 f_journey_text (acons (varM 3) (acons (varM 4) anil))) (varM 5)) (binM gNeq (callM gRepr (acons (callF 2 f_read_journey (acons (varM 3) (acons (varM 5) anil))) anil)) (callM gRepr (acons (varM 4) anil)))) (retM (cstM (.bool false))) nilM)
  (seqM (setM 6 (frzM (cstM .none)))
  (seqM (tryM (exM (callF 1 f_rule_text (acons (sliM (varM 3) .no (.som (cstM (.int 6)))) anil))) [([true, false, false], (some 7), (setM 6 (frzM (fldM [0] (varM 7)))))])
  (ifS (binM gNeq (varM 6) (cstM (.str "form"))) (retM (cstM (.bool false))) nilM)))))))))
  (seqM (setM 8 (frzM (cstM (.str "kinds ad direct mail\nwindow 30\ngap none\nweak direct\nonce all\npick last 2\nplaces\n100 40 60"))))
  (seqM (setM 9 (frzM (tupM (acons (tupM (acons (cstM (.str "ad")) (acons (cstM (.str "direct")) (acons (cstM (.str "mail")) anil)))) (acons (cstM (.int 30)) (acons (cstM .none) (acons (tupM (acons (cstM (.str "direct")) anil)) (acons (cstM (.str "all")) (acons (tupM (acons (cstM (.str "last")) (acons (cstM (.int 2)) anil))) (acons (tupM (acons (cstM (.str "places")) (acons (tupM (acons (tupM (acons (cstM (.int 100)) anil)) (acons (tupM (acons (cstM (.int 40)) (acons (cstM (.int 60)) anil))) anil))) anil))) anil))))))))))
  (seqM (setM 10 (frzM (cstM (.str "kinds a\nwindow none\ngap 24\nweak\nonce first\npick first 4\nages\n2 1 60 9 0 5"))))
  (seqM (setM 11 (frzM (tupM (acons (tupM (acons (cstM (.str "a")) anil)) (acons (cstM .none) (acons (cstM (.int 24)) (acons (tupM anil) (acons (cstM (.str "first")) (acons (tupM (acons (cstM (.str "first")) (acons (cstM (.int 4)) anil))) (acons (tupM (acons (cstM (.str "ages")) (acons (tupM (acons (cstM (.int 1)) (acons (cstM (.int 60)) anil))) (acons (tupM (acons (cstM (.int 9)) (acons (cstM (.int 0)) (acons (cstM (.int 5)) anil)))) anil)))) anil))))))))))
  (seqM (ifS (orM (binM gNeq (callF 1 f_read_rule (acons (varM 8) anil)) (varM 9)) (orM (binM gNeq (callF 1 f_rule_text (acons (varM 9) anil)) (varM 8)) (orM (binM gNeq (callF 1 f_read_rule (acons (varM 10) anil)) (varM 11)) (binM gNeq (callF 1 f_rule_text (acons (varM 11) anil)) (varM 10))))) (retM (cstM (.bool false))) nilM)
  (seqM (setM 4 (frzM (tupM (acons (tupM (acons (cstM (.str "mail")) (acons (binM gPow (cstM (.int 10)) (cstM (.int 6))) anil))) (acons (tupM (acons (cstM (.str "ad")) (acons (cstM (.int 5)) anil))) (acons (tupM (acons (cstM (.str "ad")) (acons (cstM (.int 0)) anil))) anil))))))
  (seqM (setM 5 (frzM (cstM (.str "mail 1000000\nad 5\nad 0"))))
  (retM (andV (binM gEqq (callF 2 f_read_journey (acons (varM 9) (acons (varM 5) anil))) (varM 4)) (binM gEqq (callF 2 f_journey_text (acons (varM 9) (acons (varM 4) anil))) (varM 5)))))))))))))
abbrev f_law : FM := fnM 12 m_law
theorem cal_law (T : Txt K mg ec) (SB : SysM base) : Cal PR w K mg base ec 12 1 "law" f_law := by
  refine cal_of (ps := ["script"]) (N := N_law) (st := s_law) (k := 11) T.d_law ⟨rfl, rfl, rfl, by decide +kernel, rfl, by decide +kernel, by decide +kernel⟩ (fun _ _ _ _ _ _ us hl => match us, hl with | [_], _ => rfl) fun f cdv A outer s H E hr hg => ?_
  obtain ⟨cs_h_BadRule, t_h_BadRule⟩ := hd_one (X := cxOf (L2.CX PR w) PR w K mg base N_law "law" (defScope s_law) f cdv A outer s H E) T.h_BadRule (by rfl)
  exact (pss_c (ps_so (by exact nd_law) (i := 1) (by rfl) (by exact .inl rfl) (pe_cal (by exact cal__law_begun T SB) (by exact hr.mono (by decide)) (by exact hg) (by rfl) fn_tk (pa_c (pe_v 0) pa_n)))
  (pss_c (ps_f fn_po (by rfl) (pi_rg1 (by rfl) (by exact T.b_range) (pa_c (pe_add pe_ci (pe_cB (call_min2 (by rfl)) snd_min (by rfl) (by exact T.b_min) (by decide +kernel) (pa_c (pe_cB call_len snd_len (by rfl) (by exact T.b_len) (by decide +kernel) (pa_c (pe_v 0) pa_n)) (pa_c pe_ci pa_n)))) pa_n)) (pg_name (by exact nd_law) (by rfl) (by exact .inl rfl)) tg_nm (pss_c (ps_s (by exact nd_law) (i := 3) (by rfl) (by exact .inl rfl) (pe_frz (pe_cal (by exact cal__law_rule T SB) (by exact hr.mono (by decide)) (by exact hg) (by rfl) fn_tk (pa_c (pe_v 1) (pa_c pe_ci (pa_c pe_ci (pa_c pe_ci pa_n)))))))
  (pss_c (ps_s (by exact nd_law) (i := 4) (by rfl) (by exact .inl rfl) (pe_frz (pe_cal (by exact cal__law_journey T SB) (by exact hr.mono (by decide)) (by exact hg) (by rfl) fn_tk (pa_c (pe_v 1) (pa_c (pe_v 3) (pa_c pe_ci (pa_c (pe_pw pe_ci pe_ci) pa_n)))))))
  (pss_c (ps_i (pw_o (pt_ne (by exact hr.units) (pe_cal (by exact cal_rule_text T SB) (by exact hr.mono (by decide)) (by exact hg) (by rfl) fn_tk (pa_c (pe_v 3) pa_n)) (pe_cal (by exact cal__law_rule_rows T SB) (by exact hr.mono (by decide)) (by exact hg) (by rfl) fn_tk (pa_c (pe_v 3) pa_n))) (pw_o1 (pt_ne (by exact hr.units) (pe_cB (call_repr (by exact SB) (by exact hg) (by exact hr.units)) snd_repr (by rfl) (by exact T.b_repr) (by decide +kernel) (pa_c (pe_cal (by exact cal_read_rule T SB) (by exact hr.mono (by decide)) (by exact hg) (by rfl) fn_tk (pa_c (pe_cal (by exact cal__law_rule_rows T SB) (by exact hr.mono (by decide)) (by exact hg) (by rfl) fn_tk (pa_c (pe_v 3) pa_n)) pa_n)) pa_n)) (pe_cB (call_repr (by exact SB) (by exact hg) (by exact hr.units)) snd_repr (by rfl) (by exact T.b_repr) (by decide +kernel) (pa_c (pe_v 3) pa_n))))).pt (pss_1 (ps_r pe_cb)) pss_n)
  (pss_c (ps_s (by exact nd_law) (i := 5) (by rfl) (by exact .inl rfl) (pe_frz (pe_cal (by exact cal__law_way_rows T SB) (by exact hr.mono (by decide)) (by exact hg) (by rfl) fn_tk (pa_c (pe_v 4) pa_n))))
  (pss_c (ps_i (pw_o (pt_ne (by exact hr.units) (pe_cal (by exact cal_journey_text T SB) (by exact hr.mono (by decide)) (by exact hg) (by rfl) fn_tk (pa_c (pe_v 3) (pa_c (pe_v 4) pa_n))) (pe_v 5)) (pw_o1 (pt_ne (by exact hr.units) (pe_cB (call_repr (by exact SB) (by exact hg) (by exact hr.units)) snd_repr (by rfl) (by exact T.b_repr) (by decide +kernel) (pa_c (pe_cal (by exact cal_read_journey T SB) (by exact hr.mono (by decide)) (by exact hg) (by rfl) fn_tk (pa_c (pe_v 3) (pa_c (pe_v 5) pa_n))) pa_n)) (pe_cB (call_repr (by exact SB) (by exact hg) (by exact hr.units)) snd_repr (by rfl) (by exact T.b_repr) (by decide +kernel) (pa_c (pe_v 4) pa_n))))).pt (pss_1 (ps_r pe_cb)) pss_n)
  (pss_c (ps_s (by exact nd_law) (i := 6) (by rfl) (by exact .inl rfl) (pe_frz pe_cn))
  (pss_c (ps_ty (by rfl) (by rfl) (by rfl) (by exact nd_law) fn_tk (fun W pn xe htk hpo => (pss_1 (ps_ex (pe_cal (by exact cal_rule_text T SB) (by exact hr.mono (by decide)) (by exact hg) (by rfl) htk (pa_c (pe_sl (pe_v 3) po_n (po_s pe_ci)) pa_n))))) (.named ((t_h_BadRule).1 _) (t_h_BadRule).2 (i := 7) (by rfl) (by rfl) (fun a pn => (pss_1 (ps_s (by exact nd_law) (i := 6) (by rfl) (by exact .inl rfl) (pe_frz (pe_xat (cs := [0]) (by exact T.eci) (by exact T.u_part) (pe_v 7)))))) .nil))
  (pss_1 (ps_i (pt_ne (by exact hr.units) (pe_v 6) pe_cs) (pss_1 (ps_r pe_cb)) pss_n))))))))))
  (pss_c (ps_s (by exact nd_law) (i := 8) (by rfl) (by exact .inl rfl) (pe_frz pe_cs))
  (pss_c (ps_s (by exact nd_law) (i := 9) (by rfl) (by exact .inl rfl) (pe_frz (pe_tu (pa_c (pe_tu (pa_c pe_cs (pa_c pe_cs (pa_c pe_cs pa_n)))) (pa_c pe_ci (pa_c pe_cn (pa_c (pe_tu (pa_c pe_cs pa_n)) (pa_c pe_cs (pa_c (pe_tu (pa_c pe_cs (pa_c pe_ci pa_n))) (pa_c (pe_tu (pa_c pe_cs (pa_c (pe_tu (pa_c (pe_tu (pa_c pe_ci pa_n)) (pa_c (pe_tu (pa_c pe_ci (pa_c pe_ci pa_n))) pa_n))) pa_n))) pa_n))))))))))
  (pss_c (ps_s (by exact nd_law) (i := 10) (by rfl) (by exact .inl rfl) (pe_frz pe_cs))
  (pss_c (ps_s (by exact nd_law) (i := 11) (by rfl) (by exact .inl rfl) (pe_frz (pe_tu (pa_c (pe_tu (pa_c pe_cs pa_n)) (pa_c pe_cn (pa_c pe_ci (pa_c (pe_tu pa_n) (pa_c pe_cs (pa_c (pe_tu (pa_c pe_cs (pa_c pe_ci pa_n))) (pa_c (pe_tu (pa_c pe_cs (pa_c (pe_tu (pa_c pe_ci (pa_c pe_ci pa_n))) (pa_c (pe_tu (pa_c pe_ci (pa_c pe_ci (pa_c pe_ci pa_n)))) pa_n)))) pa_n))))))))))
  (pss_c (ps_i (pw_o (pt_ne (by exact hr.units) (pe_cal (by exact cal_read_rule T SB) (by exact hr.mono (by decide)) (by exact hg) (by rfl) fn_tk (pa_c (pe_v 8) pa_n)) (pe_v 9)) (pw_o (pt_ne (by exact hr.units) (pe_cal (by exact cal_rule_text T SB) (by exact hr.mono (by decide)) (by exact hg) (by rfl) fn_tk (pa_c (pe_v 9) pa_n)) (pe_v 8)) (pw_o (pt_ne (by exact hr.units) (pe_cal (by exact cal_read_rule T SB) (by exact hr.mono (by decide)) (by exact hg) (by rfl) fn_tk (pa_c (pe_v 10) pa_n)) (pe_v 11)) (pw_o1 (pt_ne (by exact hr.units) (pe_cal (by exact cal_rule_text T SB) (by exact hr.mono (by decide)) (by exact hg) (by rfl) fn_tk (pa_c (pe_v 11) pa_n)) (pe_v 10)))))).pt (pss_1 (ps_r pe_cb)) pss_n)
  (pss_c (ps_s (by exact nd_law) (i := 4) (by rfl) (by exact .inl rfl) (pe_frz (pe_tu (pa_c (pe_tu (pa_c pe_cs (pa_c (pe_pw pe_ci pe_ci) pa_n))) (pa_c (pe_tu (pa_c pe_cs (pa_c pe_ci pa_n))) (pa_c (pe_tu (pa_c pe_cs (pa_c pe_ci pa_n))) pa_n))))))
  (pss_c (ps_s (by exact nd_law) (i := 5) (by rfl) (by exact .inl rfl) (pe_frz pe_cs))
  (pss_1 (ps_r (pe_a (pe_eq (by exact hr.units) (pe_cal (by exact cal_read_journey T SB) (by exact hr.mono (by decide)) (by exact hg) (by rfl) fn_tk (pa_c (pe_v 9) (pa_c (pe_v 5) pa_n))) (pe_v 4)) (pe_1 (pe_eq (by exact hr.units) (pe_cal (by exact cal_journey_text T SB) (by exact hr.mono (by decide)) (by exact hg) (by rfl) fn_tk (pa_c (pe_v 9) (pa_c (pe_v 4) pa_n))) (pe_v 5)))))))))))))))
theorem fnG_law (T : Txt K mg ec) (SB : SysM base) {f : Addr} {fd : FuncData} (F : Fun K "law" "law" s_law f fd) : FnG PR w K mg base (L2.CX PR w) 12 f fd ["script"] (spOf ⟨K, ec⟩ 1 f_law) :=
  fn_ok (ps := ["script"]) (N := N_law) (k := 11) F ⟨rfl, rfl, rfl, by decide +kernel, rfl, by decide +kernel, by decide +kernel⟩ (by
  intro cdv A outer s H E hr hg
  obtain ⟨cs_h_BadRule, t_h_BadRule⟩ := hd_one (X := cxOf (L2.CX PR w) PR w K mg base N_law "law" (defScope s_law) f cdv A outer s H E) T.h_BadRule (by rfl)
  exact (pss_c (ps_so (by exact nd_law) (i := 1) (by rfl) (by exact .inl rfl) (pe_cal (by exact cal__law_begun T SB) (by exact hr.mono (by decide)) (by exact hg) (by rfl) fn_tk (pa_c (pe_v 0) pa_n)))
  (pss_c (ps_f fn_po (by rfl) (pi_rg1 (by rfl) (by exact T.b_range) (pa_c (pe_add pe_ci (pe_cB (call_min2 (by rfl)) snd_min (by rfl) (by exact T.b_min) (by decide +kernel) (pa_c (pe_cB call_len snd_len (by rfl) (by exact T.b_len) (by decide +kernel) (pa_c (pe_v 0) pa_n)) (pa_c pe_ci pa_n)))) pa_n)) (pg_name (by exact nd_law) (by rfl) (by exact .inl rfl)) tg_nm (pss_c (ps_s (by exact nd_law) (i := 3) (by rfl) (by exact .inl rfl) (pe_frz (pe_cal (by exact cal__law_rule T SB) (by exact hr.mono (by decide)) (by exact hg) (by rfl) fn_tk (pa_c (pe_v 1) (pa_c pe_ci (pa_c pe_ci (pa_c pe_ci pa_n)))))))
  (pss_c (ps_s (by exact nd_law) (i := 4) (by rfl) (by exact .inl rfl) (pe_frz (pe_cal (by exact cal__law_journey T SB) (by exact hr.mono (by decide)) (by exact hg) (by rfl) fn_tk (pa_c (pe_v 1) (pa_c (pe_v 3) (pa_c pe_ci (pa_c (pe_pw pe_ci pe_ci) pa_n)))))))
  (pss_c (ps_i (pw_o (pt_ne (by exact hr.units) (pe_cal (by exact cal_rule_text T SB) (by exact hr.mono (by decide)) (by exact hg) (by rfl) fn_tk (pa_c (pe_v 3) pa_n)) (pe_cal (by exact cal__law_rule_rows T SB) (by exact hr.mono (by decide)) (by exact hg) (by rfl) fn_tk (pa_c (pe_v 3) pa_n))) (pw_o1 (pt_ne (by exact hr.units) (pe_cB (call_repr (by exact SB) (by exact hg) (by exact hr.units)) snd_repr (by rfl) (by exact T.b_repr) (by decide +kernel) (pa_c (pe_cal (by exact cal_read_rule T SB) (by exact hr.mono (by decide)) (by exact hg) (by rfl) fn_tk (pa_c (pe_cal (by exact cal__law_rule_rows T SB) (by exact hr.mono (by decide)) (by exact hg) (by rfl) fn_tk (pa_c (pe_v 3) pa_n)) pa_n)) pa_n)) (pe_cB (call_repr (by exact SB) (by exact hg) (by exact hr.units)) snd_repr (by rfl) (by exact T.b_repr) (by decide +kernel) (pa_c (pe_v 3) pa_n))))).pt (pss_1 (ps_r pe_cb)) pss_n)
  (pss_c (ps_s (by exact nd_law) (i := 5) (by rfl) (by exact .inl rfl) (pe_frz (pe_cal (by exact cal__law_way_rows T SB) (by exact hr.mono (by decide)) (by exact hg) (by rfl) fn_tk (pa_c (pe_v 4) pa_n))))
  (pss_c (ps_i (pw_o (pt_ne (by exact hr.units) (pe_cal (by exact cal_journey_text T SB) (by exact hr.mono (by decide)) (by exact hg) (by rfl) fn_tk (pa_c (pe_v 3) (pa_c (pe_v 4) pa_n))) (pe_v 5)) (pw_o1 (pt_ne (by exact hr.units) (pe_cB (call_repr (by exact SB) (by exact hg) (by exact hr.units)) snd_repr (by rfl) (by exact T.b_repr) (by decide +kernel) (pa_c (pe_cal (by exact cal_read_journey T SB) (by exact hr.mono (by decide)) (by exact hg) (by rfl) fn_tk (pa_c (pe_v 3) (pa_c (pe_v 5) pa_n))) pa_n)) (pe_cB (call_repr (by exact SB) (by exact hg) (by exact hr.units)) snd_repr (by rfl) (by exact T.b_repr) (by decide +kernel) (pa_c (pe_v 4) pa_n))))).pt (pss_1 (ps_r pe_cb)) pss_n)
  (pss_c (ps_s (by exact nd_law) (i := 6) (by rfl) (by exact .inl rfl) (pe_frz pe_cn))
  (pss_c (ps_ty (by rfl) (by rfl) (by rfl) (by exact nd_law) fn_tk (fun W pn xe htk hpo => (pss_1 (ps_ex (pe_cal (by exact cal_rule_text T SB) (by exact hr.mono (by decide)) (by exact hg) (by rfl) htk (pa_c (pe_sl (pe_v 3) po_n (po_s pe_ci)) pa_n))))) (.named ((t_h_BadRule).1 _) (t_h_BadRule).2 (i := 7) (by rfl) (by rfl) (fun a pn => (pss_1 (ps_s (by exact nd_law) (i := 6) (by rfl) (by exact .inl rfl) (pe_frz (pe_xat (cs := [0]) (by exact T.eci) (by exact T.u_part) (pe_v 7)))))) .nil))
  (pss_1 (ps_i (pt_ne (by exact hr.units) (pe_v 6) pe_cs) (pss_1 (ps_r pe_cb)) pss_n))))))))))
  (pss_c (ps_s (by exact nd_law) (i := 8) (by rfl) (by exact .inl rfl) (pe_frz pe_cs))
  (pss_c (ps_s (by exact nd_law) (i := 9) (by rfl) (by exact .inl rfl) (pe_frz (pe_tu (pa_c (pe_tu (pa_c pe_cs (pa_c pe_cs (pa_c pe_cs pa_n)))) (pa_c pe_ci (pa_c pe_cn (pa_c (pe_tu (pa_c pe_cs pa_n)) (pa_c pe_cs (pa_c (pe_tu (pa_c pe_cs (pa_c pe_ci pa_n))) (pa_c (pe_tu (pa_c pe_cs (pa_c (pe_tu (pa_c (pe_tu (pa_c pe_ci pa_n)) (pa_c (pe_tu (pa_c pe_ci (pa_c pe_ci pa_n))) pa_n))) pa_n))) pa_n))))))))))
  (pss_c (ps_s (by exact nd_law) (i := 10) (by rfl) (by exact .inl rfl) (pe_frz pe_cs))
  (pss_c (ps_s (by exact nd_law) (i := 11) (by rfl) (by exact .inl rfl) (pe_frz (pe_tu (pa_c (pe_tu (pa_c pe_cs pa_n)) (pa_c pe_cn (pa_c pe_ci (pa_c (pe_tu pa_n) (pa_c pe_cs (pa_c (pe_tu (pa_c pe_cs (pa_c pe_ci pa_n))) (pa_c (pe_tu (pa_c pe_cs (pa_c (pe_tu (pa_c pe_ci (pa_c pe_ci pa_n))) (pa_c (pe_tu (pa_c pe_ci (pa_c pe_ci (pa_c pe_ci pa_n)))) pa_n)))) pa_n))))))))))
  (pss_c (ps_i (pw_o (pt_ne (by exact hr.units) (pe_cal (by exact cal_read_rule T SB) (by exact hr.mono (by decide)) (by exact hg) (by rfl) fn_tk (pa_c (pe_v 8) pa_n)) (pe_v 9)) (pw_o (pt_ne (by exact hr.units) (pe_cal (by exact cal_rule_text T SB) (by exact hr.mono (by decide)) (by exact hg) (by rfl) fn_tk (pa_c (pe_v 9) pa_n)) (pe_v 8)) (pw_o (pt_ne (by exact hr.units) (pe_cal (by exact cal_read_rule T SB) (by exact hr.mono (by decide)) (by exact hg) (by rfl) fn_tk (pa_c (pe_v 10) pa_n)) (pe_v 11)) (pw_o1 (pt_ne (by exact hr.units) (pe_cal (by exact cal_rule_text T SB) (by exact hr.mono (by decide)) (by exact hg) (by rfl) fn_tk (pa_c (pe_v 11) pa_n)) (pe_v 10)))))).pt (pss_1 (ps_r pe_cb)) pss_n)
  (pss_c (ps_s (by exact nd_law) (i := 4) (by rfl) (by exact .inl rfl) (pe_frz (pe_tu (pa_c (pe_tu (pa_c pe_cs (pa_c (pe_pw pe_ci pe_ci) pa_n))) (pa_c (pe_tu (pa_c pe_cs (pa_c pe_ci pa_n))) (pa_c (pe_tu (pa_c pe_cs (pa_c pe_ci pa_n))) pa_n))))))
  (pss_c (ps_s (by exact nd_law) (i := 5) (by rfl) (by exact .inl rfl) (pe_frz pe_cs))
  (pss_1 (ps_r (pe_a (pe_eq (by exact hr.units) (pe_cal (by exact cal_read_journey T SB) (by exact hr.mono (by decide)) (by exact hg) (by rfl) fn_tk (pa_c (pe_v 9) (pa_c (pe_v 5) pa_n))) (pe_v 4)) (pe_1 (pe_eq (by exact hr.units) (pe_cal (by exact cal_journey_text T SB) (by exact hr.mono (by decide)) (by exact hg) (by rfl) fn_tk (pa_c (pe_v 9) (pa_c (pe_v 4) pa_n))) (pe_v 5))))))))))))))))
end
end Pl.Law

set_option Elab.async false
set_option linter.all false
set_option maxRecDepth 100000
set_option maxHeartbeats 1000000
namespace Pl.Law
open PySem PySem.Spec PyProof.Rows L2 PySem.W Pl
/-! ### what the program judges, of any data without errors within -/
def dAtLeast (d : D) (l : Int) : Bool := match d with
  | .int i => decide (l ≤ i)
  | _ => false
def dInt (d : D) (l g : Int) : Bool := match d with
  | .int i => decide (l ≤ i) && decide (i ≤ g)
  | _ => false
theorem ev_is_any_integer {st : List Cn} {d : D} (h : isErr d = false) : f_is_any_integer [.dat d] st = .ok (.dat (.bool (match d with | .int _ => true | _ => false))) st := by
  simp only [fnM_ap]
  cases d <;> simp [m_is_any_integer, envOf, h, isT]
theorem ev_is_at_least {st : List Cn} {d : D} (h : isErr d = false) (l : Int) : f_is_at_least [.dat d, .dat (.int l)] st = .ok (.dat (.bool (dAtLeast d l))) st := by
  simp only [fnM_ap]
  simp [m_is_at_least, envOf, ev_is_any_integer h]
  cases d <;> simp [dAtLeast]
theorem ev_is_integer {st : List Cn} {d : D} (h : isErr d = false) (l g : Int) : f_is_integer [.dat d, .dat (.int l), .dat (.int g)] st = .ok (.dat (.bool (dInt d l g))) st := by
  simp only [fnM_ap]
  simp [m_is_integer, envOf, ev_is_at_least h]
  cases d with
  | int i =>
    by_cases hl : l ≤ i
    · simp [dAtLeast, dInt, hl]
    · simp [dAtLeast, dInt, hl]
  | _ => simp [dAtLeast, dInt]
def dTup (d : D) (n : Int) : Bool := match d with
  | .tuple ds => decide ((ds.length : Int) = n)
  | _ => false
theorem ev_is_tuple {st : List Cn} {d : D} (h : isErr d = false) (n : Int) : f_is_tuple [.dat d, .dat (.int n)] st = .ok (.dat (.bool (dTup d n))) st := by
  simp only [fnM_ap]
  cases d <;> simp [m_is_tuple, envOf, h, isT, dTup]
def dOneOf (d : D) (ys : List Str) : Bool := match d with
  | .str x => decide (x ∈ ys)
  | _ => false
theorem ev_is_one_of {st : List Cn} {d : D} (h : isErr d = false) {v : Val} {ys : List Str} (hv : asSeq v = some (ys.map .str)) (hn : ∃ e, v = .dat e) : f_is_one_of [.dat d, v] st = .ok (.dat (.bool (dOneOf d ys))) st := by
  obtain ⟨e, rfl⟩ := hn
  simp only [fnM_ap]
  cases d <;> simp [m_is_one_of, envOf, h, isT, dOneOf, gIn_s hv]
/-- of a list: whether all are so -/
theorem gAll_f {α : Type} (f : α → Bool) (xs : List α) : gAll [.fr (.lst (xs.map fun x => .bool (f x)))] = some (.dat (.bool (xs.all f))) := by
  show (bools? (xs.map fun x => PyData.bool (f x))).map _ = _
  have : (xs.map fun x => PyData.bool (f x)) = (xs.map f).map PyData.bool := by rw [List.map_map]; rfl
  rw [this, bools_map]
  simp
theorem filter_yes {α : Type} (xs : List α) : xs.filter (fun _ => true) = xs := by simp
/-- all(..) of a comprehension without a condition over data -/
theorem all_comp {env : Env} {st : List Cn} {im : IM} {own : List Nat} {i : Nat} {me : EM} {ds : List D} {f : D → Bool} (hi : im env st = .ok ds st) (hl : ds.length ≤ sizeLine) (he : ∀ d ∈ ds, me ((wipeE env own).set i (some (.dat d))) st = .ok (.dat (.bool (f d))) st) :
    callM gAll (acons (compM im own (.nm i) yesM me) anil) env st = .ok (.dat (.bool (ds.all f))) st := by
  have h := lc_map (α := D) (i := i) (mc := yesM) (me := me) (env := wipeE env own) (st := st) id (fun d => .bool (f d)) (fun _ => true) ds [] (by simpa using hl) (fun _ _ => rfl) fun d hd _ => ⟨_, he d hd, rfl⟩
  rw [List.map_id, filter_yes, List.nil_append] at h
  simp [compM_ap _ _ _ _ _ _ _ hi, h]
  have := gAll_b f ds
  rw [this]
  rfl
mutual
/-- small data without errors -/
def gD : D → Bool
  | .str x => decide (x.length ≤ 1000000)
  | .list ds => decide (ds.length ≤ 1000000) && gDs ds
  | .tuple ds => decide (ds.length ≤ 1000000) && gDs ds
  | .dict [] => true
  | .dict _ => false
  | _ => true
def gDs : List D → Bool
  | [] => true
  | d :: ds => gD d && gDs ds
end
theorem gDs_all : ∀ {ds : List D}, gDs ds = true → ∀ d ∈ ds, gD d = true
  | [], _, d, hd => by cases hd
  | e :: es, h, d, hd => by
    simp only [gDs, Bool.and_eq_true] at h
    rcases List.mem_cons.mp hd with rfl | hm
    · exact h.1
    · exact gDs_all h.2 d hm
theorem gD_err {d : D} (h : gD d = true) : isErr d = false := by
  cases d with
  | dict kvs =>
    cases kvs with
    | nil => rfl
    | cons p r => simp [gD] at h
  | _ => rfl
theorem gD_tup {ds : List D} (h : gD (.tuple ds) = true) : ds.length ≤ sizeLine ∧ ∀ d ∈ ds, gD d = true := by
  simp only [gD, Bool.and_eq_true, decide_eq_true_eq] at h
  exact ⟨by rw [sizeLine_eq]; omega, gDs_all h.2⟩
theorem gD_str {x : Str} (h : gD (.str x) = true) : x.length ≤ sizeLine := by
  simp only [gD, decide_eq_true_eq] at h
  rw [sizeLine_eq]; omega
/-- the same over pairs -/
theorem all_comp2 {α : Type} {env : Env} {st : List Cn} {im : IM} {own : List Nat} {i j : Nat} {me : EM} (e1 e2 : α → D) (f : α → Bool) (xs : List α) (hi : im env st = .ok (xs.map fun p => .tuple [e1 p, e2 p]) st) (hl : xs.length ≤ sizeLine)
    (he : ∀ p ∈ xs, me (((wipeE env own).set i (some (.dat (e1 p)))).set j (some (.dat (e2 p)))) st = .ok (.dat (.bool (f p))) st) : callM gAll (acons (compM im own (.tp [i, j]) yesM me) anil) env st = .ok (.dat (.bool (xs.all f))) st := by
  have h := lc_map2 (i := i) (j := j) (mc := yesM) (me := me) (env := wipeE env own) (st := st) (fun p => .tuple [e1 p, e2 p]) e1 e2 (fun p => .bool (f p)) (fun _ => true) (fun _ => rfl) xs [] (by simpa using hl) (fun _ _ => rfl) fun p hp _ => ⟨_, he p hp, rfl⟩
  rw [filter_yes, List.nil_append] at h
  simp [compM_ap _ _ _ _ _ _ _ hi, h]
  rw [gAll_b f xs]
  rfl
def dInts (d : D) (l g : Int) : Bool := match d with
  | .tuple ds => ds.all fun e => dInt e l g
  | _ => false
theorem ev_are_integers {st : List Cn} {d : D} (h : gD d = true) (l g : Int) : f_are_integers [.dat d, .dat (.int l), .dat (.int g)] st = .ok (.dat (.bool (dInts d l g))) st := by
  simp only [fnM_ap]
  cases d with
  | tuple ds =>
    have := all_comp (env := envOf 4 [.dat (.tuple ds), .dat (.int l), .dat (.int g)]) (st := st) (im := seqI true (varM 0)) (own := [3]) (i := 3) (me := callF 3 f_is_integer (acons (varM 3) (acons (varM 1) (acons (varM 2) anil)))) (ds := ds) (f := fun e => dInt e l g) (by simp [envOf]) (gD_tup h).1
      (fun e he => by simp [envOf, wipeE, ev_is_integer (gD_err ((gD_tup h).2 e he))])
    simp [m_are_integers, envOf, isT] at this ⊢
    rw [this]
    simp [dInts]
  | _ => simp [m_are_integers, envOf, gD_err h, isT, dInts]
def lowD : D → Bool
  | .str s => strLe "a" s && strLe s "z"
  | _ => false
def dWord : D → Bool
  | .str x => decide (1 ≤ (x.length : Int)) && decide ((x.length : Int) ≤ 6) && (signs x).all lowD
  | _ => false
theorem signs_str {x : Str} : ∀ d ∈ signs x, ∃ s, d = .str s := fun d hd => by
  obtain ⟨c, _, rfl⟩ := List.mem_map.mp hd
  exact ⟨_, rfl⟩
theorem signs_len (x : Str) : (signs x).length = x.length := by
  unfold signs
  rw [List.length_map]
  rfl
theorem ev_is_word {st : List Cn} {d : D} (h : gD d = true) : f_is_word [.dat d] st = .ok (.dat (.bool (dWord d))) st := by
  simp only [fnM_ap]
  cases d with
  | str x =>
    have hx := gD_str h
    have := all_comp (env := envOf 2 [.dat (.str x)]) (st := st) (im := seqI true (varM 0)) (own := [1]) (i := 1) (me := chM gLe gLe (cstM (.str "a")) (varM 1) (cstM (.str "z"))) (ds := signs x) (f := lowD) (by simp [envOf]) (by rw [signs_len]; exact hx) (fun e he => by
        obtain ⟨s, rfl⟩ := signs_str e he
        simp [envOf, wipeE, onO_b, lowD]
        split
        · rename_i q; simp [q]
        · rename_i q; simp [q])
    simp [m_is_word, envOf, isT, gLen_s hx, onO_b, onB_b] at this ⊢
    by_cases h1 : (1 : Int) ≤ x.length
    · by_cases h6 : (x.length : Int) ≤ 6
      · simp [h1, h6, dWord, this]
        intro q
        omega
      · simp [h1, h6, dWord]
    · simp [h1, dWord]
  | _ => simp [m_is_word, envOf, gD_err h, isT, dWord]
def upS (ys : List Str) : Bool := (ys.zip (ys.drop 1)).all fun p => strLt p.1 p.2
def upI (ys : List Int) : Bool := (ys.zip (ys.drop 1)).all fun p => decide (p.1 < p.2)
theorem zipD_map {α β : Type} (f : α → D) (g : β → D) : ∀ (xs : List α) (ys : List β), zipD (xs.map f) (ys.map g) = (xs.zip ys).map fun p => .tuple [f p.1, g p.2]
  | [], _ => by simp [zipD]
  | _ :: _, [] => by simp [zipD]
  | x :: xs, y :: ys => by simp [zipD, zipD_map f g xs ys]
theorem cut_drop (ds : List D) (n : Nat) : cutD ds (some (n : Int)) none = ds.drop n := by
  unfold cutD
  rw [HT.sIx_nat, HT.sIx_none]
  by_cases h : n ≤ ds.length
  · rw [Nat.min_eq_left h]
    apply List.take_of_length_le
    simp
  · rw [Nat.min_eq_right (by omega)]
    simp
    omega
theorem ev_up {α : Type} {st : List Cn} (f : α → D) (lt : α → α → Bool) (hf : ∀ a b, gLt (.dat (f a)) (.dat (f b)) = some (.dat (.bool (lt a b)))) (ys : List α) (hl : ys.length ≤ sizeLine) :
    f_is_ascending [.dat (.tuple (ys.map f))] st = .ok (.dat (.bool ((ys.zip (ys.drop 1)).all fun p => lt p.1 p.2))) st := by
  simp only [fnM_ap]
  have e : cutD (ys.map f) (some 1) none = (ys.drop 1).map f := by
    have := cut_drop (ys.map f) 1
    rw [← List.map_drop] at this
    exact this
  have hi : zipI (acons (varM 0) (acons (sliM (varM 0) (.som (cstM (.int 1))) .no) anil)) (envOf 3 [.dat (.tuple (ys.map f))]) st = .ok ((ys.zip (ys.drop 1)).map fun p => .tuple [f p.1, f p.2]) st := by
    simp [envOf, gCut, e]
    simpa using zipD_map f f ys (ys.drop 1)
  have h := lc_map2 (α := α × α) (i := 1) (j := 2) (mc := yesM) (me := binM gLt (varM 1) (varM 2)) (env := wipeE (envOf 3 [.dat (.tuple (ys.map f))]) [1, 2]) (st := st) (fun p => .tuple [f p.1, f p.2]) (fun p => f p.1) (fun p => f p.2) (fun p => .bool (lt p.1 p.2)) (fun _ => true) (fun _ => rfl) (ys.zip (ys.drop 1)) []
    (by simp; omega) (fun _ _ => rfl) (fun p _ _ => ⟨.dat (.bool (lt p.1 p.2)), by simp [envOf, wipeE, hf], rfl⟩)
  rw [filter_yes, List.nil_append] at h
  simp only [m_is_ascending, retM_ap, callM_ap, acons_ap]
  rw [compM_ap _ _ _ _ _ _ _ hi, h]
  have g := gAll_b (fun p : α × α => lt p.1 p.2) (ys.zip (ys.drop 1))
  rw [List.drop_one] at g ⊢
  simp [g]
theorem ev_upS {st : List Cn} (ys : List Str) (hl : ys.length ≤ sizeLine) : f_is_ascending [.dat (.tuple (ys.map .str))] st = .ok (.dat (.bool (upS ys))) st := ev_up PyData.str strLt (fun _ _ => rfl) ys hl
theorem ev_upI {st : List Cn} (ys : List Int) (hl : ys.length ≤ sizeLine) : f_is_ascending [.dat (.tuple (ys.map .int))] st = .ok (.dat (.bool (upI ys))) st := ev_up PyData.int (fun a b => decide (a < b)) (fun _ _ => rfl) ys hl
/-! #### rules -/
theorem words_strs : ∀ {ds : List D}, ds.all dWord = true → ∃ ys : List Str, ds = ys.map .str
  | [], _ => ⟨[], rfl⟩
  | d :: ds, h => by
    rw [List.all_cons, Bool.and_eq_true] at h
    obtain ⟨ys, rfl⟩ := words_strs h.2
    cases d with
    | str x => exact ⟨x :: ys, rfl⟩
    | _ => simp [dWord] at h
theorem ones_strs {ks : List Str} : ∀ {ds : List D}, (ds.all fun d => dOneOf d ks) = true → ∃ ys : List Str, ds = ys.map .str
  | [], _ => ⟨[], rfl⟩
  | d :: ds, h => by
    rw [List.all_cons, Bool.and_eq_true] at h
    obtain ⟨ys, rfl⟩ := ones_strs h.2
    cases d with
    | str x => exact ⟨x :: ys, rfl⟩
    | _ => simp [dOneOf] at h
theorem ints_ints {l g : Int} : ∀ {ds : List D}, (ds.all fun d => dInt d l g) = true → ∃ ys : List Int, ds = ys.map .int
  | [], _ => ⟨[], rfl⟩
  | d :: ds, h => by
    rw [List.all_cons, Bool.and_eq_true] at h
    obtain ⟨ys, rfl⟩ := ints_ints h.2
    cases d with
    | int x => exact ⟨x :: ys, rfl⟩
    | _ => simp [dInt] at h
/-- ascending texts, ascending numbers -/
def dUpS (ds : List D) : Bool := match strs? ds with
  | some ys => upS ys
  | none => false
def dUpI (ds : List D) : Bool := match ints? ds with
  | some ys => upI ys
  | none => false
theorem strs_map (ys : List Str) : strs? (ys.map PyData.str) = some ys := by
  induction ys with
  | nil => rfl
  | cons y ys ih => rw [List.map_cons, strs?, ih]; rfl
def dKinds : D → Bool
  | .tuple ds => decide (1 ≤ (ds.length : Int)) && decide ((ds.length : Int) ≤ 4) && ds.all dWord && dUpS ds
  | _ => false
theorem ev_are_kinds {st : List Cn} {d : D} (h : gD d = true) : f__are_kinds [.dat d] st = .ok (.dat (.bool (dKinds d))) st := by
  simp only [fnM_ap]
  cases d with
  | tuple ds =>
    have := all_comp (env := envOf 2 [.dat (.tuple ds)]) (st := st) (im := seqI true (varM 0)) (own := [1]) (i := 1) (me := callF 1 f_is_word (acons (varM 1) anil)) (ds := ds) (f := dWord) (by simp [envOf]) (gD_tup h).1
      (fun e he => by simp [envOf, wipeE, ev_is_word ((gD_tup h).2 e he)])
    by_cases h1 : (1 : Int) ≤ ds.length
    · by_cases h6 : (ds.length : Int) ≤ 4
      · simp [m__are_kinds, envOf, isT, onO_b, onB_b, h1, h6] at this ⊢
        rw [this]
        cases hw : ds.all dWord with
        | false => simp [dKinds, hw]
        | true =>
          obtain ⟨ys, rfl⟩ := words_strs hw
          have hl := (gD_tup h).1
          rw [List.length_map] at hl
          simp [ev_upS ys hl, dKinds, hw, h1, h6, dUpS, strs_map]
          simp only [List.length_map] at h1 h6
          intro z
          omega
      · simp [m__are_kinds, envOf, isT, onO_b, onB_b, h1, h6, dKinds]
    · simp [m__are_kinds, envOf, isT, onO_b, onB_b, h1, dKinds]
  | _ => simp [m__are_kinds, envOf, gD_err h, isT, dKinds]
def dLimit (d : D) (g : Int) : Bool := match d with
  | .none => true
  | d => dInt d 0 g
theorem ev_is_limit {st : List Cn} {d : D} (h : gD d = true) (g : Int) : f__is_limit [.dat d, .dat (.int g)] st = .ok (.dat (.bool (dLimit d g))) st := by
  simp only [fnM_ap]
  cases d <;> simp [m__is_limit, envOf, gIs_none, ev_is_integer (gD_err h), dLimit]
def dWeak (ks : List Str) : D → Bool
  | .tuple ds => (ds.all fun d => dOneOf d ks) && dUpS ds
  | _ => false
theorem ev_are_weak {st : List Cn} {ks : List Str} {d : D} (h : gD d = true) : f__are_weak [.dat (.tuple (ks.map .str)), .dat d] st = .ok (.dat (.bool (dWeak ks d))) st := by
  simp only [fnM_ap]
  cases d with
  | tuple ds =>
    have := all_comp (env := envOf 3 [.dat (.tuple (ks.map .str)), .dat (.tuple ds)]) (st := st) (im := seqI true (varM 1)) (own := [2]) (i := 2) (me := callF 2 f_is_one_of (acons (varM 2) (acons (varM 0) anil))) (ds := ds) (f := fun d => dOneOf d ks) (by simp [envOf]) (gD_tup h).1
      (fun e he => by simp [envOf, wipeE, ev_is_one_of (gD_err ((gD_tup h).2 e he)) (v := .dat (.tuple (ks.map .str))) (ys := ks) rfl ⟨_, rfl⟩])
    simp [m__are_weak, envOf, isT] at this ⊢
    rw [this]
    cases hw : ds.all fun d => dOneOf d ks with
    | false => simp [dWeak, hw]
    | true =>
      obtain ⟨ys, rfl⟩ := ones_strs hw
      have hl := (gD_tup h).1
      rw [List.length_map] at hl
      simp [ev_upS ys hl, dWeak, hw, dUpS, strs_map]
  | _ => simp [m__are_weak, envOf, gD_err h, isT, dWeak]
def dPick : D → Bool
  | .tuple [a, b] => dOneOf a ["first", "last"] && dInt b 1 4
  | _ => false
theorem asSeq_strs (ys : List Str) : asSeq (.dat (.tuple (ys.map .str))) = some (ys.map .str) := rfl
theorem ev_is_pick {st : List Cn} {d : D} (h : gD d = true) : f__is_pick [.dat d] st = .ok (.dat (.bool (dPick d))) st := by
  simp only [fnM_ap]
  have two : (2 : Nat) ≤ sizeLine := by rw [sizeLine_eq]; decide
  cases d with
  | tuple ds =>
    match ds, h with
    | [], h => simp [m__is_pick, envOf, ev_is_tuple (gD_err h), dTup, dPick]
    | [a], h => simp [m__is_pick, envOf, ev_is_tuple (gD_err h), dTup, dPick]
    | [a, b], h =>
      have ha := gD_err ((gD_tup h).2 a (by simp))
      have hb := gD_err ((gD_tup h).2 b (by simp))
      have e := ev_is_one_of (st := st) ha (v := .dat (.tuple [.str "first", .str "last"])) (ys := ["first", "last"]) rfl ⟨_, rfl⟩
      simp [m__is_pick, envOf, ev_is_tuple (gD_err h), dTup, dPick, two, e, ev_is_integer hb]
      cases dOneOf a ["first", "last"] <;> simp
    | a :: b :: c :: r, h =>
      have : ¬ ((r.length : Int) + 1 + 1 + 1 = 2) := by omega
      simp [m__is_pick, envOf, ev_is_tuple (gD_err h), dTup, dPick, this]
  | _ => simp [m__is_pick, envOf, ev_is_tuple (gD_err h), dTup, dPick]
def dSum100 : D → Bool
  | .tuple ds => match ints? ds with
    | some ys => decide (ys.sum ≤ 100)
    | none => false
  | _ => false
def dRow (d : D) (n : Int) : Bool := dTup d n && dInts d 0 100 && dSum100 d
theorem ev_is_row {st : List Cn} {d : D} (h : gD d = true) (n : Int) : f__is_row [.dat d, .dat (.int n)] st = .ok (.dat (.bool (dRow d n))) st := by
  simp only [fnM_ap]
  cases d with
  | tuple ds =>
    simp [m__is_row, envOf, ev_is_tuple (gD_err h), ev_are_integers h, dRow]
    cases h1 : dTup (.tuple ds) n with
    | false => simp
    | true =>
      cases h2 : dInts (.tuple ds) 0 100 with
      | false => simp
      | true =>
        obtain ⟨ys, rfl⟩ := ints_ints (show (ds.all fun e => dInt e 0 100) = true from h2)
        simp [gSum_t, dSum100, ints_map]
  | _ => simp [m__is_row, envOf, ev_is_tuple (gD_err h), dTup, dRow]
def enumP : Int → List D → List (Int × D)
  | _, [] => []
  | n, d :: ds => (n, d) :: enumP (n + 1) ds
theorem enumD_P : ∀ (ds : List D) (n : Nat), enumD n ds = (enumP n ds).map fun p => .tuple [.int p.1, p.2]
  | [], _ => rfl
  | d :: ds, n => by
    have := enumD_P ds (n + 1)
    simp only [enumD, enumP, List.map_cons, this]
    rfl
theorem enumP_len : ∀ (ds : List D) (n : Int), (enumP n ds).length = ds.length
  | [], _ => rfl
  | d :: ds, n => by simp [enumP, enumP_len ds]
theorem enumP_mem : ∀ {ds : List D} {n : Int} {p : Int × D}, p ∈ enumP n ds → p.2 ∈ ds
  | [], _, _, h => by cases h
  | d :: ds, n, p, h => by
    rcases List.mem_cons.mp h with rfl | h
    · simp
    · exact List.mem_cons_of_mem _ (enumP_mem h)
def dRows (d : D) (n : Int) : Bool := match d with
  | .tuple ds => decide ((ds.length : Int) = n) && (enumP 0 ds).all fun p => dRow p.2 (p.1 + 1)
  | _ => false
theorem ev_are_rows {st : List Cn} {d : D} (h : gD d = true) (n : Int) : f__are_rows [.dat d, .dat (.int n)] st = .ok (.dat (.bool (dRows d n))) st := by
  simp only [fnM_ap]
  cases d with
  | tuple ds =>
    have hi : enaI (acons (varM 0) anil) (envOf 4 [.dat (.tuple ds), .dat (.int n)]) st = .ok ((enumP 0 ds).map fun p => .tuple [.int p.1, p.2]) st := by
      simp [envOf]
      exact enumD_P ds 0
    have := all_comp2 (α := Int × D) (env := envOf 4 [.dat (.tuple ds), .dat (.int n)]) (st := st) (im := enaI (acons (varM 0) anil)) (own := [2, 3]) (i := 2) (j := 3) (me := callF 2 f__is_row (acons (varM 3) (acons (binM gAdd (varM 2) (cstM (.int 1))) anil)))
      (fun p => .int p.1) (fun p => p.2) (fun p => dRow p.2 (p.1 + 1)) (enumP 0 ds) hi (by rw [enumP_len]; exact (gD_tup h).1) (fun p hp => by simp [envOf, wipeE, ev_is_row ((gD_tup h).2 _ (enumP_mem hp))])
    simp [m__are_rows, envOf, ev_is_tuple (gD_err h)] at this ⊢
    cases ht : dTup (.tuple ds) n with
    | false =>
      have ht2 : ¬ ((ds.length : Int) = n) := by simpa [dTup] using ht
      simp [dRows, ht2]
    | true =>
      have ht2 : (ds.length : Int) = n := by simpa [dTup] using ht
      simp [this, dRows, ht2]
  | _ => simp [m__are_rows, envOf, ev_is_tuple (gD_err h), dTup, dRows]
def dMarks (d : D) : Bool := dInts d 1 60 && (match d with
  | .tuple ds => decide ((ds.length : Int) ≤ 3) && dUpI ds
  | _ => false)
theorem ev_are_marks {st : List Cn} {d : D} (h : gD d = true) : f__are_marks [.dat d] st = .ok (.dat (.bool (dMarks d))) st := by
  simp only [fnM_ap]
  cases d with
  | tuple ds =>
    simp [m__are_marks, envOf, ev_are_integers h, dMarks]
    cases h2 : dInts (.tuple ds) 1 60 with
    | false => simp
    | true =>
      obtain ⟨ys, rfl⟩ := ints_ints (show (ds.all fun e => dInt e 1 60) = true from h2)
      have hl := (gD_tup h).1
      rw [List.length_map] at hl
      by_cases h3 : (ys.length : Int) ≤ 3
      · simp [h3, ev_upI ys hl, dUpI, ints_map]
      · simp [h3]
  | _ => simp [m__are_marks, envOf, ev_are_integers h, dInts, dMarks]
def dWeights (d : D) (n : Int) : Bool := dTup d n && dInts d 0 9
theorem ev_are_weights {st : List Cn} {d : D} (h : gD d = true) (n : Int) : f__are_weights [.dat d, .dat (.int n)] st = .ok (.dat (.bool (dWeights d n))) st := by
  simp only [fnM_ap]
  simp [m__are_weights, envOf, ev_is_tuple (gD_err h), ev_are_integers h, dWeights]
  cases dTup d n <;> simp
def dShares (d : D) (n : Int) : Bool := match d with
  | .tuple (.str w :: r) => if w = "even" then decide (r.length = 0) else if w = "places" then (match r with
      | [a] => dRows a n
      | _ => false) else if w = "ages" then (match r with
      | [.tuple ms, b] => dMarks (.tuple ms) && dWeights b (ms.length + 1)
      | _ => false) else false
  | _ => false
theorem dMarks_tup {d : D} (h : dMarks d = true) : ∃ ms, d = .tuple ms := by
  cases d with
  | tuple ms => exact ⟨ms, rfl⟩
  | _ => simp [dMarks, dInts] at h
theorem ev_is_shares {st : List Cn} {d : D} (h : gD d = true) (n : Int) : f__is_shares [.dat d, .dat (.int n)] st = .ok (.dat (.bool (dShares d n))) st := by
  simp only [fnM_ap]
  cases d with
  | tuple ds =>
    cases ds with
    | nil => simp [m__is_shares, envOf, isT, onB_b, dShares]
    | cons a r =>
      have ha := (gD_tup h).2 a (by simp)
      cases a with
      | str w =>
        by_cases h1 : w = "even"
        · subst h1
          cases r with
          | nil => simp [m__is_shares, envOf, isT, onB_b, dShares]
          | cons b r =>
            have : ¬ ((r.length : Int) + 1 + 1 = 1) := by omega
            simp [m__is_shares, envOf, isT, onB_b, dShares, this]
        · by_cases h2 : w = "places"
          · subst h2
            match r, h with
            | [], h => simp [m__is_shares, envOf, isT, onB_b, dShares, h1]
            | [b], h =>
              have hb := (gD_tup h).2 b (by simp)
              simp [m__is_shares, envOf, isT, onB_b, dShares, h1, ev_are_rows hb]
            | b :: c :: r, h =>
              have : ¬ ((r.length : Int) + 1 + 1 + 1 = 2) := by omega
              simp [m__is_shares, envOf, isT, onB_b, dShares, h1, this]
          · by_cases h3 : w = "ages"
            · subst h3
              match r, h with
              | [], h => simp [m__is_shares, envOf, isT, onB_b, dShares, h1, h2]
              | [b], h => simp [m__is_shares, envOf, isT, onB_b, dShares, h1, h2]
              | [b, c], h =>
                have hb := (gD_tup h).2 b (by simp)
                have hc := (gD_tup h).2 c (by simp)
                simp [m__is_shares, envOf, isT, onB_b, dShares, h1, h2, ev_are_marks hb]
                cases hm : dMarks b with
                | false =>
                  simp
                  cases b with
                  | tuple ms => simp [hm]
                  | _ => rfl
                | true =>
                  obtain ⟨ms, rfl⟩ := dMarks_tup hm
                  simp [ev_are_weights hc, hm]
              | b :: c :: e :: r, h =>
                have : ¬ ((r.length : Int) + 1 + 1 + 1 + 1 = 3) := by omega
                simp [m__is_shares, envOf, isT, onB_b, dShares, h1, h2, this]
            · simp [m__is_shares, envOf, isT, onB_b, dShares, h1, h2, h3]
      | _ => simp [m__is_shares, envOf, isT, onB_b, dShares, gD_err ha]
  | _ => simp [m__is_shares, envOf, isT, onB_b, dShares, gD_err h]
/-- the name of the first part that is wrong, of seven things -/
def wrongPart : List D → Option Str
  | [ks, w, g, wk, o, p, sh] => match dKinds ks with
    | false => some "kinds"
    | true => if dLimit w 60 = false then some "window" else if dLimit g 24 = false then some "gap" else
      if dWeak (match ks with | .tuple ds => (strs? ds).getD [] | _ => []) wk = false then some "weak" else if dOneOf o ["all", "first", "last"] = false then some "once" else
      if dPick p = false then some "pick" else if dShares sh (match p with | .tuple [_, .int n] => n | _ => 0) = false then some "shares" else none
  | _ => none
def optD : Option Str → D
  | none => .none
  | some x => .str x
theorem dKinds_tup {d : D} (h : dKinds d = true) : ∃ ys : List Str, d = .tuple (ys.map .str) := by
  cases d with
  | tuple ds =>
    simp only [dKinds, Bool.and_eq_true] at h
    obtain ⟨ys, rfl⟩ := words_strs h.1.2
    exact ⟨ys, rfl⟩
  | _ => simp [dKinds] at h
theorem dPick_tup {d : D} (h : dPick d = true) : ∃ a n, d = .tuple [a, .int n] := by
  cases d with
  | tuple ds =>
    match ds, h with
    | [a, b], h =>
      simp only [dPick, Bool.and_eq_true] at h
      cases b with
      | int n => exact ⟨a, n, rfl⟩
      | _ => simp [dInt] at h
    | [], h => simp [dPick] at h
    | [_], h => simp [dPick] at h
    | _ :: _ :: _ :: _, h => simp [dPick] at h
  | _ => simp [dPick] at h
theorem ev_wrong_part {st : List Cn} {ks w g wk o p sh : D} (h : gD (.tuple [ks, w, g, wk, o, p, sh]) = true) : f__wrong_part [.dat (.tuple [ks, w, g, wk, o, p, sh])] st = .ok (.dat (optD (wrongPart [ks, w, g, wk, o, p, sh]))) st := by
  simp only [fnM_ap]
  have hh := (gD_tup h).2
  have h1 := hh ks (by simp)
  have h2 := hh w (by simp)
  have h3 := hh g (by simp)
  have h4 := hh wk (by simp)
  have h5 := hh o (by simp)
  have h6 := hh p (by simp)
  have h7 := hh sh (by simp)
  have three : (3 : Nat) ≤ sizeLine := by rw [sizeLine_eq]; decide
  simp [m__wrong_part, envOf, ev_are_kinds h1, wrongPart]
  cases k1 : dKinds ks with
  | false => simp [optD]
  | true =>
    obtain ⟨ys, rfl⟩ := dKinds_tup k1
    simp [ev_is_limit h2, strs_map]
    cases k2 : dLimit w 60 with
    | false => simp [optD]
    | true =>
      simp [ev_is_limit h3]
      cases k3 : dLimit g 24 with
      | false => simp [optD]
      | true =>
        simp [ev_are_weak h4]
        cases k4 : dWeak ys wk with
        | false => simp [optD]
        | true =>
          have e := ev_is_one_of (st := st) (gD_err h5) (v := .dat (.tuple [.str "all", .str "first", .str "last"])) (ys := ["all", "first", "last"]) rfl ⟨_, rfl⟩
          simp [three, e]
          cases k5 : dOneOf o ["all", "first", "last"] with
          | false => simp [optD]
          | true =>
            simp [ev_is_pick h6]
            cases k6 : dPick p with
            | false => simp [optD]
            | true =>
              obtain ⟨a, n, rfl⟩ := dPick_tup k6
              simp [ev_is_shares h7]
              cases k7 : dShares sh n <;> simp [optD]
/-- the part that is wrong, of anything -/
def badRule (d : D) : Option Str := match d with
  | .tuple ds => if ds.length = 7 then wrongPart ds else some "form"
  | _ => some "form"
def ruleOu (d : D) (st : List Cn) : Ou := match badRule d with
  | none => .ok (.dat d) st
  | some x => .exc 0 (.str x) st
theorem ev_need_rule {st : List Cn} {d : D} (h : gD d = true) : f_need_rule [.dat d] st = ruleOu d st := by
  simp only [fnM_ap]
  simp [m_need_rule, envOf, ev_is_tuple (gD_err h)]
  cases d with
  | tuple ds =>
    by_cases h7 : ds.length = 7
    · obtain ⟨a, b, c, e, f, g, i, rfl⟩ : ∃ a b c e f g i, ds = [a, b, c, e, f, g, i] := by
        match ds, h7 with
        | [a, b, c, e, f, g, i], _ => exact ⟨a, b, c, e, f, g, i, rfl⟩
      simp [dTup, ev_wrong_part h, ruleOu, badRule]
      cases hw : wrongPart [a, b, c, e, f, g, i] with
      | none => simp [optD, gIs_none]
      | some x => simp [optD, gIs_none]
    · have : ¬ ((ds.length : Int) = 7) := by omega
      simp [dTup, this, ruleOu, badRule, h7]
  | _ => simp [dTup, ruleOu, badRule]
def dTouch (ks : List Str) (d : D) (g : Int) : Bool := match d with
  | .tuple [a, b] => dOneOf a ks && dInt b 0 g
  | _ => false
theorem ev_is_touch {st : List Cn} {ks : List Str} {d : D} (h : gD d = true) (g : Int) : f__is_touch [.dat (.tuple (ks.map .str)), .dat d, .dat (.int g)] st = .ok (.dat (.bool (dTouch ks d g))) st := by
  simp only [fnM_ap]
  cases d with
  | tuple ds =>
    match ds, h with
    | [], h => simp [m__is_touch, envOf, ev_is_tuple (gD_err h), dTup, dTouch]
    | [a], h => simp [m__is_touch, envOf, ev_is_tuple (gD_err h), dTup, dTouch]
    | [a, b], h =>
      have ha := gD_err ((gD_tup h).2 a (by simp))
      have hb := gD_err ((gD_tup h).2 b (by simp))
      have e := ev_is_one_of (st := st) ha (v := .dat (.tuple (ks.map .str))) (ys := ks) rfl ⟨_, rfl⟩
      simp [m__is_touch, envOf, ev_is_tuple (gD_err h), dTup, dTouch, e, ev_is_integer hb]
      cases dOneOf a ks <;> simp
    | a :: b :: c :: r, h =>
      have : ¬ ((r.length : Int) + 1 + 1 + 1 = 2) := by omega
      simp [m__is_touch, envOf, ev_is_tuple (gD_err h), dTup, dTouch, this]
  | _ => simp [m__is_touch, envOf, ev_is_tuple (gD_err h), dTup, dTouch]
/-- the number of the first one that is no touch -/
def wrongTouch (ks : List Str) : Int → Int → List D → Option Int
  | _, _, [] => none
  | n, g, d :: ds => if dTouch ks d g = false then some n else wrongTouch ks (n + 1) (match d with | .tuple [_, .int a] => a | _ => 0) ds
theorem dTouch_tup {ks : List Str} {d : D} {g : Int} (h : dTouch ks d g = true) : ∃ a n, d = .tuple [a, .int n] := by
  cases d with
  | tuple ds =>
    match ds, h with
    | [a, b], h =>
      simp only [dTouch, Bool.and_eq_true] at h
      cases b with
      | int n => exact ⟨a, n, rfl⟩
      | _ => simp [dInt] at h
    | [], h => simp [dTouch] at h
    | [_], h => simp [dTouch] at h
    | _ :: _ :: _ :: _, h => simp [dTouch] at h
  | _ => simp [dTouch] at h
def ksOf (d : D) : List Str := match d with
  | .tuple (.tuple ds :: _) => (strs? ds).getD []
  | _ => []
theorem badRule_ks {d : D} (h : badRule d = none) : ∃ r, d = .tuple (.tuple ((ksOf d).map .str) :: r) := by
  cases d with
  | tuple ds =>
    unfold badRule at h
    by_cases h7 : ds.length = 7
    · obtain ⟨a, b, c, e, f, g, i, rfl⟩ : ∃ a b c e f g i, ds = [a, b, c, e, f, g, i] := by
        match ds, h7 with
        | [a, b, c, e, f, g, i], _ => exact ⟨a, b, c, e, f, g, i, rfl⟩
      simp only [List.length_cons, List.length_nil, if_true] at h
      cases k1 : dKinds a with
      | false => simp [wrongPart, k1] at h
      | true =>
        obtain ⟨ys, rfl⟩ := dKinds_tup k1
        exact ⟨_, by simp [ksOf, strs_map]; rfl⟩
    · simp [h7] at h
  | _ => simp [badRule] at h
def badWay (ks : List Str) (d : D) : Option D := match d with
  | .tuple ds => if (200 : Int) < ds.length then some .none else (wrongTouch ks 0 1000000 ds).map .int
  | _ => some .none
def wayOu (r d : D) (st : List Cn) : Ou := match badRule r with
  | some x => .exc 0 (.str x) st
  | none => match badWay (ksOf r) d with
    | none => .ok (.dat d) st
    | some x => .exc 1 x st
def needB : SM := seqM (ifS (notM (truM (callF 3 f__is_touch (acons (binM gIx (varM 0) (cstM (.int 0))) (acons (varM 4) (acons (varM 2) anil)))))) (raiM 1 (varM 3)) nilM) (setM 2 (frzM (binM gIx (varM 4) (cstM (.int 1)))))
theorem need_loop {st : List Cn} {ks : List Str} {r : List D} {th : D} : ∀ (ds : List D) (n g : Int) (x3 x4 : Option Val), gDs ds = true →
    (∀ k, wrongTouch ks n g ds = some k → ∃ env', forM (.tp [3, 4]) needB ((enumP n ds).map fun p => .tuple [.int p.1, p.2]) [some (.dat (.tuple (.tuple (ks.map .str) :: r))), some (.dat th), some (.dat (.int g)), x3, x4] st = .exc 1 (.int k) env' st) ∧
    (wrongTouch ks n g ds = none → ∃ g' y3 y4, forM (.tp [3, 4]) needB ((enumP n ds).map fun p => .tuple [.int p.1, p.2]) [some (.dat (.tuple (.tuple (ks.map .str) :: r))), some (.dat th), some (.dat (.int g)), x3, x4] st = .nx [some (.dat (.tuple (.tuple (ks.map .str) :: r))), some (.dat th), some (.dat (.int g')), y3, y4] st)
  | [], n, g, x3, x4, _ => ⟨fun k h => by simp [wrongTouch] at h, fun _ => ⟨g, x3, x4, rfl⟩⟩
  | d :: ds, n, g, x3, x4, h => by
    simp only [gDs, Bool.and_eq_true] at h
    simp only [enumP, List.map_cons, forM, wrongTouch]
    have e := ev_is_touch (st := st) (ks := ks) h.1 g
    cases hd : dTouch ks d g with
    | false =>
      refine ⟨fun k hk => ?_, fun hk => by simp at hk⟩
      simp at hk
      subst hk
      simp [needB, e, hd]
    | true =>
      obtain ⟨a, m, rfl⟩ := dTouch_tup hd
      have ih := need_loop (st := st) (ks := ks) (r := r) (th := th) ds (n + 1) m (some (.dat (.int n))) (some (.dat (.tuple [a, .int m]))) h.2
      simp [needB, e, hd]
      exact ih
theorem ev_need_journey {st : List Cn} {r d : D} (hr : gD r = true) (hd : gD d = true) : f_need_journey [.dat r, .dat d] st = wayOu r d st := by
  simp only [fnM_ap]
  simp only [m_need_journey, seqM_ap, exM_ap]
  simp [envOf, ev_need_rule hr, ruleOu, wayOu]
  cases hb : badRule r with
  | some x => simp
  | none =>
    obtain ⟨rr, er⟩ := badRule_ks hb
    generalize ksOf r = ks at er ⊢
    subst er
    cases d with
    | tuple ds =>
      have hl := hd
      simp only [gD, Bool.and_eq_true] at hl
      by_cases h2 : (200 : Int) < ds.length
      · simp [isT, onB_b, h2, badWay]
      · have hi : ∀ x3 x4, enaI (acons (varM 1) anil) [some (.dat (.tuple (.tuple (ks.map .str) :: rr))), some (.dat (.tuple ds)), some (.dat (.int 1000000)), x3, x4] st = .ok ((enumP 0 ds).map fun p => .tuple [.int p.1, p.2]) st := fun x3 x4 => by
          simp
          exact enumD_P ds 0
        have L := need_loop (st := st) (ks := ks) (r := rr) (th := .tuple ds) ds 0 1000000 none none hl.2
        simp [isT, onB_b, h2, badWay]
        rw [frM_ap _ _ _ _ _ (hi none none)]
        change ((forM (.tp [3, 4]) needB _ _ _).an _).fin = _
        cases hw : wrongTouch ks 0 1000000 ds with
        | none =>
          obtain ⟨g', y3, y4, e⟩ := L.2 hw
          rw [e]
          simp
        | some k =>
          obtain ⟨env', e⟩ := L.1 k hw
          rw [e]
          simp
    | _ => simp [isT, onB_b, badWay, gD_err hd]
end Pl.Law

set_option Elab.async false
set_option linter.all false
set_option maxRecDepth 100000
set_option maxHeartbeats 1000000
namespace Pl.Law
open PySem PySem.Spec PyProof.Rows L2 PySem.W Pl Ts
/-! ### rules and journeys as data -/
abbrev RS := Rl Str
abbrev JS := Jy Str
def encI : Option Int → D
  | none => .none
  | some i => .int i
def encO : On → Str
  | .all => "all"
  | .first => "first"
  | .last => "last"
def encE (b : Bool) : Str := if b then "first" else "last"
def encS : Sh → D
  | .even => .tuple [.str "even"]
  | .places rows => .tuple [.str "places", .tuple (rows.map fun r => .tuple (r.map .int))]
  | .ages m w => .tuple [.str "ages", .tuple (m.map .int), .tuple (w.map .int)]
def encR (r : RS) : D := .tuple [.tuple (r.ks.map .str), encI r.w, encI r.g, .tuple (r.wk.map .str), .str (encO r.o), .tuple [.str (encE r.fst), .int r.n], encS r.sh]
def encT (t : Str × Int) : D := .tuple [.str t.1, .int t.2]
def encJ (j : JS) : D := .tuple (j.map encT)
def encN (ks : List Nat) : List D := ks.map fun (k : Nat) => PyData.int (k : Int)
def encF (f : Int × Int) : D := .tuple [.int f.1, .int f.2]
theorem two_le : (2 : Nat) ≤ sizeLine := by rw [sizeLine_eq]; decide
theorem intsD_range' (n c : Nat) (h : c ≤ n) : intsD ((n : Int) - (c : Int)) c = encN (List.range' (n - c) c) := by
  unfold intsD encN
  rw [List.range'_eq_map_range, List.map_map]
  apply List.map_congr_left
  intro k _
  show PyData.int _ = PyData.int _
  congr 1
  simp
  omega
@[simp] theorem augM_ap {i : Nat} {g : Val → Val → Option Val} {m : EM} {env : Env} {st : List Cn} {d : D} (h : env[i]? = some (some (.dat d))) : augM i g m env st = (m env st).bindS env fun w st1 => match g (.dat d) w with
    | some z => if nobor z = true then .nx (env.set i (some z)) st1 else .stk
    | none => .stk := by
  unfold augM
  rw [h]
  first | done | rfl
/-! ### what stays, what is picked -/
theorem cut_take (ds : List D) (n : Nat) : cutD ds none (some (n : Int)) = ds.take n := by
  unfold cutD
  rw [HT.sIx_nat, HT.sIx_none]
  simp
theorem cut_last (ds : List D) (n : Nat) (hn : 0 < n) : cutD ds (some (-(n : Int))) none = ds.drop (ds.length - n) := by
  unfold cutD
  have e : HT.sIx ds.length 0 (some (-(n : Int))) = ds.length - n := by
    show (if -(n : Int) < 0 then (-(n : Int) + (ds.length : Int)).toNat else _) = _
    rw [if_pos (by omega)]
    omega
  rw [e, HT.sIx_none]
  apply List.take_of_length_le
  simp
@[simp] theorem gCut_l (ds : List D) (lo hi) : gCut (.dat (.list ds)) lo hi = some (.fr (.lst (cutD ds lo hi))) := rfl
@[simp] theorem gCut_f (ds : List D) (lo hi) : gCut (.fr (.lst ds)) lo hi = some (.fr (.lst (cutD ds lo hi))) := rfl
@[simp] theorem gCut_b (ds : List D) (lo hi) : gCut (.bor (.lst ds)) lo hi = some (.fr (.lst (cutD ds lo hi))) := rfl
@[simp] theorem gCut_t (ds : List D) (lo hi) : gCut (.dat (.tuple ds)) lo hi = some (.dat (.tuple (cutD ds lo hi))) := rfl
theorem encE_ne : (("last" : Str) = "first") = False := eq_false (by decide +kernel)
theorem ne_af : (("all" : Str) = "first") = False := eq_false (by decide +kernel)
theorem ne_al : (("all" : Str) = "last") = False := eq_false (by decide +kernel)
theorem enumD_range : ∀ (ds : List D) (n : Nat), enumD n ds = (List.range ds.length).map fun p => .tuple [.int ((n + p : Nat) : Int), ds.getD p .none]
  | [], _ => rfl
  | d :: ds, n => by
    rw [enumD, enumD_range ds (n + 1), List.length_cons, List.range_succ_eq_map, List.map_cons, List.map_map]
    congr 1
    apply List.map_congr_left
    intro p _
    simp only [Function.comp]
    congr 3
    rw [show n + 1 + p = n + (p + 1) by omega]
theorem getD_map {α β : Type} (f : α → β) (xs : List α) (p : Nat) (h : p < xs.length) (d : β) : (xs.map f).getD p d = f xs[p] := by
  simp [List.getD_eq_getElem?_getD, h]
def strAt (names : List Str) (p : Nat) : D := (names.map PyData.str).getD p .none
theorem stay_src {st : List Cn} (names : List Str) (env : Env) (h : env[1]? = some (some (.dat (.list (names.map .str))))) : enaI (acons (varM 1) anil) env st = .ok ((List.range names.length).map fun (p : Nat) => .tuple [.int (p : Int), strAt names p]) st := by
  simp only [enaI_ap, acons_ap, varM_ap, h, Ou.bindL_ok, frz_dat, ofL_some, anil_ap, OuL.bindL_ok', OuL.bindI_ok]
  rw [enumD_range]
  simp only [List.length_map, Nat.zero_add]
  rfl
theorem stay_at (names : List Str) {p : Nat} (hp : p ∈ List.range names.length) : ∃ h : p < names.length, strAt names p = .str names[p] := by
  have h : p < names.length := by simpa using hp
  exact ⟨h, getD_map PyData.str names p h _⟩
theorem intsD_0 (n : Nat) : intsD 0 n = encN (List.range n) := by
  unfold intsD encN
  apply List.map_congr_left
  intro k _
  simp
theorem rgOk_0 {n : Nat} (h : n ≤ 1000) : rgOk 0 (n : Int) = true := rgOk_mk (inb_nat (n := 0) (by omega)) (inb_nat (by omega)) (by omega)
theorem lrgV_i (n : Int) : lrgV (.dat (.int n)) = if rgOk 0 n = true then some (.fr (.lst (intsD 0 (n : Int).toNat))) else none := by
  simp only [lrgV]
theorem lrgV_n {n : Nat} (h : n ≤ 1000) : lrgV (.dat (.int (n : Int))) = some (.fr (.lst (encN (List.range n)))) := by
  rw [lrgV_i, rgOk_0 h, Int.toNat_natCast, intsD_0]
  simp only [if_true]
theorem lrg1_ev {env : Env} {st : List Cn} {m : EM} {n : Nat} (h : m env st = .ok (.dat (.int (n : Int))) st) (hn : n ≤ 1000) : lrg1M m env st = .ok (.fr (.lst (encN (List.range n)))) st := by
  simp only [lrg1M, h, Ou.bind_ok, lrgV_n hn, Ou.of_some]
end Pl.Law

set_option Elab.async false
set_option linter.all false
set_option maxRecDepth 100000
set_option maxHeartbeats 1000000
namespace Pl.Law
open PySem PySem.Spec PyProof.Rows L2 PySem.W Pl Ts
theorem comp_run {α : Type} (enc f : α → D) (p : α → Bool) {im : IM} {own : List Nat} {i : Nat} {mc me : EM} {env : Env} {st : List Cn} (xs : List α) (hi : im env st = .ok (xs.map enc) st) (hl : xs.length ≤ sizeLine)
    (hc : ∀ x ∈ xs, mc ((wipeE env own).set i (some (.dat (enc x)))) st = .ok (.dat (.bool (p x))) st) (he : ∀ x ∈ xs, p x = true → ∃ v, me ((wipeE env own).set i (some (.dat (enc x)))) st = .ok v st ∧ asDat v = some (f x)) :
    compM im own (.nm i) mc me env st = .ok (.fr (.lst ((xs.filter p).map f))) st := by
  rw [compM_ap _ _ _ _ _ _ _ hi, lc_map enc f p xs [] (by simpa using hl) hc he, List.nil_append]
theorem comp_yes {α : Type} (enc f : α → D) {im : IM} {own : List Nat} {i : Nat} {me : EM} {env : Env} {st : List Cn} (xs : List α) (hi : im env st = .ok (xs.map enc) st) (hl : xs.length ≤ sizeLine)
    (he : ∀ x ∈ xs, ∃ v, me ((wipeE env own).set i (some (.dat (enc x)))) st = .ok v st ∧ asDat v = some (f x)) : compM im own (.nm i) yesM me env st = .ok (.fr (.lst (xs.map f))) st := by
  have := comp_run enc f (fun _ => true) (own := own) (mc := yesM) xs hi hl (fun _ _ => rfl) fun x hx _ => he x hx
  rw [filter_yes] at this
  exact this
/-- a journey's touch at its number -/
theorem at_way {j : JS} {k : Nat} (h : k < j.length) : atI (j.map encT) (k : Int) = some (.tuple [.str (kindAt j k), .int (ageAt j k)]) := by
  rw [atI_nat (by simpa using h)]
  have e : j.getD k default = j[k] := by simp [List.getD_eq_getElem?_getD, h]
  unfold kindAt ageAt
  rw [e, List.getElem_map]
  rfl
theorem rch_lt (r : RS) (j : JS) : ∀ k ∈ rch r j, k < j.length := fun k hk => by
  have h := reachN_le r j
  unfold rch at hk
  rw [List.mem_range'_1] at hk
  omega
theorem count_lt (r : RS) (j : JS) : ∀ k ∈ count r j, k < j.length := fun k hk => rch_lt r j k ((count_sub r j).subset hk)
theorem rch_len (r : RS) (j : JS) : (rch r j).length ≤ j.length := by
  have h := reachN_le r j
  unfold rch
  rw [List.length_range']
  exact h
theorem count_len (r : RS) (j : JS) : (count r j).length ≤ j.length := Nat.le_trans (count_sub r j).length_le (rch_len r j)
theorem sz1000 {n : Nat} (h : n ≤ 1000) : n ≤ sizeLine := by rw [sizeLine_eq]; omega
theorem encN_map (ks : List Nat) : encN ks = ks.map fun (k : Nat) => PyData.int (k : Int) := rfl
theorem count_at (r : RS) (j : JS) {p : Nat} (h : p < (count r j).length) : atI (encN (count r j)) (p : Int) = some (.int ((count r j).getD p 0 : Nat)) := by
  rw [atI_nat (by simpa [encN] using h)]
  simp [encN, List.getD_eq_getElem?_getD, h]
theorem staying_lt (o : On) (names : List Str) : ∀ p ∈ staying o names, p < names.length := fun p hp => by
  cases o with
  | all => simpa [staying] using hp
  | first => simpa using (List.mem_filter.mp hp).1
  | last => simpa using (List.mem_filter.mp hp).1
theorem staying_len (o : On) (names : List Str) : (staying o names).length ≤ names.length := by
  cases o with
  | all => simp [staying]
  | first => exact Nat.le_trans (List.length_filter_le _ _) (by simp)
  | last => exact Nat.le_trans (List.length_filter_le _ _) (by simp)
theorem pick_map {β γ : Type} (r : RS) (f : β → γ) (xs : List β) : pick r (xs.map f) = (pick r xs).map f := by
  unfold pick
  split
  · rw [List.map_take]
  · rw [List.map_drop, List.length_map]
end Pl.Law

set_option Elab.async false
set_option linter.all false
set_option maxRecDepth 100000
set_option maxHeartbeats 1000000
namespace Pl.Law
open PySem PySem.Spec PyProof.Rows L2 PySem.W Pl Ts
structure VR (r : RS) : Prop where
  ok : badRule (encR r) = none
  gd : gD (encR r) = true
  sh : ShOk r.n r.sh
  n1 : 1 ≤ r.n
  n4 : r.n ≤ 4
structure VJ (r : RS) (j : JS) : Prop where
  ok : badWay r.ks (encJ j) = none
  gd : gD (encJ j) = true
  len : j.length ≤ 200
theorem ksOf_enc (r : RS) : ksOf (encR r) = r.ks := by simp [ksOf, encR, strs_map]
theorem ev_need {st : List Cn} {r : RS} {j : JS} (vr : VR r) (vj : VJ r j) : f_need_journey [.dat (encR r), .dat (encJ j)] st = .ok (.dat (encJ j)) st := by
  rw [ev_need_journey vr.gd vj.gd, wayOu, vr.ok, ksOf_enc, vj.ok]
/-! ### classes, parts -/
theorem ne_ea : (("even" : Str) = "ages") = False := eq_false (by decide +kernel)
theorem ne_pa : (("places" : Str) = "ages") = False := eq_false (by decide +kernel)
theorem ne_pe : (("places" : Str) = "even") = False := eq_false (by decide +kernel)
theorem ne_ae : (("ages" : Str) = "even") = False := eq_false (by decide +kernel)
theorem ne_ap : (("ages" : Str) = "places") = False := eq_false (by decide +kernel)
theorem gRepL_i {v : Val} {ds : List D} (hv : asList v = some ds) (j : Int) (h1 : inb j = true) (h2 : Nat.ble (ds.length * j.toNat) 16777216 = true) : gRepL v (.dat (.int j)) = some (.fr (.lst (List.replicate j.toNat ds).flatten)) := by
  unfold gRepL
  dsimp only
  rw [hv]
  dsimp only
  rw [h1, h2]
  rfl
theorem flat_rep (d : D) : ∀ n : Nat, (List.replicate n [d]).flatten = List.replicate n d
  | 0 => rfl
  | n + 1 => by rw [List.replicate_succ, List.flatten_cons, flat_rep d n]; rfl
theorem gMul_rep (d : D) (n : Nat) (h : n ≤ 1000) : gMul (.fr (.lst [d])) (.dat (.int (n : Int))) = some (.fr (.lst (List.replicate n d))) := by
  have e := gRepL_i (v := .fr (.lst [d])) rfl (n : Int) (inb_nat (by omega)) (Nat.ble_eq_true_of_le (by rw [Int.toNat_natCast, List.length_singleton]; omega))
  rw [Int.toNat_natCast, flat_rep] at e
  unfold gMul
  rw [e]
  rfl
theorem max_1 (x : Int) : (if 1 < x then x else 1) = max 1 x := by omega
theorem row_at {rows : List (List Int)} {n : Nat} (h : n < rows.length) : atI (rows.map fun r => PyData.tuple (r.map .int)) (n : Int) = some (.tuple ((rows.getD n []).map .int)) := by
  rw [atI_nat (by simpa using h)]
  simp [List.getD_eq_getElem?_getD, h]
theorem ws_at {ws : List Int} {n : Nat} (h : n < ws.length) : atI (ws.map PyData.int) (n : Int) = some (.int (ws.getD n 0)) := by
  rw [atI_nat (by simpa using h)]
  simp [List.getD_eq_getElem?_getD, h]
end Pl.Law

set_option Elab.async false
set_option linter.all false
set_option maxRecDepth 100000
set_option maxHeartbeats 1000000
namespace Pl.Law
open PySem PySem.Spec PyProof.Rows L2 PySem.W Pl Ts
theorem stM_ap {i : Nat} {mk m : EM} {env : Env} {st : List Cn} {ds : List D} {d : D} {k : Nat} (hm : m env st = .ok (.dat d) st) (hk : mk env st = .ok (.dat (.int (k : Int))) st) (he : env[i]? = some (some (.fr (.lst ds)))) (hl : k < ds.length) :
    stM i mk m env st = .nx (env.set i (some (.fr (.lst (ds.set k d))))) st := by
  have hx : ixN ds.length (k : Int) = some k := by
    unfold ixN
    rw [if_pos (by omega), if_pos (by omega), Int.toNat_natCast]
  unfold stM
  rw [hm]
  dsimp only [Ou.bindS, asDat]
  rw [he]
  dsimp only
  rw [hk]
  dsimp only
  rw [hx]
/-- numbers set at places -/
theorem set_loop {st : List Cn} (e0 e1 e2 e3 e4 e5 : Option Val) : ∀ (ps : List (Nat × Int)) (z : List Int) (x7 x8 : Option Val), (∀ p ∈ ps, p.1 < z.length) → ∃ y7 y8,
    forM (.tp [7, 8]) (stM 6 (varM 7) (varM 8)) (ps.map fun p => .tuple [.int (p.1 : Int), .int p.2]) [e0, e1, e2, e3, e4, e5, some (.fr (.lst (z.map .int))), x7, x8] st = .nx [e0, e1, e2, e3, e4, e5, some (.fr (.lst ((setAll z ps).map .int))), y7, y8] st
  | [], z, x7, x8, _ => ⟨x7, x8, rfl⟩
  | p :: ps, z, x7, x8, h => by
    obtain ⟨y7, y8, ih⟩ := set_loop (st := st) e0 e1 e2 e3 e4 e5 ps (z.set p.1 p.2) (some (.dat (.int (p.1 : Int)))) (some (.dat (.int p.2))) (fun q hq => by rw [List.length_set]; exact h q (by simp [hq]))
    refine ⟨y7, y8, ?_⟩
    rw [List.map_cons, forM]
    dsimp only
    rw [bindT_tp, bindAll_cons, bindAll_cons, bindAll_nil]
    dsimp only
    rw [stM_ap (k := p.1) (d := .int p.2) (ds := z.map .int) (by simp) (by simp) (by simp) (by rw [List.length_map]; exact h p (by simp))]
    dsimp only
    rw [List.map_set] at ih
    simp at ih ⊢
    exact ih
theorem chosen_len' (r : RS) (j : JS) : (chosen r j).length ≤ j.length := by
  have h1 := (chosen_sub r j).length_le
  exact Nat.le_trans h1 (rch_len r j)
end Pl.Law

set_option Elab.async false
set_option linter.all false
set_option maxRecDepth 100000
set_option maxHeartbeats 1000000
namespace Pl.Law
open PySem PySem.Spec PyProof.Rows L2 PySem.W Pl Ts
theorem gGcd_i (p o : Int) : gGcd [.dat (.int p), .dat (.int o)] = some (.dat (.int (Int.gcd p o : Nat))) := rfl
theorem sum_le {B : Int} (hB : 0 ≤ B) : ∀ {ps : List Int}, (∀ x ∈ ps, x ≤ B) → ps.sum ≤ B * ps.length
  | [], _ => by simp
  | p :: ps, h => by
    have h1 := sum_le hB (ps := ps) fun x hx => h x (by simp [hx])
    have h2 := h p (by simp)
    rw [List.sum_cons, List.length_cons]
    have : B * ((ps.length + 1 : Nat) : Int) = B * ps.length + B := by
      rw [Int.natCast_add, Int.mul_add]
      simp
    omega
theorem whole_le {r : RS} (vr : VR r) (j : JS) : whole r j ≤ 400 := by
  have hc := chosen_len r j
  have n4 := vr.n4
  unfold whole chParts shParts
  split
  · decide
  · cases h : r.sh with
    | even => simp; omega
    | places rows => simp
    | ages m ws =>
      have sh := vr.sh
      rw [h] at sh
      obtain ⟨_, _, _, hw, hx⟩ := sh
      have := sum_le (B := 9) (by omega) (ps := (((chosen r j).map fun k => cls (Sh.ages m ws) (ageAt j k)).map fun c => ws.getD c 0)) fun x hxm => by
        obtain ⟨c, _, rfl⟩ := List.mem_map.mp hxm
        rw [List.getD_eq_getElem?_getD]
        cases hg : ws[c]? with
        | none => simp
        | some y => exact (hx y (List.mem_of_getElem? hg)).2
      rw [List.length_map, List.length_map] at this
      dsimp only
      rw [show (max 1 _ : Int) = if (1 : Int) < _ then _ else 1 from (max_1 _).symm]
      split
      · omega
      · omega
theorem whole_pos {r : RS} (vr : VR r) (j : JS) : 0 < whole r j := (chParts_ok vr.sh j).2.2
/-! #### the credits of kinds: a dict from kinds to their sums -/
def kvs (ks : List Str) (f : Str → Int) : List (Key × D) := ks.map fun k => (.inr k, .int (f k))
theorem look_kvs {ks : List Str} {f : Str → Int} {k : Str} (h : k ∈ ks) : dlook (kvs ks f) (.inr k) = some (.int (f k)) := by
  unfold dlook kvs
  induction ks with
  | nil => cases h
  | cons a l ih =>
    rw [List.map_cons, List.find?_cons]
    by_cases e : a = k
    · subst e
      simp
    · have hk : k ∈ l := (List.mem_cons.mp h).resolve_left (fun z => e z.symm)
      have : decide ((Sum.inr a : Key) = Sum.inr k) = false := decide_eq_false fun z => e (Sum.inr.inj z)
      dsimp only
      rw [this]
      exact ih hk
theorem put_kvs {ks : List Str} {f : Str → Int} {k : Str} {v : Int} (h : k ∈ ks) : dput (kvs ks f) (.inr k) (.int v) = kvs ks fun x => if x = k then v else f x := by
  have ha : ((kvs ks f).any fun kv => decide (kv.1 = (Sum.inr k : Key))) = true := by
    rw [List.any_eq_true]
    exact ⟨(.inr k, .int (f k)), List.mem_map.mpr ⟨k, h, rfl⟩, by simp⟩
  unfold dput
  rw [if_pos ha]
  unfold kvs
  rw [List.map_map]
  apply List.map_congr_left
  intro x _
  show (if (Sum.inr x : Key) = Sum.inr k then _ else _) = _
  by_cases e : x = k
  · subst e
    simp
  · rw [if_neg (fun z => e (Sum.inr.inj z))]
    simp [e]
theorem dc_kvs {i : Nat} {env : Env} {st : List Cn} (hi : i < env.length) : ∀ (ks : List Str) (done : List Str), (done ++ ks).Nodup → done.length + ks.length ≤ 1000 →
    dcM (.nm i) yesM (varM i) (cstM (.int 0)) (ks.map .str) (kvs done fun _ => 0) env st = .ok (.fr (.dk (kvs (done ++ ks) fun _ => 0))) st
  | [], done, _, _ => by simp [dcM]
  | k :: ks, done, nd, hl => by
    have hk : k ∉ done := fun h => (List.nodup_append.mp nd).2.2 k h k (by simp) rfl
    have ih := dc_kvs (st := st) hi ks (done ++ [k]) (by simpa using nd) (by simp at hl ⊢; omega)
    have ha : ((kvs done fun _ => 0).any fun kv => decide (kv.1 = (Sum.inr k : Key))) = false := by
      rw [Bool.eq_false_iff]
      intro h
      obtain ⟨p, hp, e⟩ := List.any_eq_true.mp h
      obtain ⟨x, hx, rfl⟩ := List.mem_map.mp hp
      have e := of_decide_eq_true e
      exact hk ((Sum.inr.inj e) ▸ hx)
    have hp : dput (kvs done fun _ => 0) (.inr k) (.int 0) = kvs (done ++ [k]) fun _ => 0 := by
      unfold dput
      rw [ha]
      simp [kvs]
    have lt : (kvs done fun _ => 0).length < sizeLine := by
      simp only [List.length_cons] at hl
      rw [sizeLine_eq]
      simp [kvs]
      omega
    rw [List.map_cons, dcM]
    dsimp only
    rw [bindT_nm]
    dsimp only
    rw [yesM_ap]
    dsimp only
    simp [hi, keyD, lt, hp]
    simpa using ih
theorem augDM_ap {i : Nat} {mk m : EM} {env : Env} {st : List Cn} {ks : List Str} {f : Str → Int} {k : Str} {v : Int} (he : env[i]? = some (some (.fr (.dk (kvs ks f))))) (hk : mk env st = .ok (.dat (.str k)) st) (hm : m env st = .ok (.dat (.int v)) st) (hin : k ∈ ks) (hl : ks.length ≤ 1000) :
    augDM i mk gAddI m env st = .nx (env.set i (some (.fr (.dk (kvs ks fun x => if x = k then f k + v else f x))))) st := by
  have lt : (kvs ks f).length < sizeLine := by
    rw [sizeLine_eq]
    simp [kvs]
    omega
  unfold augDM
  rw [he]
  dsimp only
  rw [hk]
  dsimp only [Ou.bindS, keyD]
  rw [look_kvs hin]
  dsimp only
  rw [hm]
  dsimp only
  rw [gAddI_i]
  dsimp only
  rw [if_pos lt, put_kvs hin]
/-- what the turns add -/
def addUp (f : Str → Int) : List ((Str × Int) × Int) → Str → Int
  | [] => f
  | p :: ps => addUp (fun x => if x = p.1.1 then f p.1.1 + p.2 else f x) ps
theorem addUp_eq (x : Str) : ∀ (ps : List ((Str × Int) × Int)) (f : Str → Int), addUp f ps x = f x + ((ps.filter fun p => decide (p.1.1 = x)).map (·.2)).sum
  | [], f => by simp [addUp]
  | p :: ps, f => by
    rw [addUp, addUp_eq x ps]
    by_cases h : p.1.1 = x
    · rw [List.filter_cons_of_pos (by simpa using h), if_pos h.symm, List.map_cons, List.sum_cons, h]
      omega
    · rw [List.filter_cons_of_neg (by simpa using h), if_neg (fun e => h e.symm)]
theorem kinds_loop {st : List Cn} {ks : List Str} (hl : ks.length ≤ 1000) (e0 e1 e2 e3 x7 : Option Val) : ∀ (ps : List ((Str × Int) × Int)) (f : Str → Int) (x5 x6 : Option Val), (∀ p ∈ ps, p.1.1 ∈ ks) → ∃ y5 y6,
    forM (.tp [5, 6]) (augDM 4 (binM gIx (varM 5) (cstM (.int 0))) gAddI (varM 6)) (ps.map fun p => .tuple [encT p.1, .int p.2]) [e0, e1, e2, e3, some (.fr (.dk (kvs ks f))), x5, x6, x7] st = .nx [e0, e1, e2, e3, some (.fr (.dk (kvs ks (addUp f ps)))), y5, y6, x7] st
  | [], f, x5, x6, _ => ⟨x5, x6, rfl⟩
  | p :: ps, f, x5, x6, h => by
    obtain ⟨y5, y6, ih⟩ := kinds_loop (st := st) hl e0 e1 e2 e3 x7 ps (fun x => if x = p.1.1 then f p.1.1 + p.2 else f x) (some (.dat (encT p.1))) (some (.dat (.int p.2))) (fun q hq => h q (by simp [hq]))
    refine ⟨y5, y6, ?_⟩
    rw [List.map_cons, forM]
    dsimp only
    rw [bindT_tp, bindAll_cons, bindAll_cons, bindAll_nil]
    dsimp only
    rw [augDM_ap (ks := ks) (f := f) (k := p.1.1) (v := p.2) (by simp) (by simp [encT]) (by simp) (h p (by simp)) hl]
    exact ih
/-- kinds of a journey -/
def KJ (r : RS) (j : JS) : Prop := ∀ t ∈ j, t.1 ∈ r.ks
end Pl.Law

set_option Elab.async false
set_option linter.all false
set_option maxRecDepth 100000
set_option maxHeartbeats 1000000
namespace Pl.Law
open PySem PySem.Spec PyProof.Rows L2 PySem.W Pl Ts
/-! ### == of plain data -/
structure ShN (d : D) (n : Nat) : Prop where
  ok : d.canLay0 = true
  dp : d.depth ≤ n
theorem ShN.int (i : Int) : ShN (.int i) 0 := ⟨rfl, Nat.le_refl _⟩
theorem ShN.mono {d : D} {n m : Nat} (h : ShN d n) (k : n ≤ m) : ShN d m := ⟨h.ok, Nat.le_trans h.dp k⟩
theorem shN_all {n : Nat} : ∀ {ds : List D}, (∀ d ∈ ds, ShN d n) → PyData.canLayAll0 ds = true ∧ PyData.depthAll ds ≤ n
  | [], _ => ⟨rfl, Nat.zero_le _⟩
  | d :: ds, h => by
    obtain ⟨h1, h2⟩ := shN_all (ds := ds) fun e he => h e (by simp [he])
    have h0 := h d (by simp)
    refine ⟨?_, ?_⟩
    · show (d.canLay0 && PyData.canLayAll0 ds) = true
      rw [h0.ok, h1]; rfl
    · show max d.depth (PyData.depthAll ds) ≤ n
      have := h0.dp
      omega
theorem ShN.tup {n : Nat} {ds : List D} (h : ∀ d ∈ ds, ShN d n) : ShN (.tuple ds) (n + 1) := by
  obtain ⟨h1, h2⟩ := shN_all h
  exact ⟨h1, by show PyData.depthAll ds + 1 ≤ n + 1; omega⟩
theorem ShN.list {n : Nat} {ds : List D} (h : ∀ d ∈ ds, ShN d n) : ShN (.list ds) (n + 1) := by
  obtain ⟨h1, h2⟩ := shN_all h
  exact ⟨h1, by show PyData.depthAll ds + 1 ≤ n + 1; omega⟩
theorem ShN.shaped {d : D} {n : Nat} (h : ShN d n) (k : n ≤ 64) : SeqAt.shaped d = true := by
  show (d.canLay0 && decide (d.depth ≤ 64)) = true
  rw [h.ok]
  have := h.dp
  exact decide_eq_true (by omega)
theorem shN_F (f : Int × Int) : ShN (encF f) 1 := ShN.tup (n := 0) fun d hd => by
  simp only [List.mem_cons, List.not_mem_nil, or_false] at hd
  rcases hd with rfl | rfl <;> exact ShN.int _
theorem shN_Fs (fs : List (Int × Int)) : ShN (.tuple (fs.map encF)) 2 := ShN.tup fun d hd => by
  obtain ⟨f, _, rfl⟩ := List.mem_map.mp hd
  exact shN_F f
theorem shN_N (L : List Nat) : ShN (.tuple (encN L)) 1 := ShN.tup fun d hd => by
  obtain ⟨f, _, rfl⟩ := List.mem_map.mp hd
  exact ShN.int _
theorem eq_same {d : D} {n : Nat} (h : ShN d n) (k : n ≤ 64) (hs : gEqS (.dat d) (.dat d) = none) : gEqq (.dat d) (.dat d) = some (.dat (.bool true)) := by
  rw [gEq_d rfl rfl (h.shaped k) (h.shaped k) hs, SeqAt.eqv_refl d h.ok]
theorem ne_same {d : D} {n : Nat} (h : ShN d n) (k : n ≤ 64) (hs : gNeS (.dat d) (.dat d) = none) : gNeq (.dat d) (.dat d) = some (.dat (.bool false)) := by
  rw [gNe_d rfl rfl (h.shaped k) (h.shaped k) hs, SeqAt.eqv_refl d h.ok]
  rfl
theorem eq_Fs (fs : List (Int × Int)) : gEqq (.dat (.tuple (fs.map encF))) (.dat (.tuple (fs.map encF))) = some (.dat (.bool true)) := eq_same (shN_Fs fs) (by decide) rfl
theorem ne_Fs (fs : List (Int × Int)) : gNeq (.dat (.tuple (fs.map encF))) (.dat (.tuple (fs.map encF))) = some (.dat (.bool false)) := ne_same (shN_Fs fs) (by decide) rfl
theorem shN_nil : ShN (.tuple []) 1 := ShN.tup fun _ h => by cases h
theorem ne_N0 (L : List Nat) : gNeq (.dat (.tuple (encN L))) (.dat (.tuple [])) = some (.dat (.bool (!L.isEmpty))) := by
  rw [gNe_d rfl rfl ((shN_N L).shaped (by decide)) (shN_nil.shaped (by decide)) rfl]
  cases L <;> rfl
theorem eq_N0 (L : List Nat) : gEqq (.dat (.tuple (encN L))) (.dat (.tuple [])) = some (.dat (.bool L.isEmpty)) := by
  rw [gEq_d rfl rfl ((shN_N L).shaped (by decide)) (shN_nil.shaped (by decide)) rfl]
  cases L <;> rfl
theorem shN_s {x : Str} (h : (PyData.str x).canLay0 = true) : ShN (.str x) 0 := ⟨h, Nat.le_refl _⟩
theorem forM_step {tg : Tg} {mt : SM} {d : D} {ds : List D} {env env1 env2 : Env} {st st2 : List Cn} (h1 : bindT tg d env = some env1) (h2 : mt env1 st = .nx env2 st2) : forM tg mt (d :: ds) env st = forM tg mt ds env2 st2 := by
  rw [forM]
  dsimp only
  rw [h1]
  dsimp only
  rw [h2]
end Pl.Law

set_option Elab.async false
set_option linter.all false
set_option maxRecDepth 100000
set_option maxHeartbeats 1000000
namespace Pl.Law
open PySem PySem.Spec PyProof.Rows L2 PySem.W Pl
/-! ### draws -/
def cD (cs : List Int) (l s : Int) : Cn := .dk [(.inr "cells", .list (cs.map .int)), (.inr "left", .int l), (.inr "spot", .int s)]
section
variable {cs : List Int} {l s : Int} {r : Env}
theorem get_left : getM (varM 0) (cstM (.str "left")) (some (.obj 0) :: r) [cD cs l s] = .ok (.dat (.int l)) [cD cs l s] := by kernel_rfl
theorem get_spot : getM (varM 0) (cstM (.str "spot")) (some (.obj 0) :: r) [cD cs l s] = .ok (.dat (.int s)) [cD cs l s] := by kernel_rfl
theorem get_cells : getM (varM 0) (cstM (.str "cells")) (some (.obj 0) :: r) [cD cs l s] = .ok (.dat (.list (cs.map .int))) [cD cs l s] := by kernel_rfl
theorem put_left {m : EM} {v : Int} (h : m (some (.obj 0) :: r) [cD cs l s] = .ok (.dat (.int v)) [cD cs l s]) : putM (varM 0) (cstM (.str "left")) m (some (.obj 0) :: r) [cD cs l s] = .nx (some (.obj 0) :: r) [cD cs v s] := by
  unfold putM
  rw [h]
  kernel_rfl
theorem put_spot {m : EM} {v : Int} (h : m (some (.obj 0) :: r) [cD cs l s] = .ok (.dat (.int v)) [cD cs l s]) : putM (varM 0) (cstM (.str "spot")) m (some (.obj 0) :: r) [cD cs l s] = .nx (some (.obj 0) :: r) [cD cs l v] := by
  unfold putM
  rw [h]
  kernel_rfl
end
theorem atI_mod {cs : List Int} (hc : cs ≠ []) (i : Int) : ∃ c : Int, atI (cs.map PyData.int) (i % ((cs.map PyData.int).length : Nat)) = some (.int c) := by
  have hp : 0 < cs.length := List.length_pos_iff.mpr hc
  have hp' : (0 : Int) < ((cs.map PyData.int).length : Nat) := by rw [List.length_map]; omega
  have h0 := Int.emod_nonneg i (show (((cs.map PyData.int).length : Nat) : Int) ≠ 0 by omega)
  have h1 := Int.emod_lt_of_pos i hp'
  obtain ⟨n, hn⟩ := Int.eq_ofNat_of_zero_le h0
  rw [hn] at h1 ⊢
  have hl : n < (cs.map PyData.int).length := by omega
  have hl2 : n < cs.length := by rw [List.length_map] at hl; exact hl
  refine ⟨cs[n], ?_⟩
  rw [atI_nat hl]
  simp
theorem draw_ok {many : Int} (h0 : 0 < many) (h1 : many < 1073741824) {cs : List Int} {l s : Int} (hc : cs ≠ []) (s0 : 0 ≤ s) (s1 : s < 1000000000) :
    ∃ v l' s', f__law_draw [.obj 0, .dat (.int many)] [cD cs l s] = .ok (.dat (.int v)) [cD cs l' s'] ∧ 0 ≤ v ∧ v < many ∧ s ≤ s' ∧ s' ≤ s + 1 := by
  simp only [fnM_ap, m__law_draw, seqM_ap, ifS_ap]
  by_cases hl : 0 < l
  · refine ⟨l % many, l / many, s, ?_, Int.emod_nonneg _ (by omega), Int.emod_lt_of_pos _ h0, by omega, by omega⟩
    simp [-getM_ap, envOf, get_left, hl, gMod_i h0]
    rw [put_left (v := l / many) (by simp [-getM_ap, get_left, gDiv_i h0 h1])]
    simp
  · obtain ⟨c, hcc⟩ := atI_mod hc (s + 1)
    have ms : ∀ x : Int, cMul x (s + 1) = true := fun x => cMul_r (by omega)
    have m1 : ∀ x : Int, cMul x 48271 = true := fun x => cMul_r (by decide)
    have m2 : ∀ x : Int, cMul x 69621 = true := fun x => cMul_r (by decide)
    have hp : (0 : Int) < ((cs.map PyData.int).length : Nat) := by
      have := List.length_pos_iff.mpr hc
      rw [List.length_map]; omega
    refine ⟨(((((c % 2147483629 + 6133 * (s + 1) + 23 * (s + 1) * (s + 1)) * 48271) % 2147483647 + 93241 * (s + 1)) * 69621) % 2147483587 / 13) % many, l, s + 1, ?_, Int.emod_nonneg _ (by omega), Int.emod_lt_of_pos _ h0, by omega, by omega⟩
    simp [-getM_ap, envOf, get_left, hl, get_spot]
    rw [put_spot (v := s + 1) (by simp)]
    rw [List.length_map] at hp hcc
    simp [-getM_ap, get_cells, gMod_i hp, hcc, gMod_i (show (0 : Int) < 2147483629 by decide), gMul_i (ms _), gMul_i (m1 _), gMul_i (m2 _), gMod_i (show (0 : Int) < 2147483647 by decide), gMod_i (show (0 : Int) < 2147483587 by decide), gDiv_i (show (0 : Int) < 13 by decide) (show (13 : Int) < 1073741824 by decide), gMod_i h0]
end Pl.Law

set_option Elab.async false
set_option linter.all false
set_option maxRecDepth 100000
set_option maxHeartbeats 1000000
namespace Pl.Law
open PySem PySem.Spec PyProof.Rows L2 PySem.W Pl
/-- the state of the draws: at most n were drawn -/
def Dst (cs : List Int) (n : Nat) (st : List Cn) : Prop := ∃ l s : Int, st = [cD cs l s] ∧ 0 ≤ s ∧ s ≤ n
theorem Dst.mono {cs : List Int} {n m : Nat} {st : List Cn} (h : Dst cs n st) (k : n ≤ m) : Dst cs m st := by
  obtain ⟨l, s, a, b, c⟩ := h
  exact ⟨l, s, a, b, by omega⟩
section
variable {cs : List Int} (hc : cs ≠ [])
include hc
theorem dr {n : Nat} {st : List Cn} (h : Dst cs n st) (hn : n < 1000000) {many : Int} (h0 : 0 < many) (h1 : many < 1073741824) :
    ∃ (v : Int) (st' : List Cn), f__law_draw [.obj 0, .dat (.int many)] st = .ok (.dat (.int v)) st' ∧ 0 ≤ v ∧ v < many ∧ Dst cs (n + 1) st' := by
  obtain ⟨l, s, rfl, b, c⟩ := h
  obtain ⟨v, l', s', e, g1, g2, g3, g4⟩ := draw_ok h0 h1 (l := l) hc b (by omega)
  exact ⟨v, _, e, g1, g2, l', s', rfl, by omega, by omega⟩
theorem dr_of {n : Nat} {st : List Cn} (h : Dst cs n st) (hn : n < 1000000) {v : Val} {ds : List D} (hv : v = .dat (.list ds) ∨ v = .dat (.tuple ds)) (h0 : ds ≠ []) (h1 : ds.length < 1000000) :
    ∃ (d : D) (st' : List Cn), f__law_of [.obj 0, v] st = .ok (.dat d) st' ∧ d ∈ ds ∧ Dst cs (n + 1) st' := by
  have hp := List.length_pos_iff.mpr h0
  obtain ⟨i, st', e, g1, g2, g3⟩ := dr hc h hn (many := (ds.length : Int)) (by omega) (by omega)
  obtain ⟨k, rfl⟩ := Int.eq_ofNat_of_zero_le g1
  have hk : k < ds.length := by omega
  refine ⟨ds[k], st', ?_, List.getElem_mem _, g3⟩
  simp only [fnM_ap]
  rcases hv with rfl | rfl
  · simp [m__law_of, envOf, e, atI_nat hk]
  · simp [m__law_of, envOf, e, atI_nat hk]
end
/-! ### loops that draw -/
theorem for_rng {tg : Tg} {mt : SM} {lo : Int} (P : Nat → Env → List Cn → Prop) : ∀ (n : Nat) (env : Env) (st : List Cn), P 0 env st →
    (∀ k, k < n → ∀ env st, P k env st → ∃ env1 env' st', bindT tg (.int (lo + (k : Int))) env = some env1 ∧ mt env1 st = .nx env' st' ∧ P (k + 1) env' st') → ∃ env' st', forM tg mt (intsD lo n) env st = .nx env' st' ∧ P n env' st' := by
  have aux : ∀ (n i : Nat) (env : Env) (st : List Cn), P i env st → (∀ k, i ≤ k → k < i + n → ∀ env st, P k env st → ∃ env1 env' st', bindT tg (.int (lo + (k : Int))) env = some env1 ∧ mt env1 st = .nx env' st' ∧ P (k + 1) env' st') →
      ∃ env' st', forM tg mt ((List.range' i n).map fun (k : Nat) => .int (lo + (k : Int))) env st = .nx env' st' ∧ P (i + n) env' st' := by
    intro n
    induction n with
    | zero => intro i env st h _; exact ⟨env, st, rfl, h⟩
    | succ n ih =>
      intro i env st h hs
      obtain ⟨env1, env2, st2, h1, h2, h3⟩ := hs i (Nat.le_refl _) (by omega) env st h
      obtain ⟨env3, st3, h4, h5⟩ := ih (i + 1) env2 st2 h3 fun k a b => hs k (by omega) (by omega)
      refine ⟨env3, st3, ?_, by rw [show i + (n + 1) = i + 1 + n by omega]; exact h5⟩
      rw [List.range'_succ, List.map_cons, forM]
      dsimp only
      rw [h1]
      dsimp only
      rw [h2]
      exact h4
  intro n env st h hs
  obtain ⟨e, s, h1, h2⟩ := aux n 0 env st h fun k _ hk => hs k (by omega)
  refine ⟨e, s, ?_, by rw [Nat.zero_add] at h2; exact h2⟩
  rw [← h1]
  unfold intsD
  rw [List.range_eq_range']
/-- a comprehension whose condition draws -/
theorem lc_nd {α : Type} (enc f : α → D) (S : Nat → List Cn → Prop) {i : Nat} {mc me : EM} {env : Env} : ∀ (xs : List α) (n : Nat) (acc : List D) (st : List Cn), acc.length + xs.length ≤ sizeLine → S n st →
    (∀ x ∈ xs, ∀ m, n ≤ m → m < n + xs.length → ∀ st, S m st → ∃ b st', mc (env.set i (some (.dat (enc x)))) st = .ok (.dat (.bool b)) st' ∧ S (m + 1) st') → (∀ x ∈ xs, ∀ st, ∃ v, me (env.set i (some (.dat (enc x)))) st = .ok v st ∧ asDat v = some (f x)) →
    ∃ (ys : List α) (st' : List Cn), ys.Sublist xs ∧ lcM (.nm i) mc me (xs.map enc) acc env st = .ok (.fr (.lst (acc ++ ys.map f))) st' ∧ S (n + xs.length) st'
  | [], n, acc, st, _, h, _, _ => ⟨[], st, List.Sublist.refl _, by simp [lcM], h⟩
  | x :: xs, n, acc, st, hl, h, hc, he => by
    simp only [List.length_cons] at hl hc
    obtain ⟨b, st1, h1, h2⟩ := hc x (by simp) n (Nat.le_refl _) (by omega) st h
    rw [List.map_cons, lcM]
    dsimp only
    rw [bindT_nm]
    dsimp only
    rw [h1]
    cases b with
    | false =>
      obtain ⟨ys, st2, g1, g2, g3⟩ := lc_nd enc f S (mc := mc) (me := me) (env := env) xs (n + 1) acc st1 (by omega) h2 (fun y hy m a b => hc y (by simp [hy]) m (by omega) (by omega)) fun y hy => he y (by simp [hy])
      exact ⟨ys, st2, g1.cons _, g2, by rw [List.length_cons, show n + (xs.length + 1) = n + 1 + xs.length by omega]; exact g3⟩
    | true =>
      obtain ⟨v, q1, q2⟩ := he x (by simp) st1
      obtain ⟨ys, st2, g1, g2, g3⟩ := lc_nd enc f S (mc := mc) (me := me) (env := env) xs (n + 1) (acc ++ [f x]) st1 (by simp; omega) h2 (fun y hy m a b => hc y (by simp [hy]) m (by omega) (by omega)) fun y hy => he y (by simp [hy])
      refine ⟨x :: ys, st2, g1.cons₂ _, ?_, by rw [List.length_cons, show n + (xs.length + 1) = n + 1 + xs.length by omega]; exact g3⟩
      dsimp only
      rw [q1]
      dsimp only
      rw [q2]
      dsimp only
      rw [if_pos (by omega), g2]
      simp
/-- a comprehension whose element draws -/
theorem lc_dr {α β : Type} (enc : α → D) (en : β → D) (Q : β → Prop) (S : Nat → List Cn → Prop) {i : Nat} {me : EM} {env : Env} : ∀ (xs : List α) (n : Nat) (acc : List D) (st : List Cn), acc.length + xs.length ≤ sizeLine → S n st →
    (∀ x ∈ xs, ∀ m, n ≤ m → m < n + xs.length → ∀ st, S m st → ∃ b st', me (env.set i (some (.dat (enc x)))) st = .ok (.dat (en b)) st' ∧ Q b ∧ S (m + 1) st') →
    ∃ (ys : List β) (st' : List Cn), ys.length = xs.length ∧ (∀ y ∈ ys, Q y) ∧ lcM (.nm i) yesM me (xs.map enc) acc env st = .ok (.fr (.lst (acc ++ ys.map en))) st' ∧ S (n + xs.length) st'
  | [], n, acc, st, _, h, _ => ⟨[], st, rfl, by simp, by simp [lcM], h⟩
  | x :: xs, n, acc, st, hl, h, hc => by
    simp only [List.length_cons] at hl hc
    obtain ⟨b, st1, h1, hb, h2⟩ := hc x (by simp) n (Nat.le_refl _) (by omega) st h
    obtain ⟨ys, st2, g1, g2, g3, g4⟩ := lc_dr enc en Q S (me := me) (env := env) xs (n + 1) (acc ++ [en b]) st1 (by simp; omega) h2 (fun y hy m a b => hc y (by simp [hy]) m (by omega) (by omega))
    refine ⟨b :: ys, st2, by simp [g1], fun y hy => ?_, ?_, by rw [List.length_cons, show n + (xs.length + 1) = n + 1 + xs.length by omega]; exact g4⟩
    · rcases List.mem_cons.mp hy with rfl | hm
      · exact hb
      · exact g2 y hm
    · rw [List.map_cons, lcM]
      dsimp only
      rw [bindT_nm]
      dsimp only
      rw [yesM_ap]
      dsimp only
      rw [h1]
      dsimp only [asDat]
      rw [if_pos (by omega), g3]
      simp
end Pl.Law

set_option Elab.async false
set_option linter.all false
set_option maxRecDepth 100000
set_option maxHeartbeats 1000000
namespace Pl.Law
open PySem PySem.Spec PyProof.Rows L2 PySem.W Pl Ts
/-! ### drawn rules -/
def kAll : List (List Str) := [["a", "b", "c", "d"], ["ad", "mail", "shop", "web"], ["a", "aa", "ab", "zzzzzz"]]
theorem kAll_enc : (kAll.map fun l => PyData.tuple (l.map PyData.str)) = [.tuple [.str "a", .str "b", .str "c", .str "d"], .tuple [.str "ad", .str "mail", .str "shop", .str "web"], .tuple [.str "a", .str "aa", .str "ab", .str "zzzzzz"]] := rfl
def KsIn (ks : List Str) : Prop := ∃ l ∈ kAll, ∃ n : Nat, n < 4 ∧ ks = l.take (n + 1)
section
variable {cs : List Int} (hc : cs ≠ [])
include hc
theorem kinds_dr {n : Nat} {st : List Cn} (h : Dst cs n st) (hn : n + 2 < 1000000) {most : Int} (h0 : 0 < most) (h4 : most ≤ 4) :
    ∃ (ks : List Str) (st' : List Cn), f__law_kinds [.obj 0, .dat (.int most)] st = .ok (.dat (.tuple (ks.map .str))) st' ∧ KsIn ks ∧ Dst cs (n + 2) st' := by
  obtain ⟨d, st1, e1, hd, s1⟩ := dr_of hc h (by omega) (v := .dat (.list (kAll.map fun l => .tuple (l.map .str)))) (Or.inl rfl) (by decide) (by decide)
  obtain ⟨v, st2, e2, v0, v1, s2⟩ := dr hc s1 (by omega) (many := most) h0 (by omega)
  obtain ⟨l, hl, rfl⟩ := List.mem_map.mp hd
  obtain ⟨k, rfl⟩ := Int.eq_ofNat_of_zero_le v0
  have hk : k < 4 := by omega
  refine ⟨l.take (k + 1), st2, ?_, ⟨l, hl, k, hk, rfl⟩, s2⟩
  simp only [fnM_ap]
  rw [kAll_enc] at e1
  have z4 : (4 : Nat) ≤ sizeLine := by rw [sizeLine_eq]; decide
  have z3 : (3 : Nat) ≤ sizeLine := by rw [sizeLine_eq]; decide
  simp [m__law_kinds, envOf, z3, z4, e1, e2]
  have hk' : k = 0 ∨ k = 1 ∨ k = 2 ∨ k = 3 := by omega
  have hl' : l = (["a", "b", "c", "d"] : List Str) ∨ l = (["ad", "mail", "shop", "web"] : List Str) ∨ l = (["a", "aa", "ab", "zzzzzz"] : List Str) := by simpa [kAll] using hl
  rcases hl' with rfl | rfl | rfl <;> rcases hk' with rfl | rfl | rfl | rfl <;> kernel_rfl
end
end Pl.Law

set_option Elab.async false
set_option linter.all false
set_option maxRecDepth 100000
set_option maxHeartbeats 1000000
namespace Pl.Law
open PySem PySem.Spec PyProof.Rows L2 PySem.W Pl Ts
theorem le_sz {n : Nat} (h : n ≤ 1000) : n ≤ sizeLine := by rw [sizeLine_eq]; omega
@[simp] theorem gAdd_t {a b : List D} : gAdd (.dat (.tuple a)) (.dat (.tuple b)) = if a.length + b.length ≤ sizeLine then some (.dat (.tuple (a ++ b))) else none := by
  show (if _ then _ else _) = _
  rfl
@[simp] theorem gAdd_ff {a b : List D} : gAdd (.fr (.lst a)) (.fr (.lst b)) = if a.length + b.length ≤ sizeLine then some (.fr (.lst (a ++ b))) else none := by
  unfold gAdd
  show ((none : Option Val).or ((none : Option Val).or ((if _ then _ else _ : Option Val).or none))) = _
  split <;> rfl
@[simp] theorem gAdd_fd {a b : List D} : gAdd (.fr (.lst a)) (.dat (.list b)) = if a.length + b.length ≤ sizeLine then some (.fr (.lst (a ++ b))) else none := by
  unfold gAdd
  show ((none : Option Val).or ((none : Option Val).or ((if _ then _ else _ : Option Val).or none))) = _
  split <;> rfl
@[simp] theorem gAdd_df {a b : List D} : gAdd (.dat (.list a)) (.fr (.lst b)) = if a.length + b.length ≤ sizeLine then some (.fr (.lst (a ++ b))) else none := by
  unfold gAdd
  show ((none : Option Val).or ((none : Option Val).or ((if _ then _ else _ : Option Val).or none))) = _
  split <;> rfl
def rowB : SM := (seqM (setM 8 (frzM (callF 2 f__law_of (acons (varM 0) (acons (lstM (acons (cstM (.int 0)) (acons (cstM (.int 40)) (acons (cstM (.int 100)) (acons (callF 2 f__law_draw (acons (varM 0) (acons (cstM (.int 101)) anil))) anil))))) anil)))))
  (setM 6 (frzM (binM gAdd (varM 6) (tupM (acons (callM gMin (acons (varM 8) (acons (binM gSub (cstM (.int 100)) (callM gSum (acons (varM 6) anil))) anil))) anil))))))
def placeB : SM := (seqM (setM 6 (frzM (tupM anil)))
  (seqM (frM (rng1I (acons (binM gAdd (varM 5) (cstM (.int 1))) anil)) (.nm 7) rowB)
  (appM 4 (varM 6))))
def RowOk (row : List Int) : Prop := (∀ x ∈ row, 0 ≤ x ∧ x ≤ 100) ∧ row.sum ≤ 100
theorem RowOk.snoc {row : List Int} (h : RowOk row) {p : Int} (h0 : 0 ≤ p) (h1 : p ≤ 100) : RowOk (row ++ [if 100 - row.sum < p then 100 - row.sum else p]) := by
  obtain ⟨a, b⟩ := h
  refine ⟨fun x hx => ?_, ?_⟩
  · rcases List.mem_append.mp hx with hx | hx
    · exact a x hx
    · rw [List.mem_singleton] at hx
      subst hx
      split <;> omega
  · rw [List.sum_append]
    simp
    split <;> omega
theorem for_rng0 {tg : Tg} {mt : SM} (P : Nat → Env → List Cn → Prop) (n : Nat) (env : Env) (st : List Cn) (h : P 0 env st)
    (hs : ∀ k, k < n → ∀ env st, P k env st → ∃ env1 env' st', bindT tg (.int (k : Int)) env = some env1 ∧ mt env1 st = .nx env' st' ∧ P (k + 1) env' st') : ∃ env' st', forM tg mt (intsD 0 n) env st = .nx env' st' ∧ P n env' st' :=
  for_rng (lo := 0) P n env st h (fun k hk env st hp => by rw [Int.zero_add]; exact hs k hk env st hp)
section
variable {cs : List Int} (hc : cs ≠ [])
include hc
theorem row_step {n : Nat} {st : List Cn} (h : Dst cs n st) (hn : n + 2 < 1000000) {row : List Int} (hr : RowOk row) (hl : row.length ≤ 10) (x1 x2 x3 x4 x5 x7 x8 x9 x10 : Option Val) :
    ∃ (p : Int) (y8 : Option Val) (st' : List Cn), rowB [some (.obj 0), x1, x2, x3, x4, x5, some (.dat (.tuple (row.map .int))), x7, x8, x9, x10] st = .nx [some (.obj 0), x1, x2, x3, x4, x5, some (.dat (.tuple ((row ++ [p]).map .int))), x7, y8, x9, x10] st' ∧ RowOk (row ++ [p]) ∧ Dst cs (n + 2) st' := by
  obtain ⟨v, st1, e1, v0, v1, s1⟩ := dr hc h (by omega) (many := 101) (by decide) (by decide)
  obtain ⟨d, st2, e2, hd, s2⟩ := dr_of hc s1 (by omega) (v := .dat (.list [.int 0, .int 40, .int 100, .int v])) (Or.inl rfl) (by simp) (by simp)
  have hp : ∃ p : Int, d = .int p ∧ 0 ≤ p ∧ p ≤ 100 := by
    simp only [List.mem_cons, List.not_mem_nil, or_false] at hd
    rcases hd with rfl | rfl | rfl | rfl
    · exact ⟨_, rfl, by decide, by decide⟩
    · exact ⟨_, rfl, by decide, by decide⟩
    · exact ⟨_, rfl, by decide, by decide⟩
    · exact ⟨_, rfl, by omega, by omega⟩
  obtain ⟨p, rfl, p0, p1⟩ := hp
  refine ⟨if 100 - row.sum < p then 100 - row.sum else p, some (.dat (.int p)), st2, ?_, hr.snoc p0 p1, s2⟩
  have z4 : (4 : Nat) ≤ sizeLine := le_sz (by omega)
  have z1 : (1 : Nat) ≤ sizeLine := le_sz (by omega)
  have zr : row.length + 1 ≤ sizeLine := le_sz (by omega)
  simp [rowB, e1, z4, e2, gSum_t, z1, zr]
theorem row_loop {n k : Nat} (hk : k ≤ 10) {st : List Cn} (h : Dst cs n st) (hn : n + 2 * k < 999990) (x1 x2 x3 x4 x5 x7 x8 x9 x10 : Option Val) :
    ∃ (row : List Int) (y7 y8 : Option Val) (st' : List Cn), forM (.nm 7) rowB (intsD 0 k) [some (.obj 0), x1, x2, x3, x4, x5, some (.dat (.tuple [])), x7, x8, x9, x10] st = .nx [some (.obj 0), x1, x2, x3, x4, x5, some (.dat (.tuple (row.map .int))), y7, y8, x9, x10] st' ∧ row.length = k ∧ RowOk row ∧ Dst cs (n + 2 * k) st' := by
  obtain ⟨env', st', e, row, y7, y8, rfl, hl, hr, hs⟩ := for_rng0 (tg := .nm 7) (mt := rowB)
    (fun i env st => ∃ (row : List Int) (y7 y8 : Option Val), env = [some (.obj 0), x1, x2, x3, x4, x5, some (.dat (.tuple (row.map .int))), y7, y8, x9, x10] ∧ row.length = i ∧ RowOk row ∧ Dst cs (n + 2 * i) st)
    k _ st ⟨[], x7, x8, rfl, rfl, ⟨by simp, by decide⟩, h⟩ (by
      rintro i hi env st ⟨row, y7, y8, rfl, hl, hr, hs⟩
      obtain ⟨p, z8, st2, e2, hr2, hs2⟩ := row_step hc hs (by omega) hr (by omega) x1 x2 x3 x4 x5 (some (.dat (.int (i : Int)))) y8 x9 x10
      exact ⟨_, _, st2, rfl, e2, row ++ [p], _, z8, rfl, by simp [hl], hr2, hs2⟩)
  exact ⟨row, y7, y8, st', e, hl, hr, hs⟩
theorem place_step {n k : Nat} (hk : k + 1 ≤ 10) {st : List Cn} (h : Dst cs n st) (hn : n + 2 * (k + 1) < 999990) {rows : List (List Int)} (hl : rows.length ≤ 10) (x1 x2 x3 x6 x7 x8 x9 x10 : Option Val) :
    ∃ (row : List Int) (y6 y7 y8 : Option Val) (st' : List Cn), placeB [some (.obj 0), x1, x2, x3, some (.fr (.lst (rows.map fun r => .tuple (r.map .int)))), some (.dat (.int k)), x6, x7, x8, x9, x10] st = .nx [some (.obj 0), x1, x2, x3, some (.fr (.lst ((rows ++ [row]).map fun r => .tuple (r.map .int)))), some (.dat (.int k)), y6, y7, y8, x9, x10] st' ∧ row.length = k + 1 ∧ RowOk row ∧ Dst cs (n + 2 * (k + 1)) st' := by
  obtain ⟨row, y7, y8, st', e, hr, ho, hs⟩ := row_loop hc hk h hn x1 x2 x3 (some (.fr (.lst (rows.map fun r => .tuple (r.map .int))))) (some (.dat (.int k))) x7 x8 x9 x10
  refine ⟨row, some (.dat (.tuple (row.map .int))), y7, y8, st', ?_, hr, ho, hs⟩
  have hi : ∀ env : Env, env[5]? = some (some (.dat (.int k))) → rng1I (acons (binM gAdd (varM 5) (cstM (.int 1))) anil) env st = .ok (intsD 0 (k + 1)) st := fun env h => by
    have b : inb ((k : Int) + 1) = true := inb_nat (n := k + 1) (by omega)
    have t : ((k : Int) + 1).toNat = k + 1 := by omega
    simp [h, b, t]
  simp only [placeB, seqM_ap]
  simp
  rw [frM_ap _ _ _ _ _ (hi _ (by simp)), e]
  have z : rows.length < sizeLine := Nat.lt_of_lt_of_le (Nat.lt_succ_self _) (le_sz (by omega))
  simp [appM, z]
end
end Pl.Law

set_option Elab.async false
set_option linter.all false
set_option maxRecDepth 100000
set_option maxHeartbeats 1000000
namespace Pl.Law
open PySem PySem.Spec PyProof.Rows L2 PySem.W Pl Ts
/-! ### drawn shares -/
theorem upI_pw : ∀ {ys : List Int}, ys.Pairwise (· < ·) → upI ys = true
  | [], _ => rfl
  | [a], _ => rfl
  | a :: b :: r, h => by
    have h2 := upI_pw (List.Pairwise.of_cons h)
    have h1 : a < b := (List.pairwise_cons.mp h).1 b (by simp)
    unfold upI at h2 ⊢
    simp only [List.drop_succ_cons, List.drop_zero, List.zip_cons_cons, List.all_cons, Bool.and_eq_true, decide_eq_true_eq] at h2 ⊢
    exact ⟨h1, h2⟩
theorem gDs_ints : ∀ (ys : List Int), gDs (ys.map .int) = true
  | [] => rfl
  | y :: ys => by simp [gDs, gD, gDs_ints ys]
theorem dInts_all {ys : List Int} {l g : Int} (h : ∀ x ∈ ys, l ≤ x ∧ x ≤ g) : dInts (.tuple (ys.map .int)) l g = true := by
  simp only [dInts, List.all_eq_true]
  intro d hd
  obtain ⟨x, hx, rfl⟩ := List.mem_map.mp hd
  simp [dInt, h x hx]
theorem dRows_ok : ∀ (rows : List (List Int)) (n : Nat), (∀ i row, rows[i]? = some row → row.length = n + i + 1 ∧ (∀ x ∈ row, 0 ≤ x ∧ x ≤ 100) ∧ row.sum ≤ 100) →
    ((enumP n (rows.map fun r => PyData.tuple (r.map .int))).all fun p => dRow p.2 (p.1 + 1)) = true
  | [], _, _ => rfl
  | r :: rs, n, h => by
    obtain ⟨h1, h2, h3⟩ := h 0 r rfl
    have ih := dRows_ok rs (n + 1) fun i row hi => by
      have := h (i + 1) row hi
      rw [show n + 1 + i + 1 = n + (i + 1) + 1 by omega]
      exact this
    simp only [List.map_cons, enumP, List.all_cons, Bool.and_eq_true]
    refine ⟨?_, ih⟩
    have e : ((r.length : Int) = (n : Int) + 1) := by omega
    simp [dRow, dTup, e, dInts_all h2, dSum100, ints_map, h3]
theorem dShares_ok {n : Nat} : ∀ {sh : Sh}, ShOk n sh → dShares (encS sh) n = true
  | .even, _ => by kernel_rfl
  | .places rows, h => by
    obtain ⟨h1, h2⟩ := h
    have := dRows_ok rows 0 (by simpa using h2)
    simp only [encS, dShares]
    rw [if_neg (by decide +kernel), if_pos True.intro]
    simp only [dRows, List.length_map, h1]
    simpa using this
  | .ages ms ws, h => by
    obtain ⟨h1, h2, h3, h4, h5⟩ := h
    simp only [encS, dShares]
    rw [if_neg (by decide +kernel), if_neg (by decide +kernel), if_pos True.intro]
    have e : ((ws.length : Int) = (ms.length : Int) + 1) := by omega
    have e2 : (ms.length : Int) ≤ 3 := by omega
    simp [dMarks, dInts_all h1, e2, dUpI, ints_map, upI_pw h3, dWeights, dTup, e, dInts_all h5]
theorem gDs_rows : ∀ (rows : List (List Int)), (∀ r ∈ rows, r.length ≤ 1000) → gDs (rows.map fun r => PyData.tuple (r.map .int)) = true
  | [], _ => rfl
  | r :: rs, h => by
    have h1 : r.length ≤ 1000000 := Nat.le_trans (h r (by simp)) (by omega)
    simp [gDs, gD, gDs_ints, gDs_rows rs fun x hx => h x (by simp [hx]), h1]
theorem gD_sh {n : Nat} (hn : n ≤ 100) : ∀ {sh : Sh}, ShOk n sh → gD (encS sh) = true
  | .even, _ => by kernel_rfl
  | .places rows, h => by
    obtain ⟨h1, h2⟩ := h
    have hr : ∀ r ∈ rows, r.length ≤ 1000 := fun r hr => by
      obtain ⟨i, hi, rfl⟩ := List.mem_iff_getElem.mp hr
      have := (h2 i _ (List.getElem?_eq_getElem hi)).1
      omega
    have l1 : rows.length ≤ 1000000 := by omega
    have l2 : ("places" : Str).length ≤ 1000000 := by decide +kernel
    simp only [encS, gD, gDs, List.length_map, gDs_rows rows hr, l1, l2, decide_true, Bool.and_true]
    rfl
  | .ages ms ws, h => by
    obtain ⟨h1, h2, h3, h4, h5⟩ := h
    have l1 : ms.length ≤ 1000000 := by omega
    have l3 : ws.length ≤ 1000000 := by omega
    have l2 : ("ages" : Str).length ≤ 1000000 := by decide +kernel
    simp only [encS, gD, gDs, List.length_map, gDs_ints, l1, l2, l3, decide_true, Bool.and_true]
    rfl
section
variable {cs : List Int} (hc : cs ≠ [])
include hc
theorem place_loop {n c : Nat} (hk : c ≤ 4) {st : List Cn} (h : Dst cs n st) (hn : n + 50 < 999990) (x1 x2 x3 x5 x6 x7 x8 x9 x10 : Option Val) :
    ∃ (rows : List (List Int)) (y5 y6 y7 y8 : Option Val) (st' : List Cn), forM (.nm 5) placeB (intsD 0 c) [some (.obj 0), x1, x2, x3, some (.fr (.lst [])), x5, x6, x7, x8, x9, x10] st = .nx [some (.obj 0), x1, x2, x3, some (.fr (.lst (rows.map fun r => .tuple (r.map .int)))), y5, y6, y7, y8, x9, x10] st' ∧ ShOk c (.places rows) ∧ Dst cs (n + 40) st' := by
  obtain ⟨env', st', e, rows, y5, y6, y7, y8, rfl, hl, hr, hs⟩ := for_rng0 (tg := .nm 5) (mt := placeB)
    (fun i env st => ∃ (rows : List (List Int)) (y5 y6 y7 y8 : Option Val), env = [some (.obj 0), x1, x2, x3, some (.fr (.lst (rows.map fun r => .tuple (r.map .int)))), y5, y6, y7, y8, x9, x10] ∧ rows.length = i ∧
      (∀ j row, rows[j]? = some row → row.length = j + 1 ∧ (∀ x ∈ row, 0 ≤ x ∧ x ≤ 100) ∧ row.sum ≤ 100) ∧ Dst cs (n + 10 * i) st)
    c _ st ⟨[], x5, x6, x7, x8, rfl, rfl, by simp, h⟩ (by
      rintro i hi env st ⟨rows, y5, y6, y7, y8, rfl, hl, hr, hs⟩
      obtain ⟨row, z6, z7, z8, st2, e2, hr1, hr2, hs2⟩ := place_step hc (k := i) (by omega) hs (by omega) (rows := rows) (by omega) x1 x2 x3 y6 y7 y8 x9 x10
      refine ⟨_, _, st2, rfl, e2, rows ++ [row], _, z6, z7, z8, rfl, by simp [hl], ?_, hs2.mono (by omega)⟩
      intro j r hj
      by_cases hjl : j < rows.length
      · rw [List.getElem?_append_left hjl] at hj
        exact hr j r hj
      · rw [List.getElem?_append_right (by omega)] at hj
        have : j - rows.length = 0 := by
          by_cases h0 : j - rows.length = 0
          · exact h0
          · rw [List.getElem?_eq_none (by simp; omega)] at hj
            cases hj
        rw [this] at hj
        cases hj
        exact ⟨by omega, hr2⟩)
  exact ⟨rows, y5, y6, y7, y8, st', e, ⟨hl, hr⟩, hs.mono (by omega)⟩
end
end Pl.Law

set_option Elab.async false
set_option linter.all false
set_option maxRecDepth 100000
set_option maxHeartbeats 1000000
namespace Pl.Law
open PySem PySem.Spec PyProof.Rows L2 PySem.W Pl Ts
theorem intsD_1 (h : Nat) : intsD 1 h = ((List.range h).map fun (k : Nat) => (1 : Int) + (k : Int)).map PyData.int := by
  unfold intsD
  rw [List.map_map]
  rfl
theorem range_pw (h : Nat) : ((List.range h).map fun (k : Nat) => (1 : Int) + (k : Int)).Pairwise (· < ·) := by
  rw [List.pairwise_map]
  exact List.pairwise_lt_range.imp (fun h => by omega)
section
variable {cs : List Int} (hc : cs ≠ [])
include hc
theorem shares_dr {n : Nat} {st : List Cn} (h : Dst cs n st) (hn : n + 300 < 900000) {c hours : Nat} (hk : c ≤ 4) (hh : hours ≤ 60) :
    ∃ (sh : Sh) (st' : List Cn), f__law_shares [.obj 0, .dat (.int c), .dat (.int hours)] st = .ok (.dat (encS sh)) st' ∧ ShOk c sh ∧ Dst cs (n + 200) st' := by
  obtain ⟨w, st1, e1, w0, w3, s1⟩ := dr hc h (by omega) (many := 3) (by decide) (by decide)
  have z1 : (1 : Nat) ≤ sizeLine := le_sz (by omega)
  have z2 : (2 : Nat) ≤ sizeLine := le_sz (by omega)
  have z3 : (3 : Nat) ≤ sizeLine := le_sz (by omega)
  by_cases hw0 : w = 0
  · subst hw0
    refine ⟨.even, st1, ?_, trivial, s1.mono (by omega)⟩
    simp only [fnM_ap]
    simp [m__law_shares, envOf, e1, z1, encS]
  by_cases hw1 : w = 1
  · subst hw1
    obtain ⟨rows, y5, y6, y7, y8, st2, e2, ho, s2⟩ := place_loop hc hk s1 (by omega) (some (.dat (.int c))) (some (.dat (.int hours))) (some (.dat (.int 1))) none none none none none none
    refine ⟨.places rows, st2, ?_, ho, s2.mono (by omega)⟩
    have hi : ∀ env : Env, env[1]? = some (some (.dat (.int c))) → rng1I (acons (varM 1) anil) env st1 = .ok (intsD 0 c) st1 := fun env h => by
      have b : inb (c : Int) = true := inb_nat (by omega)
      simp [h, b]
    simp only [fnM_ap, m__law_shares, seqM_ap]
    simp [envOf, e1]
    rw [frM_ap _ _ _ _ _ (hi _ (by simp))]
    change (((forM (.nm 5) placeB _ _ _).an _).an _).fin = _
    rw [e2]
    simp [z2, encS]
  obtain ⟨ms0, st2, hsub, e2, s2⟩ := lc_nd (α := Int) .int .int (Dst cs) (i := 10) (mc := binM gEqq (callF 2 f__law_draw (acons (varM 0) (acons (cstM (.int 3)) anil))) (cstM (.int 0))) (me := varM 10)
    (env := [some (.obj 0), some (.dat (.int c)), some (.dat (.int hours)), some (.dat (.int w)), some (.fr (.lst [])), none, none, none, none, none, none]) ((List.range hours).map fun (k : Nat) => (1 : Int) + (k : Int)) (n + 1) [] st1 (by simp; exact le_sz (by omega)) s1
    (by
      intro x hx m hm1 hm2 st hs
      rw [List.length_map, List.length_range] at hm2
      obtain ⟨v, st3, e3, _, _, s3⟩ := dr hc hs (by omega) (many := 3) (by decide) (by decide)
      exact ⟨decide (v = 0), st3, by simp [e3], s3⟩)
    (by intro x hx st; exact ⟨_, by simp; rfl, rfl⟩)
  obtain ⟨ms, hms⟩ : ∃ ms, ms = ms0.take 3 := ⟨_, rfl⟩
  have ct : cutD (ms0.map PyData.int) none (some 3) = ms.map .int := by
    rw [hms]
    exact (cut_take _ 3).trans (by rw [List.map_take])
  have hpw : ms.Pairwise (· < ·) := by
    rw [hms]
    exact ((range_pw hours).sublist hsub).sublist (List.take_sublist _ _)
  have hmem : ∀ x ∈ ms, 1 ≤ x ∧ x ≤ 60 := fun x hx => by
    rw [hms] at hx
    have := hsub.subset (List.mem_of_mem_take hx)
    obtain ⟨k, hk, rfl⟩ := List.mem_map.mp this
    rw [List.mem_range] at hk
    omega
  have hlen : ms.length ≤ 3 := by rw [hms, List.length_take]; omega
  rw [List.length_map, List.length_range] at s2
  obtain ⟨ws, st4, hwl, hwm, e4, s4⟩ := lc_dr (α := Nat) (β := Int) (fun k => .int ((0 : Int) + (k : Int))) .int (fun b => 0 ≤ b ∧ b ≤ 9) (Dst cs) (i := 5) (me := callF 2 f__law_draw (acons (varM 0) (acons (cstM (.int 4)) anil)))
    (env := [some (.obj 0), some (.dat (.int c)), some (.dat (.int hours)), some (.dat (.int w)), some (.fr (.lst [])), none, none, none, none, some (.dat (.tuple (ms.map .int))), none]) (List.range (ms.length + 1)) (n + 1 + hours) [] st2 (by simp; exact le_sz (by omega)) s2
    (by
      intro x hx m hm1 hm2 st hs
      rw [List.length_range] at hm2
      obtain ⟨v, st3, e3, v0, v1, s3⟩ := dr hc hs (by omega) (many := 4) (by decide) (by decide)
      exact ⟨v, st3, by simp [e3], ⟨v0, by omega⟩, s3⟩)
  rw [List.length_range] at s4 hwl
  refine ⟨.ages ms ws, st4, ?_, ⟨hmem, hlen, hpw, hwl, hwm⟩, s4.mono (by omega)⟩
  have hi : ∀ env : Env, env[2]? = some (some (.dat (.int hours))) → rng2I (acons (cstM (.int 1)) (acons (binM gAdd (varM 2) (cstM (.int 1))) anil)) env st1 = .ok (((List.range hours).map fun (k : Nat) => (1 : Int) + (k : Int)).map PyData.int) st1 := fun env h => by
    have b : inb ((hours : Int) + 1) = true := inb_nat (n := hours + 1) (by omega)
    have b1 : inb (1 : Int) = true := inb_nat (n := 1) (by omega)
    have t : ((hours : Int) + 1 - 1).toNat = hours := by omega
    simp only [rng2I_ap]
    simp [h, b, b1, t, intsD_1]
  have hi2 : ∀ env : Env, env[9]? = some (some (.dat (.tuple (ms.map .int)))) → rng1I (acons (binM gAdd (callM gLen (acons (varM 9) anil)) (cstM (.int 1))) anil) env st2 = .ok ((List.range (ms.length + 1)).map fun (k : Nat) => .int ((0 : Int) + (k : Int))) st2 := fun env h => by
    have b : inb ((ms.length : Int) + 1) = true := inb_nat (n := ms.length + 1) (by omega)
    have t : ((ms.length : Int) + 1).toNat = ms.length + 1 := by omega
    simp only [rng1I_ap]
    simp [h, b, t, intsD]
  simp only [fnM_ap, m__law_shares, seqM_ap]
  simp [envOf, e1, hw0, hw1]
  rw [compM_ap _ _ _ _ _ _ _ (hi _ (by simp))]
  have a2 := e2
  simp only [List.nil_append] at a2
  simp only [wipeE, List.set_cons_succ, List.set_cons_zero]
  rw [a2]
  simp [ct]
  rw [compM_ap _ _ _ _ _ _ _ (hi2 _ (by simp))]
  simp only [wipeE, List.set_cons_succ, List.set_cons_zero]
  rw [e4]
  simp [z3, encS]
end
end Pl.Law

set_option Elab.async false
set_option linter.all false
set_option maxRecDepth 100000
set_option maxHeartbeats 1000000
namespace Pl.Law
open PySem PySem.Spec PyProof.Rows L2 PySem.W Pl Ts
/-! ### drawn rules -/
def ksOkB (ks : List Str) : Bool := dKinds (.tuple (ks.map .str)) && decide (ks.Pairwise fun a b => strLt a b = true) && (ks.all fun k => Nat.ble k.length 6) && decide ks.Nodup && Nat.ble ks.length 4 && Nat.ble 1 ks.length && (ks.all fun k => (PyData.str k).leavesShort 13) && (ks.all fun k => (PyData.str k).canLay0)
theorem ksOk_all : (kAll.all fun l => (List.range 4).all fun n => ksOkB (l.take (n + 1))) = true := by decide +kernel
structure KsOk (ks : List Str) : Prop where
  kd : dKinds (.tuple (ks.map .str)) = true
  pw : ks.Pairwise fun a b => strLt a b = true
  l6 : ∀ k ∈ ks, k.length ≤ 6
  nd : ks.Nodup
  l4 : ks.length ≤ 4
  l1 : 1 ≤ ks.length
  ls : ∀ k ∈ ks, (PyData.str k).leavesShort 13 = true
  cl : ∀ k ∈ ks, (PyData.str k).canLay0 = true
theorem ksOk_of {ks : List Str} (b : ksOkB ks = true) : KsOk ks := by
  simp only [ksOkB, Bool.and_eq_true, List.all_eq_true, decide_eq_true_eq] at b
  obtain ⟨⟨⟨⟨⟨⟨⟨b1, b2⟩, b3⟩, b4⟩, b5⟩, b6⟩, b7⟩, b8⟩ := b
  exact ⟨b1, b2, fun k hk => Nat.le_of_ble_eq_true (b3 k hk), b4, Nat.le_of_ble_eq_true b5, Nat.le_of_ble_eq_true b6, b7, b8⟩
theorem KsIn.ok {ks : List Str} (h : KsIn ks) : KsOk ks := by
  obtain ⟨l, hl, n, hn, rfl⟩ := h
  have a := List.all_eq_true.mp ksOk_all l hl
  have b := List.all_eq_true.mp a n (List.mem_range.mpr hn)
  exact ksOk_of b
theorem upS_pw : ∀ {ys : List Str}, ys.Pairwise (fun a b => strLt a b = true) → upS ys = true
  | [], _ => rfl
  | [a], _ => rfl
  | a :: b :: r, h => by
    have h2 := upS_pw (List.Pairwise.of_cons h)
    have h1 : strLt a b = true := (List.pairwise_cons.mp h).1 b (by simp)
    unfold upS at h2 ⊢
    simp only [List.drop_succ_cons, List.drop_zero, List.zip_cons_cons, List.all_cons, Bool.and_eq_true] at h2 ⊢
    exact ⟨h1, h2⟩
theorem gDs_strs : ∀ {ks : List Str}, (∀ k ∈ ks, k.length ≤ 6) → gDs (ks.map PyData.str) = true
  | [], _ => rfl
  | k :: ks, h => by
    have := h k (by simp)
    have l : k.length ≤ 1000000 := by omega
    simp [gDs, gD, l, gDs_strs (ks := ks) fun x hx => h x (by simp [hx])]
/-- what a drawn rule is -/
structure RuOk (r : RS) : Prop where
  ks : KsOk r.ks
  w : dLimit (encI r.w) 60 = true
  g : dLimit (encI r.g) 24 = true
  wk : r.wk.Sublist r.ks
  n1 : 1 ≤ r.n
  n4 : r.n ≤ 4
  sh : ShOk r.n r.sh
theorem gD_I (o : Option Int) : gD (encI o) = true := by cases o <;> rfl
theorem dWeak_ok {r : RS} (h : RuOk r) : dWeak r.ks (.tuple (r.wk.map .str)) = true := by
  simp only [dWeak, Bool.and_eq_true, List.all_eq_true]
  refine ⟨fun d hd => ?_, ?_⟩
  · obtain ⟨k, hk, rfl⟩ := List.mem_map.mp hd
    simp [dOneOf, h.wk.subset hk]
  · simp [dUpS, strs_map, upS_pw (h.ks.pw.sublist h.wk)]
theorem RuOk.bad {r : RS} (h : RuOk r) : badRule (encR r) = none := by
  have o : dOneOf (.str (encO r.o)) ["all", "first", "last"] = true := by cases r.o <;> decide +kernel
  have p : dPick (.tuple [.str (encE r.fst), .int r.n]) = true := by
    have a : dOneOf (.str (encE r.fst)) ["first", "last"] = true := by cases r.fst <;> decide +kernel
    have n1 := h.n1
    have n4 := h.n4
    have b1 : (1 : Int) ≤ r.n := by omega
    have b4 : (r.n : Int) ≤ 4 := by omega
    simp [dPick, a, dInt, b1, b4]
  simp only [encR, badRule, wrongPart, List.length_cons, List.length_nil, if_true, h.ks.kd, strs_map, Option.getD_some, dWeak_ok h, h.w, h.g, o, p, dShares_ok h.sh]
  rfl
theorem RuOk.gd {r : RS} (h : RuOk r) : gD (encR r) = true := by
  have l4 := h.ks.l4
  have lw : r.wk.length ≤ r.ks.length := h.wk.length_le
  have k1 : gD (.tuple (r.ks.map .str)) = true := by
    have : r.ks.length ≤ 1000000 := by omega
    simp [gD, this, gDs_strs h.ks.l6]
  have k2 : gD (.tuple (r.wk.map .str)) = true := by
    have : r.wk.length ≤ 1000000 := by omega
    simp [gD, this, gDs_strs fun k hk => h.ks.l6 k (h.wk.subset hk)]
  have k3 : gD (.str (encO r.o)) = true := by cases r.o <;> decide +kernel
  have k4 : (encE r.fst).length ≤ 1000000 := by cases r.fst <;> decide +kernel
  have k5 : gD (.tuple [.str (encE r.fst), .int r.n]) = true := by simp [gD, gDs, k4]
  have n4 := h.n4
  have k6 := gD_sh (by omega) h.sh
  rw [encR, gD]
  simp [gDs, k1, k2, k3, k5, k6, gD_I]
theorem RuOk.vr {r : RS} (h : RuOk r) : VR r := ⟨h.bad, h.gd, h.sh, h.n1, h.n4⟩
section
variable {cs : List Int} (hc : cs ≠ [])
include hc
/-- None or a drawn number -/
theorem lim_dr {n : Nat} {st : List Cn} (h : Dst cs n st) (hn : n + 2 < 900000) {m : Nat} (h0 : 0 < m) (hm : m ≤ 100) {mm : EM} {env : Env} (he : env[0]? = some (some (.obj 0))) (hmm : ∀ st, mm env st = .ok (.dat (.int m)) st) :
    ∃ (o : Option Int) (st' : List Cn), (frzM (binM gIx (lstM (acons (cstM .none) (acons (callF 2 f__law_draw (acons (varM 0) (acons mm anil))) anil))) (callF 2 f__law_draw (acons (varM 0) (acons (cstM (.int 2)) anil))))) env st = .ok (.dat (encI o)) st' ∧ dLimit (encI o) (m - 1) = true ∧ Dst cs (n + 2) st' := by
  obtain ⟨v, st1, e1, v0, v1, s1⟩ := dr hc h (by omega) (many := m) (by omega) (by omega)
  obtain ⟨b, st2, e2, b0, b1, s2⟩ := dr hc s1 (by omega) (many := 2) (by decide) (by decide)
  have z2 : (2 : Nat) ≤ sizeLine := le_sz (by omega)
  have hb : b = 0 ∨ b = 1 := by omega
  rcases hb with rfl | rfl
  · refine ⟨none, st2, ?_, rfl, s2⟩
    simp [he, hmm, e1, e2, z2, encI]
  · refine ⟨some v, st2, ?_, ?_, s2⟩
    · simp [he, hmm, e1, e2, z2, encI]
    · have : v ≤ (m : Int) - 1 := by omega
      simp [encI, dLimit, dInt, v0, this]
end
end Pl.Law

set_option Elab.async false
set_option linter.all false
set_option maxRecDepth 100000
set_option maxHeartbeats 1000000
namespace Pl.Law
open PySem PySem.Spec PyProof.Rows L2 PySem.W Pl Ts
section
variable {cs : List Int} (hc : cs ≠ [])
include hc
theorem rule_dr {n : Nat} {st : List Cn} (h : Dst cs n st) (hn : n + 400 < 800000) {most c hours : Nat} (m0 : 0 < most) (m4 : most ≤ 4) (c0 : 0 < c) (c4 : c ≤ 4) (hh : hours ≤ 60) :
    ∃ (r : RS) (st' : List Cn), f__law_rule [.obj 0, .dat (.int most), .dat (.int hours), .dat (.int c)] st = .ok (.dat (encR r)) st' ∧ RuOk r ∧ Dst cs (n + 300) st' := by
  obtain ⟨ks, st1, e1, hks, s1⟩ := kinds_dr hc h (by omega) (most := most) (by omega) (by omega)
  have ko := hks.ok
  have kl := ko.l4
  obtain ⟨w, st2, e2, hw, s2⟩ := lim_dr hc s1 (by omega) (m := hours + 1) (by omega) (by omega) (mm := binM gAdd (varM 2) (cstM (.int 1)))
    (env := [some (.obj 0), some (.dat (.int most)), some (.dat (.int hours)), some (.dat (.int c)), some (.dat (.tuple (ks.map .str))), none, none, none, none, none, none, none]) rfl (fun st => by simp)
  obtain ⟨g, st3, e3, hg, s3⟩ := lim_dr hc s2 (by omega) (m := 3) (by omega) (by omega) (mm := cstM (.int 3))
    (env := [some (.obj 0), some (.dat (.int most)), some (.dat (.int hours)), some (.dat (.int c)), some (.dat (.tuple (ks.map .str))), none, none, none, none, none, none, none]) rfl (fun st => by simp)
  obtain ⟨wk, st4, hsub, e4, s4⟩ := lc_nd (α := Str) .str .str (Dst cs) (i := 11) (mc := binM gEqq (callF 2 f__law_draw (acons (varM 0) (acons (cstM (.int 4)) anil))) (cstM (.int 0))) (me := varM 11)
    (env := [some (.obj 0), some (.dat (.int most)), some (.dat (.int hours)), some (.dat (.int c)), some (.dat (.tuple (ks.map .str))), some (.dat (encI w)), some (.dat (encI g)), none, none, none, none, none]) ks (n + 2 + 2 + 2) [] st3 (by simp; exact le_sz (by omega)) s3
    (by
      intro x hx m hm1 hm2 st hs
      obtain ⟨v, st5, e5, _, _, s5⟩ := dr hc hs (by omega) (many := 4) (by decide) (by decide)
      exact ⟨decide (v = 0), st5, by simp [e5], s5⟩)
    (by intro x hx st; exact ⟨_, by simp; rfl, rfl⟩)
  obtain ⟨v, st5, e5, v0, v1, s5⟩ := dr hc s4 (by omega) (many := c) (by omega) (by omega)
  obtain ⟨d1, st6, e6, hd1, s6⟩ := dr_of hc s5 (by omega) (v := .dat (.list [.str "all", .str "all", .str "first", .str "last"])) (Or.inl rfl) (by simp) (by simp)
  obtain ⟨d2, st7, e7, hd2, s7⟩ := dr_of hc s6 (by omega) (v := .dat (.list [.str "first", .str "last"])) (Or.inl rfl) (by simp) (by simp)
  have ho : ∃ o : On, d1 = .str (encO o) := by
    simp only [List.mem_cons, List.not_mem_nil, or_false] at hd1
    rcases hd1 with rfl | rfl | rfl | rfl
    · exact ⟨.all, rfl⟩
    · exact ⟨.all, rfl⟩
    · exact ⟨.first, rfl⟩
    · exact ⟨.last, rfl⟩
  have hf : ∃ f : Bool, d2 = .str (encE f) := by
    simp only [List.mem_cons, List.not_mem_nil, or_false] at hd2
    rcases hd2 with rfl | rfl
    · exact ⟨true, rfl⟩
    · exact ⟨false, rfl⟩
  obtain ⟨o, rfl⟩ := ho
  obtain ⟨f, rfl⟩ := hf
  obtain ⟨k, rfl⟩ := Int.eq_ofNat_of_zero_le v0
  obtain ⟨sh, st8, e8, hsh, s8⟩ := shares_dr hc s7 (by omega) (c := k + 1) (hours := hours) (by omega) hh
  refine ⟨⟨ks, w, g, wk, o, f, k + 1, sh⟩, st8, ?_, ⟨ko, ?_, ?_, hsub, by simp, by simp; omega, hsh⟩, s8.mono (by omega)⟩
  · have z2 : (2 : Nat) ≤ sizeLine := le_sz (by omega)
    have z4 : (4 : Nat) ≤ sizeLine := le_sz (by omega)
    have z7 : (7 : Nat) ≤ sizeLine := le_sz (by omega)
    simp only [fnM_ap, m__law_rule, seqM_ap]
    simp at e2 e3 e4
    simp [envOf, e1, e2, e3]
    rw [compM_ap _ _ _ _ _ (ks.map .str) st3 (by simp)]
    simp only [wipeE, List.set_cons_succ, List.set_cons_zero]
    rw [e4]
    simp at e8
    simp [e5, z4, e6, z2, e7, Int.add_comm 1, e8, z7, encR]
  · cases w with
    | none => rfl
    | some x => 
      simp [encI, dLimit, dInt] at hw ⊢
      omega
  · cases g with
    | none => rfl
    | some x => 
      simp [encI, dLimit, dInt] at hg ⊢
      omega
end
end Pl.Law

set_option Elab.async false
set_option linter.all false
set_option maxRecDepth 100000
set_option maxHeartbeats 1000000
namespace Pl.Law
open PySem PySem.Spec PyProof.Rows L2 PySem.W Pl Ts
/-! ### drawn journeys -/
structure JoOk (ks : List Str) (j : JS) : Prop where
  mem : ∀ t ∈ j, t.1 ∈ ks ∧ 0 ≤ t.2 ∧ t.2 ≤ 1000000
  pw : j.Pairwise fun a b => b.2 ≤ a.2
  len : j.length ≤ 200
theorem wrongTouch_ok {ks : List Str} : ∀ (j : JS) (n g : Int), (∀ t ∈ j, t.1 ∈ ks ∧ 0 ≤ t.2 ∧ t.2 ≤ g) → j.Pairwise (fun a b => b.2 ≤ a.2) → wrongTouch ks n g (j.map encT) = none
  | [], _, _, _, _ => rfl
  | t :: j, n, g, h, p => by
    obtain ⟨h1, h2, h3⟩ := h t (by simp)
    have e : dTouch ks (encT t) g = true := by simp [encT, dTouch, dOneOf, dInt, h1, h2, h3]
    show (if dTouch ks (encT t) g = false then some n else wrongTouch ks (n + 1) t.2 (j.map encT)) = none
    rw [e, if_neg (by decide)]
    obtain ⟨p1, p2⟩ := List.pairwise_cons.mp p
    exact wrongTouch_ok j (n + 1) t.2 (fun u hu => ⟨(h u (by simp [hu])).1, (h u (by simp [hu])).2.1, p1 u hu⟩) p2
theorem gDs_touch {ks : List Str} (hk : ∀ k ∈ ks, k.length ≤ 6) : ∀ (j : JS), (∀ t ∈ j, t.1 ∈ ks) → gDs (j.map encT) = true
  | [], _ => rfl
  | t :: j, h => by
    have := hk _ (h t (by simp))
    have l : t.1.length ≤ 1000000 := by omega
    simp [gDs, encT, gD, l, gDs_touch hk j fun u hu => h u (by simp [hu])]
theorem JoOk.vj {r : RS} {j : JS} (hr : RuOk r) (h : JoOk r.ks j) : VJ r j := by
  have hl := h.len
  refine ⟨?_, ?_, h.len⟩
  · have : ¬ ((200 : Int) < j.length) := by omega
    simp only [encJ, badWay, List.length_map, this, if_false, wrongTouch_ok j 0 1000000 h.mem h.pw]
    rfl
  · have : j.length ≤ 1000000 := by omega
    simp [encJ, gD, this, gDs_touch hr.ks.l6 j fun t ht => (h.mem t ht).1]
theorem JoOk.kj {r : RS} {j : JS} (h : JoOk r.ks j) : KJ r j := fun t ht => (h.mem t ht).1
def jourB : SM := (seqM (setM 4 (frzM (binM gAdd (varM 4) (callF 2 f__law_of (acons (varM 0) (acons (lstM (acons (cstM (.int 0)) (acons (cstM (.int 0)) (acons (cstM (.int 1)) (acons (cstM (.int 1)) (acons (cstM (.int 2)) (acons (varM 3) (acons (cstM (.int 7)) anil)))))))) anil))))))
  (setM 5 (frzM (binM gAdd (lstM (acons (tupM (acons (callF 2 f__law_of (acons (varM 0) (acons (binM gIx (varM 1) (cstM (.int 0))) anil))) (acons (varM 4) anil))) anil)) (varM 5)))))
section
variable {cs : List Int} (hc : cs ≠ [])
include hc
theorem kind_dr {n : Nat} {st : List Cn} (h : Dst cs n st) (hn : n < 900000) {ks : List Str} (hk : KsOk ks) : ∃ (k : Str) (st' : List Cn), f__law_of [.obj 0, .dat (.tuple (ks.map .str))] st = .ok (.dat (.str k)) st' ∧ k ∈ ks ∧ Dst cs (n + 1) st' := by
  have l1 := hk.l1
  have l4 := hk.l4
  obtain ⟨d, st1, e1, hd, s1⟩ := dr_of hc h (by omega) (v := .dat (.tuple (ks.map .str))) (Or.inr rfl) (by intro e; simp at e; simp [e] at l1) (by simp; omega)
  obtain ⟨k, hk, rfl⟩ := List.mem_map.mp hd
  exact ⟨k, st1, e1, hk, s1⟩
theorem jour_step {n : Nat} {st : List Cn} (h : Dst cs n st) (hn : n + 2 < 900000) {r : RS} (hr : RuOk r) {hours : Nat} (hh : hours ≤ 1000) {age : Int} {j : JS} (hl : j.length ≤ 150) (x2 x6 : Option Val) :
    ∃ (k : Str) (d : Int) (st' : List Cn), jourB [some (.obj 0), some (.dat (encR r)), x2, some (.dat (.int hours)), some (.dat (.int age)), some (.dat (.list (j.map encT))), x6] st = .nx [some (.obj 0), some (.dat (encR r)), x2, some (.dat (.int hours)), some (.dat (.int (age + d))), some (.dat (.list (((k, age + d) :: j).map encT))), x6] st' ∧ k ∈ r.ks ∧ 0 ≤ d ∧ d ≤ 1007 ∧ Dst cs (n + 2) st' := by
  obtain ⟨dd, st1, e1, hd, s1⟩ := dr_of hc h (by omega) (v := .dat (.list [.int 0, .int 0, .int 1, .int 1, .int 2, .int hours, .int 7])) (Or.inl rfl) (by simp) (by simp)
  have hp : ∃ p : Int, dd = .int p ∧ 0 ≤ p ∧ p ≤ 1007 := by
    simp only [List.mem_cons, List.not_mem_nil, or_false] at hd
    rcases hd with rfl | rfl | rfl | rfl | rfl | rfl | rfl
    all_goals exact ⟨_, rfl, by omega, by omega⟩
  obtain ⟨d, rfl, d0, d1⟩ := hp
  obtain ⟨k, st2, e2, hk, s2⟩ := kind_dr hc s1 (by omega) hr.ks
  refine ⟨k, d, st2, ?_, hk, d0, d1, s2⟩
  have z7 : (7 : Nat) ≤ sizeLine := le_sz (by omega)
  have z2 : (2 : Nat) ≤ sizeLine := le_sz (by omega)
  have z1 : (1 : Nat) ≤ sizeLine := le_sz (by omega)
  have zj : 1 + j.length ≤ sizeLine := le_sz (by omega)
  simp [jourB, e1, z7, encR, e2, z2, z1, zj, encT]
theorem jour_loop {n c : Nat} (hk : c ≤ 100) {st : List Cn} (h : Dst cs n st) (hn : n + 2 * c < 900000) {r : RS} (hr : RuOk r) {hours : Nat} (hh : hours ≤ 1000) (x2 x6 : Option Val) :
    ∃ (j : JS) (y4 y6 : Option Val) (st' : List Cn), forM (.nm 6) jourB (intsD 0 c) [some (.obj 0), some (.dat (encR r)), x2, some (.dat (.int hours)), some (.dat (.int 0)), some (.dat (.list [])), x6] st = .nx [some (.obj 0), some (.dat (encR r)), x2, some (.dat (.int hours)), y4, some (.dat (.list (j.map encT))), y6] st' ∧ JoOk r.ks j ∧ j.length ≤ c ∧ (∀ t ∈ j, t.2 ≤ 1007 * c) ∧ Dst cs (n + 2 * c) st' := by
  obtain ⟨env', st', e, j, age, y6, rfl, hl, ha, hm, hp, ha0, hs⟩ := for_rng0 (tg := .nm 6) (mt := jourB)
    (fun i env st => ∃ (j : JS) (age : Int) (y6 : Option Val), env = [some (.obj 0), some (.dat (encR r)), x2, some (.dat (.int hours)), some (.dat (.int age)), some (.dat (.list (j.map encT))), y6] ∧ j.length = i ∧ age ≤ 1007 * i ∧
      (∀ t ∈ j, t.1 ∈ r.ks ∧ 0 ≤ t.2 ∧ t.2 ≤ age) ∧ j.Pairwise (fun a b => b.2 ≤ a.2) ∧ 0 ≤ age ∧ Dst cs (n + 2 * i) st)
    c _ st ⟨[], 0, x6, rfl, rfl, by omega, by simp, by simp, by omega, h⟩ (by
      rintro i hi env st ⟨j, age, y6, rfl, hl, ha, hm, hp, ha0, hs⟩
      obtain ⟨k, d, st2, e2, hk2, d0, d1, hs2⟩ := jour_step hc hs (by omega) hr hh (age := age) (j := j) (by omega) x2 (some (.dat (.int (i : Int))))
      refine ⟨_, _, st2, rfl, e2, (k, age + d) :: j, age + d, _, rfl, by simp [hl], by omega, ?_, ?_, by omega, hs2⟩
      · intro t ht
        rcases List.mem_cons.mp ht with rfl | ht
        · exact ⟨hk2, by show 0 ≤ age + d; omega, by show age + d ≤ age + d; omega⟩
        · obtain ⟨q1, q2, q3⟩ := hm t ht
          exact ⟨q1, q2, by omega⟩
      · refine List.pairwise_cons.mpr ⟨fun t ht => ?_, hp⟩
        have := (hm t ht).2.2
        show t.2 ≤ age + d
        omega)
  refine ⟨j, _, y6, st', e, ⟨fun t ht => ?_, hp, by omega⟩, by omega, fun t ht => ?_, hs⟩
  · obtain ⟨q1, q2, q3⟩ := hm t ht
    exact ⟨q1, q2, by omega⟩
  · have := (hm t ht).2.2
    omega
theorem journey_dr2 {n : Nat} {st : List Cn} (h : Dst cs n st) (hn : n + 300 < 800000) {r : RS} (hr : RuOk r) {size hours : Nat} (hz : size ≤ 50) (hh : hours ≤ 1000) :
    ∃ (j : JS) (st' : List Cn), f__law_journey [.obj 0, .dat (encR r), .dat (.int size), .dat (.int hours)] st = .ok (.dat (encJ j)) st' ∧ JoOk r.ks j ∧ j.length ≤ size ∧ (∀ t ∈ j, t.2 ≤ 1007 * size) ∧ Dst cs (n + 201) st' := by
  obtain ⟨v, st1, e1, v0, v1, s1⟩ := dr hc h (by omega) (many := (size : Int) + 1) (by omega) (by omega)
  obtain ⟨c, rfl⟩ := Int.eq_ofNat_of_zero_le v0
  obtain ⟨j, y4, y6, st2, e2, hj, hl, hb, s2⟩ := jour_loop hc (c := c) (by omega) s1 (by omega) hr hh (some (.dat (.int size))) none
  refine ⟨j, st2, ?_, hj, by omega, fun t ht => by have := hb t ht; omega, s2.mono (by omega)⟩
  have b : inb (c : Int) = true := inb_nat (by omega)
  have hi : ∀ env : Env, env[0]? = some (some (.obj 0)) → env[2]? = some (some (.dat (.int size))) → rng1I (acons (callF 2 f__law_draw (acons (varM 0) (acons (binM gAdd (varM 2) (cstM (.int 1))) anil))) anil) env st = .ok (intsD 0 c) st1 := fun env g0 g2 => by
    simp [g0, g2, e1, b]
  simp only [fnM_ap, m__law_journey, seqM_ap]
  simp [envOf]
  rw [frM_ap _ _ _ _ _ (hi _ (by simp) (by simp))]
  change ((forM (.nm 6) jourB _ _ _).an _).fin = _
  rw [e2]
  simp [encJ]
theorem journey_dr {n : Nat} {st : List Cn} (h : Dst cs n st) (hn : n + 300 < 800000) {r : RS} (hr : RuOk r) {size hours : Nat} (hz : size ≤ 50) (hh : hours ≤ 1000) :
    ∃ (j : JS) (st' : List Cn), f__law_journey [.obj 0, .dat (encR r), .dat (.int size), .dat (.int hours)] st = .ok (.dat (encJ j)) st' ∧ JoOk r.ks j ∧ j.length ≤ size ∧ Dst cs (n + 201) st' := by
  obtain ⟨j, st1, e1, h1, h2, _, h4⟩ := journey_dr2 hc h hn hr hz hh
  exact ⟨j, st1, e1, h1, h2, h4⟩
end
end Pl.Law

set_option Elab.async false
set_option linter.all false
set_option maxRecDepth 100000
set_option maxHeartbeats 1000000
namespace Pl.Law
open PySem PySem.Spec PyProof.Rows L2 PySem.W Pl Ts
/-! ### great journeys -/
def greatB : SM := (seqM (appM 2 (tupM (acons (callF 2 f__law_of (acons (varM 0) (acons (binM gIx (varM 1) (cstM (.int 0))) anil))) (acons (varM 3) anil))))
  (setM 3 (frzM (ifM (binM gLt (varM 4) (cstM (.int 150))) (callM gMax (acons (cstM (.int 0)) (acons (binM gSub (varM 3) (callF 2 f__law_of (acons (varM 0) (acons (lstM (acons (cstM (.int 0)) (acons (cstM (.int 1)) (acons (cstM (.int 1)) (acons (cstM (.int 2)) (acons (cstM (.int 9)) (acons (binM gPow (cstM (.int 10)) (cstM (.int 5))) anil))))))) anil)))) anil))) (callM gMax (acons (cstM (.int 0)) (acons (binM gSub (callM gMin (acons (varM 3) (acons (cstM (.int 60)) anil))) (callF 2 f__law_draw (acons (varM 0) (acons (cstM (.int 3)) anil)))) anil)))))))
theorem pow105 : gPow (.dat (.int 10)) (.dat (.int 5)) = some (.dat (.int 100000)) := by kernel_rfl
theorem pow106 : gPow (.dat (.int 10)) (.dat (.int 6)) = some (.dat (.int 1000000)) := by kernel_rfl
section
variable {cs : List Int} (hc : cs ≠ [])
include hc
theorem great_step {n k : Nat} {st : List Cn} (h : Dst cs n st) (hn : n + 2 < 900000) {r : RS} (hr : RuOk r) {age : Int} (ha : 0 ≤ age) {j : JS} (hl : j.length ≤ 300) :
    ∃ (kd : Str) (a2 : Int) (st' : List Cn), greatB [some (.obj 0), some (.dat (encR r)), some (.fr (.lst (j.map encT))), some (.dat (.int age)), some (.dat (.int k))] st = .nx [some (.obj 0), some (.dat (encR r)), some (.fr (.lst ((j ++ [(kd, age)]).map encT))), some (.dat (.int a2)), some (.dat (.int k))] st' ∧ kd ∈ r.ks ∧ 0 ≤ a2 ∧ a2 ≤ age ∧ Dst cs (n + 2) st' := by
  obtain ⟨kd, st1, e1, hk, s1⟩ := kind_dr hc h (by omega) hr.ks
  have z2 : (2 : Nat) ≤ sizeLine := le_sz (by omega)
  have z6 : (6 : Nat) ≤ sizeLine := le_sz (by omega)
  have zj : j.length < sizeLine := Nat.lt_of_lt_of_le (Nat.lt_succ_self _) (le_sz (by omega))
  by_cases hk : (k : Int) < 150
  · obtain ⟨dd, st2, e2, hd, s2⟩ := dr_of hc s1 (by omega) (v := .dat (.list [.int 0, .int 1, .int 1, .int 2, .int 9, .int 100000])) (Or.inl rfl) (by simp) (by simp)
    have hp : ∃ p : Int, dd = .int p ∧ 0 ≤ p := by
      simp only [List.mem_cons, List.not_mem_nil, or_false] at hd
      rcases hd with rfl | rfl | rfl | rfl | rfl | rfl
      all_goals exact ⟨_, rfl, by decide⟩
    obtain ⟨d, rfl, d0⟩ := hp
    refine ⟨kd, if age - d > 0 then age - d else 0, st2, ?_, by assumption, by split <;> omega, by split <;> omega, s2⟩
    simp [greatB, appM, encR, e1, z2, zj, hk, pow105, z6, e2, encT]
  · obtain ⟨d, st2, e2, d0, d1, s2⟩ := dr hc s1 (by omega) (many := 3) (by decide) (by decide)
    refine ⟨kd, if (if 60 < age then 60 else age) - d > 0 then (if 60 < age then 60 else age) - d else 0, st2, ?_, by assumption, by repeat' split <;> omega, by repeat' split <;> omega, s2⟩
    simp [greatB, appM, encR, e1, z2, zj, hk, e2, encT]
end
/-! ### the state at the start -/
theorem pow1018 : gPow (.dat (.int 10)) (.dat (.int 18)) = some (.dat (.int 1000000000000000000)) := by kernel_rfl
theorem canLay_ints : ∀ ns : List Int, PyData.canLayAll0 (ns.map PyData.int) = true
  | [] => rfl
  | n :: ns => by
    show (PyData.canLay0 (.int n) && PyData.canLayAll0 (ns.map PyData.int)) = true
    rw [canLay_ints ns]
    rfl
theorem depth_ints : ∀ ns : List Int, PyData.depthAll (ns.map PyData.int) = 0
  | [] => rfl
  | n :: ns => by
    show max (PyData.depth (.int n)) (PyData.depthAll (ns.map PyData.int)) = 0
    rw [depth_ints ns]
    rfl
theorem shaped_ints (ns : List Int) : SeqAt.shaped (.list (ns.map PyData.int)) = true := by
  show (PyData.canLayAll0 (ns.map PyData.int) && decide (PyData.depthAll (ns.map PyData.int) + 1 ≤ 64)) = true
  rw [canLay_ints, depth_ints]
  rfl
theorem begun_dr (ns : List Int) (hn : ns.length ≤ 63) : ∃ l, f__law_begun [.scr (ns.map PyData.int)] [] = .ok (.fr (cD (ns ++ [(ns.length : Int)]) l 0)) [] := by
  have c := lc_map (α := Int) (i := 2) (mc := binM gGe (varM 2) (binM gPow (cstM (.int 10)) (cstM (.int 18)))) (me := varM 2) (env := [some (.scr (ns.map PyData.int)), none, none]) (st := []) .int .int (fun n => decide (1000000000000000000 ≤ n)) ns [] (by simp; exact le_sz (by omega))
    (fun x _ => by simp [pow1018]) (fun x _ _ => ⟨_, by simp; rfl, rfl⟩)
  simp only [fnM_ap, m__law_begun, seqM_ap]
  obtain ⟨G, hG⟩ : ∃ G, G = ns.filter fun n => decide (1000000000000000000 ≤ n) := ⟨_, rfl⟩
  rw [← hG] at c
  simp only [List.nil_append] at c
  simp [envOf]
  rw [compM_ap _ _ _ _ _ (ns.map .int) [] (by simp)]
  simp only [wipeE, List.set_cons_succ, List.set_cons_zero]
  rw [c]
  have hl : ns.length + 1 ≤ sizeLine := le_sz (by omega)
  have z1 : (1 : Nat) ≤ sizeLine := le_sz (by omega)
  cases G with
  | nil =>
    refine ⟨0, ?_⟩
    have hne : gNeq (.dat (.list [])) (.fr (.lst [])) = some (.dat (.bool false)) := by kernel_rfl
    simp [hne, hl, z1, cD, dctM, aof]
    rfl
  | cons g G =>
    refine ⟨g, ?_⟩
    have hne : gNeq (.dat (.list ((g :: G).map PyData.int))) (.fr (.lst [])) = some (.dat (.bool true)) := by
      show (if SeqAt.shaped (.list ((g :: G).map PyData.int)) = true ∧ SeqAt.shaped (.list []) = true then some (Val.dat (.bool (!PyData.eqv (.list ((g :: G).map PyData.int)) (.list [])))) else none) = _
      rw [if_pos ⟨shaped_ints _, shaped_ints []⟩]
      rfl
    have hat : gIx (.dat (.list ((g :: G).map PyData.int))) (.dat (.int 0)) = some (.dat (.int g)) := by
      show (atI ((g :: G).map PyData.int) 0).map Val.dat = _
      unfold atI ixN
      rw [if_pos (by decide), if_pos (by simp)]
      rfl
    rw [List.map_cons] at hne hat
    simp [hne, hat, hl, z1, cD, dctM, aof]
    rfl
end Pl.Law

set_option Elab.async false
set_option linter.all false
set_option maxRecDepth 100000
set_option maxHeartbeats 1000000
namespace Pl.Law
open PySem PySem.Spec PyProof.Rows L2 PySem.W Pl Ts
/-! ### texts: numbers, words, rows -/
abbrev tl := TL.tl
theorem tl_numS (n : Nat) : tl (numS (n : Int)) = TL.numL n := TL.tl_num n
theorem numS_len {n : Nat} (h : n ≤ 9999999) : (numS (n : Int)).length ≤ 7 ∧ 1 ≤ (numS (n : Int)).length := by
  rw [TL.len_tl, show TL.tl (numS (n : Int)) = TL.numL n from tl_numS n]
  refine ⟨TL.numL_len (by decide) (by omega), ?_⟩
  have := TL.numL_ne n
  cases h : TL.numL n with
  | nil => exact absurd h this
  | cons => simp
/-- no number but 0 begins with 0 -/
theorem num_head : ∀ n : Nat, 0 < n → ∃ c r, TL.numL n = c :: r ∧ c ≠ 48 := by
  intro n
  induction n using Nat.strongRecOn with
  | _ n ih =>
    intro h0
    by_cases h : n < 10
    · exact ⟨48 + n, [], TL.numL_lt h, by omega⟩
    · obtain ⟨c, r, e, hc⟩ := ih (n / 10) (by omega) (by omega)
      exact ⟨c, r ++ [48 + n % 10], by rw [TL.numL_step (by omega), e]; rfl, hc⟩
theorem len_app (x y : Str) : (x ++ y).length = x.length + y.length := by
  rw [TL.len_tl, TL.tl_append, List.length_append, ← TL.len_tl, ← TL.len_tl]
/-- a word: no blank, no line's end -/
def okW (x : Str) : Prop := 32 ∉ tl x ∧ 10 ∉ tl x ∧ x.length ≤ 8
theorem okW_num {n : Nat} (h : n ≤ 9999999) : okW (numS (n : Int)) := by
  refine ⟨?_, ?_, by have := (numS_len h).1; omega⟩
  · rw [tl_numS]; exact TL.numL_free (by decide)
  · rw [tl_numS]; exact TL.numL_free (by decide)
theorem ne_none {n : Nat} : numS (n : Int) ≠ ("none" : Str) := fun e => by
  have h := congrArg tl e
  rw [tl_numS] at h
  have : (110 : Nat) ∈ TL.numL n := by
    rw [h]
    have e2 : tl ("none" : Str) = [110, 111, 110, 101] := by decide +kernel
    rw [e2]
    simp
  exact TL.numL_free (by decide) this
theorem low_ge {c : Nat} (h : lowD (.str ⟨#[c]⟩) = true) : 97 ≤ c := by
  by_cases q : 97 ≤ c
  · exact q
  · exfalso
    have e : strLe "a" ⟨#[c]⟩ = false := by
      have e2 : ("a" : Str).cps.toList = [97] := by decide +kernel
      unfold strLe
      rw [e2]
      have : ([c] : List Nat) < [97] := List.Lex.rel (by omega)
      simp [this]
    simp [lowD, e] at h
theorem okW_word {k : Str} (h : dWord (.str k) = true) : okW k := by
  simp only [dWord, Bool.and_eq_true, decide_eq_true_eq, List.all_eq_true] at h
  obtain ⟨⟨h1, h2⟩, h3⟩ := h
  have hc : ∀ c ∈ tl k, 97 ≤ c := fun c hc => low_ge (h3 _ (List.mem_map.mpr ⟨c, hc, rfl⟩))
  exact ⟨fun z => by have := hc _ z; omega, fun z => by have := hc _ z; omega, by omega⟩
theorem KsOk.words {ks : List Str} (h : KsOk ks) : ∀ k ∈ ks, okW k := fun k hk => by
  have := h.kd
  simp only [dKinds, Bool.and_eq_true, List.all_eq_true] at this
  exact okW_word (this.1.2 _ (List.mem_map.mpr ⟨k, hk, rfl⟩))
def spS : Str := " "
def nlS : Str := "\n"
theorem tl_sp : tl spS = [32] := by decide +kernel
theorem tl_nl : tl nlS = [10] := by decide +kernel
/-- a row, the rows -/
def rowT (ws : List Str) : Str := Txt.join spS ws
def rowsT (rs : List (List Str)) : Str := Txt.join nlS (rs.map rowT)
theorem joinL_cons (S : List Nat) (p : List Nat) : ∀ ps : List (List Nat), TL.joinL S (p :: ps) = p ++ (ps.map (S ++ ·)).flatten := by
  intro ps
  induction ps generalizing p with
  | nil => simp [TL.joinL]
  | cons q r ih =>
    show p ++ (S ++ TL.joinL S (q :: r)) = _
    rw [ih q]
    simp
theorem tl_row (w : Str) (ws : List Str) : tl (rowT (w :: ws)) = tl w ++ (ws.map fun x => 32 :: tl x).flatten := by
  unfold rowT
  rw [TL.join_eq]
  show TL.tl _ = _
  rw [TL.tl_join, List.map_cons, joinL_cons, show TL.tl spS = [32] from tl_sp, List.map_map]
  rfl
theorem tl_rows (r : List Str) (rs : List (List Str)) : tl (rowsT (r :: rs)) = tl (rowT r) ++ (rs.map fun x => 10 :: tl (rowT x)).flatten := by
  unfold rowsT
  rw [TL.join_eq]
  show TL.tl _ = _
  rw [TL.tl_join, List.map_cons, List.map_cons, joinL_cons, show TL.tl nlS = [10] from tl_nl, List.map_map, List.map_map]
  rfl
theorem row_split {ws : List Str} (hne : ws ≠ []) (h : ∀ w ∈ ws, okW w) : Txt.split (rowT ws) spS = ws :=
  TL.split_join (s := 32) (S := []) tl_sp (by decide +kernel) hne fun p hp => (h p hp).1
theorem row_nl {ws : List Str} (hne : ws ≠ []) (h : ∀ w ∈ ws, okW w) : 10 ∉ tl (rowT ws) := by
  cases ws with
  | nil => exact absurd rfl hne
  | cons w ws =>
    rw [tl_row]
    intro z
    rcases List.mem_append.mp z with z | z
    · exact (h w (by simp)).2.1 z
    · obtain ⟨l, hl, hm⟩ := List.mem_flatten.mp z
      obtain ⟨x, hx, rfl⟩ := List.mem_map.mp hl
      rcases List.mem_cons.mp hm with e | e
      · cases e
      · exact (h x (by simp [hx])).2.1 e
theorem rows_split {rs : List (List Str)} (hne : rs ≠ []) (h : ∀ r ∈ rs, r ≠ [] ∧ ∀ w ∈ r, okW w) : Txt.split (rowsT rs) nlS = rs.map rowT :=
  TL.split_join (s := 10) (S := []) tl_nl (by decide +kernel) (by simpa using hne) fun p hp => by
    obtain ⟨r, hr, rfl⟩ := List.mem_map.mp hp
    exact row_nl (h r hr).1 (h r hr).2
theorem len_flat {α : Type} {f : α → List Nat} {m : Nat} : ∀ {l : List α}, (∀ x ∈ l, (f x).length ≤ m) → ((l.map f).flatten).length ≤ l.length * m
  | [], _ => by simp
  | x :: l, h => by
    have h1 := h x (by simp)
    have h2 := len_flat (l := l) fun y hy => h y (by simp [hy])
    simp only [List.map_cons, List.flatten_cons, List.length_append, List.length_cons, Nat.succ_mul]
    omega
theorem row_len {ws : List Str} (h : ∀ w ∈ ws, okW w) : (rowT ws).length ≤ 9 * ws.length := by
  cases ws with
  | nil => show (Txt.join spS []).length ≤ 0; decide +kernel
  | cons w ws =>
    rw [TL.len_tl, show TL.tl (rowT (w :: ws)) = _ from tl_row w ws, List.length_append, ← TL.len_tl]
    have h1 := (h w (by simp)).2.2
    have h2 := len_flat (f := fun x : Str => 32 :: tl x) (m := 9) (l := ws) fun x hx => by
      have := (h x (by simp [hx])).2.2
      rw [TL.len_tl] at this
      simp only [List.length_cons]
      have e : (tl x).length = (TL.tl x).length := rfl
      omega
    simp only [List.length_cons]
    omega
end Pl.Law

set_option Elab.async false
set_option linter.all false
set_option maxRecDepth 100000
set_option maxHeartbeats 1000000
namespace Pl.Law
open PySem PySem.Spec PyProof.Rows L2 PySem.W Pl Ts
/-! ### written integers -/
def digD : D → Bool
  | .str s => strLe "0" s && strLe s "9"
  | _ => false
theorem dig_ok {c : Nat} (h : 48 ≤ c ∧ c ≤ 57) : digD (.str ⟨#[c]⟩) = true := by
  have e0 : ("0" : Str).cps.toList = [48] := by decide +kernel
  have e9 : ("9" : Str).cps.toList = [57] := by decide +kernel
  have a : strLe "0" ⟨#[c]⟩ = true := by
    unfold strLe
    rw [e0]
    have : ¬ ([c] : List Nat) < [48] := fun z => by
      have := List.cons_lt_cons_iff.mp z
      rcases this with q | ⟨_, q⟩
      · omega
      · exact absurd q (by simp)
    simp [this]
  have b : strLe ⟨#[c]⟩ "9" = true := by
    unfold strLe
    rw [e9]
    have : ¬ ([57] : List Nat) < [c] := fun z => by
      have := List.cons_lt_cons_iff.mp z
      rcases this with q | ⟨_, q⟩
      · omega
      · exact absurd q (by simp)
    simp [this]
  simp [digD, a, b]
theorem digs_num (n : Nat) : (signs (numS (n : Int))).all digD = true := by
  rw [List.all_eq_true]
  intro d hd
  obtain ⟨c, hc, rfl⟩ := List.mem_map.mp hd
  have : c ∈ TL.numL n := by
    have e := tl_numS n
    rw [← e]
    exact hc
  have r := TL.numL_digits n c this
  exact dig_ok ⟨by omega, by omega⟩
theorem num0 : numS 0 = ("0" : Str) := by decide +kernel
theorem gEqS_ss (x y : Str) : gEqq (.dat (.str x)) (.dat (.str y)) = some (.dat (.bool (decide (x = y)))) := by
  show (gEqS (.dat (.str x)) (.dat (.str y))).or _ = _
  simp [gEqS]
theorem gNeS_ss (x y : Str) : gNeq (.dat (.str x)) (.dat (.str y)) = some (.dat (.bool (!decide (x = y)))) := by
  show (gNeS (.dat (.str x)) (.dat (.str y))).or _ = _
  simp [gNeS]
theorem ev_written {st : List Cn} {n : Nat} (h : n ≤ 9999999) : f_written_integer [.dat (.str (numS (n : Int)))] st = .ok (.dat (.int (n : Int))) st := by
  obtain ⟨l7, l1⟩ := numS_len h
  have hx : (numS (n : Int)).length ≤ sizeLine := le_sz (by omega)
  have all := all_comp (env := envOf 2 [.dat (.str (numS (n : Int)))]) (st := st) (im := seqI true (varM 0)) (own := [1]) (i := 1) (me := chM gLe gLe (cstM (.str "0")) (varM 1) (cstM (.str "9"))) (ds := signs (numS (n : Int))) (f := digD) (by simp [envOf])
    (by rw [signs_len]; exact hx) (fun e he => by
      obtain ⟨s, rfl⟩ := signs_str e he
      simp [envOf, wipeE, onO_b, digD]
      split
      · rename_i q; simp [q]
      · rename_i q; simp [q])
  rw [digs_num n] at all
  have hi : gIntS [.dat (.str (numS (n : Int)))] = some (.dat (.int (n : Int))) := by
    have e := TL.int_num (n := n) (by have := numS_len h; rw [TL.len_tl, show TL.tl (numS (n : Int)) = _ from tl_numS n] at this; omega)
    have e2 : PySem.intText? (numS (n : Int)) = some (n : Int) := e
    have l : Nat.ble (numS (n : Int)).length 640 = true := Nat.ble_eq_true_of_le (by omega)
    simp [gIntS, e2, l]
  have hl := gLen_s hx
  -- the first sign
  obtain ⟨c, hc, hz⟩ : ∃ c : Nat, gIxS (.dat (.str (numS (n : Int)))) (.dat (.int 0)) = some (.dat (.str ⟨#[c]⟩)) ∧ (c = 48 → numS (n : Int) = ("0" : Str)) := by
    have lb : Nat.ble (numS (n : Int)).length sizeLine = true := Nat.ble_eq_true_of_le hx
    have e := tl_numS n
    by_cases h0 : n = 0
    · subst h0
      exact ⟨48, by rw [show numS ((0 : Nat) : Int) = ("0" : Str) from num0]; kernel_rfl, fun _ => num0⟩
    · obtain ⟨c, r, e1, hc⟩ := num_head n (by omega)
      refine ⟨c, ?_, fun z => absurd z hc⟩
      have e2 : (numS (n : Int)).cps.toList = c :: r := e.trans e1
      have e3 : atI (numS (n : Int)).cps.toList 0 = some c := by rw [e2]; simp [atI, ixN]
      simp [gIxS, lb, e3]
  simp only [fnM_ap]
  have c1 : (1 : Int) ≤ (numS (n : Int)).length := by omega
  have c7 : ((numS (n : Int)).length : Int) ≤ 7 := by omega
  generalize numS (n : Int) = x at *
  have lz : (decide ((⟨#[c]⟩ : Str) = ("0" : Str)) && !decide (x = ("0" : Str))) = false := by
    by_cases q : (⟨#[c]⟩ : Str) = ("0" : Str)
    · have : c = 48 := by
        have e0 : ("0" : Str) = ⟨#[48]⟩ := by decide +kernel
        rw [e0] at q
        simpa using q
      simp [hz this]
    · simp [q]
  simp only [m_written_integer, seqM_ap]
  simp [envOf, onO_b, onB_b, hl, c1, c7] at all ⊢
  rw [all]
  simp [hc, gEqS_ss, gNeS_ss, hi]
  generalize decide ((⟨#[c]⟩ : Str) = Str.ofString "0") = b1 at lz ⊢
  generalize decide (x = Str.ofString "0") = b2 at lz ⊢
  cases b1 <;> cases b2 <;> first | (exfalso; simp at lz; done) | simp [onB_b, hi]
end Pl.Law

set_option Elab.async false
set_option linter.all false
set_option maxRecDepth 100000
set_option maxHeartbeats 1000000
namespace Pl.Law
open PySem PySem.Spec PyProof.Rows L2 PySem.W Pl Ts
/-! ### rows read back -/
theorem gSplit_row {ws : List Str} (hne : ws ≠ []) (h : ∀ w ∈ ws, okW w) (hl : ws.length ≤ 100) : gSplit (.dat (.str (rowT ws))) (.dat (.str " ")) = some (.fr (.lst (ws.map .str))) := by
  have e := row_split hne h
  have l := row_len h
  have b : Nat.ble ((rowT ws).length + 2) sizeLine = true := Nat.ble_eq_true_of_le (le_sz (by omega))
  have z : ((" " : Str).length == 0) = false := by decide +kernel
  show (if ((" " : Str).length == 0) = false ∧ Nat.ble ((rowT ws).length + 2) sizeLine = true then some (Val.fr (.lst ((Txt.split (rowT ws) spS).map .str))) else none) = _
  rw [if_pos ⟨z, b⟩, e]
theorem ev_told_words {st : List Cn} {w : Str} {ws : List Str} (h : ∀ x ∈ w :: ws, okW x) (hl : ws.length ≤ 90) : f__told_words [.dat (.str (rowT (w :: ws))), .dat (.str w)] st = .ok (.dat (.tuple (ws.map .str))) st := by
  have e := gSplit_row (ws := w :: ws) (by simp) h (by simp; omega)
  generalize rowT (w :: ws) = R at *
  simp only [fnM_ap]
  simp [m__told_words, envOf, unpSM, sm1M, isSV, e, asList, gEqS_ss, onB_b]
def limW : Option Int → Str
  | none => "none"
  | some i => numS i
/-- a limit that can be written -/
def limOk (o : Option Int) : Prop := ∀ i, o = some i → ∃ n : Nat, i = (n : Int) ∧ n ≤ 9999999
theorem okW_lim {o : Option Int} (h : limOk o) : okW (limW o) := by
  cases o with
  | none => exact ⟨by decide +kernel, by decide +kernel, by decide +kernel⟩
  | some i => 
    obtain ⟨n, rfl, hn⟩ := h i rfl
    exact okW_num hn
theorem strOk_num (n : Nat) : (PyData.str (numS (n : Int))).canLay0 = true := by
  simp only [PyData.canLay0, PyData.strOk]
  rw [Array.all_eq_true']
  intro c hc
  have e := tl_numS n
  have : c ∈ TL.numL n := by rw [← e]; exact Array.mem_toList_iff.mpr hc
  have := TL.numL_digits n c this
  exact decide_eq_true (by omega)
theorem eqT1 {x y : Str} (hx : (PyData.str x).canLay0 = true) (hy : (PyData.str y).canLay0 = true) : gEqq (.dat (.tuple [.str x])) (.dat (.tuple [.str y])) = some (.dat (.bool (x == y))) := by
  have s1 : ShN (.tuple [.str x]) 1 := ShN.tup fun d hd => by
    rw [List.mem_singleton.mp hd]; exact shN_s hx
  have s2 : ShN (.tuple [.str y]) 1 := ShN.tup fun d hd => by
    rw [List.mem_singleton.mp hd]; exact shN_s hy
  rw [gEq_d rfl rfl (s1.shaped (by decide)) (s2.shaped (by decide)) rfl]
  simp [PyData.eqv, PyData.eqvAll]
theorem cl_none : (PyData.str "none").canLay0 = true := by decide +kernel
theorem ev_told_limit {st : List Cn} {w : Str} (hw : okW w) {o : Option Int} (h : limOk o) : f__told_limit [.dat (.str (rowT [w, limW o])), .dat (.str w)] st = .ok (.dat (encI o)) st := by
  have ew := ev_told_words (st := st) (w := w) (ws := [limW o]) (fun x hx => by
    simp only [List.mem_cons, List.not_mem_nil, or_false] at hx
    rcases hx with rfl | rfl
    · exact hw
    · exact okW_lim h) (by simp)
  generalize rowT [w, limW o] = R at *
  have z1 : (1 : Nat) ≤ sizeLine := le_sz (by omega)
  simp only [fnM_ap]
  cases o with
  | none =>
    have e : gEqq (.dat (.tuple [.str (limW none)])) (.dat (.tuple [.str "none"])) = some (.dat (.bool true)) := by
      rw [show limW none = ("none" : Str) from rfl, eqT1 cl_none cl_none]
      simp
    simp at ew
    simp [m__told_limit, envOf, ew, z1, e, onB_b, encI]
  | some i =>
    obtain ⟨n, rfl, hn⟩ := h i rfl
    have e : gEqq (.dat (.tuple [.str (limW (some (n : Int)))])) (.dat (.tuple [.str "none"])) = some (.dat (.bool false)) := by
      rw [show limW (some (n : Int)) = numS (n : Int) from rfl, eqT1 (strOk_num n) cl_none]
      have := ne_none (n := n)
      simp [this]
    have e2 := ev_written (st := st) hn
    have e3 : limW (some (n : Int)) = numS (n : Int) := rfl
    rw [e3] at ew e
    generalize numS (n : Int) = x at *
    simp at ew
    simp [m__told_limit, envOf, ew, z1, e, e2, onB_b, onO_b, encI, gIs_none]
theorem ev_told_once {st : List Cn} {x : Str} (hx : okW x) : f__told_once [.dat (.str (rowT ["once", x]))] st = .ok (.dat (.str x)) st := by
  have ew := ev_told_words (st := st) (w := "once") (ws := [x]) (fun y hy => by
    simp only [List.mem_cons, List.not_mem_nil, or_false] at hy
    rcases hy with rfl | rfl
    · exact ⟨by decide +kernel, by decide +kernel, by decide +kernel⟩
    · exact hx) (by simp)
  generalize rowT ["once", x] = R at *
  simp only [fnM_ap]
  simp at ew
  simp [m__told_once, envOf, ew, onB_b, onO_b, gIs_none]
theorem ev_told_pick {st : List Cn} {x : Str} (hx : okW x) {n : Nat} (hn : n ≤ 9999999) : f__told_pick [.dat (.str (rowT ["pick", x, numS (n : Int)]))] st = .ok (.dat (.tuple [.str x, .int (n : Int)])) st := by
  have ew := ev_told_words (st := st) (w := "pick") (ws := [x, numS (n : Int)]) (fun y hy => by
    simp only [List.mem_cons, List.not_mem_nil, or_false] at hy
    rcases hy with rfl | rfl | rfl
    · exact ⟨by decide +kernel, by decide +kernel, by decide +kernel⟩
    · exact hx
    · exact okW_num hn) (by simp)
  have e2 := ev_written (st := st) hn
  have z2 : (2 : Nat) ≤ sizeLine := le_sz (by omega)
  generalize rowT ["pick", x, numS (n : Int)] = R at *
  generalize numS (n : Int) = y at *
  simp only [fnM_ap]
  simp at ew
  simp [m__told_pick, envOf, ew, e2, z2, onB_b, onO_b, gIs_none]
end Pl.Law

set_option Elab.async false
set_option linter.all false
set_option maxRecDepth 100000
set_option maxHeartbeats 1000000
namespace Pl.Law
open PySem PySem.Spec PyProof.Rows L2 PySem.W Pl Ts
def encRow (r : List Int) : D := .tuple (r.map .int)
def plC : EM := truM (varM 0)
def plB : SM := (seqM (setM 2 (frzM (binM gAdd (callM gLen (acons (varM 1) anil)) (cstM (.int 1)))))
  (seqM (appM 1 (callM gTuple (acons (sliM (varM 0) .no (.som (varM 2))) anil)))
  (setM 0 (frzM (sliM (varM 0) (.som (varM 2)) .no)))))
theorem pl_loop {st : List Cn} : ∀ (rs dn : List (List Int)) (N : Nat) (x2 : Option Val), rs.length < N → dn.length + rs.length ≤ 100 → (∀ i row, rs[i]? = some row → row.length = dn.length + i + 1) →
    ∃ y2, whlM plC plB N [some (.dat (.list ((rs.flatten).map .int))), some (.fr (.lst (dn.map encRow))), x2] st = .nx [some (.dat (.list [])), some (.fr (.lst ((dn ++ rs).map encRow))), y2] st := by
  intro rs
  induction rs with
  | nil =>
    intro dn N x2 h hl hr
    obtain ⟨N, rfl⟩ : ∃ M, N = M + 1 := ⟨N - 1, by omega⟩
    refine ⟨x2, ?_⟩
    unfold whlM
    simp [plC, truth, asSeq, asList]
  | cons r rs ih =>
    intro dn N x2 h hl hr
    obtain ⟨N, rfl⟩ : ∃ M, N = M + 1 := ⟨N - 1, by omega⟩
    have hr0 : r.length = dn.length + 1 := by simpa using hr 0 r rfl
    obtain ⟨y2, e⟩ := ih (dn ++ [r]) N (some (.dat (.int ((dn.length : Int) + 1)))) (by simp at h; omega) (by simp at hl ⊢; omega) (fun i row hi => by
      have := hr (i + 1) row (by simpa using hi)
      simp
      omega)
    refine ⟨y2, ?_⟩
    rw [List.append_assoc] at e
    have ct : truth (.dat (.list (((r :: rs).flatten).map .int))) = some true := by
      cases r with
      | nil => simp at hr0
      | cons a r => simp [truth, asSeq, asList]
    have hk : ((dn.length : Int) + 1) = ((r.length : Nat) : Int) := by omega
    have t1 : (((r :: rs).flatten).map PyData.int).take r.length = r.map .int := by
      rw [← List.map_take]
      simp
    have t2 : (((r :: rs).flatten).map PyData.int).drop r.length = (rs.flatten).map .int := by
      rw [← List.map_drop]
      simp
    have c1 := cut_take (((r :: rs).flatten).map PyData.int) r.length
    have c2 := cut_drop (((r :: rs).flatten).map PyData.int) r.length
    rw [t1] at c1
    rw [t2] at c2
    have z : (dn.map encRow).length < sizeLine := Nat.lt_of_lt_of_le (Nat.lt_succ_self _) (le_sz (by simp at hl ⊢; omega))
    generalize ((r :: rs).flatten).map PyData.int = A at *
    have ln : gLen [.bor (.lst (dn.map encRow))] = some (.dat (.int (dn.length : Int))) := by simp
    have s1 : plC [some (.dat (.list A)), some (.fr (.lst (dn.map encRow))), x2] st = .ok (.dat (.bool true)) st := by simp [plC, ct]
    have s2 : plB [some (.dat (.list A)), some (.fr (.lst (dn.map encRow))), x2] st = .nx [some (.dat (.list ((rs.flatten).map .int))), some (.fr (.lst ((dn ++ [r]).map encRow))), some (.dat (.int ((dn.length : Int) + 1)))] st := by
      generalize (rs.flatten).map PyData.int = RF at *
      rw [List.map_append]
      generalize dn.map encRow = DN at *
      simp [plB, ln, hk, appM, c1, c2, z, encRow]
    rw [show dn ++ r :: rs = dn ++ ([r] ++ rs) from rfl, ← e]
    conv => lhs; unfold whlM
    rw [s1]
    simp only [Ou.bindS_ok]
    rw [s2]
theorem ev_told_places {st : List Cn} {rs : List (List Int)} (hl : rs.length ≤ 100) (hr : ∀ i row, rs[i]? = some row → row.length = i + 1) : f__told_places [.dat (.list ((rs.flatten).map .int))] st = .ok (.dat (.tuple (rs.map encRow))) st := by
  obtain ⟨y2, e⟩ := pl_loop (st := st) rs [] 1000000000000 none (by omega) (by simpa using hl) (fun i row h => by simpa using hr i row h)
  rw [List.map_nil, List.nil_append] at e
  generalize (rs.flatten).map PyData.int = A at *
  have z0 : (0 : Nat) ≤ sizeLine := Nat.zero_le _
  simp only [fnM_ap, m__told_places, seqM_ap]
  simp [envOf, z0]
  change ((whlM plC plB 1000000000000 _ _).an _).fin = _
  rw [e]
  simp
theorem cmp1 {α : Type} (enc f : α → D) {im : IM} {own : List Nat} {i : Nat} {me : EM} {env : Env} {st : List Cn} {xs : List α} (hi : im env st = .ok (xs.map enc) st) (hl : xs.length ≤ sizeLine)
    (he : ∀ x ∈ xs, me ((wipeE env own).set i (some (.dat (enc x)))) st = .ok (.dat (f x)) st) : compM im own (.nm i) yesM me env st = .ok (.fr (.lst (xs.map f))) st := by
  rw [compM_ap _ _ _ _ _ _ _ hi]
  have h := lc_map (i := i) (mc := yesM) (me := me) (env := wipeE env own) (st := st) enc f (fun _ => true) xs [] (by simpa using hl) (fun _ _ => rfl) fun d hd _ => ⟨_, he d hd, rfl⟩
  rw [filter_yes, List.nil_append] at h
  exact h
theorem cmp2 {α : Type} (enc e1 e2 f : α → D) {im : IM} {own : List Nat} {i j : Nat} {me : EM} {env : Env} {st : List Cn} {xs : List α} (h12 : ∀ x, enc x = .tuple [e1 x, e2 x]) (hi : im env st = .ok (xs.map enc) st) (hl : xs.length ≤ sizeLine)
    (he : ∀ x ∈ xs, me (((wipeE env own).set i (some (.dat (e1 x)))).set j (some (.dat (e2 x)))) st = .ok (.dat (f x)) st) : compM im own (.tp [i, j]) yesM me env st = .ok (.fr (.lst (xs.map f))) st := by
  rw [compM_ap _ _ _ _ _ _ _ hi]
  have h := lc_map2 (i := i) (j := j) (mc := yesM) (me := me) (env := wipeE env own) (st := st) enc e1 e2 f (fun _ => true) h12 xs [] (by simpa using hl) (fun _ _ => rfl) fun d hd _ => ⟨_, he d hd, rfl⟩
  rw [filter_yes, List.nil_append] at h
  exact h
/-- numbers that can be written -/
def numsOk (xs : List Int) : Prop := ∀ x ∈ xs, ∃ n : Nat, x = (n : Int) ∧ n ≤ 9999999
theorem okW_nums {xs : List Int} (h : numsOk xs) : ∀ w ∈ xs.map numS, okW w := fun w hw => by
  obtain ⟨x, hx, rfl⟩ := List.mem_map.mp hw
  obtain ⟨n, rfl, hn⟩ := h x hx
  exact okW_num hn
/-- the numbers of a row, read -/
theorem nums_read {st : List Cn} {xs : List Int} (hne : xs ≠ []) (h : numsOk xs) (hl : xs.length ≤ 100) (x0 x2 x3 : Option Val) :
    (compM (seqI true (sm1M gSplit (varM 1) (cstM (.str " ")))) [3] (.nm 3) yesM (callF 1 f_written_integer (acons (varM 3) anil))) [x0, some (.dat (.str (rowT (xs.map numS)))), x2, x3] st = .ok (.fr (.lst (xs.map .int))) st := by
  have e := gSplit_row (ws := xs.map numS) (by simpa using hne) (okW_nums h) (by simpa using hl)
  refine cmp1 (fun x => .str (numS x)) .int ?_ (le_sz (by omega)) fun x hx => ?_
  · rw [List.map_map] at e
    generalize rowT (xs.map numS) = R at *
    have e3 : (PyData.str ∘ numS) = fun x => PyData.str (numS x) := rfl
    rw [e3] at e
    simp [sm1M, isSV, e, seqI]
  · obtain ⟨n, rfl, hn⟩ := h x hx
    have e2 := ev_written (st := st) hn
    simp [wipeE, e2]
end Pl.Law

set_option Elab.async false
set_option linter.all false
set_option maxRecDepth 100000
set_option maxHeartbeats 1000000
namespace Pl.Law
open PySem PySem.Spec PyProof.Rows L2 PySem.W Pl Ts
/-! ### SHARES read back -/
def shN : Sh → Str
  | .even => "even"
  | .places _ => "places"
  | .ages _ _ => "ages"
def shX : Sh → List Int
  | .even => []
  | .places rows => rows.flatten
  | .ages m w => (m.length : Int) :: (m ++ w)
def shW : Sh → List Str
  | .even => ["-"]
  | s => (shX s).map numS
theorem flat_le {rows : List (List Int)} {n : Nat} (h : ∀ r ∈ rows, r.length ≤ n) : rows.flatten.length ≤ rows.length * n := by
  have := len_flat (α := List Int) (f := fun r => r.map Int.toNat) (m := n) (l := rows) fun r hr => by simpa using h r hr
  rw [← List.map_flatten, List.length_map] at this
  exact this
theorem sh_nums {n : Nat} (h4 : n ≤ 4) : ∀ {s : Sh}, ShOk n s → numsOk (shX s) ∧ (shX s).length ≤ 20
  | .even, _ => ⟨fun x h => (by cases h), (by simp [shX])⟩
  | .places rows, h => by
    obtain ⟨h1, h2⟩ := h
    have hr : ∀ r ∈ rows, r.length ≤ 4 ∧ ∀ x ∈ r, 0 ≤ x ∧ x ≤ 100 := fun r hr => by
      obtain ⟨i, hi, rfl⟩ := List.mem_iff_getElem.mp hr
      have := h2 i _ (List.getElem?_eq_getElem hi)
      exact ⟨by omega, this.2.1⟩
    refine ⟨fun x hx => ?_, ?_⟩
    · obtain ⟨r, h3, h5⟩ := List.mem_flatten.mp hx
      obtain ⟨a, b⟩ := (hr r h3).2 x h5
      exact ⟨x.toNat, by omega, by omega⟩
    · have := flat_le fun r h => (hr r h).1
      show rows.flatten.length ≤ 20
      have : rows.length * 4 ≤ 16 := by omega
      omega
  | .ages m w, h => by
    obtain ⟨h1, h2, h3, h5, h6⟩ := h
    refine ⟨fun x hx => ?_, ?_⟩
    · rcases List.mem_cons.mp hx with rfl | hx
      · exact ⟨m.length, rfl, by omega⟩
      · rcases List.mem_append.mp hx with hx | hx
        · have := h1 x hx
          exact ⟨x.toNat, by omega, by omega⟩
        · have := h6 x hx
          exact ⟨x.toNat, by omega, by omega⟩
    · simp [shX]
      omega
theorem places_ne {rows : List (List Int)} {n : Nat} (n1 : 1 ≤ n) (h : ShOk n (.places rows)) : rows.flatten ≠ [] := by
  obtain ⟨h1, h2⟩ := h
  cases rows with
  | nil => simp at h1; omega
  | cons r rs =>
    have := (h2 0 r rfl).1
    cases r with
    | nil => simp at this
    | cons a r => simp
theorem cut_mid (ds : List D) (a b : Nat) (h : a ≤ b) (hb : b ≤ ds.length) : cutD ds (some (a : Int)) (some (b : Int)) = (ds.drop a).take (b - a) := by
  unfold cutD
  rw [HT.sIx_nat, HT.sIx_nat, Nat.min_eq_left hb, Nat.min_eq_left (Nat.le_trans h hb)]
theorem row_dash : rowT ["-"] = ("-" : Str) := by decide +kernel
theorem ev_told_shares {st : List Cn} {n : Nat} (n1 : 1 ≤ n) (h4 : n ≤ 4) : ∀ {s : Sh}, ShOk n s → f__told_shares [.dat (.str (shN s)), .dat (.str (rowT (shW s)))] st = .ok (.dat (encS s)) st
  | .even, _ => by
    have z1 : (1 : Nat) ≤ sizeLine := le_sz (by omega)
    have e := row_dash
    show f__told_shares [.dat (.str "even"), .dat (.str (rowT ["-"]))] st = _
    rw [e]
    simp only [fnM_ap, m__told_shares, seqM_ap]
    simp [envOf, gEqS_ss, onB_b, z1, encS]
  | .places rows, h => by
    obtain ⟨ok, hl⟩ := sh_nums h4 h
    have e := nums_read (st := st) (places_ne n1 h) ok (by have : (shX (.places rows)).length ≤ 20 := hl; have e2 : (shX (.places rows)).length = rows.flatten.length := rfl; omega) (some (.dat (.str "places"))) none none
    have ep := ev_told_places (st := st) (rs := rows) (by have := h.1; omega) (fun i row hi => (h.2 i row hi).1)
    have z2 : (2 : Nat) ≤ sizeLine := le_sz (by omega)
    show f__told_shares [.dat (.str "places"), .dat (.str (rowT (rows.flatten.map numS)))] st = _
    have e1 : decide (("places" : Str) = ("even" : Str)) = false := by decide +kernel
    have ee : encS (.places rows) = .tuple [.str "places", .tuple (rows.map encRow)] := rfl
    rw [ee]
    generalize rowT (rows.flatten.map numS) = R at *
    generalize rows.flatten.map PyData.int = A at *
    generalize rows.map encRow = T at *
    simp only [fnM_ap, m__told_shares, seqM_ap]
    simp [envOf, gEqS_ss, onB_b, e1]
    rw [e]
    simp only [Ou.bindS_ok]
    rw [if_pos (show nobor (Val.fr (Cn.lst A)) = true from rfl)]
    simp only [Os.an_nx]
    rw [fzM_ap]
    simp [gEqS_ss, onB_b, ep, z2]
  | .ages m w, h => by
    obtain ⟨ok, hl⟩ := sh_nums h4 h
    have hm : m.length ≤ 3 := h.2.1
    have e := nums_read (st := st) (xs := shX (.ages m w)) (by simp [shX]) ok (by omega) (some (.dat (.str "ages"))) none none
    have z3 : (3 : Nat) ≤ sizeLine := le_sz (by omega)
    show f__told_shares [.dat (.str "ages"), .dat (.str (rowT ((shX (.ages m w)).map numS)))] st = _
    have e1 : decide (("ages" : Str) = ("even" : Str)) = false := by decide +kernel
    have e2 : decide (("ages" : Str) = ("places" : Str)) = false := by decide +kernel
    have ee : encS (.ages m w) = .tuple [.str "ages", .tuple (m.map .int), .tuple (w.map .int)] := rfl
    have ea : (shX (.ages m w)).map PyData.int = PyData.int (m.length : Int) :: (m.map .int ++ w.map .int) := by simp [shX]
    have hlen : (PyData.int (m.length : Int) :: (m.map PyData.int ++ w.map .int)).length = 1 + m.length + w.length := by simp; omega
    have c1 := cut_mid (PyData.int (m.length : Int) :: (m.map PyData.int ++ w.map .int)) 1 (m.length + 1) (by omega) (by omega)
    have c2 := cut_drop (PyData.int (m.length : Int) :: (m.map PyData.int ++ w.map .int)) (m.length + 1)
    have k1 : ((PyData.int (m.length : Int) :: (m.map PyData.int ++ w.map .int)).drop 1).take (m.length + 1 - 1) = m.map .int := by simp
    have k2 : (PyData.int (m.length : Int) :: (m.map PyData.int ++ w.map .int)).drop (m.length + 1) = w.map .int := by simp
    rw [k1] at c1
    rw [k2] at c2
    have e0 : atI (PyData.int (m.length : Int) :: (m.map PyData.int ++ w.map .int)) 0 = some (.int (m.length : Int)) := atI_0
    rw [ea] at e
    rw [ee]
    have hk : ((m.length + 1 : Nat) : Int) = (m.length : Int) + 1 := by omega
    rw [hk] at c1 c2
    rw [show ((1 : Nat) : Int) = 1 from rfl] at c1
    generalize PyData.int (m.length : Int) :: (m.map PyData.int ++ w.map .int) = A at *
    generalize rowT ((shX (.ages m w)).map numS) = R at *
    generalize m.map PyData.int = M at *
    generalize w.map PyData.int = T at *
    simp only [fnM_ap, m__told_shares, seqM_ap]
    simp [envOf, gEqS_ss, onB_b, e1]
    rw [e]
    simp only [Ou.bindS_ok]
    rw [if_pos (show nobor (Val.fr (Cn.lst A)) = true from rfl)]
    simp only [Os.an_nx]
    rw [fzM_ap]
    simp [gEqS_ss, onB_b, onO_b, e2, e0, gIs_none, c1, c2, z3]
end Pl.Law

set_option Elab.async false
set_option linter.all false
set_option maxRecDepth 100000
set_option maxHeartbeats 1000000
namespace Pl.Law
open PySem PySem.Spec PyProof.Rows L2 PySem.W Pl Ts
/-! ### RULES as texts -/
def rowsW (r : RS) : List (List Str) := ["kinds" :: r.ks, ["window", limW r.w], ["gap", limW r.g], "weak" :: r.wk, ["once", encO r.o], ["pick", encE r.fst, numS (r.n : Int)], [shN r.sh], shW r.sh]
def textR (r : RS) : Str := rowsT (rowsW r)
theorem okW_lit {x : Str} (h : (tl x).all (fun c => decide (c ≠ 32) && decide (c ≠ 10)) = true ∧ Nat.ble x.length 8 = true) : okW x := by
  obtain ⟨h1, h2⟩ := h
  rw [List.all_eq_true] at h1
  exact ⟨fun z => by simpa using h1 _ z, fun z => by simpa using h1 _ z, Nat.le_of_ble_eq_true h2⟩
theorem RuOk.lim {r : RS} (h : RuOk r) : limOk r.w ∧ limOk r.g := by
  have a := h.w
  have b := h.g
  refine ⟨fun i e => ?_, fun i e => ?_⟩
  · rw [e] at a
    simp [encI, dLimit, dInt] at a
    exact ⟨i.toNat, by omega, by omega⟩
  · rw [e] at b
    simp [encI, dLimit, dInt] at b
    exact ⟨i.toNat, by omega, by omega⟩
theorem RuOk.wkw {r : RS} (h : RuOk r) : ∀ k ∈ r.wk, okW k := fun k hk => h.ks.words k (h.wk.subset hk)
theorem okW_o (o : On) : okW (encO o) := by cases o <;> exact okW_lit (by decide +kernel)
theorem okW_e (b : Bool) : okW (encE b) := by cases b <;> exact okW_lit (by decide +kernel)
theorem okW_shN (s : Sh) : okW (shN s) := by cases s <;> exact okW_lit (by simp only [shN]; decide +kernel)
theorem RuOk.shw {r : RS} (h : RuOk r) : (∀ w ∈ shW r.sh, okW w) ∧ shW r.sh ≠ [] ∧ (shW r.sh).length ≤ 20 := by
  have a := h.sh
  have n1 := h.n1
  have n4 := h.n4
  obtain ⟨ok, hl⟩ := sh_nums n4 a
  cases hs : r.sh with
  | even => exact ⟨fun w hw => by rw [List.mem_singleton.mp hw]; exact okW_lit (by decide +kernel), by simp [shW], by simp [shW]⟩
  | places rows =>
    rw [hs] at a ok hl
    exact ⟨okW_nums ok, by simpa [shW, shX] using places_ne n1 a, by simpa [shW] using hl⟩
  | ages m w =>
    rw [hs] at a ok hl
    exact ⟨okW_nums ok, by simp [shW, shX], by simpa [shW] using hl⟩
theorem rows_ok {r : RS} (h : RuOk r) : ∀ x ∈ rowsW r, x ≠ [] ∧ (∀ w ∈ x, okW w) ∧ x.length ≤ 20 := by
  have n4 := h.n4
  have l4 := h.ks.l4
  have lw : r.wk.length ≤ r.ks.length := h.wk.length_le
  intro x hx
  simp only [rowsW, List.mem_cons, List.not_mem_nil, or_false] at hx
  rcases hx with rfl | rfl | rfl | rfl | rfl | rfl | rfl | rfl
  · refine ⟨by simp, fun w hw => ?_, by simp; omega⟩
    rcases List.mem_cons.mp hw with rfl | hw
    · exact okW_lit (by decide +kernel)
    · exact h.ks.words w hw
  · refine ⟨by simp, fun w hw => ?_, by simp⟩
    simp only [List.mem_cons, List.not_mem_nil, or_false] at hw
    rcases hw with rfl | rfl
    · exact okW_lit (by decide +kernel)
    · exact okW_lim h.lim.1
  · refine ⟨by simp, fun w hw => ?_, by simp⟩
    simp only [List.mem_cons, List.not_mem_nil, or_false] at hw
    rcases hw with rfl | rfl
    · exact okW_lit (by decide +kernel)
    · exact okW_lim h.lim.2
  · refine ⟨by simp, fun w hw => ?_, by simp; omega⟩
    rcases List.mem_cons.mp hw with rfl | hw
    · exact okW_lit (by decide +kernel)
    · exact h.wkw w hw
  · refine ⟨by simp, fun w hw => ?_, by simp⟩
    simp only [List.mem_cons, List.not_mem_nil, or_false] at hw
    rcases hw with rfl | rfl
    · exact okW_lit (by decide +kernel)
    · exact okW_o _
  · refine ⟨by simp, fun w hw => ?_, by simp⟩
    simp only [List.mem_cons, List.not_mem_nil, or_false] at hw
    rcases hw with rfl | rfl | rfl
    · exact okW_lit (by decide +kernel)
    · exact okW_e _
    · exact okW_num (by omega)
  · refine ⟨by simp, fun w hw => ?_, by simp⟩
    rw [List.mem_singleton.mp hw]
    exact okW_shN _
  · exact ⟨h.shw.2.1, h.shw.1, h.shw.2.2⟩
theorem len_rows {rs : List (List Str)} {m : Nat} (h : ∀ r ∈ rs, (rowT r).length ≤ m) : (rowsT rs).length ≤ rs.length * (m + 1) := by
  cases rs with
  | nil => show (Txt.join nlS []).length ≤ _; rw [show (Txt.join nlS []).length = 0 from by decide +kernel]; omega
  | cons r rs =>
    rw [TL.len_tl, show TL.tl (rowsT (r :: rs)) = _ from tl_rows r rs, List.length_append, ← TL.len_tl]
    have h1 := h r (by simp)
    have h2 := len_flat (f := fun x : List Str => 10 :: tl (rowT x)) (m := m + 1) (l := rs) fun x hx => by
      have := h x (by simp [hx])
      rw [TL.len_tl] at this
      simp only [List.length_cons]
      have e : (tl (rowT x)).length = (TL.tl (rowT x)).length := rfl
      omega
    simp only [List.length_cons, Nat.succ_mul]
    omega
theorem textR_len {r : RS} (h : RuOk r) : (textR r).length ≤ 2000 := by
  have := len_rows (rs := rowsW r) (m := 180) fun x hx => by
    have a := row_len (rows_ok h x hx).2.1
    have b := (rows_ok h x hx).2.2
    omega
  have e : (rowsW r).length = 8 := rfl
  rw [e] at this
  unfold textR
  omega
end Pl.Law

set_option Elab.async false
set_option linter.all false
set_option maxRecDepth 100000
set_option maxHeartbeats 1000000
namespace Pl.Law
open PySem PySem.Spec PyProof.Rows L2 PySem.W Pl Ts
/-! ### RULES written -/
theorem gStr_n {n : Nat} (h : n ≤ 9999999) : gStr1 [.dat (.int (n : Int))] = some (.dat (.str (numS (n : Int)))) := by
  have : cNum (n : Int) = true := Nat.ble_eq_true_of_le (by simp; omega)
  simp [gStr1, this]
theorem ev_limit_word {st : List Cn} {o : Option Int} (h : limOk o) : f__limit_word [.dat (encI o)] st = .ok (.dat (.str (limW o))) st := by
  simp only [fnM_ap]
  cases o with
  | none => simp [m__limit_word, envOf, encI, gIs_none, onB_b, limW]
  | some i =>
    obtain ⟨n, rfl, hn⟩ := h i rfl
    simp [m__limit_word, envOf, encI, gIs_none, onB_b, limW, gStr_n hn]
theorem dats_map : ∀ ds : List D, dats (ds.map Val.dat) = some ds
  | [] => rfl
  | d :: ds => by simp [dats, dats_map ds]
theorem num_elt {st : List Cn} {x : Int} {n : Nat} (e : x = (n : Int)) (h : n ≤ 9999999) (a b : Option Val) : (callM gStr1 (acons (varM 2) anil)) [a, b, some (.dat (.int x))] st = .ok (.dat (.str (numS x))) st := by
  subst e
  simp [gStr_n h]
theorem lc2_rows {st : List Cn} {S : D} : ∀ (rows : List (List Int)) (acc : List D), acc.length + rows.flatten.length ≤ 1000 → numsOk rows.flatten →
    lc2M (.nm 1) (seqI false (varM 1)) [2] (.nm 2) (callM gStr1 (acons (varM 2) anil)) (rows.map encRow) acc [some (.dat S), none, none] st = .ok (.fr (.lst (acc ++ (rows.flatten).map fun x => .str (numS x)))) st := by
  intro rows
  induction rows with
  | nil => intro acc _ _; simp [lc2M]
  | cons r rows ih =>
    intro acc hl ok
    have okr : numsOk r := fun x hx => ok x (by simp [hx])
    have ih := ih (acc ++ r.map fun x => .str (numS x)) (by simp at hl ⊢; omega) fun x hx => ok x (by
      rw [List.flatten_cons]
      exact List.mem_append.mpr (Or.inr hx))
    have inner := lc_map (i := 2) (mc := yesM) (me := callM gStr1 (acons (varM 2) anil)) (env := [some (.dat S), some (.dat (encRow r)), none]) (st := st) (fun x : Int => PyData.int x) (fun x => .str (numS x)) (fun _ => true) r acc (le_sz (by simp at hl; omega)) (fun _ _ => rfl) (fun x hx _ => by
      obtain ⟨n, e, hn⟩ := okr x hx
      exact ⟨_, num_elt e hn _ _, rfl⟩)
    rw [filter_yes] at inner
    rw [List.map_cons, lc2M]
    simp only [bindT, List.set_cons_succ, List.set_cons_zero]
    have h1 : (seqI false (varM 1)) (datE [some (.dat S), some (.dat (encRow r)), none]) st = .ok (r.map .int) st := by
      simp [datE, seqI, encRow]
    rw [h1]
    dsimp only
    have h2 : wipeE (datE [some (.dat S), some (.dat (encRow r)), none]) [2] = [some (.dat S), some (.dat (encRow r)), none] := by simp [datE, wipeE]
    rw [h2, inner]
    dsimp only
    rw [ih, List.flatten_cons, List.map_append, List.append_assoc]
theorem ev_shares_words {st : List Cn} {n : Nat} (h4 : n ≤ 4) : ∀ {s : Sh}, ShOk n s → f__shares_words [.dat (encS s)] st = .ok (.fr (.lst ((shW s).map .str))) st
  | .even, _ => by
    have z1 : (1 : Nat) ≤ sizeLine := le_sz (by omega)
    simp only [fnM_ap]
    simp [m__shares_words, envOf, encS, gEqS_ss, onB_b, z1, shW]
  | .places rows, h => by
    obtain ⟨ok, hl⟩ := sh_nums h4 h
    have e1 : decide (("places" : Str) = ("even" : Str)) = false := by decide +kernel
    have hl2 : rows.flatten.length ≤ 20 := hl
    have L := lc2_rows (st := st) (S := encS (.places rows)) rows [] (by simp at hl2 ⊢; omega) ok
    rw [List.nil_append] at L
    have ee : encS (.places rows) = .tuple [.str "places", .tuple (rows.map encRow)] := rfl
    have ew : (shW (.places rows)).map PyData.str = (rows.flatten).map fun x => PyData.str (numS x) := by
      show ((rows.flatten).map numS).map PyData.str = _
      rw [List.map_map]
      rfl
    rw [ew]
    rw [ee] at L ⊢
    generalize (rows.flatten).map (fun x => PyData.str (numS x)) = A at *
    generalize rows.map encRow = T at *
    simp only [fnM_ap]
    simp [m__shares_words, envOf, gEqS_ss, onB_b, e1, comp2M, seqI, wipeE]
    rw [L]
    rfl
  | .ages m w, h => by
    obtain ⟨ok, hl⟩ := sh_nums h4 h
    have e1 : decide (("ages" : Str) = ("even" : Str)) = false := by decide +kernel
    have e2 : decide (("ages" : Str) = ("places" : Str)) = false := by decide +kernel
    have ee : encS (.ages m w) = .tuple [.str "ages", .tuple (m.map .int), .tuple (w.map .int)] := rfl
    have ew : (shW (.ages m w)).map PyData.str = (shX (.ages m w)).map fun x => PyData.str (numS x) := by
      show ((shX (.ages m w)).map numS).map PyData.str = _
      rw [List.map_map]
      rfl
    have ea : (shX (.ages m w)).map PyData.int = PyData.int (m.length : Int) :: (m.map .int ++ w.map .int) := by simp [shX]
    have hz : (PyData.int (m.length : Int) :: (m.map PyData.int ++ w.map .int)).length ≤ sizeLine := by rw [← ea, List.length_map]; exact le_sz (by omega)
    have lm : (m.map PyData.int).length = m.length := List.length_map _
    have C := cmp1 (st := st) (fun x : Int => PyData.int x) (fun x => .str (numS x)) (im := seqI true (lstM (acons (callM gLen (acons (binM gIx (varM 0) (cstM (.int 1))) anil)) (astar (binM gIx (varM 0) (cstM (.int 1))) (astar (binM gIx (varM 0) (cstM (.int 2))) anil))))) (own := [2]) (i := 2) (me := callM gStr1 (acons (varM 2) anil))
      (env := [some (.dat (encS (.ages m w))), none, none]) (xs := shX (.ages m w)) (by
        rw [ea, ee]
        generalize m.map PyData.int = M at *
        generalize w.map PyData.int = T at *
        have ga : astar (binM gIx (varM 0) (cstM (.int 1))) (astar (binM gIx (varM 0) (cstM (.int 2))) anil) [some (.dat (.tuple [.str "ages", .tuple M, .tuple T])), none, none] st = .ok (M.map Val.dat ++ (T.map Val.dat ++ [])) st := by
          simp [astar, Val.frz, asSeq, asList, asTup]
        have gd : dats (M.map Val.dat ++ T.map Val.dat) = some (M ++ T) := by rw [← List.map_append, dats_map]
        have hz2 : m.length + T.length + 1 ≤ sizeLine := by rw [← lm]; simpa using hz
        simp [seqI, lm, ga, gd, lstM, hz2]) (le_sz (by omega)) (fun x hx => by
        obtain ⟨n, e, hn⟩ := ok x hx
        exact num_elt e hn _ _)
    rw [ew]
    rw [ee] at C ⊢
    generalize (shX (.ages m w)).map (fun x => PyData.str (numS x)) = A at *
    generalize m.map PyData.int = M at *
    generalize w.map PyData.int = T at *
    simp only [fnM_ap]
    simp [-compM_ap, m__shares_words, envOf, gEqS_ss, onB_b, e1, e2]
    rw [C]
    rfl
end Pl.Law

set_option Elab.async false
set_option linter.all false
set_option maxRecDepth 100000
set_option maxHeartbeats 1000000
namespace Pl.Law
open PySem PySem.Spec PyProof.Rows L2 PySem.W Pl Ts
theorem strs1_map : ∀ ys : List Str, strs1 (ys.map .str) = some ys
  | [] => rfl
  | y :: ys => by simp [strs1, strs1_map ys]
theorem sumS_le {m : Nat} : ∀ {ys : List Str}, (∀ y ∈ ys, y.length ≤ m) → (ys.map (·.length)).sum ≤ ys.length * m
  | [], _ => by simp
  | y :: ys, h => by
    have h1 := h y (by simp)
    have h2 := sumS_le (ys := ys) fun z hz => h z (by simp [hz])
    simp only [List.map_cons, List.sum_cons, List.length_cons, Nat.succ_mul]
    omega
theorem gJoin_of {y : Str} {ys : List Str} {v : Val} (hv : asSeq v = some (ys.map .str)) {m : Nat} (h : ∀ z ∈ ys, z.length ≤ m) (hy : y.length ≤ 1) (hm : ys.length * m ≤ 1000000) (hl : ys.length ≤ 1000) : gJoin (.dat (.str y)) v = some (.dat (.str (Txt.join y ys))) := by
  have b : Nat.ble ((ys.map (·.length)).sum + ys.length * y.length) 16777216 = true := by
    have := sumS_le h
    have h2 : ys.length * y.length ≤ ys.length * 1 := Nat.mul_le_mul_left _ hy
    exact Nat.ble_eq_true_of_le (by omega)
  simp [gJoin, hv, strs1_map, b]
theorem join_row {ws : List Str} (h : ∀ w ∈ ws, okW w) (hl : ws.length ≤ 100) : gJoin (.dat (.str " ")) (.dat (.list (ws.map .str))) = some (.dat (.str (rowT ws))) :=
  gJoin_of (y := spS) rfl (m := 8) (fun z hz => (h z hz).2.2) (by decide +kernel) (by omega) (by omega)
theorem join_rows {rs : List (List Str)} {v : Val} (hv : asSeq v = some ((rs.map rowT).map .str)) (h : ∀ r ∈ rs, (rowT r).length ≤ 1000) (hl : rs.length ≤ 300) : gJoin (.dat (.str "\n")) v = some (.dat (.str (rowsT rs))) :=
  gJoin_of (y := nlS) hv (m := 1000) (fun z hz => by obtain ⟨r, hr, rfl⟩ := List.mem_map.mp hz; exact h r hr) (by decide +kernel) (by simp; omega) (by simp; omega)
theorem ev_rule_text {st : List Cn} {r : RS} (h : RuOk r) : f_rule_text [.dat (encR r)] st = .ok (.dat (.str (textR r))) st := by
  have en : f_need_rule [.dat (encR r)] st = .ok (.dat (encR r)) st := by rw [ev_need_rule h.gd, ruleOu, h.bad]
  have hw := ev_limit_word (st := st) h.lim.1
  have hg := ev_limit_word (st := st) h.lim.2
  have n4 := h.n4
  have hs := ev_shares_words (st := st) h.n4 h.sh
  have hn := gStr_n (n := r.n) (by omega)
  have l4 := h.ks.l4
  have lw : r.wk.length ≤ r.ks.length := h.wk.length_le
  have z0 : (0 : Nat) ≤ sizeLine := Nat.zero_le _
  have z1 : (1 : Nat) ≤ sizeLine := le_sz (by omega)
  have z2 : (2 : Nat) ≤ sizeLine := le_sz (by omega)
  have z3 : (3 : Nat) ≤ sizeLine := le_sz (by omega)
  have z8 : (8 : Nat) ≤ sizeLine := le_sz (by omega)
  have zk : r.ks.length + 1 ≤ sizeLine := le_sz (by omega)
  have zw : r.wk.length + 1 ≤ sizeLine := le_sz (by omega)
  -- the rows
  have rows : (lstM (acons (lstM (acons (cstM (.str "kinds")) (astar (varM 1) anil))) (acons (lstM (acons (cstM (.str "window")) (acons (callF 1 f__limit_word (acons (varM 2) anil)) anil))) (acons (lstM (acons (cstM (.str "gap")) (acons (callF 1 f__limit_word (acons (varM 3) anil)) anil))) (acons (lstM (acons (cstM (.str "weak")) (astar (varM 4) anil))) (acons (lstM (acons (cstM (.str "once")) (acons (varM 5) anil))) (acons (lstM (acons (cstM (.str "pick")) (acons (binM gIx (varM 6) (cstM (.int 0))) (acons (callM gStr1 (acons (binM gIx (varM 6) (cstM (.int 1))) anil)) anil)))) (acons (lstM (acons (binM gIx (varM 7) (cstM (.int 0))) anil)) (acons (callF 1 f__shares_words (acons (varM 7) anil)) anil))))))))) [some (.dat (encR r)), some (.dat (.tuple (r.ks.map .str))), some (.dat (encI r.w)), some (.dat (encI r.g)), some (.dat (.tuple (r.wk.map .str))), some (.dat (.str (encO r.o))), some (.dat (.tuple [.str (encE r.fst), .int r.n])), some (.dat (encS r.sh)), none, none] st = .ok (.fr (.lst ((rowsW r).map fun ws => .list (ws.map .str)))) st := by
    have s0 : gIx (.dat (encS r.sh)) (.dat (.int 0)) = some (.dat (.str (shN r.sh))) := by cases r.sh <;> rfl
    have dk : dats ((r.ks.map PyData.str).map Val.dat) = some (r.ks.map .str) := dats_map _
    have dw : dats ((r.wk.map PyData.str).map Val.dat) = some (r.wk.map .str) := dats_map _
    have lk : (r.ks.map PyData.str).length = r.ks.length := List.length_map _
    have lw : (r.wk.map PyData.str).length = r.wk.length := List.length_map _
    have er : (rowsW r).map (fun ws => PyData.list (ws.map .str)) = [.list (.str "kinds" :: r.ks.map .str), .list [.str "window", .str (limW r.w)], .list [.str "gap", .str (limW r.g)], .list (.str "weak" :: r.wk.map .str), .list [.str "once", .str (encO r.o)], .list [.str "pick", .str (encE r.fst), .str (numS (r.n : Int))], .list [.str (shN r.sh)], .list ((shW r.sh).map .str)] := rfl
    rw [er]
    generalize r.ks.map PyData.str = K at *
    generalize r.wk.map PyData.str = K2 at *
    generalize (shW r.sh).map PyData.str = K3 at *
    generalize encS r.sh = S at *
    generalize encI r.w = W at *
    generalize encI r.g = G at *
    generalize encR r = R at *
    simp [astar, Val.frz, asSeq, asList, asTup, hw, hg, hs, hn, s0, dk, dw, dats, lk, lw, zk, zw, z1, z2, z3, z8, lstM]
  have C := cmp1 (st := st) (fun ws : List Str => PyData.list (ws.map .str)) (fun ws => .str (rowT ws)) (im := seqI true (varM 8)) (own := [9]) (i := 9) (me := sm1M gJoin (cstM (.str " ")) (varM 9))
    (env := [some (.dat (encR r)), some (.dat (.tuple (r.ks.map .str))), some (.dat (encI r.w)), some (.dat (encI r.g)), some (.dat (.tuple (r.wk.map .str))), some (.dat (.str (encO r.o))), some (.dat (.tuple [.str (encE r.fst), .int r.n])), some (.dat (encS r.sh)), some (.dat (.list ((rowsW r).map fun ws => .list (ws.map .str)))), none]) (xs := rowsW r)
    (by simp [seqI]) (le_sz (by show 8 ≤ 1000; omega)) (fun ws hws => by
      have := join_row (rows_ok h ws hws).2.1 (by have := (rows_ok h ws hws).2.2; omega)
      generalize ws.map PyData.str = A at *
      simp [sm1M, isSV, wipeE, this])
  have J := join_rows (rs := rowsW r) (v := .dat (.list ((rowsW r).map fun ws => .str (rowT ws)))) (by rw [List.map_map]; rfl) (fun x hx => by
    have a := row_len (rows_ok h x hx).2.1
    have b := (rows_ok h x hx).2.2
    omega) (by show 8 ≤ 300; omega)
  have eR : encR r = .tuple [.tuple (r.ks.map .str), encI r.w, encI r.g, .tuple (r.wk.map .str), .str (encO r.o), .tuple [.str (encE r.fst), .int r.n], encS r.sh] := rfl
  have t0 : (unpM (.tp [1, 2, 3, 4, 5, 6, 7]) (frzM (callF 1 f_need_rule (acons (varM 0) anil)))) [some (.dat (encR r)), none, none, none, none, none, none, none, none, none] st = .nx [some (.dat (encR r)), some (.dat (.tuple (r.ks.map .str))), some (.dat (encI r.w)), some (.dat (encI r.g)), some (.dat (.tuple (r.wk.map .str))), some (.dat (.str (encO r.o))), some (.dat (.tuple [.str (encE r.fst), .int r.n])), some (.dat (encS r.sh)), none, none] st := by
    have hb : ∀ env : Env, bindT (.tp [1, 2, 3, 4, 5, 6, 7]) (encR r) env = bindAll [1, 2, 3, 4, 5, 6, 7] [.tuple (r.ks.map .str), encI r.w, encI r.g, .tuple (r.wk.map .str), .str (encO r.o), .tuple [.str (encE r.fst), .int r.n], encS r.sh] env := fun env => rfl
    generalize encR r = R at *
    simp [unpM, en, hb, bindAll]
  simp only [fnM_ap, m_rule_text, seqM_ap]
  rw [show envOf 10 [Val.dat (encR r)] = [some (.dat (encR r)), none, none, none, none, none, none, none, none, none] from rfl, t0]
  simp only [Os.an_nx, seqM_ap]
  have t1 : ∀ (m : EM) (env : Env) (A : List D), env.length = 10 → m env st = .ok (.fr (.lst A)) st → (setM 8 (frzM m)) env st = .nx (env.set 8 (some (.dat (.list A)))) st := fun m env A _ e => by simp [e]
  rw [t1 _ _ _ rfl rows]
  simp only [Os.an_nx, List.set_cons_succ, List.set_cons_zero]
  have t2 : ∀ (m : EM) (env : Env) (A : List D), m env st = .ok (.fr (.lst A)) st → gJoin (.dat (.str "\n")) (.fr (.lst A)) = some (.dat (.str (textR r))) → (retM (sm1M gJoin (cstM (.str "\n")) m)) env st = .ret (.dat (.str (textR r))) st := fun m env A e g => by simp [sm1M, isSV, e, g]
  rw [t2 _ _ _ C J]
  rfl
end Pl.Law

set_option Elab.async false
set_option linter.all false
set_option maxRecDepth 100000
set_option maxHeartbeats 1000000
namespace Pl.Law
open PySem PySem.Spec PyProof.Rows L2 PySem.W Pl Ts
/-! ### RULES read -/
theorem okw (x : Str) (h : ((tl x).all (fun c => decide (c ≠ 32) && decide (c ≠ 10)) && Nat.ble x.length 8) = true) : okW x := okW_lit (by simpa using h)
theorem ev_told_rule {st : List Cn} {r : RS} (h : RuOk r) : f__told_rule [.dat (.list ((rowsW r).map fun ws => .str (rowT ws)))] st = .ok (.dat (encR r)) st := by
  have l4 := h.ks.l4
  have n4 := h.n4
  have lw : r.wk.length ≤ r.ks.length := h.wk.length_le
  have ok := rows_ok h
  have e1 := ev_told_words (st := st) (w := "kinds") (ws := r.ks) (ok _ (by simp [rowsW])).2.1 (by omega)
  have e2 := ev_told_limit (st := st) (w := "window") (okw _ (by decide +kernel)) h.lim.1
  have e3 := ev_told_limit (st := st) (w := "gap") (okw _ (by decide +kernel)) h.lim.2
  have e4 := ev_told_words (st := st) (w := "weak") (ws := r.wk) (ok _ (by simp [rowsW])).2.1 (by omega)
  have e5 := ev_told_once (st := st) (okW_o r.o)
  have e6 := ev_told_pick (st := st) (okW_e r.fst) (n := r.n) (by omega)
  have e7 := ev_told_shares (st := st) h.n1 h.n4 h.sh
  have r7 : rowT [shN r.sh] = shN r.sh := by
    apply TL.ext_tl
    show tl _ = tl _
    rw [tl_row]
    simp
  have er : (rowsW r).map (fun ws => PyData.str (rowT ws)) = [.str (rowT ("kinds" :: r.ks)), .str (rowT ["window", limW r.w]), .str (rowT ["gap", limW r.g]), .str (rowT ("weak" :: r.wk)), .str (rowT ["once", encO r.o]), .str (rowT ["pick", encE r.fst, numS (r.n : Int)]), .str (rowT [shN r.sh]), .str (rowT (shW r.sh))] := rfl
  have eR : encR r = .tuple [.tuple (r.ks.map .str), encI r.w, encI r.g, .tuple (r.wk.map .str), .str (encO r.o), .tuple [.str (encE r.fst), .int r.n], encS r.sh] := rfl
  rw [er, eR, r7]
  have z7 : (7 : Nat) ≤ sizeLine := le_sz (by omega)
  generalize rowT ("kinds" :: r.ks) = A1 at *
  generalize rowT ["window", limW r.w] = A2 at *
  generalize rowT ["gap", limW r.g] = A3 at *
  generalize rowT ("weak" :: r.wk) = A4 at *
  generalize rowT ["once", encO r.o] = A5 at *
  generalize rowT ["pick", encE r.fst, numS (r.n : Int)] = A6 at *
  generalize rowT (shW r.sh) = A8 at *
  generalize shN r.sh = A7 at *
  generalize r.ks.map PyData.str = K at *
  generalize r.wk.map PyData.str = K2 at *
  generalize encI r.w = W at *
  generalize encI r.g = G at *
  generalize encS r.sh = S at *
  simp only [fnM_ap]
  simp [m__told_rule, envOf, unpLM, bindAll, e1, e2, e3, e4, e5, e6, e7, z7]
theorem ev_need_string {st : List Cn} {x : Str} : f__need_string [.dat (.str x)] st = .ok (.dat (.str x)) st := by
  simp only [fnM_ap]
  simp [m__need_string, envOf, isT]
theorem ev_read_rule {st : List Cn} {r : RS} (h : RuOk r) : f_read_rule [.dat (.str (textR r))] st = .ok (.dat (encR r)) st := by
  have en : f_need_rule [.dat (encR r)] st = .ok (.dat (encR r)) st := by rw [ev_need_rule h.gd, ruleOu, h.bad]
  have et := ev_told_rule (st := st) h
  have es : gSplit (.dat (.str (textR r))) (.dat (.str "\n")) = some (.fr (.lst ((rowsW r).map fun ws => .str (rowT ws)))) := by
    have e := rows_split (rs := rowsW r) (by simp [rowsW]) fun x hx => ⟨(rows_ok h x hx).1, (rows_ok h x hx).2.1⟩
    have l := textR_len h
    have b : Nat.ble ((textR r).length + 2) sizeLine = true := Nat.ble_eq_true_of_le (by rw [sizeLine_eq]; omega)
    have z : (("\n" : Str).length == 0) = false := by decide +kernel
    show (if (("\n" : Str).length == 0) = false ∧ Nat.ble ((textR r).length + 2) sizeLine = true then some (Val.fr (.lst ((Txt.split (rowsT (rowsW r)) nlS).map .str))) else none) = _
    rw [if_pos ⟨z, b⟩, e, List.map_map]
    rfl
  have l8 : ((rowsW r).map fun ws => PyData.str (rowT ws)).length = 8 := rfl
  have z8 : (8 : Nat) ≤ sizeLine := le_sz (by omega)
  have z1 : (1 : Nat) ≤ sizeLine := le_sz (by omega)
  have ns := fun x => ev_need_string (st := st) (x := x)
  generalize textR r = T at *
  generalize (rowsW r).map (fun ws => PyData.str (rowT ws)) = A at *
  have c8 : cutD A none (some 8) = A := by
    have := cut_take A 8
    rw [show (((8 : Nat) : Int)) = 8 from rfl] at this
    rw [this]
    exact List.take_of_length_le (by omega)
  have m0 : ∀ x : D, gMul (.fr (.lst [x])) (.dat (.int 0)) = some (.fr (.lst [])) := fun x => rfl
  have a0 : gAdd (.fr (.lst A)) (.fr (.lst [])) = some (.fr (.lst A)) := by
    rw [gAdd_ff, List.append_nil, if_pos (by simp; omega)]
  generalize encR r = R at *
  simp only [fnM_ap, m_read_rule, seqM_ap]
  simp [envOf, ns, sm1M, isSV, es, l8, c8, m0, a0, z1]
  simp [tryM, et, en, l8]
end Pl.Law

set_option Elab.async false
set_option linter.all false
set_option maxRecDepth 100000
set_option maxHeartbeats 1000000
namespace Pl.Law
open PySem PySem.Spec PyProof.Rows L2 PySem.W Pl Ts
/-! ### the law's own rows -/
def addW (t : Str) (ws : List Str) : Str := ws.foldl (fun t w => t ++ spS ++ w) t
theorem tl_app (x y : Str) : tl (x ++ y) = tl x ++ tl y := TL.tl_append x y
theorem tl_addW : ∀ (ws : List Str) (t : Str), tl (addW t ws) = tl t ++ (ws.map fun x => 32 :: tl x).flatten := by
  intro ws
  induction ws with
  | nil => intro t; simp [addW]
  | cons w ws ih =>
    intro t
    show tl (addW (t ++ spS ++ w) ws) = _
    rw [ih, tl_app, tl_app, tl_sp]
    simp
theorem len_sp : spS.length = 1 := by decide +kernel
theorem len_addW : ∀ (ws : List Str) (t : Str), (∀ w ∈ ws, okW w) → (addW t ws).length ≤ t.length + 9 * ws.length := by
  intro ws
  induction ws with
  | nil => intro t _; simp [addW]
  | cons w ws ih =>
    intro t h
    have := ih (t ++ spS ++ w) fun x hx => h x (by simp [hx])
    show (addW (t ++ spS ++ w) ws).length ≤ _
    rw [len_app, len_app, len_sp] at this
    have h1 := (h w (by simp)).2.2
    simp only [List.length_cons]
    omega
theorem gAdd_ss {a b : Str} (h : a.length + b.length ≤ 3000) : gAdd (.dat (.str a)) (.dat (.str b)) = some (.dat (.str (a ++ b))) := by
  have : a.length + b.length ≤ sizeLine := by rw [sizeLine_eq]; omega
  show (gAddS (.dat (.str a)) (.dat (.str b))).or _ = _
  simp [gAddS, this]
def wB : SM := setM 1 (frzM (binM gAdd (binM gAdd (varM 1) (cstM (.str " "))) (varM 2)))
theorem w_loop {st : List Cn} (x0 x3 x4 : Option Val) : ∀ (ws : List Str) (t : Str) (x2 : Option Val), (∀ w ∈ ws, okW w) → t.length + 9 * ws.length ≤ 2900 →
    ∃ y2, forM (.nm 2) wB (ws.map .str) [x0, some (.dat (.str t)), x2, x3, x4] st = .nx [x0, some (.dat (.str (addW t ws))), y2, x3, x4] st := by
  intro ws
  induction ws with
  | nil => intro t x2 _ _; exact ⟨x2, rfl⟩
  | cons w ws ih =>
    intro t x2 h hl
    simp only [List.length_cons] at hl
    have hw := (h w (by simp)).2.2
    have l1 : (t ++ spS).length = t.length + 1 := by rw [len_app, len_sp]
    obtain ⟨y2, e⟩ := ih (t ++ spS ++ w) (some (.dat (.str w))) (fun x hx => h x (by simp [hx])) (by rw [len_app, l1]; omega)
    refine ⟨y2, ?_⟩
    rw [show addW t (w :: ws) = addW (t ++ spS ++ w) ws from rfl, ← e]
    have g1 := gAdd_ss (a := t) (b := spS) (by rw [len_sp]; omega)
    have g2 := gAdd_ss (a := t ++ spS) (b := w) (by rw [l1]; omega)
    refine forM_step (env1 := [x0, some (.dat (.str t)), some (.dat (.str w)), x3, x4]) rfl ?_
    unfold spS at g1 g2 ⊢
    simp [wB, g1, g2]
def nB : SM := setM 3 (frzM (binM gAdd (varM 3) (callM gList (acons (varM 4) anil))))
theorem n_loop {st : List Cn} (x0 x1 x2 : Option Val) : ∀ (rows : List (List Int)) (acc : List Int) (x4 : Option Val), acc.length + rows.flatten.length ≤ 900 →
    ∃ y4, forM (.nm 4) nB (rows.map encRow) [x0, x1, x2, some (.dat (.list (acc.map .int))), x4] st = .nx [x0, x1, x2, some (.dat (.list ((acc ++ rows.flatten).map .int))), y4] st := by
  intro rows
  induction rows with
  | nil => intro acc x4 _; exact ⟨x4, by simp [forM]⟩
  | cons r rows ih =>
    intro acc x4 hl
    simp only [List.flatten_cons, List.length_append] at hl
    obtain ⟨y4, e⟩ := ih (acc ++ r) (some (.dat (encRow r))) (by rw [List.length_append]; omega)
    refine ⟨y4, ?_⟩
    rw [List.flatten_cons, ← List.append_assoc, ← e]
    refine forM_step (env1 := [x0, x1, x2, some (.dat (.list (acc.map .int))), some (.dat (encRow r))]) rfl ?_
    have z : acc.length + r.length ≤ sizeLine := le_sz (by omega)
    simp [nB, encRow, z]
end Pl.Law

set_option Elab.async false
set_option linter.all false
set_option maxRecDepth 100000
set_option maxHeartbeats 2000000
namespace Pl.Law
open PySem PySem.Spec PyProof.Rows L2 PySem.W Pl Ts
theorem lim_if {st : List Cn} {R : D} {i : Int} {o : Option Int} (h : limOk o) (g : gIx (.dat R) (.dat (.int i)) = some (.dat (encI o))) (x1 x2 x3 x4 : Option Val) :
    (ifM (binM (gIs id) (binM gIx (varM 0) (cstM (.int i))) (cstM .none)) (cstM (.str "none")) (callM gStr1 (acons (binM gIx (varM 0) (cstM (.int i))) anil))) [some (.dat R), x1, x2, x3, x4] st = .ok (.dat (.str (limW o))) st := by
  cases o with
  | none => 
    have g' : gIx (.dat R) (.dat (.int i)) = some (.dat .none) := g
    simp [g', gIs_none, onB_b, limW]
  | some j =>
    obtain ⟨n, rfl, hn⟩ := h j rfl
    have g' : gIx (.dat R) (.dat (.int i)) = some (.dat (.int (n : Int))) := g
    simp [g', gIs_none, onB_b, limW, gStr_n hn]
def lr0 : SM := (setM 1 (frzM (cstM (.str "kinds"))))
def lr2 : SM := (setM 1 (frzM (binM gAdd (binM gAdd (varM 1) (cstM (.str "\nwindow "))) (ifM (binM (gIs id) (binM gIx (varM 0) (cstM (.int 1))) (cstM .none)) (cstM (.str "none")) (callM gStr1 (acons (binM gIx (varM 0) (cstM (.int 1))) anil))))))
def lr3 : SM := (setM 1 (frzM (binM gAdd (binM gAdd (binM gAdd (varM 1) (cstM (.str "\ngap "))) (ifM (binM (gIs id) (binM gIx (varM 0) (cstM (.int 2))) (cstM .none)) (cstM (.str "none")) (callM gStr1 (acons (binM gIx (varM 0) (cstM (.int 2))) anil)))) (cstM (.str "\nweak")))))
def lr5 : SM := (setM 1 (frzM (binM gAdd (binM gAdd (binM gAdd (binM gAdd (binM gAdd (binM gAdd (varM 1) (cstM (.str "\nonce "))) (binM gIx (varM 0) (cstM (.int 4)))) (cstM (.str "\npick "))) (binM gIx (binM gIx (varM 0) (cstM (.int 5))) (cstM (.int 0)))) (cstM (.str " "))) (callM gStr1 (acons (binM gIx (binM gIx (varM 0) (cstM (.int 5))) (cstM (.int 1))) anil)))))
def lr6 : SM := (setM 1 (frzM (binM gAdd (binM gAdd (varM 1) (cstM (.str "\n"))) (binM gIx (binM gIx (varM 0) (cstM (.int 6))) (cstM (.int 0))))))
def lr7 : SM := (setM 3 (frzM (lstM anil)))
def lr8 : SM := (ifS (binM gEqq (binM gIx (binM gIx (varM 0) (cstM (.int 6))) (cstM (.int 0))) (cstM (.str "places"))) (frM (seqI false (binM gIx (binM gIx (varM 0) (cstM (.int 6))) (cstM (.int 1)))) (.nm 4) nB) nilM)
def lr9 : SM := (ifS (binM gEqq (binM gIx (binM gIx (varM 0) (cstM (.int 6))) (cstM (.int 0))) (cstM (.str "ages"))) (setM 3 (frzM (binM gAdd (binM gAdd (lstM (acons (callM gLen (acons (binM gIx (binM gIx (varM 0) (cstM (.int 6))) (cstM (.int 1))) anil)) anil)) (callM gList (acons (binM gIx (binM gIx (varM 0) (cstM (.int 6))) (cstM (.int 1))) anil))) (callM gList (acons (binM gIx (binM gIx (varM 0) (cstM (.int 6))) (cstM (.int 2))) anil))))) nilM)
def lrT : EM := (ifM (binM gNeq (varM 3) (lstM anil)) (sm1M gJoin (cstM (.str " ")) (compM (seqI true (varM 3)) [2] (.nm 2) yesM (callM gStr1 (acons (varM 2) anil)))) (cstM (.str "-")))
theorem lr_split : m__law_rule_rows = seqM lr0 (seqM (frM (seqI false (binM gIx (varM 0) (cstM (.int 0)))) (.nm 2) wB) (seqM lr2 (seqM lr3 (seqM (frM (seqI false (binM gIx (varM 0) (cstM (.int 3)))) (.nm 2) wB) (seqM lr5 (seqM lr6 (seqM lr7 (seqM lr8 (seqM lr9 (retM (binM gAdd (binM gAdd (varM 1) (cstM (.str "\n"))) lrT))))))))))) := rfl
/-- the numbers of SHARES, as the law puts them together -/
theorem lr_nums {st : List Cn} {R : D} {n : Nat} (n1 : 1 ≤ n) (h4 : n ≤ 4) {s : Sh} (h : ShOk n s) (g : gIx (.dat R) (.dat (.int 6)) = some (.dat (encS s))) (x1 x2 x4 : Option Val) :
    ∃ y4, ((lr8 [some (.dat R), x1, x2, some (.dat (.list [])), x4] st).an lr9) = .nx [some (.dat R), x1, x2, some (.dat (.list ((shX s).map .int))), y4] st := by
  cases s with
  | even =>
    have g' : gIx (.dat R) (.dat (.int 6)) = some (.dat (.tuple [.str "even"])) := g
    have e1 : decide (("even" : Str) = ("places" : Str)) = false := by decide +kernel
    have e2 : decide (("even" : Str) = ("ages" : Str)) = false := by decide +kernel
    exact ⟨x4, by simp [lr8, lr9, g', gEqS_ss, onB_b, e1, e2, shX]⟩
  | places rows =>
    have g' : gIx (.dat R) (.dat (.int 6)) = some (.dat (.tuple [.str "places", .tuple (rows.map encRow)])) := g
    have e2 : decide (("places" : Str) = ("ages" : Str)) = false := by decide +kernel
    have hl : rows.flatten.length ≤ 20 := (sh_nums h4 h).2
    obtain ⟨y4, e⟩ := n_loop (st := st) (some (.dat R)) x1 x2 rows [] x4 (by simp only [List.length_nil]; omega)
    rw [List.map_nil, List.nil_append] at e
    refine ⟨y4, ?_⟩
    have hi : (seqI false (binM gIx (binM gIx (varM 0) (cstM (.int 6))) (cstM (.int 1)))) [some (.dat R), x1, x2, some (.dat (.list [])), x4] st = .ok (rows.map encRow) st := by
      generalize rows.map encRow = T at *
      simp [seqI, g']
    have f := frM_ap _ (.nm 4) nB _ _ hi
    rw [e] at f
    have s8 : lr8 [some (.dat R), x1, x2, some (.dat (.list [])), x4] st = .nx [some (.dat R), x1, x2, some (.dat (.list (rows.flatten.map .int))), y4] st := by
      have c : (binM gEqq (binM gIx (binM gIx (varM 0) (cstM (.int 6))) (cstM (.int 0))) (cstM (.str "places"))) [some (.dat R), x1, x2, some (.dat (.list [])), x4] st = .ok (.dat (.bool true)) st := by
        generalize rows.map encRow = T at *
        simp [g', gEqS_ss]
      unfold lr8 ifS
      rw [c]
      exact f
    rw [s8]
    simp only [Os.an_nx]
    show lr9 _ st = .nx [some (.dat R), x1, x2, some (.dat (.list (rows.flatten.map .int))), y4] st
    generalize rows.map encRow = T at *
    generalize rows.flatten.map PyData.int = A at *
    simp [lr9, g', gEqS_ss, onB_b, e2]
  | ages m w =>
    have g' : gIx (.dat R) (.dat (.int 6)) = some (.dat (.tuple [.str "ages", .tuple (m.map .int), .tuple (w.map .int)])) := g
    have e1 : decide (("ages" : Str) = ("places" : Str)) = false := by decide +kernel
    have hl : (shX (.ages m w)).length ≤ 20 := (sh_nums h4 h).2
    have z1 : (1 : Nat) ≤ sizeLine := le_sz (by omega)
    have hl2 : m.length + w.length + 1 ≤ 20 := by simpa [shX] using hl
    have za : 1 + m.length ≤ sizeLine := le_sz (by omega)
    have zb : m.length + 1 + w.length ≤ sizeLine := le_sz (by omega)
    refine ⟨x4, ?_⟩
    simp [lr8, lr9, g', gEqS_ss, onB_b, e1, shX, z1, za, zb]
end Pl.Law

set_option Elab.async false
set_option linter.all false
set_option maxRecDepth 100000
set_option maxHeartbeats 2000000
namespace Pl.Law
open PySem PySem.Spec PyProof.Rows L2 PySem.W Pl Ts
theorem ne_nil (xs : List Int) : gNeq (.dat (.list (xs.map .int))) (.fr (.lst [])) = some (.dat (.bool (!xs.isEmpty))) := by
  have s1 : ShN (.list (xs.map .int)) 1 := ShN.list fun d hd => by
    obtain ⟨x, _, rfl⟩ := List.mem_map.mp hd
    exact ShN.int _
  have s2 : ShN (.list []) 1 := ShN.list fun _ h => by cases h
  rw [gNe_d (d := .list (xs.map .int)) (e := .list []) rfl rfl (s1.shaped (by decide)) (s2.shaped (by decide)) rfl]
  cases xs <;> rfl
theorem lr_tail1 {st : List Cn} {xs : List Int} (hne : xs ≠ []) (ok : numsOk xs) (hl : xs.length ≤ 20) (x0 x1 x2 x4 : Option Val) :
    lrT [x0, x1, x2, some (.dat (.list (xs.map .int))), x4] st = .ok (.dat (.str (rowT (xs.map numS)))) st := by
  have z0 : (0 : Nat) ≤ sizeLine := Nat.zero_le _
  have gn := ne_nil xs
  have he : xs.isEmpty = false := by cases xs with | nil => exact absurd rfl hne | cons => rfl
  rw [he] at gn
  have C := cmp1 (st := st) (fun x : Int => PyData.int x) (fun x => .str (numS x)) (im := seqI true (varM 3)) (own := [2]) (i := 2) (me := callM gStr1 (acons (varM 2) anil))
    (env := [x0, x1, x2, some (.dat (.list (xs.map .int))), x4]) (xs := xs) (by simp [seqI]) (le_sz (by omega)) (fun x hx => by
      obtain ⟨n, rfl, hn⟩ := ok x hx
      simp [wipeE, gStr_n hn])
  have J := gJoin_of (y := spS) (ys := xs.map numS) (v := .fr (.lst (xs.map fun x => .str (numS x)))) (by rw [List.map_map]; rfl) (m := 8) (fun z hz => (okW_nums ok z hz).2.2) (by decide +kernel) (by simp; omega) (by simp; omega)
  have J' : gJoin (.dat (.str " ")) (.fr (.lst (xs.map fun x => .str (numS x)))) = some (.dat (.str (rowT (xs.map numS)))) := J
  generalize xs.map (fun x => PyData.str (numS x)) = A at *
  generalize xs.map PyData.int = B at *
  simp [-compM_ap, lrT, gn, z0, onB_b, sm1M, isSV, C, J']
theorem lr_tail {st : List Cn} {n : Nat} (n1 : 1 ≤ n) (h4 : n ≤ 4) : ∀ {s : Sh}, ShOk n s → ∀ (x0 x1 x2 x4 : Option Val),
    lrT [x0, x1, x2, some (.dat (.list ((shX s).map .int))), x4] st = .ok (.dat (.str (rowT (shW s)))) st
  | .even, h, x0, x1, x2, x4 => by
    have z0 : (0 : Nat) ≤ sizeLine := Nat.zero_le _
    rw [show rowT (shW .even) = ("-" : Str) from row_dash]
    have gn := ne_nil []
    have gn' : gNeq (.dat (.list [])) (.fr (.lst [])) = some (.dat (.bool false)) := gn
    simp [lrT, shX, gn', z0, onB_b]
  | .places rows, h, x0, x1, x2, x4 => lr_tail1 (xs := rows.flatten) (places_ne n1 h) (sh_nums h4 h).1 (sh_nums h4 h).2 x0 x1 x2 x4
  | .ages m w, h, x0, x1, x2, x4 => lr_tail1 (xs := shX (.ages m w)) (by simp [shX]) (sh_nums h4 h).1 (sh_nums h4 h).2 x0 x1 x2 x4
theorem an_seq (o : Os) (a b : SM) : o.an (seqM a b) = (o.an a).an b := by cases o <;> rfl
theorem ev_law_rule_rows {st : List Cn} {r : RS} (h : RuOk r) : f__law_rule_rows [.dat (encR r)] st = .ok (.dat (.str (textR r))) st := by
  have l4 := h.ks.l4
  have n4 := h.n4
  have lw : r.wk.length ≤ r.ks.length := h.wk.length_le
  have g0 : gIx (.dat (encR r)) (.dat (.int 0)) = some (.dat (.tuple (r.ks.map .str))) := rfl
  have g1 : gIx (.dat (encR r)) (.dat (.int 1)) = some (.dat (encI r.w)) := rfl
  have g2 : gIx (.dat (encR r)) (.dat (.int 2)) = some (.dat (encI r.g)) := rfl
  have g3 : gIx (.dat (encR r)) (.dat (.int 3)) = some (.dat (.tuple (r.wk.map .str))) := rfl
  have g4 : gIx (.dat (encR r)) (.dat (.int 4)) = some (.dat (.str (encO r.o))) := rfl
  have g5 : gIx (.dat (encR r)) (.dat (.int 5)) = some (.dat (.tuple [.str (encE r.fst), .int r.n])) := rfl
  have g6 : gIx (.dat (encR r)) (.dat (.int 6)) = some (.dat (encS r.sh)) := rfl
  have gs : gIx (.dat (encS r.sh)) (.dat (.int 0)) = some (.dat (.str (shN r.sh))) := by cases r.sh <;> rfl
  have gn := gStr_n (n := r.n) (by omega)
  -- the pieces' lengths
  have la := (okW_lim h.lim.1).2.2
  have lb := (okW_lim h.lim.2).2.2
  have lo := (okW_o r.o).2.2
  have le := (okW_e r.fst).2.2
  have ln := (okW_num (n := r.n) (by omega)).2.2
  have ls := (okW_shN r.sh).2.2
  have lt := row_len h.shw.1
  have lt2 := h.shw.2.2
  have k0 : ("kinds" : Str).length = 5 := by decide +kernel
  have k1 : ("\nwindow " : Str).length = 8 := by decide +kernel
  have k2 : ("\ngap " : Str).length = 5 := by decide +kernel
  have k3 : ("\nweak" : Str).length = 5 := by decide +kernel
  have k4 : ("\nonce " : Str).length = 6 := by decide +kernel
  have k5 : ("\npick " : Str).length = 6 := by decide +kernel
  have k6 : (" " : Str).length = 1 := by decide +kernel
  have k7 : ("\n" : Str).length = 1 := by decide +kernel
  have lA := len_addW r.ks "kinds" h.ks.words
  obtain ⟨y2, e1⟩ := w_loop (st := st) (some (.dat (encR r))) none none r.ks "kinds" none h.ks.words (by rw [k0]; omega)
  rw [k0] at lA
  have I1 := lim_if (st := st) h.lim.1 g1
  have I2 := lim_if (st := st) h.lim.2 g2
  have NU := lr_nums (st := st) h.n1 h.n4 h.sh g6
  have TA := fun x0 x1 x2 x4 => lr_tail (st := st) h.n1 h.n4 h.sh x0 x1 x2 x4
  -- the end
  have fin : addW (addW "kinds" r.ks ++ "\nwindow " ++ limW r.w ++ "\ngap " ++ limW r.g ++ "\nweak") r.wk ++ "\nonce " ++ encO r.o ++ "\npick " ++ encE r.fst ++ " " ++ numS (r.n : Int) ++ "\n" ++ shN r.sh ++ "\n" ++ rowT (shW r.sh) = textR r := by
    apply TL.ext_tl
    show tl _ = tl _
    have c0 : tl ("kinds" : Str) = [107, 105, 110, 100, 115] := by decide +kernel
    have c1 : tl ("\nwindow " : Str) = 10 :: (tl ("window" : Str) ++ [32]) := by decide +kernel
    have c2 : tl ("\ngap " : Str) = 10 :: (tl ("gap" : Str) ++ [32]) := by decide +kernel
    have c3 : tl ("\nweak" : Str) = 10 :: tl ("weak" : Str) := by decide +kernel
    have c4 : tl ("\nonce " : Str) = 10 :: (tl ("once" : Str) ++ [32]) := by decide +kernel
    have c5 : tl ("\npick " : Str) = 10 :: (tl ("pick" : Str) ++ [32]) := by decide +kernel
    have c6 : tl (" " : Str) = [32] := by decide +kernel
    have c7 : tl ("\n" : Str) = [10] := by decide +kernel
    unfold textR rowsW
    rw [tl_rows]
    simp only [List.map_cons, List.map_nil, List.flatten_cons, List.flatten_nil, tl_row, tl_app, tl_addW, c1, c2, c3, c4, c5, c6, c7, List.append_nil]
    simp [List.append_assoc]
  have hi0 : ∀ (x1 x2 x3 x4 : Option Val), (seqI false (binM gIx (varM 0) (cstM (.int 0)))) [some (.dat (encR r)), x1, x2, x3, x4] st = .ok (r.ks.map .str) st := fun x1 x2 x3 x4 => by
    generalize encR r = R at *
    generalize r.ks.map PyData.str = K at *
    simp [seqI, g0]
  have hi3 : ∀ (x1 x2 x3 x4 : Option Val), (seqI false (binM gIx (varM 0) (cstM (.int 3)))) [some (.dat (encR r)), x1, x2, x3, x4] st = .ok (r.wk.map .str) st := fun x1 x2 x3 x4 => by
    generalize encR r = R at *
    generalize r.wk.map PyData.str = K at *
    simp [seqI, g3]
  have t0 : lr0 (envOf 5 [.dat (encR r)]) st = .nx [some (.dat (encR r)), some (.dat (.str "kinds")), none, none, none] st := by
    generalize encR r = R at *
    simp [lr0, envOf]
  have t1 := frM_ap _ (.nm 2) wB _ _ (hi0 (some (.dat (.str "kinds"))) none none none)
  rw [e1] at t1
  generalize addW "kinds" r.ks = T1 at *
  have L2 : (T1 ++ "\nwindow " ++ limW r.w).length ≤ 60 := by rw [len_app, len_app, k1]; omega
  have t2 : ∀ y : Option Val, lr2 [some (.dat (encR r)), some (.dat (.str T1)), y, none, none] st = .nx [some (.dat (encR r)), some (.dat (.str (T1 ++ "\nwindow " ++ limW r.w))), y, none, none] st := fun y => by
    have a1 := gAdd_ss (a := T1) (b := "\nwindow ") (by omega)
    have a2 := gAdd_ss (a := T1 ++ "\nwindow ") (b := limW r.w) (by rw [len_app]; omega)
    have I := I1 (some (.dat (.str T1))) y none none
    generalize encR r = R at *
    simp [-ifM_ap, lr2, a1, I, a2]
  generalize T1 ++ "\nwindow " ++ limW r.w = T2 at *
  have L3 : (T2 ++ "\ngap " ++ limW r.g ++ "\nweak").length ≤ 80 := by rw [len_app, len_app, len_app, k2, k3]; omega
  have t3 : ∀ y : Option Val, lr3 [some (.dat (encR r)), some (.dat (.str T2)), y, none, none] st = .nx [some (.dat (encR r)), some (.dat (.str (T2 ++ "\ngap " ++ limW r.g ++ "\nweak"))), y, none, none] st := fun y => by
    have a1 := gAdd_ss (a := T2) (b := "\ngap ") (by omega)
    have a2 := gAdd_ss (a := T2 ++ "\ngap ") (b := limW r.g) (by rw [len_app]; omega)
    have a3 := gAdd_ss (a := T2 ++ "\ngap " ++ limW r.g) (b := "\nweak") (by rw [len_app, len_app]; omega)
    have I := I2 (some (.dat (.str T2))) y none none
    generalize encR r = R at *
    simp [-ifM_ap, lr3, a1, I, a2, a3]
  generalize T2 ++ "\ngap " ++ limW r.g ++ "\nweak" = T3 at *
  have lB := len_addW r.wk T3 h.wkw
  obtain ⟨y3, e4⟩ := w_loop (st := st) (some (.dat (encR r))) none none r.wk T3 y2 h.wkw (by omega)
  have t4 := frM_ap _ (.nm 2) wB _ _ (hi3 (some (.dat (.str T3))) y2 none none)
  rw [e4] at t4
  generalize addW T3 r.wk = T4 at *
  have L5 : (T4 ++ "\nonce " ++ encO r.o ++ "\npick " ++ encE r.fst ++ " " ++ numS (r.n : Int)).length ≤ 160 := by rw [len_app, len_app, len_app, len_app, len_app, len_app, k4, k5, k6]; omega
  have t5 : lr5 [some (.dat (encR r)), some (.dat (.str T4)), y3, none, none] st = .nx [some (.dat (encR r)), some (.dat (.str (T4 ++ "\nonce " ++ encO r.o ++ "\npick " ++ encE r.fst ++ " " ++ numS (r.n : Int)))), y3, none, none] st := by
    have a1 := gAdd_ss (a := T4) (b := "\nonce ") (by omega)
    have a2 := gAdd_ss (a := T4 ++ "\nonce ") (b := encO r.o) (by rw [len_app]; omega)
    have a3 := gAdd_ss (a := T4 ++ "\nonce " ++ encO r.o) (b := "\npick ") (by rw [len_app, len_app]; omega)
    have a4 := gAdd_ss (a := T4 ++ "\nonce " ++ encO r.o ++ "\npick ") (b := encE r.fst) (by rw [len_app, len_app, len_app]; omega)
    have a5 := gAdd_ss (a := T4 ++ "\nonce " ++ encO r.o ++ "\npick " ++ encE r.fst) (b := " ") (by rw [len_app, len_app, len_app, len_app]; omega)
    have a6 := gAdd_ss (a := T4 ++ "\nonce " ++ encO r.o ++ "\npick " ++ encE r.fst ++ " ") (b := numS (r.n : Int)) (by rw [len_app, len_app, len_app, len_app, len_app]; omega)
    generalize encR r = R at *
    simp [lr5, a1, a2, a3, a4, a5, a6, g4, g5, gn]
  generalize T4 ++ "\nonce " ++ encO r.o ++ "\npick " ++ encE r.fst ++ " " ++ numS (r.n : Int) = T5 at *
  have L6 : (T5 ++ "\n" ++ shN r.sh).length ≤ 170 := by rw [len_app, len_app, k7]; omega
  have t6 : lr6 [some (.dat (encR r)), some (.dat (.str T5)), y3, none, none] st = .nx [some (.dat (encR r)), some (.dat (.str (T5 ++ "\n" ++ shN r.sh))), y3, none, none] st := by
    have a1 := gAdd_ss (a := T5) (b := "\n") (by omega)
    have a2 := gAdd_ss (a := T5 ++ "\n") (b := shN r.sh) (by rw [len_app]; omega)
    generalize encR r = R at *
    generalize encS r.sh = S at *
    simp [lr6, a1, a2, g6, gs]
  generalize T5 ++ "\n" ++ shN r.sh = T6 at *
  have t7 : lr7 [some (.dat (encR r)), some (.dat (.str T6)), y3, none, none] st = .nx [some (.dat (encR r)), some (.dat (.str T6)), y3, some (.dat (.list [])), none] st := by
    have z0 : (0 : Nat) ≤ sizeLine := Nat.zero_le _
    generalize encR r = R at *
    simp [lr7, z0]
  obtain ⟨y4, e8⟩ := NU (some (.dat (.str T6))) y3 none
  have t10 : (retM (binM gAdd (binM gAdd (varM 1) (cstM (.str "\n"))) lrT)) [some (.dat (encR r)), some (.dat (.str T6)), y3, some (.dat (.list ((shX r.sh).map .int))), y4] st = .ret (.dat (.str (T6 ++ "\n" ++ rowT (shW r.sh)))) st := by
    have a1 := gAdd_ss (a := T6) (b := "\n") (by omega)
    have a2 := gAdd_ss (a := T6 ++ "\n") (b := rowT (shW r.sh)) (by rw [len_app]; omega)
    have T := TA (some (.dat (encR r))) (some (.dat (.str T6))) y3 y4
    generalize encR r = R at *
    simp [a1, T, a2]
  simp only [fnM_ap]
  rw [lr_split, seqM_ap, t0]
  simp only [Os.an_nx, seqM_ap]
  rw [t1]
  simp only [Os.an_nx, seqM_ap]
  rw [t2]
  simp only [Os.an_nx, seqM_ap]
  rw [t3]
  simp only [Os.an_nx, seqM_ap]
  rw [t4]
  simp only [Os.an_nx, seqM_ap]
  rw [t5]
  simp only [Os.an_nx, seqM_ap]
  rw [t6]
  simp only [Os.an_nx, seqM_ap]
  rw [t7]
  simp only [Os.an_nx, seqM_ap]
  rw [an_seq, e8]
  simp only [Os.an_nx]
  rw [t10, fin]
  rfl
end Pl.Law

set_option Elab.async false
set_option linter.all false
set_option maxRecDepth 100000
set_option maxHeartbeats 2000000
namespace Pl.Law
open PySem PySem.Spec PyProof.Rows L2 PySem.W Pl Ts
/-! ### JOURNEYS as texts -/
def wayW (t : Str × Int) : List Str := [t.1, numS t.2]
def textJ (j : JS) : Str := rowsT (j.map wayW)
theorem row_two (k x : Str) : k ++ " " ++ x = rowT [k, x] := by
  apply TL.ext_tl
  show tl _ = tl _
  have c6 : tl (" " : Str) = [32] := by decide +kernel
  rw [tl_row, tl_app, tl_app, c6]
  simp
theorem JoOk.age {ks : List Str} {j : JS} (h : JoOk ks j) {t : Str × Int} (ht : t ∈ j) : ∃ n : Nat, t.2 = (n : Int) ∧ n ≤ 1000000 := by
  obtain ⟨_, a, b⟩ := h.mem t ht
  exact ⟨t.2.toNat, by omega, by omega⟩
theorem JoOk.wok {ks : List Str} (hk : KsOk ks) {j : JS} (h : JoOk ks j) {t : Str × Int} (ht : t ∈ j) : ∀ w ∈ wayW t, okW w := fun w hw => by
  simp only [wayW, List.mem_cons, List.not_mem_nil, or_false] at hw
  rcases hw with rfl | rfl
  · exact hk.words _ (h.mem t ht).1
  · obtain ⟨n, e, hn⟩ := h.age ht
    rw [e]
    exact okW_num (by omega)
theorem way_elt {ks : List Str} (hk : KsOk ks) {j : JS} (h : JoOk ks j) {t : Str × Int} (ht : t ∈ j) {st : List Cn} (x0 : Option Val) :
    (binM gAdd (binM gAdd (varM 1) (cstM (.str " "))) (callM gStr1 (acons (varM 2) anil))) [x0, some (.dat (.str t.1)), some (.dat (.int t.2))] st = .ok (.dat (.str (rowT (wayW t)))) st := by
  obtain ⟨n, e, hn⟩ := h.age ht
  have ok := h.wok hk ht
  have o1 := (ok t.1 (by simp [wayW])).2.2
  have o2 := (ok (numS t.2) (by simp [wayW])).2.2
  have k6 : (" " : Str).length = 1 := by decide +kernel
  have a1 := gAdd_ss (a := t.1) (b := " ") (by omega)
  have a2 := gAdd_ss (a := t.1 ++ " ") (b := numS t.2) (by rw [len_app]; omega)
  have gn := gStr_n (n := n) (by omega)
  rw [← e] at gn
  show _ = Ou.ok (.dat (.str (rowT [t.1, numS t.2]))) st
  rw [← row_two]
  generalize t.1 = k at *
  generalize t.2 = a at *
  simp [a1, a2, gn]
theorem rows_J {ks : List Str} (hk : KsOk ks) {j : JS} (h : JoOk ks j) {v : Val} (hv : asSeq v = some (j.map fun t => .str (rowT (wayW t)))) : gJoin (.dat (.str "\n")) v = some (.dat (.str (textJ j))) := by
  refine join_rows (rs := j.map wayW) ?_ (fun r hr => ?_) (by have := h.len; simp; omega)
  · rw [hv, List.map_map, List.map_map]
    rfl
  · obtain ⟨t, ht, rfl⟩ := List.mem_map.mp hr
    have := row_len (h.wok hk ht)
    simp [wayW] at this
    simp [wayW]
    omega
theorem ev_law_way_rows {ks : List Str} (hk : KsOk ks) {j : JS} (h : JoOk ks j) {st : List Cn} : f__law_way_rows [.dat (encJ j)] st = .ok (.dat (.str (textJ j))) st := by
  have C := cmp2 (st := st) encT (fun t => .str t.1) (fun t => .int t.2) (fun t => .str (rowT (wayW t))) (im := seqI true (varM 0)) (own := [1, 2]) (i := 1) (j := 2) (me := binM gAdd (binM gAdd (varM 1) (cstM (.str " "))) (callM gStr1 (acons (varM 2) anil)))
    (env := [some (.dat (encJ j)), none, none]) (xs := j) (fun _ => rfl) (by simp [seqI, encJ]) (le_sz (by have := h.len; omega)) (fun t ht => way_elt hk h ht _)
  have J := rows_J hk h (v := .fr (.lst (j.map fun t => .str (rowT (wayW t))))) rfl
  generalize j.map (fun t => PyData.str (rowT (wayW t))) = A at *
  generalize encJ j = JD at *
  simp only [fnM_ap]
  simp [-compM_ap, m__law_way_rows, envOf, sm1M, isSV, C, J]
end Pl.Law

set_option Elab.async false
set_option linter.all false
set_option maxRecDepth 100000
set_option maxHeartbeats 2000000
namespace Pl.Law
open PySem PySem.Spec PyProof.Rows L2 PySem.W Pl Ts
theorem emp_app (k : Str) : Str.empty ++ k = k := by
  apply TL.ext_tl
  rw [TL.tl_append]
  rfl
theorem js_elt {ks : List Str} (hk : KsOk ks) {j : JS} (h : JoOk ks j) {t : Str × Int} (ht : t ∈ j) {st : List Cn} (x0 x1 : Option Val) :
    (jsM [(unM gFmt (varM 2)), (cstM (.str " ")), (unM gFmt (varM 3))] Str.empty) [x0, x1, some (.dat (.str t.1)), some (.dat (.int t.2))] st = .ok (.dat (.str (rowT (wayW t)))) st := by
  obtain ⟨n, e, hn⟩ := h.age ht
  have ok := h.wok hk ht
  have o1 := (ok t.1 (by simp [wayW])).2.2
  have o2 := (ok (numS t.2) (by simp [wayW])).2.2
  have k6 : (" " : Str).length = 1 := by decide +kernel
  have sz : ∀ m : Nat, m ≤ 100 → m ≤ sizeLine := fun m hm => le_sz (by omega)
  have c : cNum t.2 = true := by rw [e]; exact Nat.ble_eq_true_of_le (by simp; omega)
  have b0 := sz t.1.length (by omega)
  have b1 := sz (t.1 ++ " ").length (by rw [len_app]; omega)
  have b2 := sz (t.1 ++ " " ++ numS t.2).length (by rw [len_app, len_app]; omega)
  show _ = Ou.ok (.dat (.str (rowT [t.1, numS t.2]))) st
  rw [← row_two]
  generalize t.1 = k at *
  generalize t.2 = a at *
  have m0 := emp_app k
  simp [jsM, gFmt, c, b0, m0, b1, b2]
theorem ev_journey_text {r : RS} (hr : RuOk r) {j : JS} (h : JoOk r.ks j) {st : List Cn} : f_journey_text [.dat (encR r), .dat (encJ j)] st = .ok (.dat (.str (textJ j))) st := by
  have en := ev_need (st := st) hr.vr (h.vj hr)
  have C := cmp2 (st := st) encT (fun t => .str t.1) (fun t => .int t.2) (fun t => .str (rowT (wayW t))) (im := seqI true (varM 1)) (own := [2, 3]) (i := 2) (j := 3) (me := jsM [(unM gFmt (varM 2)), (cstM (.str " ")), (unM gFmt (varM 3))] Str.empty)
    (env := [some (.dat (encR r)), some (.dat (encJ j)), none, none]) (xs := j) (fun _ => rfl) (by simp [seqI, encJ]) (le_sz (by have := h.len; omega)) (fun t ht => js_elt hr.ks h ht _ _)
  have J := rows_J hr.ks h (v := .fr (.lst (j.map fun t => .str (rowT (wayW t))))) rfl
  generalize j.map (fun t => PyData.str (rowT (wayW t))) = A at *
  generalize encJ j = JD at *
  generalize encR r = R at *
  simp only [fnM_ap]
  simp [-compM_ap, m_journey_text, envOf, sm1M, isSV, en, C, J]
theorem ev_told_touch {ks : List Str} (hk : KsOk ks) {j : JS} (h : JoOk ks j) {t : Str × Int} (ht : t ∈ j) {st : List Cn} : f__told_touch [.dat (.str (rowT (wayW t)))] st = .ok (.dat (encT t)) st := by
  obtain ⟨n, e, hn⟩ := h.age ht
  have es := gSplit_row (ws := wayW t) (by simp [wayW]) (h.wok hk ht) (by simp [wayW])
  have e2 := ev_written (st := st) (n := n) (by omega)
  rw [← e] at e2
  have z2 : (2 : Nat) ≤ sizeLine := le_sz (by omega)
  have ew : (wayW t).map PyData.str = [.str t.1, .str (numS t.2)] := rfl
  rw [ew] at es
  show _ = Ou.ok (.dat (.tuple [.str t.1, .int t.2])) st
  generalize rowT (wayW t) = R at *
  generalize t.1 = k at *
  generalize t.2 = a at *
  generalize numS a = y at *
  simp only [fnM_ap]
  simp [m__told_touch, envOf, sm1M, isSV, es, e2, z2]
def tB : SM := (seqM (setM 6 (frzM (callF 1 f__told_touch (acons (varM 5) anil))))
  (seqM (ifS (orM (binM gGt (varM 4) (cstM (.int 200))) (orM (binM (gIn true) (binM gIx (varM 6) (cstM (.int 0))) (binM gIx (varM 0) (cstM (.int 0)))) (notM (truM (callF 3 f_is_integer (acons (binM gIx (varM 6) (cstM (.int 1))) (acons (cstM (.int 0)) (acons (varM 3) anil)))))))) (raiM 2 (varM 4)) nilM)
  (seqM (appM 2 (varM 6))
  (setM 3 (frzM (binM gIx (varM 6) (cstM (.int 1))))))))
theorem t_step {r : RS} (hr : RuOk r) {j : JS} (h : JoOk r.ks j) {t : Str × Int} (ht : t ∈ j) {st : List Cn} (n : Nat) (hn : n ≤ 200) (g : Int) (hg : t.2 ≤ g) (dn : JS) (hd : dn.length ≤ 200) (x1 x6 : Option Val) :
    tB [some (.dat (encR r)), x1, some (.fr (.lst (dn.map encT))), some (.dat (.int g)), some (.dat (.int (n : Int))), some (.dat (.str (rowT (wayW t)))), x6] st =
      .nx [some (.dat (encR r)), x1, some (.fr (.lst ((dn ++ [t]).map encT))), some (.dat (.int t.2)), some (.dat (.int (n : Int))), some (.dat (.str (rowT (wayW t)))), some (.dat (encT t))] st := by
  have e := ev_told_touch hr.ks h ht (st := st)
  obtain ⟨m1, m2, _⟩ := h.mem t ht
  have g0 : gIx (.dat (encR r)) (.dat (.int 0)) = some (.dat (.tuple (r.ks.map .str))) := rfl
  have gi := gIn_s (x := t.1) (v := .dat (.tuple (r.ks.map .str))) (ys := r.ks) rfl true
  have c1 : ¬ ((200 : Int) < (n : Int)) := by omega
  have ii := ev_is_integer (st := st) (d := .int t.2) rfl 0 g
  have di : dInt (.int t.2) 0 g = true := by simp [dInt, m2, hg]
  rw [di] at ii
  have z : (dn.map encT).length < sizeLine := Nat.lt_of_lt_of_le (Nat.lt_succ_self _) (le_sz (by simp; omega))
  have eT : encT t = .tuple [.str t.1, .int t.2] := rfl
  rw [List.map_append, List.map_cons, List.map_nil]
  rw [eT] at e ⊢
  generalize rowT (wayW t) = W at *
  generalize dn.map encT = A at *
  generalize r.ks.map PyData.str = K at *
  generalize encR r = R at *
  simp [tB, e, g0, gi, m1, c1, ii, onB_b, onO_b, appM, z]
end Pl.Law

set_option Elab.async false
set_option linter.all false
set_option maxRecDepth 100000
set_option maxHeartbeats 2000000
namespace Pl.Law
open PySem PySem.Spec PyProof.Rows L2 PySem.W Pl Ts
theorem t_loop {r : RS} (hr : RuOk r) {j : JS} (h : JoOk r.ks j) {st : List Cn} (x1 : Option Val) : ∀ (js dn : JS) (n : Nat) (g : Int) (x4 x5 x6 : Option Val), (∀ t ∈ js, t ∈ j) → js.Pairwise (fun a b => b.2 ≤ a.2) → (∀ t ∈ js, t.2 ≤ g) → n + js.length ≤ 201 → dn.length + js.length ≤ 200 →
    ∃ g' y4 y5 y6, forM (.tp [4, 5]) tB (enumD n (js.map fun t => .str (rowT (wayW t)))) [some (.dat (encR r)), x1, some (.fr (.lst (dn.map encT))), some (.dat (.int g)), x4, x5, x6] st =
      .nx [some (.dat (encR r)), x1, some (.fr (.lst ((dn ++ js).map encT))), some (.dat (.int g')), y4, y5, y6] st := by
  intro js
  induction js with
  | nil => intro dn n g x4 x5 x6 _ _ _ _ _; exact ⟨g, x4, x5, x6, by simp [enumD, forM]⟩
  | cons t js ih =>
    intro dn n g x4 x5 x6 hm hp hg hn hd
    simp only [List.length_cons] at hn hd
    obtain ⟨p1, p2⟩ := List.pairwise_cons.mp hp
    obtain ⟨g', y4, y5, y6, e⟩ := ih (dn ++ [t]) (n + 1) t.2 (some (.dat (.int (n : Int)))) (some (.dat (.str (rowT (wayW t))))) (some (.dat (encT t))) (fun u hu => hm u (by simp [hu])) p2 (fun u hu => p1 u hu) (by omega) (by rw [List.length_append]; simp; omega)
    refine ⟨g', y4, y5, y6, ?_⟩
    rw [show dn ++ t :: js = dn ++ [t] ++ js by simp, ← e]
    exact forM_step rfl (t_step hr h (hm t (by simp)) n (by omega) g (hg t (by simp)) dn (by omega) x1 x6)
theorem textJ_nil : textJ [] = ("" : Str) := by decide +kernel
theorem textJ_ne (t : Str × Int) (j : JS) : textJ (t :: j) ≠ ("" : Str) := fun e => by
  have h := congrArg tl e
  have e0 : tl ("" : Str) = [] := by decide +kernel
  rw [e0] at h
  unfold textJ at h
  rw [List.map_cons, tl_rows] at h
  have := (List.append_eq_nil_iff.mp h).1
  rw [show wayW t = t.1 :: [numS t.2] from rfl, tl_row] at this
  have := (List.append_eq_nil_iff.mp this).2
  simp at this
theorem ev_read_journey {r : RS} (hr : RuOk r) {j : JS} (h : JoOk r.ks j) {st : List Cn} : f_read_journey [.dat (encR r), .dat (.str (textJ j))] st = .ok (.dat (encJ j)) st := by
  have en : f_need_rule [.dat (encR r)] st = .ok (.dat (encR r)) st := by rw [ev_need_rule hr.gd, ruleOu, hr.bad]
  have ns := fun x => ev_need_string (st := st) (x := x)
  have z0 : (0 : Nat) ≤ sizeLine := Nat.zero_le _
  cases j with
  | nil =>
    rw [textJ_nil]
    generalize encR r = R at *
    simp only [fnM_ap]
    simp [m_read_journey, envOf, en, ns, gEqS_ss, onB_b, z0, encJ]
  | cons t j =>
    have ne : decide (textJ (t :: j) = ("" : Str)) = false := decide_eq_false (textJ_ne t j)
    have hl := h.len
    have hlr : (textJ (t :: j)).length ≤ 10000 := by
      have := len_rows (rs := (t :: j).map wayW) (m := 18) fun x hx => by
        obtain ⟨u, hu, rfl⟩ := List.mem_map.mp hx
        have := row_len (h.wok hr.ks hu)
        simpa [wayW] using this
      rw [List.length_map] at this
      have e : (t :: j).length * (18 + 1) ≤ 200 * 19 := Nat.mul_le_mul_right _ hl
      unfold textJ
      omega
    have es : gSplit (.dat (.str (textJ (t :: j)))) (.dat (.str "\n")) = some (.fr (.lst ((t :: j).map fun t => .str (rowT (wayW t))))) := by
      have e := rows_split (rs := (t :: j).map wayW) (by simp) fun x hx => by
        obtain ⟨u, hu, rfl⟩ := List.mem_map.mp hx
        exact ⟨by simp [wayW], h.wok hr.ks hu⟩
      have b : Nat.ble ((textJ (t :: j)).length + 2) sizeLine = true := Nat.ble_eq_true_of_le (by rw [sizeLine_eq]; omega)
      have z : (("\n" : Str).length == 0) = false := by decide +kernel
      show (if (("\n" : Str).length == 0) = false ∧ Nat.ble ((textJ (t :: j)).length + 2) sizeLine = true then some (Val.fr (.lst ((Txt.split (rowsT ((t :: j).map wayW)) nlS).map .str))) else none) = _
      rw [if_pos ⟨z, b⟩, e, List.map_map, List.map_map]
      rfl
    obtain ⟨g', y4, y5, y6, e⟩ := t_loop hr h (st := st) (some (.dat (.str (textJ (t :: j))))) (t :: j) [] 1 1000000 none none none (fun u hu => hu) h.pw (fun u hu => (h.mem u hu).2.2) (by omega) (by simpa using hl)
    rw [List.map_nil, List.nil_append] at e
    have hi : (ensI (acons (sm1M gSplit (varM 1) (cstM (.str "\n"))) anil)) [some (.dat (encR r)), some (.dat (.str (textJ (t :: j)))), some (.fr (.lst [])), some (.dat (.int 1000000)), none, none, none] st = .ok (enumD 1 ((t :: j).map fun t => .str (rowT (wayW t)))) st := by
      generalize (t :: j).map (fun t => PyData.str (rowT (wayW t))) = A at *
      generalize textJ (t :: j) = T at *
      generalize encR r = R at *
      simp [ensI, sm1M, isSV, es]
    have f := frM_ap _ (.tp [4, 5]) tB _ _ hi
    rw [e] at f
    show _ = Ou.ok (.dat (.tuple ((t :: j).map encT))) st
    generalize enumD 1 ((t :: j).map fun t => .str (rowT (wayW t))) = A at *
    generalize (t :: j).map encT = B at *
    generalize textJ (t :: j) = T at *
    generalize encR r = R at *
    simp only [fnM_ap]
    simp only [m_read_journey, seqM_ap]
    simp [-frM_ap, envOf, en, ns, gEqS_ss, onB_b, ne, z0]
    change ((frM _ (.tp [4, 5]) tB _ _).an _).fin = _
    rw [f]
    simp
end Pl.Law

set_option Elab.async false
set_option linter.all false
set_option maxRecDepth 100000
set_option maxHeartbeats 1000000
namespace Pl.Law
open PySem PySem.Spec PyProof.Rows L2 PySem.W Pl Ts
/-! ### what repr can show -/
structure Sho (d : D) (n W : Nat) : Prop where
  ok : okD d = true
  sh : d.showable = true
  dp : d.depth ≤ n
  ls : d.leavesShort 13 = true
  wt : d.weight ≤ W
theorem Sho.mono {d : D} {n W m V : Nat} (h : Sho d n W) (h1 : n ≤ m) (h2 : W ≤ V) : Sho d m V := ⟨h.ok, h.sh, Nat.le_trans h.dp h1, h.ls, Nat.le_trans h.wt h2⟩
theorem sho_int {i : Int} (h : i.natAbs < 10 ^ 12) : Sho (.int i) 0 40 := by
  have h2 : i.natAbs < 2 ^ 40 := Nat.lt_of_lt_of_le h (by decide)
  refine ⟨rfl, ?_, Nat.le_refl _, ?_, ?_⟩
  · show decide (i.natAbs.log2 < 1920) = true
    by_cases h0 : i.natAbs = 0
    · rw [h0]; decide
    · have := (Nat.log2_lt h0).mpr h2
      exact decide_eq_true (by omega)
  · show decide ((PyData.int i).shown.length ≤ 13) = true
    exact decide_eq_true (PyData.shown_int_le h)
  · show (if i == 0 then 0 else i.natAbs.log2 + 1) ≤ 40
    by_cases h0 : i.natAbs = 0
    · have : i = 0 := by omega
      subst this
      decide
    · have := (Nat.log2_lt h0).mpr h2
      split <;> omega
theorem sho_all {n W : Nat} : ∀ {ds : List D}, (∀ d ∈ ds, Sho d n W) → okDs ds = true ∧ PyData.showableAll ds = true ∧ PyData.depthAll ds ≤ n ∧ PyData.leavesShortAll 13 ds = true ∧ PyData.weightAll ds ≤ ds.length * (W + 1)
  | [], _ => ⟨rfl, rfl, Nat.zero_le _, rfl, Nat.zero_le _⟩
  | d :: ds, h => by
    have h1 := h d (by simp)
    obtain ⟨a, b, c, e, f⟩ := sho_all (ds := ds) fun x hx => h x (by simp [hx])
    refine ⟨?_, ?_, ?_, ?_, ?_⟩
    · show (okD d && okDs ds) = true
      rw [h1.ok, a]; rfl
    · show (d.showable && PyData.showableAll ds) = true
      rw [h1.sh, b]; rfl
    · show max d.depth (PyData.depthAll ds) ≤ n
      have := h1.dp
      omega
    · show (d.leavesShort 13 && PyData.leavesShortAll 13 ds) = true
      rw [h1.ls, e]; rfl
    · show d.weight + 1 + PyData.weightAll ds ≤ (ds.length + 1) * (W + 1)
      have := h1.wt
      rw [Nat.add_mul]
      omega
theorem sho_tup {n W N : Nat} {ds : List D} (h : ∀ d ∈ ds, Sho d n W) (hl : ds.length ≤ N) : Sho (.tuple ds) (n + 1) (N * (W + 1)) := by
  obtain ⟨a, b, c, e, f⟩ := sho_all h
  exact ⟨a, b, Nat.succ_le_succ c, e, Nat.le_trans f (Nat.mul_le_mul_right _ hl)⟩
theorem sho_list {n W N : Nat} {ds : List D} (h : ∀ d ∈ ds, Sho d n W) (hl : ds.length ≤ N) : Sho (.list ds) (n + 1) (N * (W + 1)) := by
  obtain ⟨a, b, c, e, f⟩ := sho_all h
  exact ⟨a, b, Nat.succ_le_succ c, e, Nat.le_trans f (Nat.mul_le_mul_right _ hl)⟩
theorem gRepr_sho {d : D} {v : Val} {n W : Nat} (h : Sho d n W) (hn : n ≤ 60) (hW : W ≤ 1048576) (hv : asView v = some d) : gRepr [v] = some (.dat (.str d.shown)) := by
  have hf : d.shown.length ≤ sizeLine := PyData.shown_fits (by decide) (Nat.le_refl _) h.ls (Nat.le_trans h.wt (by simpa using hW))
  unfold gRepr
  dsimp only
  rw [hv]
  dsimp only
  rw [if_pos ⟨h.ok, h.sh, Nat.le_trans h.dp hn, hf⟩]
end Pl.Law

set_option Elab.async false
set_option linter.all false
set_option maxRecDepth 100000
set_option maxHeartbeats 1000000
namespace Pl.Law
open PySem PySem.Spec PyProof.Rows L2 PySem.W Pl Ts
theorem sho_i {i : Int} (h0 : 0 ≤ i) (h : i < 1000000000000) : Sho (.int i) 0 40 := sho_int (by
  have : (10 : Nat) ^ 12 = 1000000000000 := by decide
  omega)
theorem sho_s {x : Str} {W : Nat} (h : x.length ≤ W) (hl : (PyData.str x).leavesShort 13 = true) : Sho (.str x) 0 W := ⟨rfl, rfl, Nat.le_refl _, hl, h⟩
theorem sho_none : Sho .none 0 0 := ⟨rfl, rfl, Nat.le_refl _, rfl, Nat.le_refl _⟩
theorem sho_N {ks : List Nat} (h : ∀ k ∈ ks, k < 1000) (hl : ks.length ≤ 200) : Sho (.tuple (encN ks)) 2 20000 := by
  refine (sho_tup (n := 0) (W := 40) (N := 200) (fun d hd => ?_) (by rw [encN_map, List.length_map]; exact hl)).mono (by decide) (by decide)
  rw [encN_map] at hd
  obtain ⟨k, hk, rfl⟩ := List.mem_map.mp hd
  have := h k hk
  exact sho_i (by omega) (by omega)
theorem sho_F {f : Int × Int} (h1 : 0 ≤ f.1 ∧ f.1 < 1000000000000) (h2 : 0 ≤ f.2 ∧ f.2 < 1000000000000) : Sho (encF f) 1 82 := by
  refine (sho_tup (n := 0) (W := 40) (N := 2) (fun d hd => ?_) (by simp)).mono (by decide) (by decide)
  simp only [List.mem_cons, List.not_mem_nil, or_false] at hd
  rcases hd with rfl | rfl
  · exact sho_i h1.1 h1.2
  · exact sho_i h2.1 h2.2
theorem frac_le {p W : Int} (hp : 0 ≤ p) (hW : 0 < W) : (0 ≤ (frac p W).1 ∧ (frac p W).1 ≤ p) ∧ 0 ≤ (frac p W).2 ∧ (frac p W).2 ≤ W := by
  obtain ⟨g, hg, p1, p2, p3, _⟩ := frac_spec (p := p) hW
  have hg' : (1 : Int) ≤ g := by exact_mod_cast hg
  have ha : 0 ≤ (frac p W).1 := by
    by_cases h : 0 ≤ (frac p W).1
    · exact h
    · have : (frac p W).1 * g < 0 := Int.mul_neg_of_neg_of_pos (by omega) (by omega)
      omega
  have h1 : (frac p W).1 * 1 ≤ (frac p W).1 * g := Int.mul_le_mul_of_nonneg_left hg' ha
  have h2 : (frac p W).2 * 1 ≤ (frac p W).2 * g := Int.mul_le_mul_of_nonneg_left hg' (by omega)
  exact ⟨⟨ha, by omega⟩, by omega, by omega⟩
theorem sho_frac {p W : Int} (hp : 0 ≤ p) (h1 : p ≤ 1000000) (hW : 0 < W) (h2 : W ≤ 100) : Sho (encF (frac p W)) 1 82 := by
  obtain ⟨⟨a, b⟩, c, d⟩ := frac_le hp hW
  exact sho_F ⟨a, by omega⟩ ⟨c, by omega⟩
theorem sho_Fs {fs : List (Int × Int)} (h : ∀ f ∈ fs, Sho (encF f) 1 82) (hl : fs.length ≤ 200) : Sho (.tuple (fs.map encF)) 2 20000 := by
  refine (sho_tup (n := 1) (W := 82) (N := 200) (fun d hd => ?_) (by rw [List.length_map]; exact hl)).mono (by decide) (by decide)
  obtain ⟨f, hf, rfl⟩ := List.mem_map.mp hd
  exact h f hf
theorem nn_sum : ∀ {ps : List Int}, (∀ x ∈ ps, 0 ≤ x ∧ x ≤ 100) → 0 ≤ ps.sum ∧ ps.sum ≤ 100 * ps.length
  | [], _ => by simp
  | p :: ps, h => by
    have := nn_sum (ps := ps) fun x hx => h x (by simp [hx])
    have := h p (by simp)
    simp only [List.sum_cons, List.length_cons]
    omega
theorem sho_J {r : RS} (hr : RuOk r) {j : JS} (h : JoOk r.ks j) : Sho (encJ j) 5 20000 := by
  refine (sho_tup (n := 1) (W := 82) (N := 200) (fun d hd => ?_) (by rw [List.length_map]; exact h.len)).mono (by decide) (by decide)
  obtain ⟨t, ht, rfl⟩ := List.mem_map.mp hd
  obtain ⟨a, b, c⟩ := h.mem t ht
  refine (sho_tup (n := 0) (W := 40) (N := 2) (fun d hd => ?_) (by simp)).mono (by decide) (by decide)
  simp only [List.mem_cons, List.not_mem_nil, or_false] at hd
  rcases hd with rfl | rfl
  · exact sho_s (by have := hr.ks.l6 _ a; omega) (hr.ks.ls _ a)
  · exact sho_i b (by omega)
theorem sho_ints {ys : List Int} (h : ∀ y ∈ ys, 0 ≤ y ∧ y ≤ 100) (hl : ys.length ≤ 4) : Sho (.tuple (ys.map .int)) 1 200 := by
  refine (sho_tup (n := 0) (W := 40) (N := 4) (fun d hd => ?_) (by rw [List.length_map]; exact hl)).mono (by decide) (by decide)
  obtain ⟨y, hy, rfl⟩ := List.mem_map.mp hd
  have := h y hy
  exact sho_i this.1 (by omega)
theorem sho_strs {ks xs : List Str} (h : KsOk ks) (hs : xs.Sublist ks) : Sho (.tuple (xs.map .str)) 1 200 := by
  have := hs.length_le
  have := h.l4
  refine (sho_tup (n := 0) (W := 40) (N := 4) (fun d hd => ?_) (by rw [List.length_map]; omega)).mono (by decide) (by decide)
  obtain ⟨x, hx, rfl⟩ := List.mem_map.mp hd
  exact sho_s (by have := h.l6 _ (hs.subset hx); omega) (h.ls _ (hs.subset hx))
theorem sho_lim {o : Option Int} {g : Int} (h : dLimit (encI o) g = true) (hg : g ≤ 100) : Sho (encI o) 0 40 := by
  cases o with
  | none => exact sho_none.mono (by decide) (by decide)
  | some x =>
    simp [encI, dLimit, dInt] at h
    exact sho_i h.1 (by omega)
theorem sho_S {n : Nat} (hn : n ≤ 4) : ∀ {sh : Sh}, ShOk n sh → Sho (encS sh) 3 5000
  | .even, _ => (sho_tup (n := 0) (W := 40) (N := 1) (fun d hd => by
      rw [List.mem_singleton] at hd
      subst hd
      exact sho_s (by decide +kernel) (by decide +kernel)) (by simp)).mono (by decide) (by decide)
  | .places rows, h => by
    obtain ⟨h1, h2⟩ := h
    have hr : Sho (.tuple (rows.map fun r => .tuple (r.map .int))) 2 1000 := by
      refine (sho_tup (n := 1) (W := 200) (N := 4) (fun d hd => ?_) (by rw [List.length_map]; omega)).mono (by decide) (by decide)
      obtain ⟨row, hrow, rfl⟩ := List.mem_map.mp hd
      obtain ⟨i, hi, rfl⟩ := List.mem_iff_getElem.mp hrow
      obtain ⟨a, b, _⟩ := h2 i _ (List.getElem?_eq_getElem hi)
      exact sho_ints b (by omega)
    refine (sho_tup (n := 2) (W := 1000) (N := 2) (fun d hd => ?_) (by simp)).mono (by decide) (by decide)
    simp only [List.mem_cons, List.not_mem_nil, or_false] at hd
    rcases hd with rfl | rfl
    · exact (sho_s (W := 40) (by decide +kernel) (by decide +kernel)).mono (by decide) (by decide)
    · exact hr
  | .ages ms ws, h => by
    obtain ⟨h1, h2, h3, h4, h5⟩ := h
    refine (sho_tup (n := 1) (W := 200) (N := 3) (fun d hd => ?_) (by simp)).mono (by decide) (by decide)
    simp only [List.mem_cons, List.not_mem_nil, or_false] at hd
    rcases hd with rfl | rfl | rfl
    · exact (sho_s (W := 40) (by decide +kernel) (by decide +kernel)).mono (by decide) (by decide)
    · exact sho_ints (fun y hy => by have := h1 y hy; omega) (by omega)
    · exact sho_ints (fun y hy => by have := h5 y hy; omega) (by omega)
theorem sho_R {r : RS} (h : RuOk r) : Sho (encR r) 5 50000 := by
  have n4 := h.n4
  have s1 : ∀ o : On, Sho (.str (encO o)) 0 40 := fun o => by cases o <;> exact sho_s (by decide +kernel) (by decide +kernel)
  have s2 : ∀ b : Bool, Sho (.str (encE b)) 0 40 := fun b => by cases b <;> exact sho_s (by decide +kernel) (by decide +kernel)
  refine (sho_tup (n := 3) (W := 5000) (N := 7) (fun d hd => ?_) (by simp)).mono (by decide) (by decide)
  simp only [List.mem_cons, List.not_mem_nil, or_false] at hd
  rcases hd with rfl | rfl | rfl | rfl | rfl | rfl | rfl
  · exact (sho_strs h.ks (List.Sublist.refl _)).mono (by decide) (by decide)
  · exact (sho_lim h.w (by decide)).mono (by decide) (by decide)
  · exact (sho_lim h.g (by decide)).mono (by decide) (by decide)
  · exact (sho_strs h.ks h.wk).mono (by decide) (by decide)
  · exact (s1 _).mono (by decide) (by decide)
  · refine (sho_tup (n := 0) (W := 40) (N := 2) (fun d hd => ?_) (by simp)).mono (by decide) (by decide)
    simp only [List.mem_cons, List.not_mem_nil, or_false] at hd
    rcases hd with rfl | rfl
    · exact s2 _
    · exact sho_i (by omega) (by omega)
  · exact sho_S n4 h.sh
end Pl.Law

set_option Elab.async false
set_option linter.all false
set_option maxRecDepth 100000
set_option maxHeartbeats 2000000
namespace Pl.Law
open PySem PySem.Spec PyProof.Rows L2 PySem.W Pl Ts
/-! ### journeys of great ages -/
section
variable {cs : List Int} (hc : cs ≠ [])
include hc
theorem jour_step3 {n : Nat} {st : List Cn} (h : Dst cs n st) (hn : n + 2 < 900000) {r : RS} (hr : RuOk r) {hours : Nat} (hh : hours ≤ 100000) {age : Int} {j : JS} (hl : j.length ≤ 150) (x2 x6 : Option Val) :
    ∃ (k : Str) (d : Int) (st' : List Cn), jourB [some (.obj 0), some (.dat (encR r)), x2, some (.dat (.int hours)), some (.dat (.int age)), some (.dat (.list (j.map encT))), x6] st = .nx [some (.obj 0), some (.dat (encR r)), x2, some (.dat (.int hours)), some (.dat (.int (age + d))), some (.dat (.list (((k, age + d) :: j).map encT))), x6] st' ∧ k ∈ r.ks ∧ 0 ≤ d ∧ d ≤ 100000 ∧ Dst cs (n + 2) st' := by
  obtain ⟨dd, st1, e1, hd, s1⟩ := dr_of hc h (by omega) (v := .dat (.list [.int 0, .int 0, .int 1, .int 1, .int 2, .int hours, .int 7])) (Or.inl rfl) (by simp) (by simp)
  have hp : ∃ p : Int, dd = .int p ∧ 0 ≤ p ∧ p ≤ 100000 := by
    simp only [List.mem_cons, List.not_mem_nil, or_false] at hd
    rcases hd with rfl | rfl | rfl | rfl | rfl | rfl | rfl
    all_goals exact ⟨_, rfl, by omega, by omega⟩
  obtain ⟨d, rfl, d0, d1⟩ := hp
  obtain ⟨k, st2, e2, hk, s2⟩ := kind_dr hc s1 (by omega) hr.ks
  refine ⟨k, d, st2, ?_, hk, d0, d1, s2⟩
  have z7 : (7 : Nat) ≤ sizeLine := le_sz (by omega)
  have z2 : (2 : Nat) ≤ sizeLine := le_sz (by omega)
  have z1 : (1 : Nat) ≤ sizeLine := le_sz (by omega)
  have zj : 1 + j.length ≤ sizeLine := le_sz (by omega)
  simp [jourB, e1, z7, encR, e2, z2, z1, zj, encT]
theorem jour_loop3 {n c : Nat} (hk : c ≤ 9) {st : List Cn} (h : Dst cs n st) (hn : n + 2 * c < 900000) {r : RS} (hr : RuOk r) {hours : Nat} (hh : hours ≤ 100000) (x2 x6 : Option Val) :
    ∃ (j : JS) (y4 y6 : Option Val) (st' : List Cn), forM (.nm 6) jourB (intsD 0 c) [some (.obj 0), some (.dat (encR r)), x2, some (.dat (.int hours)), some (.dat (.int 0)), some (.dat (.list [])), x6] st = .nx [some (.obj 0), some (.dat (encR r)), x2, some (.dat (.int hours)), y4, some (.dat (.list (j.map encT))), y6] st' ∧ JoOk r.ks j ∧ j.length ≤ c ∧ (∀ t ∈ j, t.2 ≤ 100000 * c) ∧ Dst cs (n + 2 * c) st' := by
  obtain ⟨env', st', e, j, age, y6, rfl, hl, ha, hm, hp, ha0, hs⟩ := for_rng0 (tg := .nm 6) (mt := jourB)
    (fun i env st => ∃ (j : JS) (age : Int) (y6 : Option Val), env = [some (.obj 0), some (.dat (encR r)), x2, some (.dat (.int hours)), some (.dat (.int age)), some (.dat (.list (j.map encT))), y6] ∧ j.length = i ∧ age ≤ 100000 * i ∧
      (∀ t ∈ j, t.1 ∈ r.ks ∧ 0 ≤ t.2 ∧ t.2 ≤ age) ∧ j.Pairwise (fun a b => b.2 ≤ a.2) ∧ 0 ≤ age ∧ Dst cs (n + 2 * i) st)
    c _ st ⟨[], 0, x6, rfl, rfl, by omega, by simp, by simp, by omega, h⟩ (by
      rintro i hi env st ⟨j, age, y6, rfl, hl, ha, hm, hp, ha0, hs⟩
      obtain ⟨k, d, st2, e2, hk2, d0, d1, hs2⟩ := jour_step3 hc hs (by omega) hr hh (age := age) (j := j) (by omega) x2 (some (.dat (.int (i : Int))))
      refine ⟨_, _, st2, rfl, e2, (k, age + d) :: j, age + d, _, rfl, by simp [hl], by omega, ?_, ?_, by omega, hs2⟩
      · intro t ht
        rcases List.mem_cons.mp ht with rfl | ht
        · exact ⟨hk2, by show 0 ≤ age + d; omega, by show age + d ≤ age + d; omega⟩
        · obtain ⟨q1, q2, q3⟩ := hm t ht
          exact ⟨q1, q2, by omega⟩
      · refine List.pairwise_cons.mpr ⟨fun t ht => ?_, hp⟩
        have := (hm t ht).2.2
        show t.2 ≤ age + d
        omega)
  refine ⟨j, _, y6, st', e, ⟨fun t ht => ?_, hp, by omega⟩, by omega, fun t ht => ?_, hs⟩
  · obtain ⟨q1, q2, q3⟩ := hm t ht
    exact ⟨q1, q2, by omega⟩
  · have := (hm t ht).2.2
    omega
theorem journey_dr3 {n : Nat} {st : List Cn} (h : Dst cs n st) (hn : n + 300 < 800000) {r : RS} (hr : RuOk r) {size hours : Nat} (hz : size ≤ 9) (hh : hours ≤ 100000) :
    ∃ (j : JS) (st' : List Cn), f__law_journey [.obj 0, .dat (encR r), .dat (.int size), .dat (.int hours)] st = .ok (.dat (encJ j)) st' ∧ JoOk r.ks j ∧ j.length ≤ size ∧ (∀ t ∈ j, t.2 ≤ 100000 * size) ∧ Dst cs (n + 201) st' := by
  obtain ⟨v, st1, e1, v0, v1, s1⟩ := dr hc h (by omega) (many := (size : Int) + 1) (by omega) (by omega)
  obtain ⟨c, rfl⟩ := Int.eq_ofNat_of_zero_le v0
  obtain ⟨j, y4, y6, st2, e2, hj, hl, hb, s2⟩ := jour_loop3 hc (c := c) (by omega) s1 (by omega) hr hh (some (.dat (.int size))) none
  refine ⟨j, st2, ?_, hj, by omega, fun t ht => by have := hb t ht; omega, s2.mono (by omega)⟩
  have b : inb (c : Int) = true := inb_nat (by omega)
  have hi : ∀ env : Env, env[0]? = some (some (.obj 0)) → env[2]? = some (some (.dat (.int size))) → rng1I (acons (callF 2 f__law_draw (acons (varM 0) (acons (binM gAdd (varM 2) (cstM (.int 1))) anil))) anil) env st = .ok (intsD 0 c) st1 := fun env g0 g2 => by
    simp [g0, g2, e1, b]
  simp only [fnM_ap, m__law_journey, seqM_ap]
  simp [envOf]
  rw [frM_ap _ _ _ _ _ (hi _ (by simp) (by simp))]
  change ((forM (.nm 6) jourB _ _ _).an _).fin = _
  rw [e2]
  simp [encJ]
end
end Pl.Law

set_option Elab.async false
set_option linter.all false
set_option maxRecDepth 100000
set_option maxHeartbeats 2000000
namespace Pl.Law
open PySem PySem.Spec PyProof.Rows L2 PySem.W Pl Ts
/-! ### the law's statements -/
def lb0 : SM := (setM 3 (frzM (callF 4 f__law_rule (acons (varM 1) (acons (cstM (.int 4)) (acons (cstM (.int 60)) (acons (cstM (.int 4)) anil)))))))
def lb1 : SM := (setM 4 (frzM (callF 4 f__law_journey (acons (varM 1) (acons (varM 3) (acons (cstM (.int 9)) (acons (binM gPow (cstM (.int 10)) (cstM (.int 5))) anil)))))))
def lb2 : SM := (ifS (orM (binM gNeq (callF 1 f_rule_text (acons (varM 3) anil)) (callF 1 f__law_rule_rows (acons (varM 3) anil))) (binM gNeq (callM gRepr (acons (callF 1 f_read_rule (acons (callF 1 f__law_rule_rows (acons (varM 3) anil)) anil)) anil)) (callM gRepr (acons (varM 3) anil)))) (retM (cstM (.bool false))) nilM)
def lb3 : SM := (setM 5 (frzM (callF 1 f__law_way_rows (acons (varM 4) anil))))
def lb4 : SM := (ifS (orM (binM gNeq (callF 2 f_journey_text (acons (varM 3) (acons (varM 4) anil))) (varM 5)) (binM gNeq (callM gRepr (acons (callF 2 f_read_journey (acons (varM 3) (acons (varM 5) anil))) anil)) (callM gRepr (acons (varM 4) anil)))) (retM (cstM (.bool false))) nilM)
def lb5 : SM := (setM 6 (frzM (cstM .none)))
def lb6 : SM := (tryM (exM (callF 1 f_rule_text (acons (sliM (varM 3) .no (.som (cstM (.int 6)))) anil))) [([true, false, false], (some 7), (setM 6 (frzM (fldM [0] (varM 7)))))])
def lb7 : SM := (ifS (binM gNeq (varM 6) (cstM (.str "form"))) (retM (cstM (.bool false))) nilM)
def lapB : SM := (seqM lb0 (seqM lb1 (seqM lb2 (seqM lb3 (seqM lb4 (seqM lb5 (seqM lb6 lb7)))))))
def lapI : IM := (rng1I (acons (binM gAdd (cstM (.int 8)) (callM gMin (acons (callM gLen (acons (varM 0) anil)) (acons (cstM (.int 16)) anil)))) anil))
def lw0 : SM := (setO 1 (callF 1 f__law_begun (acons (varM 0) anil)))
def endS : SM := (seqM ((setM 8 (frzM (cstM (.str "kinds ad direct mail\nwindow 30\ngap none\nweak direct\nonce all\npick last 2\nplaces\n100 40 60"))))) (seqM ((setM 9 (frzM (tupM (acons (tupM (acons (cstM (.str "ad")) (acons (cstM (.str "direct")) (acons (cstM (.str "mail")) anil)))) (acons (cstM (.int 30)) (acons (cstM .none) (acons (tupM (acons (cstM (.str "direct")) anil)) (acons (cstM (.str "all")) (acons (tupM (acons (cstM (.str "last")) (acons (cstM (.int 2)) anil))) (acons (tupM (acons (cstM (.str "places")) (acons (tupM (acons (tupM (acons (cstM (.int 100)) anil)) (acons (tupM (acons (cstM (.int 40)) (acons (cstM (.int 60)) anil))) anil))) anil))) anil))))))))))) (seqM ((setM 10 (frzM (cstM (.str "kinds a\nwindow none\ngap 24\nweak\nonce first\npick first 4\nages\n2 1 60 9 0 5"))))) (seqM ((setM 11 (frzM (tupM (acons (tupM (acons (cstM (.str "a")) anil)) (acons (cstM .none) (acons (cstM (.int 24)) (acons (tupM anil) (acons (cstM (.str "first")) (acons (tupM (acons (cstM (.str "first")) (acons (cstM (.int 4)) anil))) (acons (tupM (acons (cstM (.str "ages")) (acons (tupM (acons (cstM (.int 1)) (acons (cstM (.int 60)) anil))) (acons (tupM (acons (cstM (.int 9)) (acons (cstM (.int 0)) (acons (cstM (.int 5)) anil)))) anil)))) anil))))))))))) (seqM ((ifS (orM (binM gNeq (callF 1 f_read_rule (acons (varM 8) anil)) (varM 9)) (orM (binM gNeq (callF 1 f_rule_text (acons (varM 9) anil)) (varM 8)) (orM (binM gNeq (callF 1 f_read_rule (acons (varM 10) anil)) (varM 11)) (binM gNeq (callF 1 f_rule_text (acons (varM 11) anil)) (varM 10))))) (retM (cstM (.bool false))) nilM)) (seqM ((setM 4 (frzM (tupM (acons (tupM (acons (cstM (.str "mail")) (acons (binM gPow (cstM (.int 10)) (cstM (.int 6))) anil))) (acons (tupM (acons (cstM (.str "ad")) (acons (cstM (.int 5)) anil))) (acons (tupM (acons (cstM (.str "ad")) (acons (cstM (.int 0)) anil))) anil))))))) (seqM ((setM 5 (frzM (cstM (.str "mail 1000000\nad 5\nad 0"))))) ((retM (andV (binM gEqq (callF 2 f_read_journey (acons (varM 9) (acons (varM 5) anil))) (varM 4)) (binM gEqq (callF 2 f_journey_text (acons (varM 9) (acons (varM 4) anil))) (varM 5))))))))))))
theorem law_split : m_law = seqM lw0 (seqM (frM lapI (.nm 2) lapB) endS) := rfl
end Pl.Law

set_option Elab.async false
set_option linter.all false
set_option maxRecDepth 100000
set_option maxHeartbeats 2000000
namespace Pl.Law
open PySem PySem.Spec PyProof.Rows L2 PySem.W Pl Ts
theorem ne_str (x : Str) : gNeq (.dat (.str x)) (.dat (.str x)) = some (.dat (.bool false)) := by
  rw [gNeS_ss]
  simp
theorem ev_rule_six {st : List Cn} {r : RS} (h : RuOk r) : f_rule_text [.dat (.tuple [.tuple (r.ks.map .str), encI r.w, encI r.g, .tuple (r.wk.map .str), .str (encO r.o), .tuple [.str (encE r.fst), .int r.n]])] st = .exc 0 (.str "form") st := by
  have hg := h.gd
  have g6 : gD (.tuple [.tuple (r.ks.map .str), encI r.w, encI r.g, .tuple (r.wk.map .str), .str (encO r.o), .tuple [.str (encE r.fst), .int r.n]]) = true := by
    rw [encR, gD] at hg
    rw [gD]
    simp only [gDs, Bool.and_eq_true, List.length_cons, List.length_nil] at hg ⊢
    exact ⟨by simp, hg.2.1, hg.2.2.1, hg.2.2.2.1, hg.2.2.2.2.1, hg.2.2.2.2.2.1, hg.2.2.2.2.2.2.1, trivial⟩
  have en := ev_need_rule (st := st) g6
  have eb : badRule (.tuple [.tuple (r.ks.map .str), encI r.w, encI r.g, .tuple (r.wk.map .str), .str (encO r.o), .tuple [.str (encE r.fst), .int r.n]]) = some "form" := rfl
  rw [ruleOu, eb] at en
  generalize PyData.tuple [.tuple (r.ks.map .str), encI r.w, encI r.g, .tuple (r.wk.map .str), .str (encO r.o), .tuple [.str (encE r.fst), .int r.n]] = X at *
  simp only [fnM_ap]
  simp [m_rule_text, envOf, unpM, en]
section
variable {cs : List Int} (hc : cs ≠ [])
include hc
theorem lap_step {L : List D} {n : Nat} {st : List Cn} (h : Dst cs n st) (hn : n + 2000 < 800000) (x2 x3 x4 x5 x6 : Option Val) :
    ∃ (y3 y4 y5 y6 : Option Val) (st' : List Cn), lapB [some (.scr L), some (.obj 0), x2, x3, x4, x5, x6, none, none, none, none, none] st = .nx [some (.scr L), some (.obj 0), x2, y3, y4, y5, y6, none, none, none, none, none] st' ∧ Dst cs (n + 600) st' := by
  obtain ⟨r, st1, e1, hr, s1⟩ := rule_dr hc h (by omega) (most := 4) (c := 4) (hours := 60) (by decide) (by decide) (by decide) (by decide) (by decide)
  obtain ⟨j, st2, e2, hj, _, _, s2⟩ := journey_dr3 hc s1 (by omega) hr (size := 9) (hours := 100000) (by decide) (by decide)
  have ea := ev_rule_text (st := st2) hr
  have eb := ev_law_rule_rows (st := st2) hr
  have ec := ev_read_rule (st := st2) hr
  have ed := ev_law_way_rows (st := st2) hr.ks hj
  have ee := ev_journey_text (st := st2) hr hj
  have ef := ev_read_journey (st := st2) hr hj
  have e6 := ev_rule_six (st := st2) hr
  have gR := gRepr_sho (sho_R hr) (by decide) (by decide) (v := .dat (encR r)) rfl
  have gJ := gRepr_sho (sho_J hr hj) (by decide) (by decide) (v := .dat (encJ j)) rfl
  have n1 := ne_str (textR r)
  have n2 := ne_str (encR r).shown
  have n3 := ne_str (textJ j)
  have n4 := ne_str (encJ j).shown
  have n5 := ne_str "form"
  have c6 : gCut (.dat (encR r)) none (some 6) = some (.dat (.tuple [.tuple (r.ks.map .str), encI r.w, encI r.g, .tuple (r.wk.map .str), .str (encO r.o), .tuple [.str (encE r.fst), .int r.n]])) := by
    have e : encR r = .tuple [.tuple (r.ks.map .str), encI r.w, encI r.g, .tuple (r.wk.map .str), .str (encO r.o), .tuple [.str (encE r.fst), .int r.n], encS r.sh] := rfl
    rw [e, gCut_t]
    have := cut_take [PyData.tuple (r.ks.map .str), encI r.w, encI r.g, .tuple (r.wk.map .str), .str (encO r.o), .tuple [.str (encE r.fst), .int r.n], encS r.sh] 6
    rw [show (((6 : Nat) : Int)) = 6 from rfl] at this
    rw [this]
    rfl
  refine ⟨some (.dat (encR r)), some (.dat (encJ j)), some (.dat (.str (textJ j))), some (.dat (.str "form")), st2, ?_, s2.mono (by omega)⟩
  generalize PyData.tuple [.tuple (r.ks.map .str), encI r.w, encI r.g, .tuple (r.wk.map .str), .str (encO r.o), .tuple [.str (encE r.fst), .int r.n]] = X at *
  generalize (encR r).shown = SR at *
  generalize (encJ j).shown = SJ at *
  generalize encR r = R at *
  generalize encJ j = J at *
  generalize textR r = TR at *
  generalize textJ j = TJ at *
  have t0 : lb0 [some (.scr L), some (.obj 0), x2, x3, x4, x5, x6, none, none, none, none, none] st = .nx [some (.scr L), some (.obj 0), x2, some (.dat R), x4, x5, x6, none, none, none, none, none] st1 := by
    simp at e1
    simp [lb0, e1]
  have t1 : lb1 [some (.scr L), some (.obj 0), x2, some (.dat R), x4, x5, x6, none, none, none, none, none] st1 = .nx [some (.scr L), some (.obj 0), x2, some (.dat R), some (.dat J), x5, x6, none, none, none, none, none] st2 := by
    have p : gPow (.dat (.int 10)) (.dat (.int 5)) = some (.dat (.int 100000)) := by kernel_rfl
    simp at e2
    simp [lb1, p, e2]
  have t2 : lb2 [some (.scr L), some (.obj 0), x2, some (.dat R), some (.dat J), x5, x6, none, none, none, none, none] st2 = .nx [some (.scr L), some (.obj 0), x2, some (.dat R), some (.dat J), x5, x6, none, none, none, none, none] st2 := by
    simp [lb2, ea, eb, ec, gR, n1, n2, onB_b, onO_b]
  have t3 : lb3 [some (.scr L), some (.obj 0), x2, some (.dat R), some (.dat J), x5, x6, none, none, none, none, none] st2 = .nx [some (.scr L), some (.obj 0), x2, some (.dat R), some (.dat J), some (.dat (.str TJ)), x6, none, none, none, none, none] st2 := by
    simp [lb3, ed]
  have t4 : lb4 [some (.scr L), some (.obj 0), x2, some (.dat R), some (.dat J), some (.dat (.str TJ)), x6, none, none, none, none, none] st2 = .nx [some (.scr L), some (.obj 0), x2, some (.dat R), some (.dat J), some (.dat (.str TJ)), x6, none, none, none, none, none] st2 := by
    simp [lb4, ee, ef, gJ, n3, n4, onB_b, onO_b]
  have t5 : lb5 [some (.scr L), some (.obj 0), x2, some (.dat R), some (.dat J), some (.dat (.str TJ)), x6, none, none, none, none, none] st2 = .nx [some (.scr L), some (.obj 0), x2, some (.dat R), some (.dat J), some (.dat (.str TJ)), some (.dat .none), none, none, none, none, none] st2 := by
    simp [lb5]
  have t6 : lb6 [some (.scr L), some (.obj 0), x2, some (.dat R), some (.dat J), some (.dat (.str TJ)), some (.dat .none), none, none, none, none, none] st2 = .nx [some (.scr L), some (.obj 0), x2, some (.dat R), some (.dat J), some (.dat (.str TJ)), some (.dat (.str "form")), none, none, none, none, none] st2 := by
    have eE : asErr (.dat (.dict [(.list [.int 0], .str "form")])) = some (0, .str "form") := rfl
    simp [lb6, tryM, c6, e6, hdM, errD, fldM, eE, goneM]
  have t7 : lb7 [some (.scr L), some (.obj 0), x2, some (.dat R), some (.dat J), some (.dat (.str TJ)), some (.dat (.str "form")), none, none, none, none, none] st2 = .nx [some (.scr L), some (.obj 0), x2, some (.dat R), some (.dat J), some (.dat (.str TJ)), some (.dat (.str "form")), none, none, none, none, none] st2 := by
    simp [lb7, n5, onB_b]
  simp only [lapB, seqM_ap]
  rw [t0]
  simp only [Os.an_nx, seqM_ap]
  rw [t1]
  simp only [Os.an_nx, seqM_ap]
  rw [t2]
  simp only [Os.an_nx, seqM_ap]
  rw [t3]
  simp only [Os.an_nx, seqM_ap]
  rw [t4]
  simp only [Os.an_nx, seqM_ap]
  rw [t5]
  simp only [Os.an_nx, seqM_ap]
  rw [t6]
  simp only [Os.an_nx]
  exact t7
end
end Pl.Law

set_option Elab.async false
set_option linter.all false
set_option maxRecDepth 100000
set_option maxHeartbeats 2000000
namespace Pl.Law
open PySem PySem.Spec PyProof.Rows L2 PySem.W Pl Ts
set_option maxHeartbeats 0 in
theorem end_ok (x0 x1 x2 x3 x4 x5 x6 : Option Val) (st : List Cn) : endS [x0, x1, x2, x3, x4, x5, x6, none, none, none, none, none] st = .ret (.dat (.bool true)) st := by
  kernel_rfl
end Pl.Law

set_option Elab.async false
set_option linter.all false
set_option maxRecDepth 100000
set_option maxHeartbeats 2000000
namespace Pl.Law
open PySem PySem.Spec PyProof.Rows L2 PySem.W Pl Ts
section
variable {cs : List Int} (hc : cs ≠ [])
include hc
theorem laps {L : List D} {st : List Cn} (h : Dst cs 0 st) {c : Nat} (hcc : c ≤ 30) :
    ∃ (y2 y3 y4 y5 y6 : Option Val) (st' : List Cn), forM (.nm 2) lapB (intsD 0 c) [some (.scr L), some (.obj 0), none, none, none, none, none, none, none, none, none, none] st = .nx [some (.scr L), some (.obj 0), y2, y3, y4, y5, y6, none, none, none, none, none] st' := by
  obtain ⟨env', st', e, y2, y3, y4, y5, y6, rfl, s⟩ := for_rng0 (tg := .nm 2) (mt := lapB)
    (fun i env st => ∃ (y2 y3 y4 y5 y6 : Option Val), env = [some (.scr L), some (.obj 0), y2, y3, y4, y5, y6, none, none, none, none, none] ∧ Dst cs (600 * i) st)
    c _ st ⟨none, none, none, none, none, rfl, h⟩ (by
      rintro i hi env st ⟨y2, y3, y4, y5, y6, rfl, hs⟩
      obtain ⟨z3, z4, z5, z6, st2, e2, s2⟩ := lap_step hc (L := L) hs (by omega) (some (.dat (.int (i : Int)))) y3 y4 y5 y6
      exact ⟨_, _, st2, rfl, e2, _, z3, z4, z5, z6, rfl, s2.mono (by omega)⟩)
  exact ⟨y2, y3, y4, y5, y6, st', e⟩
end
theorem law_true : ∀ ns : List Int, ns.length ≤ 63 → ∃ st, f_law [.scr (ns.map PyData.int)] [] = .ok (.dat (.bool true)) st := by
  intro ns hn
  obtain ⟨l, hb⟩ := begun_dr ns hn
  have hc : ns ++ [(ns.length : Int)] ≠ [] := by simp
  obtain ⟨c, hcl, hc30⟩ : ∃ c : Nat, ((8 : Int) + if (16 : Int) < ns.length then 16 else (ns.length : Int)) = (c : Int) ∧ c ≤ 30 := by
    by_cases h : (16 : Int) < ns.length
    · exact ⟨24, by rw [if_pos h]; rfl, by omega⟩
    · exact ⟨8 + ns.length, by rw [if_neg h]; omega, by omega⟩
  obtain ⟨y2, y3, y4, y5, y6, st2, L⟩ := laps hc (L := ns.map PyData.int) (st := [cD (ns ++ [(ns.length : Int)]) l 0]) ⟨l, 0, rfl, by decide, by decide⟩ hc30
  refine ⟨st2, ?_⟩
  have h1 : lw0 [some (.scr (ns.map PyData.int)), none, none, none, none, none, none, none, none, none, none, none] [] = .nx [some (.scr (ns.map PyData.int)), some (.obj 0), none, none, none, none, none, none, none, none, none, none] [cD (ns ++ [(ns.length : Int)]) l 0] := by
    have e : (callF 1 f__law_begun (acons (varM 0) anil)) [some (.scr (ns.map PyData.int)), none, none, none, none, none, none, none, none, none, none, none] [] = .ok (.fr (cD (ns ++ [(ns.length : Int)]) l 0)) [] := by
      simp [-List.map_append, hb]
    unfold lw0 setO
    rw [e]
    rfl
  have b : inb (c : Int) = true := inb_nat (by omega)
  have hi : ∀ env : Env, env[0]? = some (some (.scr (ns.map PyData.int))) → ∀ st, lapI env st = .ok (intsD 0 c) st := fun env h st => by
    simp [lapI, h, hcl, b]
  show (m_law [some (.scr (ns.map PyData.int)), none, none, none, none, none, none, none, none, none, none, none] []).fin = _
  rw [law_split, seqM_ap, h1]
  simp only [Os.an_nx, seqM_ap]
  rw [frM_ap _ _ _ _ _ (hi _ rfl _), L]
  simp only [Os.an_nx]
  rw [end_ok]
  rfl
end Pl.Law

namespace Pl.Law
open PySem PySem.Spec PyProof.Rows L2 PySem.W Pl
section
variable {w : World} {K : Frag} {mg : Str → Option Value} {base : Heap} {ec : List (Addr × Str)}

set_option maxHeartbeats 8000000 in
theorem all_mk {w : World} {K : Frag} {h : Heap} {mg : Str → Option Value} {fa : Addr} (X : K.In h) (G : h.Ns mainGlobals mg) (hfa : mg "law" = some (.ref fa))
    {C0 : Addr} {C1 : Addr} {C2 : Addr} {f_is_any_integer_ : Addr} {oc_is_any_integer kV_is_any_integer dc_is_any_integer pm_is_any_integer cd_is_any_integer ct_is_any_integer : Value} {od_is_any_integer an_is_any_integer : Option Addr} {sl_is_any_integer : Array (Option Value)} {f_is_at_least_ : Addr} {oc_is_at_least kV_is_at_least dc_is_at_least pm_is_at_least cd_is_at_least ct_is_at_least : Value} {od_is_at_least an_is_at_least : Option Addr} {sl_is_at_least : Array (Option Value)} {f_is_integer_ : Addr} {oc_is_integer kV_is_integer dc_is_integer pm_is_integer cd_is_integer ct_is_integer : Value} {od_is_integer an_is_integer : Option Addr} {sl_is_integer : Array (Option Value)} {f_is_word_ : Addr} {oc_is_word kV_is_word dc_is_word pm_is_word cd_is_word ct_is_word : Value} {od_is_word an_is_word : Option Addr} {sl_is_word : Array (Option Value)} {f_written_integer_ : Addr} {oc_written_integer kV_written_integer dc_written_integer pm_written_integer cd_written_integer ct_written_integer : Value} {od_written_integer an_written_integer : Option Addr} {sl_written_integer : Array (Option Value)} {f_is_one_of_ : Addr} {oc_is_one_of kV_is_one_of dc_is_one_of pm_is_one_of cd_is_one_of ct_is_one_of : Value} {od_is_one_of an_is_one_of : Option Addr} {sl_is_one_of : Array (Option Value)} {f_is_tuple_ : Addr} {oc_is_tuple kV_is_tuple dc_is_tuple pm_is_tuple cd_is_tuple ct_is_tuple : Value} {od_is_tuple an_is_tuple : Option Addr} {sl_is_tuple : Array (Option Value)} {f_are_integers_ : Addr} {oc_are_integers kV_are_integers dc_are_integers pm_are_integers cd_are_integers ct_are_integers : Value} {od_are_integers an_are_integers : Option Addr} {sl_are_integers : Array (Option Value)} {f_is_ascending_ : Addr} {oc_is_ascending kV_is_ascending dc_is_ascending pm_is_ascending cd_is_ascending ct_is_ascending : Value} {od_is_ascending an_is_ascending : Option Addr} {sl_is_ascending : Array (Option Value)} {f__are_kinds_ : Addr} {oc__are_kinds kV__are_kinds dc__are_kinds pm__are_kinds cd__are_kinds ct__are_kinds : Value} {od__are_kinds an__are_kinds : Option Addr} {sl__are_kinds : Array (Option Value)} {f__is_limit_ : Addr} {oc__is_limit kV__is_limit dc__is_limit pm__is_limit cd__is_limit ct__is_limit : Value} {od__is_limit an__is_limit : Option Addr} {sl__is_limit : Array (Option Value)} {f__are_weak_ : Addr} {oc__are_weak kV__are_weak dc__are_weak pm__are_weak cd__are_weak ct__are_weak : Value} {od__are_weak an__are_weak : Option Addr} {sl__are_weak : Array (Option Value)} {f__is_pick_ : Addr} {oc__is_pick kV__is_pick dc__is_pick pm__is_pick cd__is_pick ct__is_pick : Value} {od__is_pick an__is_pick : Option Addr} {sl__is_pick : Array (Option Value)} {f__is_row_ : Addr} {oc__is_row kV__is_row dc__is_row pm__is_row cd__is_row ct__is_row : Value} {od__is_row an__is_row : Option Addr} {sl__is_row : Array (Option Value)} {f__are_rows_ : Addr} {oc__are_rows kV__are_rows dc__are_rows pm__are_rows cd__are_rows ct__are_rows : Value} {od__are_rows an__are_rows : Option Addr} {sl__are_rows : Array (Option Value)} {f__are_marks_ : Addr} {oc__are_marks kV__are_marks dc__are_marks pm__are_marks cd__are_marks ct__are_marks : Value} {od__are_marks an__are_marks : Option Addr} {sl__are_marks : Array (Option Value)} {f__are_weights_ : Addr} {oc__are_weights kV__are_weights dc__are_weights pm__are_weights cd__are_weights ct__are_weights : Value} {od__are_weights an__are_weights : Option Addr} {sl__are_weights : Array (Option Value)} {f__is_shares_ : Addr} {oc__is_shares kV__is_shares dc__is_shares pm__is_shares cd__is_shares ct__is_shares : Value} {od__is_shares an__is_shares : Option Addr} {sl__is_shares : Array (Option Value)} {f__wrong_part_ : Addr} {oc__wrong_part kV__wrong_part dc__wrong_part pm__wrong_part cd__wrong_part ct__wrong_part : Value} {od__wrong_part an__wrong_part : Option Addr} {sl__wrong_part : Array (Option Value)} {f_need_rule_ : Addr} {oc_need_rule kV_need_rule dc_need_rule pm_need_rule cd_need_rule ct_need_rule : Value} {od_need_rule an_need_rule : Option Addr} {sl_need_rule : Array (Option Value)} {f__is_touch_ : Addr} {oc__is_touch kV__is_touch dc__is_touch pm__is_touch cd__is_touch ct__is_touch : Value} {od__is_touch an__is_touch : Option Addr} {sl__is_touch : Array (Option Value)} {f_need_journey_ : Addr} {oc_need_journey kV_need_journey dc_need_journey pm_need_journey cd_need_journey ct_need_journey : Value} {od_need_journey an_need_journey : Option Addr} {sl_need_journey : Array (Option Value)} {f__shares_words_ : Addr} {oc__shares_words kV__shares_words dc__shares_words pm__shares_words cd__shares_words ct__shares_words : Value} {od__shares_words an__shares_words : Option Addr} {sl__shares_words : Array (Option Value)} {f__limit_word_ : Addr} {oc__limit_word kV__limit_word dc__limit_word pm__limit_word cd__limit_word ct__limit_word : Value} {od__limit_word an__limit_word : Option Addr} {sl__limit_word : Array (Option Value)} {f_rule_text_ : Addr} {oc_rule_text kV_rule_text dc_rule_text pm_rule_text cd_rule_text ct_rule_text : Value} {od_rule_text an_rule_text : Option Addr} {sl_rule_text : Array (Option Value)} {f__need_string_ : Addr} {oc__need_string kV__need_string dc__need_string pm__need_string cd__need_string ct__need_string : Value} {od__need_string an__need_string : Option Addr} {sl__need_string : Array (Option Value)} {f__told_words_ : Addr} {oc__told_words kV__told_words dc__told_words pm__told_words cd__told_words ct__told_words : Value} {od__told_words an__told_words : Option Addr} {sl__told_words : Array (Option Value)} {f__told_limit_ : Addr} {oc__told_limit kV__told_limit dc__told_limit pm__told_limit cd__told_limit ct__told_limit : Value} {od__told_limit an__told_limit : Option Addr} {sl__told_limit : Array (Option Value)} {f__told_once_ : Addr} {oc__told_once kV__told_once dc__told_once pm__told_once cd__told_once ct__told_once : Value} {od__told_once an__told_once : Option Addr} {sl__told_once : Array (Option Value)} {f__told_pick_ : Addr} {oc__told_pick kV__told_pick dc__told_pick pm__told_pick cd__told_pick ct__told_pick : Value} {od__told_pick an__told_pick : Option Addr} {sl__told_pick : Array (Option Value)} {f__told_places_ : Addr} {oc__told_places kV__told_places dc__told_places pm__told_places cd__told_places ct__told_places : Value} {od__told_places an__told_places : Option Addr} {sl__told_places : Array (Option Value)} {f__told_shares_ : Addr} {oc__told_shares kV__told_shares dc__told_shares pm__told_shares cd__told_shares ct__told_shares : Value} {od__told_shares an__told_shares : Option Addr} {sl__told_shares : Array (Option Value)} {f__told_rule_ : Addr} {oc__told_rule kV__told_rule dc__told_rule pm__told_rule cd__told_rule ct__told_rule : Value} {od__told_rule an__told_rule : Option Addr} {sl__told_rule : Array (Option Value)} {f_read_rule_ : Addr} {oc_read_rule kV_read_rule dc_read_rule pm_read_rule cd_read_rule ct_read_rule : Value} {od_read_rule an_read_rule : Option Addr} {sl_read_rule : Array (Option Value)} {f_journey_text_ : Addr} {oc_journey_text kV_journey_text dc_journey_text pm_journey_text cd_journey_text ct_journey_text : Value} {od_journey_text an_journey_text : Option Addr} {sl_journey_text : Array (Option Value)} {f__told_touch_ : Addr} {oc__told_touch kV__told_touch dc__told_touch pm__told_touch cd__told_touch ct__told_touch : Value} {od__told_touch an__told_touch : Option Addr} {sl__told_touch : Array (Option Value)} {f_read_journey_ : Addr} {oc_read_journey kV_read_journey dc_read_journey pm_read_journey cd_read_journey ct_read_journey : Value} {od_read_journey an_read_journey : Option Addr} {sl_read_journey : Array (Option Value)} {f__law_begun_ : Addr} {oc__law_begun kV__law_begun dc__law_begun pm__law_begun cd__law_begun ct__law_begun : Value} {od__law_begun an__law_begun : Option Addr} {sl__law_begun : Array (Option Value)} {f__law_draw_ : Addr} {oc__law_draw kV__law_draw dc__law_draw pm__law_draw cd__law_draw ct__law_draw : Value} {od__law_draw an__law_draw : Option Addr} {sl__law_draw : Array (Option Value)} {f__law_of_ : Addr} {oc__law_of kV__law_of dc__law_of pm__law_of cd__law_of ct__law_of : Value} {od__law_of an__law_of : Option Addr} {sl__law_of : Array (Option Value)} {f__law_kinds_ : Addr} {oc__law_kinds kV__law_kinds dc__law_kinds pm__law_kinds cd__law_kinds ct__law_kinds : Value} {od__law_kinds an__law_kinds : Option Addr} {sl__law_kinds : Array (Option Value)} {f__law_shares_ : Addr} {oc__law_shares kV__law_shares dc__law_shares pm__law_shares cd__law_shares ct__law_shares : Value} {od__law_shares an__law_shares : Option Addr} {sl__law_shares : Array (Option Value)} {f__law_rule_ : Addr} {oc__law_rule kV__law_rule dc__law_rule pm__law_rule cd__law_rule ct__law_rule : Value} {od__law_rule an__law_rule : Option Addr} {sl__law_rule : Array (Option Value)} {f__law_journey_ : Addr} {oc__law_journey kV__law_journey dc__law_journey pm__law_journey cd__law_journey ct__law_journey : Value} {od__law_journey an__law_journey : Option Addr} {sl__law_journey : Array (Option Value)} {f__law_rule_rows_ : Addr} {oc__law_rule_rows kV__law_rule_rows dc__law_rule_rows pm__law_rule_rows cd__law_rule_rows ct__law_rule_rows : Value} {od__law_rule_rows an__law_rule_rows : Option Addr} {sl__law_rule_rows : Array (Option Value)} {f__law_way_rows_ : Addr} {oc__law_way_rows kV__law_way_rows dc__law_way_rows pm__law_way_rows cd__law_way_rows ct__law_way_rows : Value} {od__law_way_rows an__law_way_rows : Option Addr} {sl__law_way_rows : Array (Option Value)} {f_law_ : Addr} {oc_law kV_law dc_law pm_law cd_law ct_law : Value} {od_law an_law : Option Addr} {sl_law : Array (Option Value)} {tg_GREATEST_AGE : Tok} {tg_KINDS : Tok} {tg_MANY_ROWS : Tok} {tg_MOST_FIGURES : Tok} {tg_MOST_TOUCHES : Tok} {I0 cc0 cda0 : Addr} {qual0 m0 : Str} {oc0 kV0 doc0 pm0 ct0 ccl0 cl0 : Value} {od0 an0 cdd0 cld0 : Option Addr} {osl0 ccs0 csl0 : Array (Option Value)} {vs0 : Array Value} {file0 : Str} {tf0 : Tok} {p1_0 p2_0 q0_0 q1_0 q2_0 q3_0 q4_0 q5_0 q6_0 q7_0 q8_0 q9_0 : Pos} {I1 cc1 cda1 : Addr} {qual1 m1 : Str} {oc1 kV1 doc1 pm1 ct1 ccl1 cl1 : Value} {od1 an1 cdd1 cld1 : Option Addr} {osl1 ccs1 csl1 : Array (Option Value)} {vs1 : Array Value} {file1 : Str} {tf1 : Tok} {p1_1 p2_1 q0_1 q1_1 q2_1 q3_1 q4_1 q5_1 q6_1 q7_1 q8_1 q9_1 : Pos} {I2 cc2 cda2 : Addr} {qual2 m2 : Str} {oc2 kV2 doc2 pm2 ct2 ccl2 cl2 : Value} {od2 an2 cdd2 cld2 : Option Addr} {osl2 ccs2 csl2 : Array (Option Value)} {vs2 : Array Value} {file2 : Str} {tf2 : Tok} {p1_2 p2_2 q0_2 q1_2 q2_2 q3_2 q4_2 q5_2 q6_2 q7_2 q8_2 q9_2 : Pos}
    (a_BadRule : nsIn K mainGlobals "BadRule" = some (some (.ref C0))) (a_BadJourney : nsIn K mainGlobals "BadJourney" = some (some (.ref C1))) (a_BadText : nsIn K mainGlobals "BadText" = some (some (.ref C2))) (a_is_any_integer : nsIn K mainGlobals "is_any_integer" = some (some (.ref f_is_any_integer_))) (l_is_any_integer : K.lookup f_is_any_integer_ = some ⟨oc_is_any_integer, od_is_any_integer, .func (fnOf "is_any_integer" "is_any_integer" (defArgs s_is_any_integer) (defBody s_is_any_integer) (defScope s_is_any_integer) .none kV_is_any_integer dc_is_any_integer pm_is_any_integer an_is_any_integer cd_is_any_integer ct_is_any_integer), sl_is_any_integer⟩) (c_is_any_integer : codeIn K cd_is_any_integer "is_any_integer" = true) (k_is_any_integer : keepIn K (.ref f_is_any_integer_) = true) (a_is_at_least : nsIn K mainGlobals "is_at_least" = some (some (.ref f_is_at_least_))) (l_is_at_least : K.lookup f_is_at_least_ = some ⟨oc_is_at_least, od_is_at_least, .func (fnOf "is_at_least" "is_at_least" (defArgs s_is_at_least) (defBody s_is_at_least) (defScope s_is_at_least) .none kV_is_at_least dc_is_at_least pm_is_at_least an_is_at_least cd_is_at_least ct_is_at_least), sl_is_at_least⟩) (c_is_at_least : codeIn K cd_is_at_least "is_at_least" = true) (k_is_at_least : keepIn K (.ref f_is_at_least_) = true) (a_is_integer : nsIn K mainGlobals "is_integer" = some (some (.ref f_is_integer_))) (l_is_integer : K.lookup f_is_integer_ = some ⟨oc_is_integer, od_is_integer, .func (fnOf "is_integer" "is_integer" (defArgs s_is_integer) (defBody s_is_integer) (defScope s_is_integer) .none kV_is_integer dc_is_integer pm_is_integer an_is_integer cd_is_integer ct_is_integer), sl_is_integer⟩) (c_is_integer : codeIn K cd_is_integer "is_integer" = true) (k_is_integer : keepIn K (.ref f_is_integer_) = true) (a_is_word : nsIn K mainGlobals "is_word" = some (some (.ref f_is_word_))) (l_is_word : K.lookup f_is_word_ = some ⟨oc_is_word, od_is_word, .func (fnOf "is_word" "is_word" (defArgs s_is_word) (defBody s_is_word) (defScope s_is_word) .none kV_is_word dc_is_word pm_is_word an_is_word cd_is_word ct_is_word), sl_is_word⟩) (c_is_word : codeIn K cd_is_word "is_word" = true) (k_is_word : keepIn K (.ref f_is_word_) = true) (a_written_integer : nsIn K mainGlobals "written_integer" = some (some (.ref f_written_integer_))) (l_written_integer : K.lookup f_written_integer_ = some ⟨oc_written_integer, od_written_integer, .func (fnOf "written_integer" "written_integer" (defArgs s_written_integer) (defBody s_written_integer) (defScope s_written_integer) .none kV_written_integer dc_written_integer pm_written_integer an_written_integer cd_written_integer ct_written_integer), sl_written_integer⟩) (c_written_integer : codeIn K cd_written_integer "written_integer" = true) (k_written_integer : keepIn K (.ref f_written_integer_) = true) (a_is_one_of : nsIn K mainGlobals "is_one_of" = some (some (.ref f_is_one_of_))) (l_is_one_of : K.lookup f_is_one_of_ = some ⟨oc_is_one_of, od_is_one_of, .func (fnOf "is_one_of" "is_one_of" (defArgs s_is_one_of) (defBody s_is_one_of) (defScope s_is_one_of) .none kV_is_one_of dc_is_one_of pm_is_one_of an_is_one_of cd_is_one_of ct_is_one_of), sl_is_one_of⟩) (c_is_one_of : codeIn K cd_is_one_of "is_one_of" = true) (k_is_one_of : keepIn K (.ref f_is_one_of_) = true) (a_is_tuple : nsIn K mainGlobals "is_tuple" = some (some (.ref f_is_tuple_))) (l_is_tuple : K.lookup f_is_tuple_ = some ⟨oc_is_tuple, od_is_tuple, .func (fnOf "is_tuple" "is_tuple" (defArgs s_is_tuple) (defBody s_is_tuple) (defScope s_is_tuple) .none kV_is_tuple dc_is_tuple pm_is_tuple an_is_tuple cd_is_tuple ct_is_tuple), sl_is_tuple⟩) (c_is_tuple : codeIn K cd_is_tuple "is_tuple" = true) (k_is_tuple : keepIn K (.ref f_is_tuple_) = true) (a_are_integers : nsIn K mainGlobals "are_integers" = some (some (.ref f_are_integers_))) (l_are_integers : K.lookup f_are_integers_ = some ⟨oc_are_integers, od_are_integers, .func (fnOf "are_integers" "are_integers" (defArgs s_are_integers) (defBody s_are_integers) (defScope s_are_integers) .none kV_are_integers dc_are_integers pm_are_integers an_are_integers cd_are_integers ct_are_integers), sl_are_integers⟩) (c_are_integers : codeIn K cd_are_integers "are_integers" = true) (k_are_integers : keepIn K (.ref f_are_integers_) = true) (a_is_ascending : nsIn K mainGlobals "is_ascending" = some (some (.ref f_is_ascending_))) (l_is_ascending : K.lookup f_is_ascending_ = some ⟨oc_is_ascending, od_is_ascending, .func (fnOf "is_ascending" "is_ascending" (defArgs s_is_ascending) (defBody s_is_ascending) (defScope s_is_ascending) .none kV_is_ascending dc_is_ascending pm_is_ascending an_is_ascending cd_is_ascending ct_is_ascending), sl_is_ascending⟩) (c_is_ascending : codeIn K cd_is_ascending "is_ascending" = true) (k_is_ascending : keepIn K (.ref f_is_ascending_) = true) (a__are_kinds : nsIn K mainGlobals "_are_kinds" = some (some (.ref f__are_kinds_))) (l__are_kinds : K.lookup f__are_kinds_ = some ⟨oc__are_kinds, od__are_kinds, .func (fnOf "_are_kinds" "_are_kinds" (defArgs s__are_kinds) (defBody s__are_kinds) (defScope s__are_kinds) .none kV__are_kinds dc__are_kinds pm__are_kinds an__are_kinds cd__are_kinds ct__are_kinds), sl__are_kinds⟩) (c__are_kinds : codeIn K cd__are_kinds "_are_kinds" = true) (k__are_kinds : keepIn K (.ref f__are_kinds_) = true) (a__is_limit : nsIn K mainGlobals "_is_limit" = some (some (.ref f__is_limit_))) (l__is_limit : K.lookup f__is_limit_ = some ⟨oc__is_limit, od__is_limit, .func (fnOf "_is_limit" "_is_limit" (defArgs s__is_limit) (defBody s__is_limit) (defScope s__is_limit) .none kV__is_limit dc__is_limit pm__is_limit an__is_limit cd__is_limit ct__is_limit), sl__is_limit⟩) (c__is_limit : codeIn K cd__is_limit "_is_limit" = true) (k__is_limit : keepIn K (.ref f__is_limit_) = true) (a__are_weak : nsIn K mainGlobals "_are_weak" = some (some (.ref f__are_weak_))) (l__are_weak : K.lookup f__are_weak_ = some ⟨oc__are_weak, od__are_weak, .func (fnOf "_are_weak" "_are_weak" (defArgs s__are_weak) (defBody s__are_weak) (defScope s__are_weak) .none kV__are_weak dc__are_weak pm__are_weak an__are_weak cd__are_weak ct__are_weak), sl__are_weak⟩) (c__are_weak : codeIn K cd__are_weak "_are_weak" = true) (k__are_weak : keepIn K (.ref f__are_weak_) = true) (a__is_pick : nsIn K mainGlobals "_is_pick" = some (some (.ref f__is_pick_))) (l__is_pick : K.lookup f__is_pick_ = some ⟨oc__is_pick, od__is_pick, .func (fnOf "_is_pick" "_is_pick" (defArgs s__is_pick) (defBody s__is_pick) (defScope s__is_pick) .none kV__is_pick dc__is_pick pm__is_pick an__is_pick cd__is_pick ct__is_pick), sl__is_pick⟩) (c__is_pick : codeIn K cd__is_pick "_is_pick" = true) (k__is_pick : keepIn K (.ref f__is_pick_) = true) (a__is_row : nsIn K mainGlobals "_is_row" = some (some (.ref f__is_row_))) (l__is_row : K.lookup f__is_row_ = some ⟨oc__is_row, od__is_row, .func (fnOf "_is_row" "_is_row" (defArgs s__is_row) (defBody s__is_row) (defScope s__is_row) .none kV__is_row dc__is_row pm__is_row an__is_row cd__is_row ct__is_row), sl__is_row⟩) (c__is_row : codeIn K cd__is_row "_is_row" = true) (k__is_row : keepIn K (.ref f__is_row_) = true) (a__are_rows : nsIn K mainGlobals "_are_rows" = some (some (.ref f__are_rows_))) (l__are_rows : K.lookup f__are_rows_ = some ⟨oc__are_rows, od__are_rows, .func (fnOf "_are_rows" "_are_rows" (defArgs s__are_rows) (defBody s__are_rows) (defScope s__are_rows) .none kV__are_rows dc__are_rows pm__are_rows an__are_rows cd__are_rows ct__are_rows), sl__are_rows⟩) (c__are_rows : codeIn K cd__are_rows "_are_rows" = true) (k__are_rows : keepIn K (.ref f__are_rows_) = true) (a__are_marks : nsIn K mainGlobals "_are_marks" = some (some (.ref f__are_marks_))) (l__are_marks : K.lookup f__are_marks_ = some ⟨oc__are_marks, od__are_marks, .func (fnOf "_are_marks" "_are_marks" (defArgs s__are_marks) (defBody s__are_marks) (defScope s__are_marks) .none kV__are_marks dc__are_marks pm__are_marks an__are_marks cd__are_marks ct__are_marks), sl__are_marks⟩) (c__are_marks : codeIn K cd__are_marks "_are_marks" = true) (k__are_marks : keepIn K (.ref f__are_marks_) = true) (a__are_weights : nsIn K mainGlobals "_are_weights" = some (some (.ref f__are_weights_))) (l__are_weights : K.lookup f__are_weights_ = some ⟨oc__are_weights, od__are_weights, .func (fnOf "_are_weights" "_are_weights" (defArgs s__are_weights) (defBody s__are_weights) (defScope s__are_weights) .none kV__are_weights dc__are_weights pm__are_weights an__are_weights cd__are_weights ct__are_weights), sl__are_weights⟩) (c__are_weights : codeIn K cd__are_weights "_are_weights" = true) (k__are_weights : keepIn K (.ref f__are_weights_) = true) (a__is_shares : nsIn K mainGlobals "_is_shares" = some (some (.ref f__is_shares_))) (l__is_shares : K.lookup f__is_shares_ = some ⟨oc__is_shares, od__is_shares, .func (fnOf "_is_shares" "_is_shares" (defArgs s__is_shares) (defBody s__is_shares) (defScope s__is_shares) .none kV__is_shares dc__is_shares pm__is_shares an__is_shares cd__is_shares ct__is_shares), sl__is_shares⟩) (c__is_shares : codeIn K cd__is_shares "_is_shares" = true) (k__is_shares : keepIn K (.ref f__is_shares_) = true) (a__wrong_part : nsIn K mainGlobals "_wrong_part" = some (some (.ref f__wrong_part_))) (l__wrong_part : K.lookup f__wrong_part_ = some ⟨oc__wrong_part, od__wrong_part, .func (fnOf "_wrong_part" "_wrong_part" (defArgs s__wrong_part) (defBody s__wrong_part) (defScope s__wrong_part) .none kV__wrong_part dc__wrong_part pm__wrong_part an__wrong_part cd__wrong_part ct__wrong_part), sl__wrong_part⟩) (c__wrong_part : codeIn K cd__wrong_part "_wrong_part" = true) (k__wrong_part : keepIn K (.ref f__wrong_part_) = true) (a_need_rule : nsIn K mainGlobals "need_rule" = some (some (.ref f_need_rule_))) (l_need_rule : K.lookup f_need_rule_ = some ⟨oc_need_rule, od_need_rule, .func (fnOf "need_rule" "need_rule" (defArgs s_need_rule) (defBody s_need_rule) (defScope s_need_rule) .none kV_need_rule dc_need_rule pm_need_rule an_need_rule cd_need_rule ct_need_rule), sl_need_rule⟩) (c_need_rule : codeIn K cd_need_rule "need_rule" = true) (k_need_rule : keepIn K (.ref f_need_rule_) = true) (a__is_touch : nsIn K mainGlobals "_is_touch" = some (some (.ref f__is_touch_))) (l__is_touch : K.lookup f__is_touch_ = some ⟨oc__is_touch, od__is_touch, .func (fnOf "_is_touch" "_is_touch" (defArgs s__is_touch) (defBody s__is_touch) (defScope s__is_touch) .none kV__is_touch dc__is_touch pm__is_touch an__is_touch cd__is_touch ct__is_touch), sl__is_touch⟩) (c__is_touch : codeIn K cd__is_touch "_is_touch" = true) (k__is_touch : keepIn K (.ref f__is_touch_) = true) (a_need_journey : nsIn K mainGlobals "need_journey" = some (some (.ref f_need_journey_))) (l_need_journey : K.lookup f_need_journey_ = some ⟨oc_need_journey, od_need_journey, .func (fnOf "need_journey" "need_journey" (defArgs s_need_journey) (defBody s_need_journey) (defScope s_need_journey) .none kV_need_journey dc_need_journey pm_need_journey an_need_journey cd_need_journey ct_need_journey), sl_need_journey⟩) (c_need_journey : codeIn K cd_need_journey "need_journey" = true) (k_need_journey : keepIn K (.ref f_need_journey_) = true) (a__shares_words : nsIn K mainGlobals "_shares_words" = some (some (.ref f__shares_words_))) (l__shares_words : K.lookup f__shares_words_ = some ⟨oc__shares_words, od__shares_words, .func (fnOf "_shares_words" "_shares_words" (defArgs s__shares_words) (defBody s__shares_words) (defScope s__shares_words) .none kV__shares_words dc__shares_words pm__shares_words an__shares_words cd__shares_words ct__shares_words), sl__shares_words⟩) (c__shares_words : codeIn K cd__shares_words "_shares_words" = true) (k__shares_words : keepIn K (.ref f__shares_words_) = true) (a__limit_word : nsIn K mainGlobals "_limit_word" = some (some (.ref f__limit_word_))) (l__limit_word : K.lookup f__limit_word_ = some ⟨oc__limit_word, od__limit_word, .func (fnOf "_limit_word" "_limit_word" (defArgs s__limit_word) (defBody s__limit_word) (defScope s__limit_word) .none kV__limit_word dc__limit_word pm__limit_word an__limit_word cd__limit_word ct__limit_word), sl__limit_word⟩) (c__limit_word : codeIn K cd__limit_word "_limit_word" = true) (k__limit_word : keepIn K (.ref f__limit_word_) = true) (a_rule_text : nsIn K mainGlobals "rule_text" = some (some (.ref f_rule_text_))) (l_rule_text : K.lookup f_rule_text_ = some ⟨oc_rule_text, od_rule_text, .func (fnOf "rule_text" "rule_text" (defArgs s_rule_text) (defBody s_rule_text) (defScope s_rule_text) .none kV_rule_text dc_rule_text pm_rule_text an_rule_text cd_rule_text ct_rule_text), sl_rule_text⟩) (c_rule_text : codeIn K cd_rule_text "rule_text" = true) (k_rule_text : keepIn K (.ref f_rule_text_) = true) (a__need_string : nsIn K mainGlobals "_need_string" = some (some (.ref f__need_string_))) (l__need_string : K.lookup f__need_string_ = some ⟨oc__need_string, od__need_string, .func (fnOf "_need_string" "_need_string" (defArgs s__need_string) (defBody s__need_string) (defScope s__need_string) .none kV__need_string dc__need_string pm__need_string an__need_string cd__need_string ct__need_string), sl__need_string⟩) (c__need_string : codeIn K cd__need_string "_need_string" = true) (k__need_string : keepIn K (.ref f__need_string_) = true) (a__told_words : nsIn K mainGlobals "_told_words" = some (some (.ref f__told_words_))) (l__told_words : K.lookup f__told_words_ = some ⟨oc__told_words, od__told_words, .func (fnOf "_told_words" "_told_words" (defArgs s__told_words) (defBody s__told_words) (defScope s__told_words) .none kV__told_words dc__told_words pm__told_words an__told_words cd__told_words ct__told_words), sl__told_words⟩) (c__told_words : codeIn K cd__told_words "_told_words" = true) (k__told_words : keepIn K (.ref f__told_words_) = true) (a__told_limit : nsIn K mainGlobals "_told_limit" = some (some (.ref f__told_limit_))) (l__told_limit : K.lookup f__told_limit_ = some ⟨oc__told_limit, od__told_limit, .func (fnOf "_told_limit" "_told_limit" (defArgs s__told_limit) (defBody s__told_limit) (defScope s__told_limit) .none kV__told_limit dc__told_limit pm__told_limit an__told_limit cd__told_limit ct__told_limit), sl__told_limit⟩) (c__told_limit : codeIn K cd__told_limit "_told_limit" = true) (k__told_limit : keepIn K (.ref f__told_limit_) = true) (a__told_once : nsIn K mainGlobals "_told_once" = some (some (.ref f__told_once_))) (l__told_once : K.lookup f__told_once_ = some ⟨oc__told_once, od__told_once, .func (fnOf "_told_once" "_told_once" (defArgs s__told_once) (defBody s__told_once) (defScope s__told_once) .none kV__told_once dc__told_once pm__told_once an__told_once cd__told_once ct__told_once), sl__told_once⟩) (c__told_once : codeIn K cd__told_once "_told_once" = true) (k__told_once : keepIn K (.ref f__told_once_) = true) (a__told_pick : nsIn K mainGlobals "_told_pick" = some (some (.ref f__told_pick_))) (l__told_pick : K.lookup f__told_pick_ = some ⟨oc__told_pick, od__told_pick, .func (fnOf "_told_pick" "_told_pick" (defArgs s__told_pick) (defBody s__told_pick) (defScope s__told_pick) .none kV__told_pick dc__told_pick pm__told_pick an__told_pick cd__told_pick ct__told_pick), sl__told_pick⟩) (c__told_pick : codeIn K cd__told_pick "_told_pick" = true) (k__told_pick : keepIn K (.ref f__told_pick_) = true) (a__told_places : nsIn K mainGlobals "_told_places" = some (some (.ref f__told_places_))) (l__told_places : K.lookup f__told_places_ = some ⟨oc__told_places, od__told_places, .func (fnOf "_told_places" "_told_places" (defArgs s__told_places) (defBody s__told_places) (defScope s__told_places) .none kV__told_places dc__told_places pm__told_places an__told_places cd__told_places ct__told_places), sl__told_places⟩) (c__told_places : codeIn K cd__told_places "_told_places" = true) (k__told_places : keepIn K (.ref f__told_places_) = true) (a__told_shares : nsIn K mainGlobals "_told_shares" = some (some (.ref f__told_shares_))) (l__told_shares : K.lookup f__told_shares_ = some ⟨oc__told_shares, od__told_shares, .func (fnOf "_told_shares" "_told_shares" (defArgs s__told_shares) (defBody s__told_shares) (defScope s__told_shares) .none kV__told_shares dc__told_shares pm__told_shares an__told_shares cd__told_shares ct__told_shares), sl__told_shares⟩) (c__told_shares : codeIn K cd__told_shares "_told_shares" = true) (k__told_shares : keepIn K (.ref f__told_shares_) = true) (a__told_rule : nsIn K mainGlobals "_told_rule" = some (some (.ref f__told_rule_))) (l__told_rule : K.lookup f__told_rule_ = some ⟨oc__told_rule, od__told_rule, .func (fnOf "_told_rule" "_told_rule" (defArgs s__told_rule) (defBody s__told_rule) (defScope s__told_rule) .none kV__told_rule dc__told_rule pm__told_rule an__told_rule cd__told_rule ct__told_rule), sl__told_rule⟩) (c__told_rule : codeIn K cd__told_rule "_told_rule" = true) (k__told_rule : keepIn K (.ref f__told_rule_) = true) (a_read_rule : nsIn K mainGlobals "read_rule" = some (some (.ref f_read_rule_))) (l_read_rule : K.lookup f_read_rule_ = some ⟨oc_read_rule, od_read_rule, .func (fnOf "read_rule" "read_rule" (defArgs s_read_rule) (defBody s_read_rule) (defScope s_read_rule) .none kV_read_rule dc_read_rule pm_read_rule an_read_rule cd_read_rule ct_read_rule), sl_read_rule⟩) (c_read_rule : codeIn K cd_read_rule "read_rule" = true) (k_read_rule : keepIn K (.ref f_read_rule_) = true) (a_journey_text : nsIn K mainGlobals "journey_text" = some (some (.ref f_journey_text_))) (l_journey_text : K.lookup f_journey_text_ = some ⟨oc_journey_text, od_journey_text, .func (fnOf "journey_text" "journey_text" (defArgs s_journey_text) (defBody s_journey_text) (defScope s_journey_text) .none kV_journey_text dc_journey_text pm_journey_text an_journey_text cd_journey_text ct_journey_text), sl_journey_text⟩) (c_journey_text : codeIn K cd_journey_text "journey_text" = true) (k_journey_text : keepIn K (.ref f_journey_text_) = true) (a__told_touch : nsIn K mainGlobals "_told_touch" = some (some (.ref f__told_touch_))) (l__told_touch : K.lookup f__told_touch_ = some ⟨oc__told_touch, od__told_touch, .func (fnOf "_told_touch" "_told_touch" (defArgs s__told_touch) (defBody s__told_touch) (defScope s__told_touch) .none kV__told_touch dc__told_touch pm__told_touch an__told_touch cd__told_touch ct__told_touch), sl__told_touch⟩) (c__told_touch : codeIn K cd__told_touch "_told_touch" = true) (k__told_touch : keepIn K (.ref f__told_touch_) = true) (a_read_journey : nsIn K mainGlobals "read_journey" = some (some (.ref f_read_journey_))) (l_read_journey : K.lookup f_read_journey_ = some ⟨oc_read_journey, od_read_journey, .func (fnOf "read_journey" "read_journey" (defArgs s_read_journey) (defBody s_read_journey) (defScope s_read_journey) .none kV_read_journey dc_read_journey pm_read_journey an_read_journey cd_read_journey ct_read_journey), sl_read_journey⟩) (c_read_journey : codeIn K cd_read_journey "read_journey" = true) (k_read_journey : keepIn K (.ref f_read_journey_) = true) (a__law_begun : nsIn K mainGlobals "_law_begun" = some (some (.ref f__law_begun_))) (l__law_begun : K.lookup f__law_begun_ = some ⟨oc__law_begun, od__law_begun, .func (fnOf "_law_begun" "_law_begun" (defArgs s__law_begun) (defBody s__law_begun) (defScope s__law_begun) .none kV__law_begun dc__law_begun pm__law_begun an__law_begun cd__law_begun ct__law_begun), sl__law_begun⟩) (c__law_begun : codeIn K cd__law_begun "_law_begun" = true) (k__law_begun : keepIn K (.ref f__law_begun_) = true) (a__law_draw : nsIn K mainGlobals "_law_draw" = some (some (.ref f__law_draw_))) (l__law_draw : K.lookup f__law_draw_ = some ⟨oc__law_draw, od__law_draw, .func (fnOf "_law_draw" "_law_draw" (defArgs s__law_draw) (defBody s__law_draw) (defScope s__law_draw) .none kV__law_draw dc__law_draw pm__law_draw an__law_draw cd__law_draw ct__law_draw), sl__law_draw⟩) (c__law_draw : codeIn K cd__law_draw "_law_draw" = true) (k__law_draw : keepIn K (.ref f__law_draw_) = true) (a__law_of : nsIn K mainGlobals "_law_of" = some (some (.ref f__law_of_))) (l__law_of : K.lookup f__law_of_ = some ⟨oc__law_of, od__law_of, .func (fnOf "_law_of" "_law_of" (defArgs s__law_of) (defBody s__law_of) (defScope s__law_of) .none kV__law_of dc__law_of pm__law_of an__law_of cd__law_of ct__law_of), sl__law_of⟩) (c__law_of : codeIn K cd__law_of "_law_of" = true) (k__law_of : keepIn K (.ref f__law_of_) = true) (a__law_kinds : nsIn K mainGlobals "_law_kinds" = some (some (.ref f__law_kinds_))) (l__law_kinds : K.lookup f__law_kinds_ = some ⟨oc__law_kinds, od__law_kinds, .func (fnOf "_law_kinds" "_law_kinds" (defArgs s__law_kinds) (defBody s__law_kinds) (defScope s__law_kinds) .none kV__law_kinds dc__law_kinds pm__law_kinds an__law_kinds cd__law_kinds ct__law_kinds), sl__law_kinds⟩) (c__law_kinds : codeIn K cd__law_kinds "_law_kinds" = true) (k__law_kinds : keepIn K (.ref f__law_kinds_) = true) (a__law_shares : nsIn K mainGlobals "_law_shares" = some (some (.ref f__law_shares_))) (l__law_shares : K.lookup f__law_shares_ = some ⟨oc__law_shares, od__law_shares, .func (fnOf "_law_shares" "_law_shares" (defArgs s__law_shares) (defBody s__law_shares) (defScope s__law_shares) .none kV__law_shares dc__law_shares pm__law_shares an__law_shares cd__law_shares ct__law_shares), sl__law_shares⟩) (c__law_shares : codeIn K cd__law_shares "_law_shares" = true) (k__law_shares : keepIn K (.ref f__law_shares_) = true) (a__law_rule : nsIn K mainGlobals "_law_rule" = some (some (.ref f__law_rule_))) (l__law_rule : K.lookup f__law_rule_ = some ⟨oc__law_rule, od__law_rule, .func (fnOf "_law_rule" "_law_rule" (defArgs s__law_rule) (defBody s__law_rule) (defScope s__law_rule) .none kV__law_rule dc__law_rule pm__law_rule an__law_rule cd__law_rule ct__law_rule), sl__law_rule⟩) (c__law_rule : codeIn K cd__law_rule "_law_rule" = true) (k__law_rule : keepIn K (.ref f__law_rule_) = true) (a__law_journey : nsIn K mainGlobals "_law_journey" = some (some (.ref f__law_journey_))) (l__law_journey : K.lookup f__law_journey_ = some ⟨oc__law_journey, od__law_journey, .func (fnOf "_law_journey" "_law_journey" (defArgs s__law_journey) (defBody s__law_journey) (defScope s__law_journey) .none kV__law_journey dc__law_journey pm__law_journey an__law_journey cd__law_journey ct__law_journey), sl__law_journey⟩) (c__law_journey : codeIn K cd__law_journey "_law_journey" = true) (k__law_journey : keepIn K (.ref f__law_journey_) = true) (a__law_rule_rows : nsIn K mainGlobals "_law_rule_rows" = some (some (.ref f__law_rule_rows_))) (l__law_rule_rows : K.lookup f__law_rule_rows_ = some ⟨oc__law_rule_rows, od__law_rule_rows, .func (fnOf "_law_rule_rows" "_law_rule_rows" (defArgs s__law_rule_rows) (defBody s__law_rule_rows) (defScope s__law_rule_rows) .none kV__law_rule_rows dc__law_rule_rows pm__law_rule_rows an__law_rule_rows cd__law_rule_rows ct__law_rule_rows), sl__law_rule_rows⟩) (c__law_rule_rows : codeIn K cd__law_rule_rows "_law_rule_rows" = true) (k__law_rule_rows : keepIn K (.ref f__law_rule_rows_) = true) (a__law_way_rows : nsIn K mainGlobals "_law_way_rows" = some (some (.ref f__law_way_rows_))) (l__law_way_rows : K.lookup f__law_way_rows_ = some ⟨oc__law_way_rows, od__law_way_rows, .func (fnOf "_law_way_rows" "_law_way_rows" (defArgs s__law_way_rows) (defBody s__law_way_rows) (defScope s__law_way_rows) .none kV__law_way_rows dc__law_way_rows pm__law_way_rows an__law_way_rows cd__law_way_rows ct__law_way_rows), sl__law_way_rows⟩) (c__law_way_rows : codeIn K cd__law_way_rows "_law_way_rows" = true) (k__law_way_rows : keepIn K (.ref f__law_way_rows_) = true) (a_law : nsIn K mainGlobals "law" = some (some (.ref f_law_))) (l_law : K.lookup f_law_ = some ⟨oc_law, od_law, .func (fnOf "law" "law" (defArgs s_law) (defBody s_law) (defScope s_law) .none kV_law dc_law pm_law an_law cd_law ct_law), sl_law⟩) (c_law : codeIn K cd_law "law" = true) (k_law : keepIn K (.ref f_law_) = true) (b_all : nsIn K mainGlobals "all" = some none) (b_bool : nsIn K mainGlobals "bool" = some none) (b_enumerate : nsIn K mainGlobals "enumerate" = some none) (b_int : nsIn K mainGlobals "int" = some none) (b_isinstance : nsIn K mainGlobals "isinstance" = some none) (b_len : nsIn K mainGlobals "len" = some none) (b_list : nsIn K mainGlobals "list" = some none) (b_min : nsIn K mainGlobals "min" = some none) (b_range : nsIn K mainGlobals "range" = some none) (b_repr : nsIn K mainGlobals "repr" = some none) (b_str : nsIn K mainGlobals "str" = some none) (b_sum : nsIn K mainGlobals "sum" = some none) (b_tuple : nsIn K mainGlobals "tuple" = some none) (b_zip : nsIn K mainGlobals "zip" = some none) (g_GREATEST_AGE : nsIn K mainGlobals "GREATEST_AGE" = some (some (.int 1000000 tg_GREATEST_AGE))) (g_KINDS : nsIn K mainGlobals "KINDS" = some (some (.int 0 tg_KINDS))) (g_MANY_ROWS : nsIn K mainGlobals "MANY_ROWS" = some (some (.int 8 tg_MANY_ROWS))) (g_MOST_FIGURES : nsIn K mainGlobals "MOST_FIGURES" = some (some (.int 7 tg_MOST_FIGURES))) (g_MOST_TOUCHES : nsIn K mainGlobals "MOST_TOUCHES" = some (some (.int 200 tg_MOST_TOUCHES))) (sup : nsIn K mainGlobals "super" = some none) (tpa : nsIn K cStatics "thirdparty.any" = some none) (cn : specialIn K (.builtin "object.__class__") "__get__" = some (some (.builtin "getset_descriptor.__get__"))) (ctk : takesIn K (.builtin "object.__class__") = some true) (i_BadRule : findIn K (.ref C0) "__init__" = some (some (.ref I0))) (L_BadRule : K.lookup I0 = some ⟨oc0, od0, .func (initF qual0 "part" m0 .none kV0 doc0 pm0 ct0 an0 cc0 cda0 p1_0 p2_0 q0_0 q1_0 q2_0 q3_0 q4_0 q5_0 q6_0 q7_0 q8_0 q9_0), osl0⟩) (qi_BadRule : excInitIn K C0 [.type "ValueError", .type "Exception", .type "BaseException", .type "object"] "ValueError.__new__" = true) (qo_BadRule : excOver K C0 [.type "ValueError", .type "Exception", .type "BaseException", .type "object"] = true) (sB_BadRule : subIn K (.ref C0) (.type "ValueError") = some true) (su_BadRule : ks_superIn K C0 C0 "__init__" = some (some (.builtin "ValueError.__init__"))) (mr_BadRule : mroIn K C0 (.ref C0) = some true) (cl_BadRule : isClsIn K C0 = true) (cd_BadRule : codeIn K (.ref cda0) qual0 = true) (lc_BadRule : K.lookup cda0 = some ⟨ccl0, cdd0, .fields vs0, ccs0⟩) (hv_BadRule : vs0[2]? = some (.str file0 tf0)) (hf_BadRule : ((PR.main.file : Str) == file0) = true) (lcc_BadRule : K.lookup cc0 = some ⟨cl0, cld0, .cell (some (.ref C0)), csl0⟩) (hq_BadRule : (q2_0.endLine == q4_0.line) = true) (tC_BadRule : typeIn K (.ref I0) = some (.type "function")) (sa_BadRule : findIn K (.ref C0) "__setattr__" = some (some (.builtin "object.__setattr__"))) (no_BadRule : findIn K (.ref C0) "part" = some none) (hd_BadRule : hasDictIn K C0 = true) (kC_BadRule : keepIn K (.ref C0) = true) (ex_BadRule : subIn K (.ref C0) (.type "BaseException") = some true) (ty_BadRule : typeIn K (.ref C0) = some (.type "type")) (ga_BadRule : findIn K (.ref C0) "__getattribute__" = some (some (.builtin "BaseException.__getattribute__"))) (gg_BadRule : findIn K (.ref C0) "__getattr__" = some none) (ca_BadRule : findIn K (.ref C0) "__class__" = some (some (.builtin "object.__class__"))) (cm_BadRule : mroIn K C0 (.type "object") = some true) (i_BadJourney : findIn K (.ref C1) "__init__" = some (some (.ref I1))) (L_BadJourney : K.lookup I1 = some ⟨oc1, od1, .func (initF qual1 "number" m1 .none kV1 doc1 pm1 ct1 an1 cc1 cda1 p1_1 p2_1 q0_1 q1_1 q2_1 q3_1 q4_1 q5_1 q6_1 q7_1 q8_1 q9_1), osl1⟩) (qi_BadJourney : excInitIn K C1 [.type "ValueError", .type "Exception", .type "BaseException", .type "object"] "ValueError.__new__" = true) (qo_BadJourney : excOver K C1 [.type "ValueError", .type "Exception", .type "BaseException", .type "object"] = true) (sB_BadJourney : subIn K (.ref C1) (.type "ValueError") = some true) (su_BadJourney : ks_superIn K C1 C1 "__init__" = some (some (.builtin "ValueError.__init__"))) (mr_BadJourney : mroIn K C1 (.ref C1) = some true) (cl_BadJourney : isClsIn K C1 = true) (cd_BadJourney : codeIn K (.ref cda1) qual1 = true) (lc_BadJourney : K.lookup cda1 = some ⟨ccl1, cdd1, .fields vs1, ccs1⟩) (hv_BadJourney : vs1[2]? = some (.str file1 tf1)) (hf_BadJourney : ((PR.main.file : Str) == file1) = true) (lcc_BadJourney : K.lookup cc1 = some ⟨cl1, cld1, .cell (some (.ref C1)), csl1⟩) (hq_BadJourney : (q2_1.endLine == q4_1.line) = true) (tC_BadJourney : typeIn K (.ref I1) = some (.type "function")) (sa_BadJourney : findIn K (.ref C1) "__setattr__" = some (some (.builtin "object.__setattr__"))) (no_BadJourney : findIn K (.ref C1) "number" = some none) (hd_BadJourney : hasDictIn K C1 = true) (kC_BadJourney : keepIn K (.ref C1) = true) (ex_BadJourney : subIn K (.ref C1) (.type "BaseException") = some true) (ty_BadJourney : typeIn K (.ref C1) = some (.type "type")) (ga_BadJourney : findIn K (.ref C1) "__getattribute__" = some (some (.builtin "BaseException.__getattribute__"))) (gg_BadJourney : findIn K (.ref C1) "__getattr__" = some none) (ca_BadJourney : findIn K (.ref C1) "__class__" = some (some (.builtin "object.__class__"))) (cm_BadJourney : mroIn K C1 (.type "object") = some true) (i_BadText : findIn K (.ref C2) "__init__" = some (some (.ref I2))) (L_BadText : K.lookup I2 = some ⟨oc2, od2, .func (initF qual2 "line" m2 .none kV2 doc2 pm2 ct2 an2 cc2 cda2 p1_2 p2_2 q0_2 q1_2 q2_2 q3_2 q4_2 q5_2 q6_2 q7_2 q8_2 q9_2), osl2⟩) (qi_BadText : excInitIn K C2 [.type "ValueError", .type "Exception", .type "BaseException", .type "object"] "ValueError.__new__" = true) (qo_BadText : excOver K C2 [.type "ValueError", .type "Exception", .type "BaseException", .type "object"] = true) (sB_BadText : subIn K (.ref C2) (.type "ValueError") = some true) (su_BadText : ks_superIn K C2 C2 "__init__" = some (some (.builtin "ValueError.__init__"))) (mr_BadText : mroIn K C2 (.ref C2) = some true) (cl_BadText : isClsIn K C2 = true) (cd_BadText : codeIn K (.ref cda2) qual2 = true) (lc_BadText : K.lookup cda2 = some ⟨ccl2, cdd2, .fields vs2, ccs2⟩) (hv_BadText : vs2[2]? = some (.str file2 tf2)) (hf_BadText : ((PR.main.file : Str) == file2) = true) (lcc_BadText : K.lookup cc2 = some ⟨cl2, cld2, .cell (some (.ref C2)), csl2⟩) (hq_BadText : (q2_2.endLine == q4_2.line) = true) (tC_BadText : typeIn K (.ref I2) = some (.type "function")) (sa_BadText : findIn K (.ref C2) "__setattr__" = some (some (.builtin "object.__setattr__"))) (no_BadText : findIn K (.ref C2) "line" = some none) (hd_BadText : hasDictIn K C2 = true) (kC_BadText : keepIn K (.ref C2) = true) (ex_BadText : subIn K (.ref C2) (.type "BaseException") = some true) (ty_BadText : typeIn K (.ref C2) = some (.type "type")) (ga_BadText : findIn K (.ref C2) "__getattribute__" = some (some (.builtin "BaseException.__getattribute__"))) (gg_BadText : findIn K (.ref C2) "__getattr__" = some none) (ca_BadText : findIn K (.ref C2) "__class__" = some (some (.builtin "object.__class__"))) (cm_BadText : mroIn K C2 (.type "object") = some true) (s_BadRule_0 : subIn K (.ref C0) (.ref C0) = some true) (s_BadRule_1 : subIn K (.ref C1) (.ref C0) = some false) (s_BadRule_2 : subIn K (.ref C2) (.ref C0) = some false) :
    ∃ (ec : List (Addr × Str)) (fd : FuncData), (∀ (s : Shared) (u : Value), BindsTo s fd ⟨[u], []⟩ [("script", u)]) ∧ ∀ base : Heap, K.In base → base.Ns mainGlobals mg → SysM base → FnG PR w K mg base (L2.CX PR w) 12 fa fd ["script"] (spOf ⟨K, ec⟩ 1 f_law) := by
  have e := hfa.symm.trans (mg_of X G a_law)
  cases e
  have T : Txt K mg [(C0, "part"), (C1, "number"), (C2, "line")] := {
    d_is_any_integer := dn_mk X G a_is_any_integer l_is_any_integer c_is_any_integer k_is_any_integer
    d_is_at_least := dn_mk X G a_is_at_least l_is_at_least c_is_at_least k_is_at_least
    d_is_integer := dn_mk X G a_is_integer l_is_integer c_is_integer k_is_integer
    d_is_word := dn_mk X G a_is_word l_is_word c_is_word k_is_word
    d_written_integer := dn_mk X G a_written_integer l_written_integer c_written_integer k_written_integer
    d_is_one_of := dn_mk X G a_is_one_of l_is_one_of c_is_one_of k_is_one_of
    d_is_tuple := dn_mk X G a_is_tuple l_is_tuple c_is_tuple k_is_tuple
    d_are_integers := dn_mk X G a_are_integers l_are_integers c_are_integers k_are_integers
    d_is_ascending := dn_mk X G a_is_ascending l_is_ascending c_is_ascending k_is_ascending
    d__are_kinds := dn_mk X G a__are_kinds l__are_kinds c__are_kinds k__are_kinds
    d__is_limit := dn_mk X G a__is_limit l__is_limit c__is_limit k__is_limit
    d__are_weak := dn_mk X G a__are_weak l__are_weak c__are_weak k__are_weak
    d__is_pick := dn_mk X G a__is_pick l__is_pick c__is_pick k__is_pick
    d__is_row := dn_mk X G a__is_row l__is_row c__is_row k__is_row
    d__are_rows := dn_mk X G a__are_rows l__are_rows c__are_rows k__are_rows
    d__are_marks := dn_mk X G a__are_marks l__are_marks c__are_marks k__are_marks
    d__are_weights := dn_mk X G a__are_weights l__are_weights c__are_weights k__are_weights
    d__is_shares := dn_mk X G a__is_shares l__is_shares c__is_shares k__is_shares
    d__wrong_part := dn_mk X G a__wrong_part l__wrong_part c__wrong_part k__wrong_part
    d_need_rule := dn_mk X G a_need_rule l_need_rule c_need_rule k_need_rule
    d__is_touch := dn_mk X G a__is_touch l__is_touch c__is_touch k__is_touch
    d_need_journey := dn_mk X G a_need_journey l_need_journey c_need_journey k_need_journey
    d__shares_words := dn_mk X G a__shares_words l__shares_words c__shares_words k__shares_words
    d__limit_word := dn_mk X G a__limit_word l__limit_word c__limit_word k__limit_word
    d_rule_text := dn_mk X G a_rule_text l_rule_text c_rule_text k_rule_text
    d__need_string := dn_mk X G a__need_string l__need_string c__need_string k__need_string
    d__told_words := dn_mk X G a__told_words l__told_words c__told_words k__told_words
    d__told_limit := dn_mk X G a__told_limit l__told_limit c__told_limit k__told_limit
    d__told_once := dn_mk X G a__told_once l__told_once c__told_once k__told_once
    d__told_pick := dn_mk X G a__told_pick l__told_pick c__told_pick k__told_pick
    d__told_places := dn_mk X G a__told_places l__told_places c__told_places k__told_places
    d__told_shares := dn_mk X G a__told_shares l__told_shares c__told_shares k__told_shares
    d__told_rule := dn_mk X G a__told_rule l__told_rule c__told_rule k__told_rule
    d_read_rule := dn_mk X G a_read_rule l_read_rule c_read_rule k_read_rule
    d_journey_text := dn_mk X G a_journey_text l_journey_text c_journey_text k_journey_text
    d__told_touch := dn_mk X G a__told_touch l__told_touch c__told_touch k__told_touch
    d_read_journey := dn_mk X G a_read_journey l_read_journey c_read_journey k_read_journey
    d__law_begun := dn_mk X G a__law_begun l__law_begun c__law_begun k__law_begun
    d__law_draw := dn_mk X G a__law_draw l__law_draw c__law_draw k__law_draw
    d__law_of := dn_mk X G a__law_of l__law_of c__law_of k__law_of
    d__law_kinds := dn_mk X G a__law_kinds l__law_kinds c__law_kinds k__law_kinds
    d__law_shares := dn_mk X G a__law_shares l__law_shares c__law_shares k__law_shares
    d__law_rule := dn_mk X G a__law_rule l__law_rule c__law_rule k__law_rule
    d__law_journey := dn_mk X G a__law_journey l__law_journey c__law_journey k__law_journey
    d__law_rule_rows := dn_mk X G a__law_rule_rows l__law_rule_rows c__law_rule_rows k__law_rule_rows
    d__law_way_rows := dn_mk X G a__law_way_rows l__law_way_rows c__law_way_rows k__law_way_rows
    d_law := dn_mk X G a_law l_law c_law k_law
    b_all := mg_none_of X G b_all
    b_bool := mg_none_of X G b_bool
    b_enumerate := mg_none_of X G b_enumerate
    b_int := mg_none_of X G b_int
    b_isinstance := mg_none_of X G b_isinstance
    b_len := mg_none_of X G b_len
    b_list := mg_none_of X G b_list
    b_min := mg_none_of X G b_min
    b_range := mg_none_of X G b_range
    b_repr := mg_none_of X G b_repr
    b_str := mg_none_of X G b_str
    b_sum := mg_none_of X G b_sum
    b_tuple := mg_none_of X G b_tuple
    b_zip := mg_none_of X G b_zip
    g_GREATEST_AGE := ⟨_, mg_of X G g_GREATEST_AGE⟩
    g_KINDS := ⟨_, mg_of X G g_KINDS⟩
    g_MANY_ROWS := ⟨_, mg_of X G g_MANY_ROWS⟩
    g_MOST_FIGURES := ⟨_, mg_of X G g_MOST_FIGURES⟩
    g_MOST_TOUCHES := ⟨_, mg_of X G g_MOST_TOUCHES⟩
    e_BadRule := errM_mk X G a_BadRule (errC_mk PySem.F.excBase_ValueError PySem.F.store_ValueError kxs_ValueError i_BadRule L_BadRule qi_BadRule qo_BadRule sB_BadRule su_BadRule mr_BadRule cl_BadRule cd_BadRule lc_BadRule hv_BadRule hf_BadRule lcc_BadRule hq_BadRule (fun _ _ _ => .of_eq rfl) (fun _ _ _ => .of_eq rfl) sup (by decide +kernel) tpa tC_BadRule sa_BadRule no_BadRule hd_BadRule (by decide) (by decide) (by decide) (by decide)) rfl kC_BadRule ex_BadRule ty_BadRule
    e_BadJourney := errM_mk X G a_BadJourney (errC_mk PySem.F.excBase_ValueError PySem.F.store_ValueError kxs_ValueError i_BadJourney L_BadJourney qi_BadJourney qo_BadJourney sB_BadJourney su_BadJourney mr_BadJourney cl_BadJourney cd_BadJourney lc_BadJourney hv_BadJourney hf_BadJourney lcc_BadJourney hq_BadJourney (fun _ _ _ => .of_eq rfl) (fun _ _ _ => .of_eq rfl) sup (by decide +kernel) tpa tC_BadJourney sa_BadJourney no_BadJourney hd_BadJourney (by decide) (by decide) (by decide) (by decide)) rfl kC_BadJourney ex_BadJourney ty_BadJourney
    e_BadText := errM_mk X G a_BadText (errC_mk PySem.F.excBase_ValueError PySem.F.store_ValueError kxs_ValueError i_BadText L_BadText qi_BadText qo_BadText sB_BadText su_BadText mr_BadText cl_BadText cd_BadText lc_BadText hv_BadText hf_BadText lcc_BadText hq_BadText (fun _ _ _ => .of_eq rfl) (fun _ _ _ => .of_eq rfl) sup (by decide +kernel) tpa tC_BadText sa_BadText no_BadText hd_BadText (by decide) (by decide) (by decide) (by decide)) rfl kC_BadText ex_BadText ty_BadText
    h_BadRule := ⟨_, (.cons (nmc_own X G a_BadRule) .nil), (tb_cons (exm_cons ex_BadRule hd_BadRule ty_BadRule s_BadRule_0 exm_nil rfl) (tb_cons (exm_cons ex_BadRule hd_BadRule ty_BadRule s_BadRule_1 exm_nil rfl) (tb_cons (exm_cons ex_BadRule hd_BadRule ty_BadRule s_BadRule_2 exm_nil rfl) tb_nil)))⟩
    u_part := by
      intro c hc
      simp only [List.mem_cons, List.not_mem_nil, or_false] at hc
      subst hc
      exact ⟨_, rfl⟩
    eci := (eci_cons ⟨cl_BadRule, ga_BadRule, gg_BadRule, ex_BadRule, ca_BadRule, cn, ctk, cm_BadRule, no_BadRule, hd_BadRule, ty_BadRule⟩ (eci_cons ⟨cl_BadJourney, ga_BadJourney, gg_BadJourney, ex_BadJourney, ca_BadJourney, cn, ctk, cm_BadJourney, no_BadJourney, hd_BadJourney, ty_BadJourney⟩ (eci_cons ⟨cl_BadText, ga_BadText, gg_BadText, ex_BadText, ca_BadText, cn, ctk, cm_BadText, no_BadText, hd_BadText, ty_BadText⟩ eci_nil))) }
  exact ⟨_, _, fun s u => .of_eq rfl, fun base _ _ SB => fnG_law T SB (fun_mk (st := s_law) l_law c_law k_law)⟩

end
end Pl.Law
open PySem PySem.W PyProof.Rows in
set_option maxRecDepth 100000 in
set_option maxHeartbeats 0 in
theorem PySem.Challenge.cw_touchshare_k17_texts_back_and_forth_holds : PySem.Challenge.rw_touchshare_k17_texts_back_and_forth.Holds := by
  w_on; o_law; k_head; (case hw => w_witness2)
  k_fill
  refine Pl.walk_law (l := PySem.Challenge.rw_touchshare_k17_texts_back_and_forth) (k := 12) (x := "script") (fm := Pl.Law.f_law) rfl (by decide +kernel) rfl (by decide +kernel) ⟨rfl, by decide, by decide⟩ (fun w h Y => PySem.W.kIn_of Y) ?F Pl.Law.law_true
  case F =>
    intro w mg fa h KX G hmg
    refine' Pl.Law.all_mk KX G hmg ?a_BadRule ?a_BadJourney ?a_BadText ?a_is_any_integer ?l_is_any_integer ?c_is_any_integer ?k_is_any_integer ?a_is_at_least ?l_is_at_least ?c_is_at_least ?k_is_at_least ?a_is_integer ?l_is_integer ?c_is_integer ?k_is_integer ?a_is_word ?l_is_word ?c_is_word ?k_is_word ?a_written_integer ?l_written_integer ?c_written_integer ?k_written_integer ?a_is_one_of ?l_is_one_of ?c_is_one_of ?k_is_one_of ?a_is_tuple ?l_is_tuple ?c_is_tuple ?k_is_tuple ?a_are_integers ?l_are_integers ?c_are_integers ?k_are_integers ?a_is_ascending ?l_is_ascending ?c_is_ascending ?k_is_ascending ?a__are_kinds ?l__are_kinds ?c__are_kinds ?k__are_kinds ?a__is_limit ?l__is_limit ?c__is_limit ?k__is_limit ?a__are_weak ?l__are_weak ?c__are_weak ?k__are_weak ?a__is_pick ?l__is_pick ?c__is_pick ?k__is_pick ?a__is_row ?l__is_row ?c__is_row ?k__is_row ?a__are_rows ?l__are_rows ?c__are_rows ?k__are_rows ?a__are_marks ?l__are_marks ?c__are_marks ?k__are_marks ?a__are_weights ?l__are_weights ?c__are_weights ?k__are_weights ?a__is_shares ?l__is_shares ?c__is_shares ?k__is_shares ?a__wrong_part ?l__wrong_part ?c__wrong_part ?k__wrong_part ?a_need_rule ?l_need_rule ?c_need_rule ?k_need_rule ?a__is_touch ?l__is_touch ?c__is_touch ?k__is_touch ?a_need_journey ?l_need_journey ?c_need_journey ?k_need_journey ?a__shares_words ?l__shares_words ?c__shares_words ?k__shares_words ?a__limit_word ?l__limit_word ?c__limit_word ?k__limit_word ?a_rule_text ?l_rule_text ?c_rule_text ?k_rule_text ?a__need_string ?l__need_string ?c__need_string ?k__need_string ?a__told_words ?l__told_words ?c__told_words ?k__told_words ?a__told_limit ?l__told_limit ?c__told_limit ?k__told_limit ?a__told_once ?l__told_once ?c__told_once ?k__told_once ?a__told_pick ?l__told_pick ?c__told_pick ?k__told_pick ?a__told_places ?l__told_places ?c__told_places ?k__told_places ?a__told_shares ?l__told_shares ?c__told_shares ?k__told_shares ?a__told_rule ?l__told_rule ?c__told_rule ?k__told_rule ?a_read_rule ?l_read_rule ?c_read_rule ?k_read_rule ?a_journey_text ?l_journey_text ?c_journey_text ?k_journey_text ?a__told_touch ?l__told_touch ?c__told_touch ?k__told_touch ?a_read_journey ?l_read_journey ?c_read_journey ?k_read_journey ?a__law_begun ?l__law_begun ?c__law_begun ?k__law_begun ?a__law_draw ?l__law_draw ?c__law_draw ?k__law_draw ?a__law_of ?l__law_of ?c__law_of ?k__law_of ?a__law_kinds ?l__law_kinds ?c__law_kinds ?k__law_kinds ?a__law_shares ?l__law_shares ?c__law_shares ?k__law_shares ?a__law_rule ?l__law_rule ?c__law_rule ?k__law_rule ?a__law_journey ?l__law_journey ?c__law_journey ?k__law_journey ?a__law_rule_rows ?l__law_rule_rows ?c__law_rule_rows ?k__law_rule_rows ?a__law_way_rows ?l__law_way_rows ?c__law_way_rows ?k__law_way_rows ?a_law ?l_law ?c_law ?k_law ?b_all ?b_bool ?b_enumerate ?b_int ?b_isinstance ?b_len ?b_list ?b_min ?b_range ?b_repr ?b_str ?b_sum ?b_tuple ?b_zip ?g_GREATEST_AGE ?g_KINDS ?g_MANY_ROWS ?g_MOST_FIGURES ?g_MOST_TOUCHES ?sup ?tpa ?cn ?ctk ?i_BadRule ?L_BadRule ?qi_BadRule ?qo_BadRule ?sB_BadRule ?su_BadRule ?mr_BadRule ?cl_BadRule ?cd_BadRule ?lc_BadRule ?hv_BadRule ?hf_BadRule ?lcc_BadRule ?hq_BadRule ?tC_BadRule ?sa_BadRule ?no_BadRule ?hd_BadRule ?kC_BadRule ?ex_BadRule ?ty_BadRule ?ga_BadRule ?gg_BadRule ?ca_BadRule ?cm_BadRule ?i_BadJourney ?L_BadJourney ?qi_BadJourney ?qo_BadJourney ?sB_BadJourney ?su_BadJourney ?mr_BadJourney ?cl_BadJourney ?cd_BadJourney ?lc_BadJourney ?hv_BadJourney ?hf_BadJourney ?lcc_BadJourney ?hq_BadJourney ?tC_BadJourney ?sa_BadJourney ?no_BadJourney ?hd_BadJourney ?kC_BadJourney ?ex_BadJourney ?ty_BadJourney ?ga_BadJourney ?gg_BadJourney ?ca_BadJourney ?cm_BadJourney ?i_BadText ?L_BadText ?qi_BadText ?qo_BadText ?sB_BadText ?su_BadText ?mr_BadText ?cl_BadText ?cd_BadText ?lc_BadText ?hv_BadText ?hf_BadText ?lcc_BadText ?hq_BadText ?tC_BadText ?sa_BadText ?no_BadText ?hd_BadText ?kC_BadText ?ex_BadText ?ty_BadText ?ga_BadText ?gg_BadText ?ca_BadText ?cm_BadText ?s_BadRule_0 ?s_BadRule_1 ?s_BadRule_2
    (case a_BadRule => k_is)
    (case a_BadJourney => k_is)
    (case a_BadText => k_is)
    (case a_is_any_integer => k_is)
    (case l_is_any_integer => k_is)
    (case c_is_any_integer => k_is)
    (case k_is_any_integer => k_is)
    (case a_is_at_least => k_is)
    (case l_is_at_least => k_is)
    (case c_is_at_least => k_is)
    (case k_is_at_least => k_is)
    (case a_is_integer => k_is)
    (case l_is_integer => k_is)
    (case c_is_integer => k_is)
    (case k_is_integer => k_is)
    (case a_is_word => k_is)
    (case l_is_word => k_is)
    (case c_is_word => k_is)
    (case k_is_word => k_is)
    (case a_written_integer => k_is)
    (case l_written_integer => k_is)
    (case c_written_integer => k_is)
    (case k_written_integer => k_is)
    (case a_is_one_of => k_is)
    (case l_is_one_of => k_is)
    (case c_is_one_of => k_is)
    (case k_is_one_of => k_is)
    (case a_is_tuple => k_is)
    (case l_is_tuple => k_is)
    (case c_is_tuple => k_is)
    (case k_is_tuple => k_is)
    (case a_are_integers => k_is)
    (case l_are_integers => k_is)
    (case c_are_integers => k_is)
    (case k_are_integers => k_is)
    (case a_is_ascending => k_is)
    (case l_is_ascending => k_is)
    (case c_is_ascending => k_is)
    (case k_is_ascending => k_is)
    (case a__are_kinds => k_is)
    (case l__are_kinds => k_is)
    (case c__are_kinds => k_is)
    (case k__are_kinds => k_is)
    (case a__is_limit => k_is)
    (case l__is_limit => k_is)
    (case c__is_limit => k_is)
    (case k__is_limit => k_is)
    (case a__are_weak => k_is)
    (case l__are_weak => k_is)
    (case c__are_weak => k_is)
    (case k__are_weak => k_is)
    (case a__is_pick => k_is)
    (case l__is_pick => k_is)
    (case c__is_pick => k_is)
    (case k__is_pick => k_is)
    (case a__is_row => k_is)
    (case l__is_row => k_is)
    (case c__is_row => k_is)
    (case k__is_row => k_is)
    (case a__are_rows => k_is)
    (case l__are_rows => k_is)
    (case c__are_rows => k_is)
    (case k__are_rows => k_is)
    (case a__are_marks => k_is)
    (case l__are_marks => k_is)
    (case c__are_marks => k_is)
    (case k__are_marks => k_is)
    (case a__are_weights => k_is)
    (case l__are_weights => k_is)
    (case c__are_weights => k_is)
    (case k__are_weights => k_is)
    (case a__is_shares => k_is)
    (case l__is_shares => k_is)
    (case c__is_shares => k_is)
    (case k__is_shares => k_is)
    (case a__wrong_part => k_is)
    (case l__wrong_part => k_is)
    (case c__wrong_part => k_is)
    (case k__wrong_part => k_is)
    (case a_need_rule => k_is)
    (case l_need_rule => k_is)
    (case c_need_rule => k_is)
    (case k_need_rule => k_is)
    (case a__is_touch => k_is)
    (case l__is_touch => k_is)
    (case c__is_touch => k_is)
    (case k__is_touch => k_is)
    (case a_need_journey => k_is)
    (case l_need_journey => k_is)
    (case c_need_journey => k_is)
    (case k_need_journey => k_is)
    (case a__shares_words => k_is)
    (case l__shares_words => k_is)
    (case c__shares_words => k_is)
    (case k__shares_words => k_is)
    (case a__limit_word => k_is)
    (case l__limit_word => k_is)
    (case c__limit_word => k_is)
    (case k__limit_word => k_is)
    (case a_rule_text => k_is)
    (case l_rule_text => k_is)
    (case c_rule_text => k_is)
    (case k_rule_text => k_is)
    (case a__need_string => k_is)
    (case l__need_string => k_is)
    (case c__need_string => k_is)
    (case k__need_string => k_is)
    (case a__told_words => k_is)
    (case l__told_words => k_is)
    (case c__told_words => k_is)
    (case k__told_words => k_is)
    (case a__told_limit => k_is)
    (case l__told_limit => k_is)
    (case c__told_limit => k_is)
    (case k__told_limit => k_is)
    (case a__told_once => k_is)
    (case l__told_once => k_is)
    (case c__told_once => k_is)
    (case k__told_once => k_is)
    (case a__told_pick => k_is)
    (case l__told_pick => k_is)
    (case c__told_pick => k_is)
    (case k__told_pick => k_is)
    (case a__told_places => k_is)
    (case l__told_places => k_is)
    (case c__told_places => k_is)
    (case k__told_places => k_is)
    (case a__told_shares => k_is)
    (case l__told_shares => k_is)
    (case c__told_shares => k_is)
    (case k__told_shares => k_is)
    (case a__told_rule => k_is)
    (case l__told_rule => k_is)
    (case c__told_rule => k_is)
    (case k__told_rule => k_is)
    (case a_read_rule => k_is)
    (case l_read_rule => k_is)
    (case c_read_rule => k_is)
    (case k_read_rule => k_is)
    (case a_journey_text => k_is)
    (case l_journey_text => k_is)
    (case c_journey_text => k_is)
    (case k_journey_text => k_is)
    (case a__told_touch => k_is)
    (case l__told_touch => k_is)
    (case c__told_touch => k_is)
    (case k__told_touch => k_is)
    (case a_read_journey => k_is)
    (case l_read_journey => k_is)
    (case c_read_journey => k_is)
    (case k_read_journey => k_is)
    (case a__law_begun => k_is)
    (case l__law_begun => k_is)
    (case c__law_begun => k_is)
    (case k__law_begun => k_is)
    (case a__law_draw => k_is)
    (case l__law_draw => k_is)
    (case c__law_draw => k_is)
    (case k__law_draw => k_is)
    (case a__law_of => k_is)
    (case l__law_of => k_is)
    (case c__law_of => k_is)
    (case k__law_of => k_is)
    (case a__law_kinds => k_is)
    (case l__law_kinds => k_is)
    (case c__law_kinds => k_is)
    (case k__law_kinds => k_is)
    (case a__law_shares => k_is)
    (case l__law_shares => k_is)
    (case c__law_shares => k_is)
    (case k__law_shares => k_is)
    (case a__law_rule => k_is)
    (case l__law_rule => k_is)
    (case c__law_rule => k_is)
    (case k__law_rule => k_is)
    (case a__law_journey => k_is)
    (case l__law_journey => k_is)
    (case c__law_journey => k_is)
    (case k__law_journey => k_is)
    (case a__law_rule_rows => k_is)
    (case l__law_rule_rows => k_is)
    (case c__law_rule_rows => k_is)
    (case k__law_rule_rows => k_is)
    (case a__law_way_rows => k_is)
    (case l__law_way_rows => k_is)
    (case c__law_way_rows => k_is)
    (case k__law_way_rows => k_is)
    (case a_law => k_is)
    (case l_law => k_is)
    (case c_law => k_is)
    (case k_law => k_is)
    (case b_all => k_is)
    (case b_bool => k_is)
    (case b_enumerate => k_is)
    (case b_int => k_is)
    (case b_isinstance => k_is)
    (case b_len => k_is)
    (case b_list => k_is)
    (case b_min => k_is)
    (case b_range => k_is)
    (case b_repr => k_is)
    (case b_str => k_is)
    (case b_sum => k_is)
    (case b_tuple => k_is)
    (case b_zip => k_is)
    (case g_GREATEST_AGE => k_is)
    (case g_KINDS => k_is)
    (case g_MANY_ROWS => k_is)
    (case g_MOST_FIGURES => k_is)
    (case g_MOST_TOUCHES => k_is)
    (case sup => k_is)
    (case tpa => k_is)
    (case cn => k_is)
    (case ctk => k_is)
    (case i_BadRule => k_is)
    (case L_BadRule => k_is)
    (case qi_BadRule => kx_is)
    (case qo_BadRule => kx_is)
    (case sB_BadRule => k_is)
    (case su_BadRule => ks_is)
    (case mr_BadRule => k_is)
    (case cl_BadRule => k_is)
    (case cd_BadRule => k_is)
    (case lc_BadRule => k_is)
    (case hv_BadRule => rfl)
    (case hf_BadRule => first | rfl | decide +kernel)
    (case lcc_BadRule => k_is)
    (case hq_BadRule => rfl)
    (case tC_BadRule => k_is)
    (case sa_BadRule => k_is)
    (case no_BadRule => k_is)
    (case hd_BadRule => k_is)
    (case kC_BadRule => k_is)
    (case ex_BadRule => k_is)
    (case ty_BadRule => k_is)
    (case ga_BadRule => k_is)
    (case gg_BadRule => k_is)
    (case ca_BadRule => k_is)
    (case cm_BadRule => k_is)
    (case i_BadJourney => k_is)
    (case L_BadJourney => k_is)
    (case qi_BadJourney => kx_is)
    (case qo_BadJourney => kx_is)
    (case sB_BadJourney => k_is)
    (case su_BadJourney => ks_is)
    (case mr_BadJourney => k_is)
    (case cl_BadJourney => k_is)
    (case cd_BadJourney => k_is)
    (case lc_BadJourney => k_is)
    (case hv_BadJourney => rfl)
    (case hf_BadJourney => first | rfl | decide +kernel)
    (case lcc_BadJourney => k_is)
    (case hq_BadJourney => rfl)
    (case tC_BadJourney => k_is)
    (case sa_BadJourney => k_is)
    (case no_BadJourney => k_is)
    (case hd_BadJourney => k_is)
    (case kC_BadJourney => k_is)
    (case ex_BadJourney => k_is)
    (case ty_BadJourney => k_is)
    (case ga_BadJourney => k_is)
    (case gg_BadJourney => k_is)
    (case ca_BadJourney => k_is)
    (case cm_BadJourney => k_is)
    (case i_BadText => k_is)
    (case L_BadText => k_is)
    (case qi_BadText => kx_is)
    (case qo_BadText => kx_is)
    (case sB_BadText => k_is)
    (case su_BadText => ks_is)
    (case mr_BadText => k_is)
    (case cl_BadText => k_is)
    (case cd_BadText => k_is)
    (case lc_BadText => k_is)
    (case hv_BadText => rfl)
    (case hf_BadText => first | rfl | decide +kernel)
    (case lcc_BadText => k_is)
    (case hq_BadText => rfl)
    (case tC_BadText => k_is)
    (case sa_BadText => k_is)
    (case no_BadText => k_is)
    (case hd_BadText => k_is)
    (case kC_BadText => k_is)
    (case ex_BadText => k_is)
    (case ty_BadText => k_is)
    (case ga_BadText => k_is)
    (case gg_BadText => k_is)
    (case ca_BadText => k_is)
    (case cm_BadText => k_is)
    (case s_BadRule_0 => k_is)
    (case s_BadRule_1 => k_is)
    (case s_BadRule_2 => k_is)

