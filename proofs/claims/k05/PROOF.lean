import PyProof.Rows.All
import Wide.All
import OpenK.AllK
import Wide.FinOn
import Lean
import PyProof.EqAt
import PyProof.EqKinds
import PyProof.TupleCall
import PyProof.EnumMake
import PyProof.CallType
import PyProof.ZipIter
import PyProof.ListRange
import PyProof.WalkInts
import PySem.Challenge.RW_cutrow_k05_answers_by_hand
def PySem.W.Fast.tw16284262473918759310 : Unit := ()
def PySem.W.Fast.tw5915666116003013030 : Unit := ()
def PySem.W.Fast.tw14546135303959286122 : Unit := ()
def PySem.W.Fast.tw6293334439906768196 : Unit := ()
def PySem.W.Fast.tw13490974029788440633 : Unit := ()
def PySem.W.Fast.tw10473853392899899791 : Unit := ()
def PySem.W.Fast.tw9837843523046360884 : Unit := ()
def PySem.W.Fast.tw11068411621083156770 : Unit := ()
def PySem.W.Fast.tw17216710879799396511 : Unit := ()
def PySem.W.Fast.tw17175411883359082252 : Unit := ()
def PySem.W.Fast.tw542322805455106933 : Unit := ()
def PySem.W.Fast.tw3890920201901835106 : Unit := ()
def PySem.W.Fast.tw1948993012532860678 : Unit := ()
def PySem.W.Fast.tw11092115496993285941 : Unit := ()
def PySem.W.Fast.tw2141241243428674464 : Unit := ()
def PySem.W.Fast.tw11654822109775499011 : Unit := ()
set_option Elab.async false
set_option linter.all false
set_option maxRecDepth 100000
namespace L2
open PySem PySem.Spec PyProof.Rows
abbrev Key := Sum Int Str
def keyIs : Key → Value → Bool
  | .inl k, v => Value.isInt k v
  | .inr x, v => Value.isStrOf x v
def keyH (w : World) : Key → Int
  | .inl k => hashInt k
  | .inr x => hashStr w x
theorem keyIs_shape : ∀ {k : Key} {v : Value}, keyIs k v = true → (∃ i t, k = Sum.inl i ∧ v = Value.int i t) ∨ (∃ x t, k = Sum.inr x ∧ v = Value.str x t)
  | .inl i, v, h => by
    obtain ⟨t, e⟩ := Value.isInt_shape (k := i) (v := v) h
    exact .inl ⟨i, t, rfl, e⟩
  | .inr x, v, h => by
    obtain ⟨t, e⟩ := Value.isStrOf_shape (x := x) (v := v) h
    exact .inr ⟨x, t, rfl, e⟩
theorem key_ll (a b : Int) : decide ((Sum.inl a : Key) = Sum.inl b) = (a == b) := by
  by_cases e : a = b
  · subst e; simp
  · have h : ¬ (Sum.inl a : Key) = Sum.inl b := fun q => e (Sum.inl.inj q)
    rw [decide_eq_false h]
    exact (beq_eq_false_iff_ne.mpr e).symm
theorem key_rr (a b : Str) : decide ((Sum.inr a : Key) = Sum.inr b) = decide (a = b) := by
  by_cases e : a = b
  · subst e; simp
  · have h : ¬ (Sum.inr a : Key) = Sum.inr b := fun q => e (Sum.inr.inj q)
    rw [decide_eq_false h, decide_eq_false e]
theorem key_lr (a : Int) (b : Str) : decide ((Sum.inl a : Key) = Sum.inr b) = false := decide_eq_false (fun q => nomatch q)
theorem key_rl (a : Str) (b : Int) : decide ((Sum.inr a : Key) = Sum.inl b) = false := decide_eq_false (fun q => nomatch q)
def mixKind (prog : Program) (w : World) : PySem.KeyKind prog w Key where
  is := keyIs
  hash := keyH w
  inj := fun v a b ha hb => by
    rcases keyIs_shape ha with ⟨i, t, rfl, rfl⟩ | ⟨x, t, rfl, rfl⟩
    · rcases keyIs_shape hb with ⟨j, u, rfl, e⟩ | ⟨y, u, rfl, e⟩
      · injection e with e1 _; rw [e1]
      · exact nomatch e
    · rcases keyIs_shape hb with ⟨j, u, rfl, e⟩ | ⟨y, u, rfl, e⟩
      · exact nomatch e
      · injection e with e1 _; rw [e1]
  byValue := fun k v h => by
    rcases keyIs_shape h with ⟨i, t, rfl, rfl⟩ | ⟨x, t, rfl, rfl⟩ <;> rfl
  pyHash := fun hv h => by
    rcases keyIs_shape hv with ⟨i, t, rfl, rfl⟩ | ⟨x, t, rfl, rfl⟩
    · exact wpAny_pyHash_int h
    · exact wpAny_pyHash_str h
  eqBool := fun hu hv h => by
    rcases keyIs_shape hu with ⟨i, t, rfl, rfl⟩ | ⟨x, t, rfl, rfl⟩
    · rcases keyIs_shape hv with ⟨j, u, rfl, rfl⟩ | ⟨y, u, rfl, rfl⟩
      · rw [key_ll] at h; exact wpAny_eqBool_int h
      · rw [key_lr] at h; exact SeqAt.EqAt.int_str i t y u _ _ _ _ h
    · rcases keyIs_shape hv with ⟨j, u, rfl, rfl⟩ | ⟨y, u, rfl, rfl⟩
      · rw [key_rl] at h; exact SeqAt.EqAt.str_int x t j u _ _ _ _ h
      · rw [key_rr] at h; exact wpAny_eqBool_str h
  «strs» := fun k x t v h => by
    rcases keyIs_shape h with ⟨i, u, rfl, e⟩ | ⟨y, u, rfl, e⟩
    · exact nomatch e
    · injection e with e1 _
      subst e1
      cases v <;> rfl
end L2
namespace L2
open PySem PySem.Spec PyProof.Rows
inductive V where
  | non | bl (b : Bool) | int (i : Int) | str (x : Str) | byt (b : Array UInt8) | flt (b : UInt64) | ref (a : Addr) | ty (n : String)
  deriving DecidableEq
def RelV : V → Value → Prop
  | .non, u => u = Value.none
  | .bl b, u => u = Value.bool b
  | .int i, u => ∃ t, u = Value.int i t
  | .str x, u => ∃ t, u = Value.str x t
  | .byt b, u => ∃ t, u = Value.bytes b t
  | .flt b, u => ∃ t, u = Value.float b t
  | .ref a, u => u = Value.ref a
  | .ty n, u => u = Value.type n
abbrev Vals : List V → List Value → Prop := Paired RelV
theorem Vals.length {xs : List V} {us : List Value} (r : Vals xs us) : xs.length = us.length := Paired.length r
theorem Vals.get : ∀ {xs : List V} {us : List Value} {i : Nat} {x : V}, Vals xs us → xs[i]? = some x → ∃ u, us[i]? = some u ∧ RelV x u
  | _, _, _, _, .nil, e => by simp at e
  | _, _, 0, _, .cons r _, e => by simp at e; subst e; exact ⟨_, rfl, r⟩
  | _, _, i + 1, x, .cons _ t, e => by
    obtain ⟨u, h1, h2⟩ := Vals.get (i := i) (x := x) t (by simpa using e)
    exact ⟨u, by simpa using h1, h2⟩
theorem Vals.set {x : V} {u : Value} (r : RelV x u) : ∀ {xs : List V} {us : List Value} (i : Nat), Vals xs us → Vals (xs.set i x) (us.set i u)
  | _, _, _, .nil => .nil
  | _, _, 0, .cons _ t => .cons r t
  | _, _, i + 1, .cons q t => .cons q (Vals.set r i t)
theorem Vals.append : ∀ {xs ys : List V} {us ws : List Value}, Vals xs us → Vals ys ws → Vals (xs ++ ys) (us ++ ws)
  | _, _, _, _, .nil, s => s
  | _, _, _, _, .cons r t, s => .cons r (Vals.append t s)
theorem Vals.take : ∀ {xs : List V} {us : List Value} (n : Nat), Vals xs us → Vals (xs.take n) (us.take n)
  | _, _, 0, _ => .nil
  | _, _, _ + 1, .nil => .nil
  | _, _, n + 1, .cons r t => .cons r (Vals.take n t)
theorem Vals.drop : ∀ {xs : List V} {us : List Value} (n : Nat), Vals xs us → Vals (xs.drop n) (us.drop n)
  | _, _, 0, r => r
  | _, _, _ + 1, .nil => .nil
  | _, _, n + 1, .cons _ t => Vals.drop n t
def RelO : Option V → Option Value → Prop
  | some v, some u => RelV v u
  | none, none => True
  | _, _ => False
def KV {κ : Type} : List (κ × V) → List (κ × Value) → Prop := Paired fun (p : κ × V) (q : κ × Value) => p.1 = q.1 ∧ RelV p.2 q.2
def kV : Key → V
  | .inl i => .int i
  | .inr x => .str x
inductive HO where
  /-- a list -/
  | lst (xs : List V)
  /-- a tuple (never changes) -/
  | tup (xs : List V)
  /-- a dict whose keys are ints and texts; one whose keys are tuples of ints and texts (the empty one is both) -/
  | dK (kvs : List (Key × V)) | dT (kvs : List (List Key × V))
  /-- a set of ints: its members, its size -/
  | set (S : Int → Bool) (n : Nat)
  /-- an instance of the class at C, its dict at dx, its attributes -/
  | ins (C dx : Addr) (fs : List (Str × V))
  /-- the dict of the instance at x -/
  | own (x : Addr)
  /-- the dict of an exception -/
  | xd (fs : List (Str × V))
  /-- a bound method, f of x -/
  | met (f x : Addr)
  /-- a range object lo, lo + 1, .. below hi -/
  | rng (lo hi : Int)
  /-- a thing that is known to the object (the script; a dict while a loop walks it): read, never written while it is so -/
  | frz (o : Obj) (u : HO)
  /-- a code object's table -/
  | tbl (ps : Array Value)
  /-- any other thing, by what is true of its one object (a def of one's own: SetO a S n := HO.ext fun h => ..) -/
  | ext (φ : Heap → Prop)
abbrev Hp := Addr → Option HO
def upd (H : Hp) (a : Addr) (o : HO) : Hp := fun b => if b = a then some o else H b
theorem upd_same {H : Hp} {a : Addr} {o : HO} : upd H a o a = some o := by unfold upd; rw [if_pos rfl]
theorem upd_ne {H : Hp} {a b : Addr} {o : HO} (h : b ≠ a) : upd H a o b = H b := by unfold upd; rw [if_neg h]
theorem upd_upd {H : Hp} {a : Addr} {o u : HO} : upd (upd H a o) a u = upd H a u := by
  funext b; unfold upd; split <;> rfl
theorem ne_of {H : Hp} {a b : Addr} {o u : HO} (h : H a = some o) (h' : H b = some u) (d : o ≠ u) : a ≠ b := by
  intro e; subst e; rw [h] at h'; exact d (Option.some.inj h')
theorem ne_of_none {H : Hp} {a b : Addr} {o : HO} (h : H a = some o) (h' : H b = none) : a ≠ b := by
  intro e; subst e; rw [h] at h'; cases h'
section
variable (P : Program) (w : World)
def ObjOk (H : Hp) (h : Heap) (a : Addr) : HO → Prop
  | .lst xs => xs.length ≤ sizeLine ∧ ∃ (its : List Value) (n : Nat), Vals xs its ∧ h.get? a = some { cls := .type "list", data := .seq its.toArray n }
  | .tup xs => xs.length ≤ sizeLine ∧ ∃ its : List Value, Vals xs its ∧ IsTup h a its.toArray
  | .dK kvs => kvs.length ≤ sizeLine ∧ (a == sysModules) = false ∧ ∃ vs, KV kvs vs ∧ h.DictOf (mixKind P w) a vs
  | .dT kvs => kvs.length ≤ sizeLine ∧ (a == sysModules) = false ∧ ∃ xs : List (List Key × Addr × Value),
      Paired (fun (p : List Key × V) (q : List Key × Addr × Value) => p.1 = q.1 ∧ H q.2.1 = some (.tup (p.1.map kV)) ∧ RelV p.2 q.2.2) kvs xs ∧
      ∃ o es ep, h.get? a = some o ∧ o.ExactDict ∧ o.data = .dict es ep ∧ es.toList = xs.map (entryOfKey (tupleKind (mixKind P w))) ∧ (xs.map (·.1)).Nodup
  | .set S n => h.SetOf (intKind P w) a S n
  | .ins C dx fs => H dx = some (.own a) ∧ fs.length ≤ 1000 ∧ dx ≠ a ∧ h.get? a = some (PySem.W.instObj C dx) ∧
      ∃ mA, h.Ns1 dx mA ∧ (∀ f, RelO (fs.lookup f) (mA f)) ∧ PySem.Within mA (fs.map (·.1))
  | .own _ => ∃ o, h.get? a = some o
  | .xd fs => ∃ mA, h.Ns1 a mA ∧ ∀ f, RelO (fs.lookup f) (mA f)
  | .rng lo hi => ∃ t u v, h.get? a = some { cls := .type "range", data := .fields #[.int lo t, .int hi u, .int 1 v] }
  | .frz o u => h.get? a = some o ∧ ObjOk H h a u
  | .tbl ps => h.get? a = some { cls := .none, data := .fields ps }
  | .met f x => h.get? a = some (PySem.W.methodObj (.ref f) (.ref x))
  | .ext φ => φ h ∧ (∃ o, h.get? a = some o) ∧ ∀ h1 h2 : Heap, φ h1 → (∀ o, h1.get? a = some o → h2.get? a = some o) → φ h2
def HOk (H : Hp) (h : Heap) : Prop := ∀ a o, H a = some o → ObjOk P w H h a o
end
section
variable {P : Program} {w : World} {H H' : Hp} {h h' : Heap} {a : Addr} {o : HO}
theorem ObjOk.lt (x : ObjOk P w H h a o) : a < h.objs.size := by
  cases o with
  | lst xs => obtain ⟨_, _, _, _, e⟩ := x; exact Heap.lt_size e
  | tup xs => obtain ⟨_, _, _, p⟩ := x; exact p.lt
  | dK kvs => obtain ⟨_, _, _, _, o, _, _, e, _⟩ := x; exact Heap.lt_size e
  | dT kvs => obtain ⟨_, _, _, _, o, _, _, e, _⟩ := x; exact Heap.lt_size e
  | set S n => obtain ⟨o, _, _, _, e, _⟩ := x; exact Heap.lt_size e
  | ins C dx fs => obtain ⟨_, _, _, e, _⟩ := x; exact Heap.lt_size e
  | own y => obtain ⟨_, e⟩ := x; exact Heap.lt_size e
  | xd fs => obtain ⟨_, ⟨_, _, _, e, _⟩, _⟩ := x; exact Heap.lt_size e
  | rng lo hi => obtain ⟨_, _, _, e⟩ := x; exact Heap.lt_size e
  | frz ob u => obtain ⟨e, _⟩ := x; exact Heap.lt_size e
  | tbl ps => exact Heap.lt_size (show h.get? a = some _ from x)
  | met f y => exact Heap.lt_size (show h.get? a = some _ from x)
  | ext φ => obtain ⟨_, ⟨_, e⟩, _⟩ := x; exact Heap.lt_size e
theorem Paired.mapP {α β : Type} {F G : α → β → Prop} : ∀ {l₁ : List α} {l₂ : List β}, Paired F l₁ l₂ → (∀ a b, F a b → G a b) → Paired G l₁ l₂
  | _, _, .nil, _ => .nil
  | _, _, .cons r t, f => .cons (f _ _ r) (Paired.mapP t f)
theorem ObjOk.stay (x : ObjOk P w H h a o) (k : ∀ b u, (b = a ∨ H b = some (.own a)) → h.get? b = some u → h'.get? b = some u)
    (ho : ∀ b, H b = some (.own a) → H' b = some (.own a)) (ht : ∀ b xs, H b = some (.tup xs) → H' b = some (.tup xs)) : ObjOk P w H' h' a o := by
  induction o with
  | lst xs => obtain ⟨z, its, n, r, e⟩ := x; exact ⟨z, its, n, r, k _ _ (.inl rfl) e⟩
  | tup xs => obtain ⟨z, its, r, ob, e, c⟩ := x; exact ⟨z, its, r, ob, k _ _ (.inl rfl) e, c⟩
  | dK kvs => obtain ⟨z, y, vs, r, ob, es, ep, e, c⟩ := x; exact ⟨z, y, vs, r, ob, es, ep, k _ _ (.inl rfl) e, c⟩
  | dT kvs =>
    obtain ⟨z, y, xs, r, ob, es, ep, e, c⟩ := x
    exact ⟨z, y, xs, Paired.mapP r fun p q z => ⟨z.1, ht _ _ z.2.1, z.2.2⟩, ob, es, ep, k _ _ (.inl rfl) e, c⟩
  | set S n => obtain ⟨ob, es, ep, t, e, c⟩ := x; exact ⟨ob, es, ep, t, k _ _ (.inl rfl) e, c⟩
  | ins C dx fs =>
    obtain ⟨d, z, ne, e, mA, ⟨od, es, ep, e2, c⟩, r⟩ := x
    exact ⟨ho _ d, z, ne, k _ _ (.inl rfl) e, mA, ⟨od, es, ep, k _ _ (.inr d) e2, c⟩, r⟩
  | own y => obtain ⟨ob, e⟩ := x; exact ⟨ob, k _ _ (.inl rfl) e⟩
  | xd fs => obtain ⟨mA, ⟨od, es, ep, e, c⟩, r⟩ := x; exact ⟨mA, ⟨od, es, ep, k _ _ (.inl rfl) e, c⟩, r⟩
  | rng lo hi => obtain ⟨t, u, v, e⟩ := x; exact ⟨t, u, v, k _ _ (.inl rfl) e⟩
  | frz ob u ih => obtain ⟨e, q⟩ := x; exact ⟨k _ _ (.inl rfl) e, ih q⟩
  | tbl ps =>
    have e : h.get? a = some { cls := .none, data := .fields ps } := x
    show h'.get? a = some { cls := .none, data := .fields ps }
    exact k a _ (.inl rfl) e
  | met f y =>
    have e : h.get? a = some (PySem.W.methodObj (.ref f) (.ref y)) := x
    show h'.get? a = some (PySem.W.methodObj (.ref f) (.ref y))
    exact k a _ (.inl rfl) e
  | ext φ => obtain ⟨p, ⟨o, e⟩, st⟩ := x; exact ⟨st _ _ p fun o q => k _ _ (.inl rfl) q, ⟨o, k _ _ (.inl rfl) e⟩, st⟩
theorem HOk.lt (x : HOk P w H h) (e : H a = some o) : a < h.objs.size := (x a o e).lt
theorem HOk.fresh (x : HOk P w H h) (e : h.objs.size ≤ a) : H a = none := by
  cases q : H a with
  | none => rfl
  | some u => exact absurd (Nat.lt_of_lt_of_le (x.lt q) e) (Nat.lt_irrefl _)
theorem HOk.kept (x : HOk P w H h) (k : ∀ b u, h.get? b = some u → h'.get? b = some u) : HOk P w H h' := fun a o e =>
  (x a o e).stay (fun b u _ q => k b u q) (fun _ q => q) fun _ _ q => q
theorem HOk.laid (x : HOk P w H h) (k : ∀ b u, h.get? b = some u → h'.get? b = some u) (hp : h.objs.size ≤ a) (new : ObjOk P w (upd H a o) h' a o) : HOk P w (upd H a o) h' := fun b u e => by
  have hn := x.fresh hp
  by_cases hb : b = a
  · subst hb; rw [upd_same] at e; cases e; exact new
  · rw [upd_ne hb] at e
    exact (x b u e).stay (fun c v _ q => k c v q) (fun c q => by rw [upd_ne (ne_of_none q hn)]; exact q) fun c xs q => by rw [upd_ne (ne_of_none q hn)]; exact q
end
def Rd (H : Hp) (a : Addr) (u : HO) : Prop := H a = some u ∨ ∃ o, H a = some (.frz o u)
theorem Rd.ok {P : Program} {w : World} {H : Hp} {h : Heap} {a : Addr} {u : HO} (r : Rd H a u) (x : HOk P w H h) : ObjOk P w H h a u := by
  rcases r with r | ⟨o, r⟩
  · exact x a u r
  · obtain ⟨_, q⟩ := x a _ r
    exact q
def Mut : Option HO → Prop
  | some (.lst _) => True
  | some (.dK _) => True
  | some (.dT _) => True
  | some (.set _ _) => True
  | some (.ins _ _ _) => True
  | some (.ext _) => True
  | _ => False
section
variable {P : Program} {w : World} {H : Hp} {h h' : Heap} {x e : Addr} {o' : HO}
theorem HOk.write (ok : HOk P w H h) (mu : Mut (H x)) (he : e = x ∨ H e = some (.own x)) (k : ∀ b u, b ≠ e → h.get? b = some u → h'.get? b = some u) (heo : ∃ u, h'.get? e = some u)
    (new : ObjOk P w (upd H x o') h' x o') : HOk P w (upd H x o') h' := fun b u q => by
  have nown : ∀ c y, H c = some (.own y) → c ≠ x := fun c y r z => by subst z; rw [r] at mu; exact mu
  have ntup : ∀ c xs, H c = some (.tup xs) → c ≠ x := fun c xs r z => by subst z; rw [r] at mu; exact mu
  by_cases hb : b = x
  · subst hb; rw [upd_same] at q; cases q; exact new
  · rw [upd_ne hb] at q
    by_cases hbe : b = e
    · have q' : H b = some (.own x) := by
        rcases he with z | z
        · exact absurd (hbe.trans z) hb
        · rw [hbe]; exact z
      rw [q] at q'; cases q'
      obtain ⟨v, hv⟩ := heo
      exact ⟨v, by rw [hbe]; exact hv⟩
    · refine (ok b u q).stay (fun c v hc r => k c v ?_ r) (fun c r => by rw [upd_ne (nown c b r)]; exact r) fun c xs r => by rw [upd_ne (ntup c xs r)]; exact r
      rcases hc with rfl | hc
      · exact hbe
      · rintro rfl
        rcases he with z | z
        · exact nown c b hc z
        · rw [hc] at z; cases z; exact hb rfl
end
structure Un (fs ex : List Addr) (H H' : Hp) (h h' : Heap) : Prop where
  keep : ∀ b o, h.get? b = some o → H b = none → b ∉ fs → b ∉ ex → h'.get? b = some o
  slot : ∀ b o, h.get? b = some o → H b = none → b ∈ fs → b ∉ ex → ∃ sl, h'.get? b = some { o with slots := sl }
  free : ∀ b o, h.get? b = some o → H b = none → b ∉ ex → H' b = none
  there : ∀ b o, h.get? b = some o → b ∉ ex → ∃ o', h'.get? b = some o'
  tups : ∀ b xs, H b = some (.tup xs) → H' b = some (.tup xs)
  frzs : ∀ b o u, H b = some (.frz o u) → H' b = some (.frz o u)
  tbls : ∀ b ps, H b = some (.tbl ps) → ∃ more, H' b = some (.tbl (ps ++ more))
section
variable {fs fs' ex ex' : List Addr} {H H1 H2 : Hp} {h h1 h2 h' : Heap} {a x e : Addr} {o : HO}
theorem Un.any (u : Un fs ex H H1 h h1) {b : Addr} {ob : Obj} (q : h.get? b = some ob) (n : H b = none) (hx : b ∉ ex) : ∃ sl, h1.get? b = some { ob with slots := sl } := by
  by_cases hb : b ∈ fs
  · exact u.slot b ob q n hb hx
  · exact ⟨ob.slots, u.keep b ob q n hb hx⟩
theorem Un.kept (k : ∀ b u, h.get? b = some u → h'.get? b = some u) : Un fs ex H H h h' :=
  ⟨fun b ob q _ _ _ => k b ob q, fun b ob q _ _ _ => ⟨ob.slots, k b ob q⟩, fun _ _ _ n _ => n, fun b ob q _ => ⟨ob, k b ob q⟩, fun _ _ q => q, fun _ _ _ q => q, fun _ ps q => ⟨#[], by rw [q]; simp⟩⟩
theorem Un.refl : Un fs ex H H h h := Un.kept fun _ _ q => q
theorem Un.laid (k : ∀ b u, h.get? b = some u → h'.get? b = some u) (hp : h.objs.size ≤ a) (hn : H a = none) : Un fs ex H (upd H a o) h h' where
  keep := fun b u q _ _ _ => k b u q
  slot := fun b u q _ _ _ => ⟨u.slots, k b u q⟩
  free := fun b u q n _ => by rw [upd_ne (Nat.ne_of_lt (Nat.lt_of_lt_of_le (Heap.lt_size q) hp))]; exact n
  there := fun b u q _ => ⟨u, k b u q⟩
  tups := fun b xs q => by rw [upd_ne (ne_of_none q hn)]; exact q
  frzs := fun b u xs q => by rw [upd_ne (ne_of_none q hn)]; exact q
  tbls := fun b ps q => ⟨#[], by rw [upd_ne (ne_of_none q hn), q]; simp⟩
theorem Un.write (mu : Mut (H x)) (he : e = x ∨ H e = some (.own x)) (k : ∀ b u, b ≠ e → h.get? b = some u → h'.get? b = some u) (heo : ∃ u, h'.get? e = some u) : Un fs ex H (upd H x o) h h' := by
  have hx : ∀ b, H b = none → b ≠ x := fun b n z => by subst z; rw [n] at mu; exact mu
  have hb : ∀ b, H b = none → b ≠ e := fun b n z => by
    subst z
    rcases he with r | r
    · exact hx b n r
    · rw [n] at r; cases r
  have hm : ∀ b u, H b = some u → ¬ Mut (some u) → b ≠ x := fun b u q nm z => by subst z; rw [q] at mu; exact nm mu
  refine ⟨fun b u q n _ _ => k b u (hb b n) q, fun b u q n _ _ => ⟨u.slots, k b u (hb b n) q⟩, fun b u q n _ => by rw [upd_ne (hx b n)]; exact n, fun b u q _ => ?_,
    fun b xs q => by rw [upd_ne (hm b _ q fun z => z)]; exact q, fun b u xs q => by rw [upd_ne (hm b _ q fun z => z)]; exact q, fun b ps q => ⟨#[], by rw [upd_ne (hm b _ q fun z => z), q]; simp⟩⟩
  by_cases hbe : b = e
  · subst hbe; exact heo
  · exact ⟨u, k b u hbe q⟩
end
def trk (h : Heap) (H : Hp) : List Addr := (List.range h.objs.size).filter fun a => (H a).isSome
def hidT (h : Heap) (H : Hp) : Heap := PySem.W.hideAll h (trk h H)
theorem hidT_size (h : Heap) (H : Hp) : (hidT h H).objs.size = h.objs.size := PySem.W.hideAll_size _ _
theorem hidT_get {h : Heap} {H : Hp} {b : Addr} {o : Obj} (e : h.get? b = some o) (n : H b = none) : (hidT h H).get? b = some o :=
  PySem.W.hideAll_get _ e fun hm => by
    have q : (H b).isSome = true := (List.mem_filter.mp hm).2
    rw [n] at q; simp at q
theorem of_hidT {h : Heap} {H : Hp} {b : Addr} {o : Obj} (e : (hidT h H).get? b = some o) : h.get? b = some o ∧ H b = none := by
  have e' : h.get? b = some o := PySem.W.of_hideAll (trk h H) e
  refine ⟨e', ?_⟩
  cases q : H b with
  | none => rfl
  | some x =>
    have hm : b ∈ trk h H := List.mem_filter.mpr ⟨List.mem_range.mpr (Heap.lt_size e'), by simp [q]⟩
    have z : (hidT h H).get? b = none := PySem.W.hideAll_none (trk h H) hm
    rw [z] at e; cases e
def allNews (g h : Heap) (L : Addr) : List (Addr × Obj) := (List.range h.objs.size).filterMap fun a => if a = L ∨ (g.get? a).isSome = true then none else (h.get? a).map fun o => (a, o)
def rest (g h : Heap) (L d : Addr) : List (Addr × Obj) := (allNews g h L).filter fun p => decide (p.1 ≠ d)
end L2
namespace L2
open PySem PySem.Spec PyProof.Rows
structure Mod (K : PySem.W.Frag) (mg : Str → Option Value) (base : Heap) : Prop where
  kin : K.In base
  glob : base.Ns mainGlobals mg
  blt : ∃ mb, base.Ns builtinsNs mb ∧ ∀ x : Str, x ≠ "__name__" → mb x = bootBuiltins x
  nolimit : base.NoLimit
structure Cx where
  prog : Program
  w : World
  K : PySem.W.Frag
  mg : Str → Option Value
  base : Heap
  A : Around
  N : List Str
  s₀ : Shared
  H₀ : Hp
  env : Env
  outer : List Env
  stack : List Env
  ex : List Addr
  fn : Str → Bool
  calm : Bool
  pn : List (Addr × Obj)
  xe : Value → Shared → Prop
def frs (l : List Env) : List Addr := l.filterMap (·.frame)
abbrev Cx.fs (X : Cx) : List Addr := frs X.outer
def Vis (sc : Scope) (x : Str) : Prop := sc.names.lookup x = some .local ∨ sc.names.lookup x = some .cell ∨ sc.names.lookup x = some .free
def Loc (sc : Scope) (x : Str) : Prop := sc.names.lookup x = some .local ∨ sc.names.lookup x = some .cell
def Look (env : Env) (h : Heap) (m : Str → Option Value) (x : Str) (u : Value) : Prop :=
  (env.kindOf x = some .local ∧ m x = some u) ∨ ((env.kindOf x = some .cell ∨ env.kindOf x = some .free) ∧ ∃ c, env.cells.lookup x = some c ∧ h.IsCell c (some u))
structure Cx.Ok (X : Cx) : Prop where
  mod : Mod X.K X.mg X.base
  kind : X.env.scope.kind = .function
  glob : X.env.globals = mainGlobals
  blt : X.env.builtins = builtinsNs
  above : X.s₀.heap.objs.size ≤ X.env.locals
  inj : ∀ x y c, X.env.cells.lookup x = some c → X.env.cells.lookup y = some c → x = y
  has : ∀ x, (X.env.kindOf x = some .cell ∨ X.env.kindOf x = some .free) → ∃ c, X.env.cells.lookup x = some c
  cab : ∀ x c, X.fn x = true → X.env.cells.lookup x = some c → X.s₀.heap.objs.size ≤ c
  hd : X.calm = true → X.A.handled = none
  frames : X.A.frames = some X.stack
  stk : X.stack = X.outer ∨ (X.stack = X.env :: X.outer ∧ X.env.frame = some X.env.locals)
  exf : ∀ b ∈ X.ex, b ≠ X.env.locals ∧ ∀ x c, X.env.cells.lookup x = some c → c ≠ b
  bs : ∀ b o, X.base.get? b = some o → X.s₀.heap.get? b = some o ∧ X.H₀ b = none
  bsz : X.base.objs.size ≤ X.s₀.heap.objs.size
  noex : ∀ b o, X.base.get? b = some o → b ∉ X.ex
  exfs : ∀ b ∈ X.ex, b ∉ X.fs
  funs : X.s₀.heap.FunFrames X.base X.outer
  frf : ∀ b ∈ X.fs, X.H₀ b = none
structure Inv (X : Cx) (pins : List (Addr × Obj)) (σ : List (Option V)) (H : Hp) (s : Shared) : Prop where
  ok : X.Ok
  os : s.os = X.s₀.os
  bare : AllBare s.gens
  base : Un X.fs X.ex X.H₀ H X.s₀.heap s.heap
  loc : ∃ m, s.heap.Ns X.env.locals m ∧ ∀ (i : Nat) (x : Str) (v : V), X.N[i]? = some x → σ[i]? = some (some v) → Vis X.env.scope x → ∃ u, RelV v u ∧ Look X.env s.heap m x u
  cell : ∀ x c, X.env.cells.lookup x = some c → ∃ v, s.heap.IsCell c v
  free : H X.env.locals = none
  freeC : ∀ x c, X.env.cells.lookup x = some c → H c = none
  pin : ∀ p ∈ X.pn ++ pins, s.heap.get? p.1 = some p.2 ∧ H p.1 = none ∧ p.1 ≠ X.env.locals ∧ p.1 ∉ X.fs ∧ ∀ v, p.2.data ≠ .cell v
  hok : HOk X.prog X.w H s.heap
  len : σ.length = X.N.length
section
variable {X : Cx} {pins : List (Addr × Obj)} {σ : List (Option V)} {H H' : Hp} {s : Shared} {h' : Heap}
theorem Cx.Ok.nofr (ok : X.Ok) {b : Addr} {o : Obj} (e : X.base.get? b = some o) : b ∉ X.fs := fun hb => by
  have := (ok.funs.mem hb).1
  rw [e] at this; cases this
theorem Inv.bs (I : Inv X pins σ H s) : ∀ b o, X.base.get? b = some o → s.heap.get? b = some o ∧ H b = none := fun b o e =>
  ⟨I.base.keep b o (I.ok.bs b o e).1 (I.ok.bs b o e).2 (I.ok.nofr e) (I.ok.noex b o e), I.base.free b o (I.ok.bs b o e).1 (I.ok.bs b o e).2 (I.ok.noex b o e)⟩
theorem Inv.bk (I : Inv X pins σ H s) : ∀ b o, X.base.get? b = some o → s.heap.get? b = some o := fun b o e => (I.bs b o e).1
theorem Inv.mod (I : Inv X pins σ H s) : Mod X.K X.mg X.base := I.ok.mod
theorem Inv.kIn (I : Inv X pins σ H s) : X.K.In s.heap := I.ok.mod.kin.keeps I.bk
theorem Inv.fr (I : Inv X pins σ H s) : ∃ m, Fr X.base X.env.locals s.heap m :=
  let ⟨m, hn, _⟩ := I.loc
  ⟨m, hn, I.bk, Nat.le_trans I.ok.bsz I.ok.above⟩
theorem Inv.lt (I : Inv X pins σ H s) : X.env.locals < s.heap.objs.size := let ⟨_, hn, _⟩ := I.loc; hn.lt
theorem Inv.sz (I : Inv X pins σ H s) : X.s₀.heap.objs.size ≤ s.heap.objs.size := Nat.le_trans I.ok.above (Nat.le_of_lt I.lt)
theorem Inv.nofs (I : Inv X pins σ H s) {a : Addr} (h : s.heap.objs.size ≤ a) : a ∉ X.fs := fun hb => by
  obtain ⟨_, o, ho, _⟩ := I.ok.funs.mem hb
  exact absurd (Nat.lt_of_lt_of_le (Heap.lt_size ho) (Nat.le_trans I.sz h)) (Nat.lt_irrefl _)
theorem Inv.cne (I : Inv X pins σ H s) : ∀ x c, X.env.cells.lookup x = some c → c ≠ X.env.locals := fun x c e z => by
  obtain ⟨v, o, ho, hd⟩ := I.cell x c e
  obtain ⟨m, ⟨o', es, ep, ho', hd', _⟩, _⟩ := I.loc
  rw [z, ho'] at ho; cases ho; rw [hd'] at hd; cases hd
theorem Inv.funs (I : Inv X pins σ H s) : s.heap.FunFrames X.base X.outer := by
  have all : ∀ (l : List Env), (∀ b ∈ frs l, b ∈ X.fs) → X.s₀.heap.FunFrames X.base l → s.heap.FunFrames X.base l := by
    intro l
    induction l with
    | nil => intro _ _; trivial
    | cons env r ih =>
      intro hs hl
      obtain ⟨hk, ⟨L, o, hf, hn, ho, hd⟩, hr⟩ := hl
      have hL : L ∈ X.fs := hs L (by unfold frs; rw [List.filterMap_cons, hf]; exact List.mem_cons_self)
      obtain ⟨sl, e⟩ := I.base.slot L o ho (I.ok.frf L hL) hL fun z => I.ok.exfs L z hL
      exact ⟨hk, ⟨L, _, hf, hn, e, hd⟩, ih (fun b hb => hs b (by unfold frs; rw [List.filterMap_cons, hf]; exact List.mem_cons_of_mem _ hb)) hr⟩
  exact all X.outer (fun _ hb => hb) I.ok.funs
theorem Inv.stack (I : Inv X pins σ H s) : s.heap.FunFrames X.base X.stack := by
  rcases I.ok.stk with e | ⟨e, hf⟩
  · rw [e]; exact I.funs
  · rw [e]
    obtain ⟨m, hn, _⟩ := I.loc
    refine .cons (by rw [I.ok.kind]; decide) hf hn ?_ I.funs
    exact Heap.get?_none_of_le (Nat.le_trans I.ok.bsz I.ok.above)
theorem Inv.stkSub (I : Inv X pins σ H s) : ∀ b ∈ frs X.stack, b ∈ X.env.locals :: X.fs := fun b hb => by
  rcases I.ok.stk with e | ⟨e, hf⟩
  · rw [e] at hb; exact List.mem_cons_of_mem _ hb
  · rw [e] at hb
    unfold frs at hb
    rw [List.filterMap_cons, hf] at hb
    exact hb
theorem Inv.stkFree (I : Inv X pins σ H s) : ∀ b ∈ frs X.stack, H b = none := fun b hb => by
  rcases List.mem_cons.mp (I.stkSub b hb) with e | hb
  · rw [e]; exact I.free
  · obtain ⟨_, o, ho, _⟩ := I.ok.funs.mem hb
    exact I.base.free b o ho (I.ok.frf b hb) fun z => I.ok.exfs b z hb
theorem Inv.step {g' : Array GenState} {t' : Nat} {d' : Drawn} {ch : List Addr} (I : Inv X pins σ H s)
    (hch : ∀ b ∈ ch, (b ∈ X.ex ∨ X.s₀.heap.objs.size ≤ b) ∧ b ≠ X.env.locals ∧ (∀ x c, X.env.cells.lookup x = some c → c ≠ b) ∧ ∀ p ∈ X.pn ++ pins, p.1 ≠ b)
    (keep : ∀ b o, b ≠ X.env.locals → b ∉ X.fs → b ∉ ch → s.heap.get? b = some o → H b = none → h'.get? b = some o)
    (slot : ∀ b o, b ≠ X.env.locals → b ∈ X.fs → b ∉ ch → s.heap.get? b = some o → H b = none → ∃ sl, h'.get? b = some { o with slots := sl }) (free : ∀ b o, b ∉ ch → s.heap.get? b = some o → H b = none → H' b = none)
    (there : ∀ b o, b ∉ ch → s.heap.get? b = some o → ∃ o', h'.get? b = some o')
    (tups : ∀ b xs, H b = some (.tup xs) → H' b = some (.tup xs)) (frzs : ∀ b o u, H b = some (.frz o u) → H' b = some (.frz o u)) (tbls : ∀ b ps, H b = some (.tbl ps) → ∃ more, H' b = some (.tbl (ps ++ more)))
    (ns : ∀ m, s.heap.Ns X.env.locals m → h'.Ns X.env.locals m) (hok : HOk X.prog X.w H' h') (hg : AllBare g') :
    Inv X pins σ H' { s with heap := h', gens := g', drawn := d', toks := t' } := by
  have neL : ∀ b o, X.s₀.heap.get? b = some o → b ≠ X.env.locals := fun b o e => Nat.ne_of_lt (Nat.lt_of_lt_of_le (Heap.lt_size e) I.ok.above)
  have neC : ∀ b o, X.s₀.heap.get? b = some o → b ∉ X.ex → b ∉ ch := fun b o e hx hb => by
    rcases (hch b hb).1 with z | z
    · exact hx z
    · exact absurd (Nat.lt_of_lt_of_le (Heap.lt_size e) z) (Nat.lt_irrefl _)
  have cellK : ∀ x c, X.env.cells.lookup x = some c → ∀ v, s.heap.IsCell c v → h'.IsCell c v := fun x c e v ⟨o, ho, hd⟩ => by
    have nch : c ∉ ch := fun z => (hch c z).2.2.1 x c e rfl
    by_cases hc : c ∈ X.fs
    · obtain ⟨sl, q⟩ := slot c o (I.cne x c e) hc nch ho (I.freeC x c e)
      exact ⟨_, q, hd⟩
    · exact ⟨o, keep c o (I.cne x c e) hc nch ho (I.freeC x c e), hd⟩
  refine ⟨I.ok, I.os, hg, ⟨fun b o e n hb hx => ?_, fun b o e n hb hx => ?_, fun b o e n hx => ?_, fun b o e hx => ?_, fun b xs e => tups b xs (I.base.tups b xs e), fun b o xs e => frzs b o xs (I.base.frzs b o xs e), fun b ps e => ?_⟩, ?_, fun x c e => ?_, ?_, fun x c e => ?_, fun p hp => ?_, hok, I.len⟩
  · exact keep b o (neL b o e) hb (neC b o e hx) (I.base.keep b o e n hb hx) (I.base.free b o e n hx)
  · obtain ⟨sl, e1⟩ := I.base.slot b o e n hb hx
    obtain ⟨sl', e2⟩ := slot b _ (neL b o e) hb (neC b o e hx) e1 (I.base.free b o e n hx)
    exact ⟨sl', e2⟩
  · obtain ⟨o', e1⟩ := I.base.there b o e hx
    exact free b o' (neC b o e hx) e1 (I.base.free b o e n hx)
  · obtain ⟨o', e1⟩ := I.base.there b o e hx
    exact there b o' (neC b o e hx) e1
  · obtain ⟨m1, e1⟩ := I.base.tbls b ps e
    obtain ⟨m2, e2⟩ := tbls b _ e1
    exact ⟨m1 ++ m2, by rw [e2, Array.append_assoc]⟩
  · obtain ⟨m, hn, hl⟩ := I.loc
    refine ⟨m, ns m hn, fun i x v e1 e2 e3 => ?_⟩
    obtain ⟨u, r, l⟩ := hl i x v e1 e2 e3
    refine ⟨u, r, ?_⟩
    rcases l with l | ⟨k, c, e, z⟩
    · exact .inl l
    · exact .inr ⟨k, c, e, cellK x c e _ z⟩
  · obtain ⟨v, z⟩ := I.cell x c e
    exact ⟨v, cellK x c e v z⟩
  · obtain ⟨m, ⟨o, _, _, ho, _⟩, _⟩ := I.loc
    exact free _ o (fun z => (hch _ z).2.1 rfl) ho I.free
  · obtain ⟨v, o, ho, hd⟩ := I.cell x c e
    exact free c o (fun z => (hch c z).2.2.1 x c e rfl) ho (I.freeC x c e)
  · obtain ⟨e, n, ne, nf, d⟩ := I.pin p hp
    have nch : p.1 ∉ ch := fun z => (hch p.1 z).2.2.2 p hp rfl
    exact ⟨keep p.1 p.2 ne nf nch e n, free p.1 p.2 nch e n, ne, nf, d⟩
theorem Inv.un {t' : Nat} (I : Inv X pins σ H s) (u : Un X.fs [] H H' s.heap h') (hok : HOk X.prog X.w H' h') : Inv X pins σ H' { s with heap := h', toks := t' } := by
  obtain ⟨m, ⟨o, es, ep, ho, r⟩, _⟩ := id I.loc
  obtain ⟨sl, hL⟩ := u.any ho I.free (by simp)
  exact I.step (g' := s.gens) (d' := s.drawn) (ch := []) (fun _ z => nomatch z) (fun b o _ hb _ e n => u.keep b o e n hb (by simp)) (fun b o _ hb _ e n => u.slot b o e n hb (by simp)) (fun b o _ e n => u.free b o e n (by simp)) (fun b o _ e => u.there b o e (by simp)) u.tups u.frzs u.tbls (fun m' hm => by
    obtain ⟨o', es', ep', ho', r'⟩ := hm
    rw [ho] at ho'; cases ho'
    exact ⟨_, es', ep', hL, r'⟩) hok I.bare
theorem Inv.call {g' : Array GenState} {t' : Nat} {d' : Drawn} {ch : List Addr} (I : Inv X pins σ H s) (u : Un (frs X.stack) ch H H' s.heap h') (hok : HOk X.prog X.w H' h') (hg : AllBare g')
    (hch : ∀ b ∈ ch, (b ∈ X.ex ∨ X.s₀.heap.objs.size ≤ b) ∧ b ≠ X.env.locals ∧ (∀ x c, X.env.cells.lookup x = some c → c ≠ b) ∧ ∀ p ∈ X.pn ++ pins, p.1 ≠ b) :
    Inv X pins σ H' { s with heap := h', gens := g', drawn := d', toks := t' } := by
  obtain ⟨m, ⟨o, es, ep, ho, r⟩, _⟩ := id I.loc
  obtain ⟨sl, hL⟩ := u.any ho I.free fun z => (hch _ z).2.1 rfl
  exact I.step (ch := ch) hch (fun b o hL hb hc e n => u.keep b o e n (fun z => (List.mem_cons.mp (I.stkSub b z)).elim hL hb) hc) (fun b o _ _ hc e n => u.any e n hc) (fun b o hc e n => u.free b o e n hc) (fun b o hc e => u.there b o e hc) u.tups u.frzs u.tbls (fun m' hm => by
    obtain ⟨o', es', ep', ho', r'⟩ := hm
    rw [ho] at ho'; cases ho'
    exact ⟨_, es', ep', hL, r'⟩) hok hg
theorem Inv.turned {t' : Nat} {it : Addr} (I : Inv X pins σ H s) (k : ∀ b o, b ≠ it → s.heap.get? b = some o → h'.get? b = some o) (hn : H it = none) (hL : it ≠ X.env.locals)
    (h1 : it ∈ X.ex ∨ X.s₀.heap.objs.size ≤ it) (h2 : ∀ x c, X.env.cells.lookup x = some c → c ≠ it) (h3 : ∀ p ∈ X.pn ++ pins, p.1 ≠ it) : Inv X pins σ H { s with heap := h', toks := t' } := by
  have nit : ∀ b u, H b = some u → b ≠ it := fun b u e z => by rw [z, hn] at e; cases e
  refine I.step (g' := s.gens) (d' := s.drawn) (ch := [it]) (fun b hb => ?_) (fun b o _ _ hc e _ => k b o (fun z => hc (by simp [z])) e) (fun b o _ _ hc e _ => ⟨o.slots, k b o (fun z => hc (by simp [z])) e⟩) (fun _ _ _ _ n => n)
    (fun b o hc e => ⟨o, k b o (fun z => hc (by simp [z])) e⟩) (fun _ _ e => e) (fun _ _ _ e => e) (fun b ps e => ⟨#[], by rw [e]; simp⟩) (fun m hm => ?_) (fun b u e => ?_) I.bare
  · have e : b = it := by simpa using hb
    subst e
    exact ⟨h1, hL, h2, h3⟩
  · obtain ⟨o, es, ep, ho, r⟩ := hm
    exact ⟨o, es, ep, k _ o (Ne.symm hL) ho, r⟩
  · refine (I.hok b u e).stay (fun c v hc q => k c v ?_ q) (fun _ q => q) fun _ _ q => q
    rcases hc with z | z
    · rw [z]; exact nit b u e
    · exact nit c _ z
theorem Inv.tok (I : Inv X pins σ H s) (t : Nat) : Inv X pins σ H { s with toks := t } := I.un (h' := s.heap) (t' := t) Un.refl I.hok
theorem Inv.kept {t' : Nat} (I : Inv X pins σ H s) (k : ∀ b u, s.heap.get? b = some u → h'.get? b = some u) : Inv X pins σ H { s with heap := h', toks := t' } := I.un (Un.kept k) (I.hok.kept k)
theorem Inv.laid {a : Addr} {o : HO} {t' : Nat} (I : Inv X pins σ H s) (k : ∀ b u, s.heap.get? b = some u → h'.get? b = some u) (hp : s.heap.objs.size ≤ a) (new : ObjOk X.prog X.w (upd H a o) h' a o) :
    Inv X pins σ (upd H a o) { s with heap := h', toks := t' } := I.un (Un.laid k hp (I.hok.fresh hp)) (I.hok.laid k hp new)
theorem Inv.write {x e : Addr} {o : HO} {t' : Nat} (I : Inv X pins σ H s) (mu : Mut (H x)) (he : e = x ∨ H e = some (.own x)) (k : ∀ b u, b ≠ e → s.heap.get? b = some u → h'.get? b = some u) (heo : ∃ u, h'.get? e = some u)
    (new : ObjOk X.prog X.w (upd H x o) h' x o) : Inv X pins σ (upd H x o) { s with heap := h', toks := t' } := I.un (Un.write mu he k heo) (I.hok.write mu he k heo new)
theorem Inv.pins_of {pins' : List (Addr × Obj)} (I : Inv X pins σ H s) (h : ∀ p ∈ pins', s.heap.get? p.1 = some p.2 ∧ H p.1 = none ∧ p.1 ≠ X.env.locals ∧ p.1 ∉ X.fs ∧ ∀ v, p.2.data ≠ .cell v) : Inv X pins' σ H s :=
  ⟨I.ok, I.os, I.bare, I.base, I.loc, I.cell, I.free, I.freeC, fun p hp => (List.mem_append.mp hp).elim (fun z => I.pin p (List.mem_append_left _ z)) (h p), I.hok, I.len⟩
theorem nodup_ix {N : List Str} (hN : N.Nodup) {i j : Nat} {x : Str} (a : N[i]? = some x) (b : N[j]? = some x) : i = j := by
  obtain ⟨h1, e1⟩ := List.getElem?_eq_some_iff.mp a
  obtain ⟨h2, e2⟩ := List.getElem?_eq_some_iff.mp b
  exact (List.getElem_inj hN).mp (e1.trans e2.symm)
theorem store_ok2 {M : Model} {A : Around} {E : Value → Shared → Prop} {i : Nat} {x : Str} {v : V} {u : Value} {Q : Unit → Shared → Prop} (I : Inv X pins σ H s) (hN : X.N.Nodup) (hi : X.N[i]? = some x) (hx : Loc X.env.scope x) (r : RelV v u)
    (h : ∀ s', Inv X pins (σ.set i (some v)) H s' → (∃ a, Heap.SameBut a s.heap s'.heap ∧ (a = X.env.locals ∨ X.env.cells.lookup x = some a)) → Q () s') (hf : X.fn x = true ∨ X.env.scope.names.lookup x = some .local := by first | exact .inl rfl | exact .inr rfl | assumption) : wpAny M A (storeName X.env x u) Q E s := by
  obtain ⟨m, hn, hl⟩ := id I.loc
  have hcls : (X.env.scope.kind == .class || (X.env.scope.kind == .module && X.env.locals != X.env.globals)) = false := by rw [I.ok.kind]; rfl
  have hiσ : i < σ.length := by rw [I.len]; exact (List.getElem?_eq_some_iff.mp hi).1
  have cne := I.cne
  have tracked : ∀ {a : Addr} {h' : Heap}, (∃ o, s.heap.get? a = some o ∧ H a = none) → Heap.SameBut a s.heap h' → HOk X.prog X.w H h' := fun {a h'} ha hs b ob e => by
    obtain ⟨_, _, hfree⟩ := ha
    refine (I.hok b ob e).stay (fun c w' hc q => (hs.2 c ?_).trans q) (fun _ q => q) fun _ _ q => q
    rintro rfl
    rcases hc with rfl | hc
    · rw [hfree] at e; cases e
    · rw [hfree] at hc; cases hc
  rcases hx with hk | hk
  · refine wpAny_storeName_local hk hn (fun h' hn' hs => ?_) hcls
    obtain ⟨oL, _, _, hoL, _⟩ := id hn
    refine h _ ⟨I.ok, I.os, I.bare, ⟨fun b o e n hb hx => ?_, fun b o e n hb hx => ?_, I.base.free, fun b o e hx => ?_, I.base.tups, I.base.frzs, I.base.tbls⟩, ⟨_, hn', fun j y v' e1 e2 e3 => ?_⟩, fun y c e => ?_, I.free, I.freeC, fun p hp => ?_, tracked ⟨oL, hoL, I.free⟩ hs, by simpa using I.len⟩ ⟨_, hs, .inl rfl⟩
    · exact (hs.2 b (Nat.ne_of_lt (Nat.lt_of_lt_of_le (Heap.lt_size e) I.ok.above))).trans (I.base.keep b o e n hb hx)
    · obtain ⟨sl, e1⟩ := I.base.slot b o e n hb hx
      exact ⟨sl, (hs.2 b (Nat.ne_of_lt (Nat.lt_of_lt_of_le (Heap.lt_size e) I.ok.above))).trans e1⟩
    · obtain ⟨o', e1⟩ := I.base.there b o e hx
      exact ⟨o', (hs.2 b (Nat.ne_of_lt (Nat.lt_of_lt_of_le (Heap.lt_size e) I.ok.above))).trans e1⟩
    · by_cases hj : j = i
      · subst hj
        rw [hi] at e1; cases e1
        rw [List.getElem?_set_self hiσ] at e2
        cases e2
        exact ⟨u, r, .inl ⟨hk, by simp⟩⟩
      · rw [List.getElem?_set_ne (Ne.symm hj)] at e2
        obtain ⟨u', r', q⟩ := hl j y v' e1 e2 e3
        refine ⟨u', r', ?_⟩
        rcases q with ⟨k, e⟩ | ⟨k, c, e, z⟩
        · refine .inl ⟨k, ?_⟩
          have : y ≠ x := fun e => hj (nodup_ix hN e1 (e ▸ hi))
          simp [this, e]
        · exact .inr ⟨k, c, e, z.sameBut hs (cne y c e)⟩
    · obtain ⟨w', z⟩ := I.cell y c e
      exact ⟨w', z.sameBut hs (cne y c e)⟩
    · obtain ⟨e, n, ne, nf, d⟩ := I.pin p hp
      exact ⟨(hs.2 p.1 ne).trans e, n, ne, nf, d⟩
  · have hfn : X.fn x = true := by
      rcases hf with z | z
      · exact z
      · rw [z] at hk; cases hk
    obtain ⟨c, hc⟩ := I.ok.has x (.inl hk)
    obtain ⟨w', z⟩ := I.cell x c hc
    refine wpAny_storeName_cell I.ok.kind hk hc z (fun h' hc' hs => ?_)
    obtain ⟨oc, hoc, hocd⟩ := id z
    refine h { s with heap := h' } ⟨I.ok, I.os, I.bare, ⟨fun b o e n hb hx => ?_, fun b o e n hb hx => ?_, I.base.free, fun b o e hx => ?_, I.base.tups, I.base.frzs, I.base.tbls⟩, ⟨m, hn.sameBut hs (Ne.symm (cne x c hc)), fun j y v' e1 e2 e3 => ?_⟩, fun y c' e => ?_, I.free, I.freeC, fun p hp => ?_, tracked ⟨oc, hoc, I.freeC x c hc⟩ hs, by simpa using I.len⟩ ⟨c, hs, .inr hc⟩
    · exact (hs.2 b (Nat.ne_of_lt (Nat.lt_of_lt_of_le (Heap.lt_size e) (I.ok.cab x c hfn hc)))).trans (I.base.keep b o e n hb hx)
    · obtain ⟨sl, e1⟩ := I.base.slot b o e n hb hx
      exact ⟨sl, (hs.2 b (Nat.ne_of_lt (Nat.lt_of_lt_of_le (Heap.lt_size e) (I.ok.cab x c hfn hc)))).trans e1⟩
    · obtain ⟨o', e1⟩ := I.base.there b o e hx
      exact ⟨o', (hs.2 b (Nat.ne_of_lt (Nat.lt_of_lt_of_le (Heap.lt_size e) (I.ok.cab x c hfn hc)))).trans e1⟩
    · by_cases hj : j = i
      · subst hj
        rw [hi] at e1; cases e1
        rw [List.getElem?_set_self hiσ] at e2
        cases e2
        exact ⟨u, r, .inr ⟨.inl hk, c, hc, hc'⟩⟩
      · rw [List.getElem?_set_ne (Ne.symm hj)] at e2
        obtain ⟨u', r', q⟩ := hl j y v' e1 e2 e3
        refine ⟨u', r', ?_⟩
        rcases q with q | ⟨k, c', e, z'⟩
        · exact .inl q
        · refine .inr ⟨k, c', e, z'.sameBut hs ?_⟩
          rintro rfl
          exact hj (nodup_ix hN e1 (I.ok.inj _ _ _ e hc ▸ hi))
    · by_cases hcc : c' = c
      · subst hcc; exact ⟨_, hc'⟩
      · obtain ⟨w2, z2⟩ := I.cell y c' e
        exact ⟨w2, z2.sameBut hs hcc⟩
    · obtain ⟨e, n, ne, nf, d⟩ := I.pin p hp
      refine ⟨(hs.2 p.1 ?_).trans e, n, ne, nf, d⟩
      intro q
      rw [q, hoc] at e
      have q' : oc = p.2 := Option.some.inj e
      exact d w' (by rw [← q']; exact hocd)
theorem store_ok {M : Model} {A : Around} {E : Value → Shared → Prop} {i : Nat} {x : Str} {v : V} {u : Value} {Q : Unit → Shared → Prop} (I : Inv X pins σ H s) (hN : X.N.Nodup) (hi : X.N[i]? = some x) (hx : Loc X.env.scope x) (r : RelV v u)
    (h : ∀ s', Inv X pins (σ.set i (some v)) H s' → Q () s') (hf : X.fn x = true ∨ X.env.scope.names.lookup x = some .local := by first | exact .inl rfl | exact .inr rfl | assumption) : wpAny M A (storeName X.env x u) Q E s :=
  store_ok2 I hN hi hx r (fun s' I' _ => h s' I') hf
theorem Inv.call' {s' : Shared} {ch : List Addr} (I : Inv X pins σ H s) (ho : s'.os = s.os) (u : Un (frs X.stack) ch H H' s.heap s'.heap) (hok : HOk X.prog X.w H' s'.heap) (hg : AllBare s'.gens)
    (hch : ∀ b ∈ ch, (b ∈ X.ex ∨ X.s₀.heap.objs.size ≤ b) ∧ b ≠ X.env.locals ∧ (∀ x c, X.env.cells.lookup x = some c → c ≠ b) ∧ ∀ p ∈ X.pn ++ pins, p.1 ≠ b) : Inv X pins σ H' s' := by
  obtain ⟨h', g', d', t', o'⟩ := s'
  have e : o' = s.os := ho
  subst e
  exact I.call (g' := g') (t' := t') (d' := d') u hok hg hch
end
abbrev XK := Value → Option Addr → Hp → Prop
abbrev St := List (Option V)
abbrev VK := V → Hp → Prop
abbrev TE := St → Hp → VK → Prop
abbrev TT := St → Hp → (Bool → Hp → Prop) → Prop
abbrev TA := St → Hp → (List V → Hp → Prop) → Prop
structure Ends where
  nx : St → Hp → Prop
  rt : VK
  bk : St → Hp → Prop := fun _ _ => False
  ct : St → Hp → Prop := fun _ _ => False
abbrev TS := Ends → St → Hp → Prop
def EP (X : Cx) (pins : List (Addr × Obj)) (σ : St) (Q : VK) (u : Value) (s' : Shared) : Prop := ∃ v H', Inv X pins σ H' s' ∧ RelV v u ∧ Q v H'
def TP (X : Cx) (pins : List (Addr × Obj)) (σ : St) (Q : Bool → Hp → Prop) (b : Bool) (s' : Shared) : Prop := ∃ H', Inv X pins σ H' s' ∧ Q b H'
def AP (X : Cx) (pins : List (Addr × Obj)) (σ : St) (Q : List V → Hp → Prop) (us : List Value) (s' : Shared) : Prop := ∃ vs H', Inv X pins σ H' s' ∧ Vals vs us ∧ Q vs H'
def SP (X : Cx) (pins : List (Addr × Obj)) (D : Ends) (f : Flow) (s' : Shared) : Prop :=
  match f with
  | .next => ∃ σ' H', Inv X pins σ' H' s' ∧ D.nx σ' H'
  | .brk => ∃ σ' H', Inv X pins σ' H' s' ∧ D.bk σ' H'
  | .cont => ∃ σ' H', Inv X pins σ' H' s' ∧ D.ct σ' H'
  | .ret u => ∃ v σ' H', Inv X pins σ' H' s' ∧ RelV v u ∧ D.rt v H'
def PE (X : Cx) (e : Expr) (t : TE) : Prop :=
  ∀ (pins : List (Addr × Obj)) (s : Shared) (σ : St) (H : Hp) (Q : VK), Inv X pins σ H s → t σ H Q → wpAny (model X.prog X.w) X.A (eval e X.env) (EP X pins σ Q) X.xe s
def PT (X : Cx) (e : Expr) (t : TT) : Prop :=
  ∀ (pins : List (Addr × Obj)) (s : Shared) (σ : St) (H : Hp) (Q : Bool → Hp → Prop), Inv X pins σ H s → t σ H Q → wpAny (model X.prog X.w) X.A (isTrue e X.env (eval e X.env)) (TP X pins σ Q) X.xe s
def PW (X : Cx) (e : Expr) (t : TT) : Prop :=
  ∀ (whole : Sem Value) (pins : List (Addr × Obj)) (s : Shared) (σ : St) (H : Hp) (Q : Bool → Hp → Prop), Inv X pins σ H s → t σ H Q → wpAny (model X.prog X.w) X.A (isTrue e X.env whole) (TP X pins σ Q) X.xe s
theorem PW.pt {X : Cx} {e : Expr} {t : TT} (h : PW X e t) : PT X e t := h _
def PA (X : Cx) (es : List Expr) (t : TA) : Prop :=
  ∀ (pos : Pos) (pins : List (Addr × Obj)) (s : Shared) (σ : St) (H : Hp) (Q : List V → Hp → Prop), Inv X pins σ H s → t σ H Q → wpAny (model X.prog X.w) X.A (spliced (backTo pos (starEach es X.env))) (AP X pins σ Q) X.xe s
def PS (X : Cx) (st : Stmt) (t : TS) : Prop :=
  ∀ (pins : List (Addr × Obj)) (s : Shared) (σ : St) (H : Hp) (D : Ends), Inv X pins σ H s → t D σ H → wpAny (model X.prog X.w) X.A (exec st X.env) (SP X pins D) X.xe s
def PSs (X : Cx) (st : List Stmt) (t : TS) : Prop :=
  ∀ (pins : List (Addr × Obj)) (s : Shared) (σ : St) (H : Hp) (D : Ends), Inv X pins σ H s → t D σ H → wpAny (model X.prog X.w) X.A (execs st X.env) (SP X pins D) X.xe s
theorem thn {α : Type} {t : Sem α} {Q Q' : α → Shared → Prop} {M : Model} {A : Around} {E : Value → Shared → Prop} {s : Shared} (h : wpAny M A t Q E s) (hQ : ∀ a s, Q a s → Q' a s) : wpAny M A t Q' E s := wpAny_mono h hQ fun _ _ x => x
end L2
namespace L2
open PySem PySem.Spec PyProof.Rows
section
variable {X : Cx}
def tVar (i : Nat) : TE := fun σ H Q => ∃ v, σ[i]? = some (some v) ∧ Q v H
def tC (v : V) : TE := fun _ H Q => Q v H
theorem pe_var {i : Nat} {x : Str} {pos : Pos} (hN : X.N[i]? = some x) (hv : Vis X.env.scope x) (hd : (x == ("__debug__" : Str)) = false := by decide) (hcd : (x == ("__classdict__" : Str)) = false := by decide) : PE X (.Name x pos) (tVar i) := by
  intro pins s σ H Q I h
  obtain ⟨v, e, h⟩ := h
  obtain ⟨m, hn, hl⟩ := I.loc
  obtain ⟨u, r, l⟩ := hl i x v hN e hv
  have fin : EP X pins σ Q u s := ⟨v, H, I, r, h⟩
  rcases l with ⟨hk, hm⟩ | ⟨hk, c, hc, hcell⟩
  · exact wpAny_Name (wpAny_loadName_local I.ok.kind hk hn hm fin) hd
  · rcases hk with hk | hk
    · exact wpAny_Name (wpAny_loadName_cell I.ok.kind hk hc hcell fin) hd
    · exact wpAny_Name (wpAny_loadName_free I.ok.kind hk hc hcell fin hcd) hd
theorem pe_int {i j pos} : PE X (.Constant (.int i) j pos) (tC (.int i)) := fun _ _ _ H _ I h => wpAny_Constant_int ⟨.int i, H, I.tok _, ⟨_, rfl⟩, h⟩
theorem pe_bl {b j pos} : PE X (.Constant (.bool b) j pos) (tC (.bl b)) := fun _ _ _ H _ I h => Constant_bool ⟨.bl b, H, I, rfl, h⟩
theorem pe_non {j pos} : PE X (.Constant .none j pos) (tC .non) := fun _ _ _ H _ I h => Constant_none ⟨.non, H, I, rfl, h⟩
def Gl (X : Cx) (x : Str) : Prop := X.env.kindOf x = some .globalImplicit
theorem ld_glob {E : Value → Shared → Prop} {pins : List (Addr × Obj)} {s : Shared} {σ : St} {H : Hp} {x : Str} {u : Value} {pos : Pos} {Q : Value → Shared → Prop} (I : Inv X pins σ H s) (hg : Gl X x) (hm : X.mg x = some u) (h : Q u s)
    (hd : (x == ("__debug__" : Str)) = false := by decide) : wpAny (model X.prog X.w) X.A (eval (.Name x pos) X.env) Q E s :=
  Calls.Name_function_global I.ok.kind hg (Calls.loadGlobal_global (by rw [I.ok.glob]; exact I.mod.glob.keeps I.bk) hm h) hd
theorem ld_blt {E : Value → Shared → Prop} {pins : List (Addr × Obj)} {s : Shared} {σ : St} {H : Hp} {x : Str} {u : Value} {pos : Pos} {Q : Value → Shared → Prop} (I : Inv X pins σ H s) (hg : Gl X x) (hm : X.mg x = none) (hv : bootBuiltins x = some u) (h : Q u s)
    (hn : x ≠ "__name__" := by decide) (hd : (x == ("__debug__" : Str)) = false := by decide) : wpAny (model X.prog X.w) X.A (eval (.Name x pos) X.env) Q E s := by
  obtain ⟨mb, h1, h2⟩ := I.mod.blt
  exact Calls.Name_function_global I.ok.kind hg (Calls.loadGlobal_builtin (by rw [I.ok.glob]; exact I.mod.glob.keeps I.bk) hm (by rw [I.ok.blt]; exact h1.keeps I.bk) ((h2 x hn).trans hv) h) hd
theorem pe_glob {x : Str} {v : V} {u : Value} {pos : Pos} (hg : Gl X x) (hm : X.mg x = some u) (r : RelV v u) (hd : (x == ("__debug__" : Str)) = false := by decide) : PE X (.Name x pos) (tC v) :=
  fun _ _ _ H _ I h => ld_glob I hg hm ⟨v, H, I, r, h⟩ hd
theorem pe_bltn {x : Str} {v : V} {u : Value} {pos : Pos} (hg : Gl X x) (hm : X.mg x = none) (hv : bootBuiltins x = some u) (r : RelV v u) (hn : x ≠ "__name__" := by decide) (hd : (x == ("__debug__" : Str)) = false := by decide) : PE X (.Name x pos) (tC v) :=
  fun _ _ _ H _ I h => ld_blt I hg hm hv ⟨v, H, I, r, h⟩ hn hd
variable {a b : Expr} {ta tb : TE} {pos : Pos}
def PC (X : Cx) (op : CmpOp) (a b : Expr) (t : TE) : Prop :=
  ∀ (pins : List (Addr × Obj)) (s : Shared) (σ : St) (H : Hp) (Q : VK), Inv X pins σ H s → t σ H Q →
    wpAny (model X.prog X.w) X.A (eval a X.env) (fun v s₁ => wpAny (model X.prog X.w) X.A (eval b X.env) (fun u s₂ => wpAny (model X.prog X.w) X.A (compareOp op v u) (EP X pins σ Q) X.xe s₂) X.xe s₁) X.xe s
def tB (t : TE) : TT := fun σ H Q => t σ H fun x H1 => ∃ c, x = .bl c ∧ Q c H1
theorem pt_val {e : Expr} {t : TE} (h : PE X e t) (he : ∀ whole, isTrue e X.env whole = (do let v ← whole; standAt e.pos; holding [v] (truthy v)) := by intro _; rfl) : PT X e (tB t) := by
  intro pins s σ H Q I hw
  refine isTrue_plain (thn (h pins s σ H _ I hw) fun v s1 ⟨x, H1, I1, r1, q1⟩ => ?_) (he _)
  obtain ⟨d, rfl, q⟩ := q1
  cases r1
  exact wpAny_truthy_bool ⟨H1, I1, q⟩
variable {tA tB' : TT} {rest : List Expr}
def tAnd (t u : TT) : TT := fun σ H Q => t σ H fun c H1 => if c = true then u σ H1 Q else Q false H1
def tOr (t u : TT) : TT := fun σ H Q => t σ H fun c H1 => if c = true then Q true H1 else u σ H1 Q
def tNot (t : TT) : TT := fun σ H Q => t σ H fun c H1 => Q (!c) H1
theorem pw_and1 (ha : PT X a tA) : PW X (.BoolOp .And [a] pos) tA := by
  intro wh pins s σ H Q I h
  refine isTrue_and (thn (ha pins s σ H Q I h) fun c s1 e => ?_)
  cases c with
  | true => exact isTrue_and_nil e
  | false => exact e
theorem pw_or1 (ha : PT X a tA) : PW X (.BoolOp .Or [a] pos) tA := by
  intro wh pins s σ H Q I h
  refine isTrue_or (thn (ha pins s σ H Q I h) fun c s1 e => ?_)
  cases c with
  | false => exact isTrue_or_nil e
  | true => exact e
theorem pw_and (ha : PT X a tA) (hb : PW X (.BoolOp .And (b :: rest) pos) tB') : PW X (.BoolOp .And (a :: b :: rest) pos) (tAnd tA tB') := by
  intro wh pins s σ H Q I h
  refine isTrue_and (thn (ha pins s σ H _ I h) fun c s1 ⟨H1, I1, q1⟩ => ?_)
  cases c with
  | true => exact hb wh pins s1 σ H1 Q I1 q1
  | false => exact ⟨H1, I1, q1⟩
theorem pw_or (ha : PT X a tA) (hb : PW X (.BoolOp .Or (b :: rest) pos) tB') : PW X (.BoolOp .Or (a :: b :: rest) pos) (tOr tA tB') := by
  intro wh pins s σ H Q I h
  refine isTrue_or (thn (ha pins s σ H _ I h) fun c s1 ⟨H1, I1, q1⟩ => ?_)
  cases c with
  | true => exact ⟨H1, I1, q1⟩
  | false => exact hb wh pins s1 σ H1 Q I1 q1
theorem pt_not (ha : PT X a tA) : PT X (.UnaryOp .Not a pos) (tNot tA) := by
  intro pins s σ H Q I h
  exact isTrue_not (ha pins s σ H (fun c H1 => Q (!c) H1) I h)
def tAndV (ta tb : TE) : TE := fun σ H Q => ta σ H fun x H1 => ∃ c, x = .bl c ∧ if c = true then tb σ H1 Q else Q (.bl false) H1
def tNotV (ta : TE) : TE := fun σ H Q => ta σ H fun x H1 => ∃ c, x = .bl c ∧ Q (.bl (!c)) H1
theorem pe_one {op} {t : TE} (h : PE X a t) : PE X (.BoolOp op [a] pos) t := fun pins s σ H Q I hw => BoolOp_one (h pins s σ H Q I hw)
theorem pe_and (ha : PE X a ta) (hb : PE X (.BoolOp .And (b :: rest) pos) tb) : PE X (.BoolOp .And (a :: b :: rest) pos) (tAndV ta tb) := by
  intro pins s σ H Q I h
  refine BoolOp_and (thn (ha pins s σ H _ I h) fun v s1 ⟨x, H1, I1, r1, q1⟩ => ?_)
  obtain ⟨c, rfl, q1⟩ := q1
  cases r1
  refine wpAny_truthy_bool ?_
  cases c with
  | true => exact hb pins s1 σ H1 Q I1 q1
  | false => exact ⟨.bl false, H1, I1, rfl, q1⟩
theorem pe_not (ha : PE X a ta) : PE X (.UnaryOp .Not a pos) (tNotV ta) := by
  intro pins s σ H Q I h
  refine UnaryOp_ (thn (ha pins s σ H _ I h) fun v s1 ⟨x, H1, I1, r1, q1⟩ => ?_)
  obtain ⟨c, rfl, q1⟩ := q1
  cases r1
  exact not_of (wpAny_truthy_bool ⟨.bl (!c), H1, I1, rfl, q1⟩)
def tIf (t : TT) (ta tb : TE) : TE := fun σ H Q => t σ H fun c H1 => if c = true then ta σ H1 Q else tb σ H1 Q
theorem pe_ifExp {c : Expr} (hc : PT X c tA) (ha : PE X a ta) (hb : PE X b tb) : PE X (.IfExp c a b pos) (tIf tA ta tb) := by
  intro pins s σ H Q I h
  refine wpAny_IfExp (thn (hc pins s σ H _ I h) fun d s1 ⟨H1, I1, q1⟩ => ?_)
  cases d with
  | true => exact ha pins s1 σ H1 Q I1 q1
  | false => exact hb pins s1 σ H1 Q I1 q1
end
end L2
namespace L2
open PySem PySem.Spec PyProof.Rows
def SqL (K : PySem.W.Frag) (H : Hp) (a : Addr) (xs : List V) : Prop :=
  Rd H a (.lst xs) ∨
    ∃ (o : Obj) (its : Array Value) (n : Nat), K.lookup a = some o ∧ o.cls = .type "list" ∧ o.dict = none ∧ o.data = .seq its n ∧ its.size ≤ sizeLine ∧ Vals xs its.toList
def SqT (K : PySem.W.Frag) (H : Hp) (a : Addr) (xs : List V) : Prop :=
  Rd H a (.tup xs) ∨
    ∃ (o : Obj) (its : Array Value) (n : Nat), K.lookup a = some o ∧ o.cls = .type "tuple" ∧ o.data = .seq its n ∧ its.size ≤ sizeLine ∧ Vals xs its.toList
def absV : Value → Option V
  | .none => some .non
  | .bool b => some (.bl b)
  | .int i _ => some (.int i)
  | .str x _ => some (.str x)
  | .bytes b _ => some (.byt b)
  | .float b _ => some (.flt b)
  | .ref a => some (.ref a)
  | .type n => some (.ty n)
  | _ => none
theorem RelV.abs {x : V} {u : Value} (r : RelV x u) : absV u = some x := by
  cases x with
  | non => cases r; rfl
  | bl _ => cases r; rfl
  | int _ => obtain ⟨t, rfl⟩ := r; rfl
  | str _ => obtain ⟨t, rfl⟩ := r; rfl
  | byt _ => obtain ⟨t, rfl⟩ := r; rfl
  | flt _ => obtain ⟨t, rfl⟩ := r; rfl
  | ref _ => cases r; rfl
  | ty _ => cases r; rfl
theorem RelV.inj {x y : V} {u : Value} (r : RelV x u) (q : RelV y u) : x = y := Option.some.inj (r.abs.symm.trans q.abs)
theorem Vals.inj : ∀ {xs ys : List V} {us : List Value}, Vals xs us → Vals ys us → xs = ys
  | _, _, _, .nil, .nil => rfl
  | _, _, _, .cons r t, .cons r' t' => by rw [r.inj r', Vals.inj t t']
section
variable {X : Cx} {pins : List (Addr × Obj)} {σ : St} {H : Hp} {s : Shared} {a : Addr} {xs ys : List V}
theorem SqL.of {K : PySem.W.Frag} (h : H a = some (.lst xs)) : SqL K H a xs := .inl (.inl h)
theorem SqT.of {K : PySem.W.Frag} (h : H a = some (.tup xs)) : SqT K H a xs := .inl (.inl h)
theorem Inv.list (I : Inv X pins σ H s) (h : SqL X.K H a xs) : ∃ its : List Value, Vals xs its ∧ PlainL s.heap a its.toArray ∧ xs.length ≤ sizeLine := by
  rcases h with h | ⟨o, its, n, hk, hc, hd, hs, hz, r⟩
  · obtain ⟨z, its, n, r, e⟩ := h.ok I.hok
    exact ⟨its, r, ⟨_, n, e, rfl, rfl, rfl⟩, z⟩
  · refine ⟨its.toList, r, ⟨o, n, I.kIn a o hk, hc, hd, by simpa using hs⟩, ?_⟩
    have e := r.length
    simp only [Array.length_toList] at e
    omega
theorem Inv.tuple (I : Inv X pins σ H s) (h : SqT X.K H a xs) : ∃ its : List Value, Vals xs its ∧ IsTup s.heap a its.toArray ∧ xs.length ≤ sizeLine := by
  rcases h with h | ⟨o, its, n, hk, hc, hs, hz, r⟩
  · obtain ⟨z, its, r, p⟩ := h.ok I.hok
    exact ⟨its, r, p, z⟩
  · refine ⟨its.toList, r, ⟨o, I.kIn a o hk, hc, n, by simpa using hs⟩, ?_⟩
    have e := r.length
    simp only [Array.length_toList] at e
    omega
theorem Inv.list_inj (I : Inv X pins σ H s) (h : SqL X.K H a xs) (h' : SqL X.K H a ys) : xs = ys := by
  obtain ⟨its, r, ⟨o, n, e, _, _, d⟩, _⟩ := I.list h
  obtain ⟨its', r', ⟨o', n', e', _, _, d'⟩, _⟩ := I.list h'
  rw [e] at e'; cases e'
  rw [d] at d'
  injection d' with d1 _
  have : its = its' := by simpa using congrArg Array.toList d1
  subst this
  exact r.inj r'
theorem Inv.tuple_inj (I : Inv X pins σ H s) (h : SqT X.K H a xs) (h' : SqT X.K H a ys) : xs = ys := by
  obtain ⟨its, r, ⟨o, e, _, n, d⟩, _⟩ := I.tuple h
  obtain ⟨its', r', ⟨o', e', _, n', d'⟩, _⟩ := I.tuple h'
  rw [e] at e'; cases e'
  rw [d] at d'
  injection d' with d1 _
  have : its = its' := by simpa using congrArg Array.toList d1
  subst this
  exact r.inj r'
end
abbrev Cx.wish (X : Cx) (E : Value → Shared → Prop) : Cx := { X with xe := E }
abbrev Cx.nox (X : Cx) : Cx := X.wish fun _ _ => False
theorem Cx.Ok.wish {X : Cx} (ok : X.Ok) (E : Value → Shared → Prop) : (X.wish E).Ok :=
  ⟨ok.mod, ok.kind, ok.glob, ok.blt, ok.above, ok.inj, ok.has, ok.cab, ok.hd, ok.frames, ok.stk, ok.exf, ok.bs, ok.bsz, ok.noex, ok.exfs, ok.funs, ok.frf⟩
theorem Cx.Ok.unwish {X : Cx} {E : Value → Shared → Prop} (ok : (X.wish E).Ok) : X.Ok :=
  ⟨ok.mod, ok.kind, ok.glob, ok.blt, ok.above, ok.inj, ok.has, ok.cab, ok.hd, ok.frames, ok.stk, ok.exf, ok.bs, ok.bsz, ok.noex, ok.exfs, ok.funs, ok.frf⟩
section
variable {X : Cx} {pins : List (Addr × Obj)} {σ : St} {H : Hp} {s : Shared} {E : Value → Shared → Prop}
theorem Inv.wish (I : Inv X pins σ H s) (E : Value → Shared → Prop) : Inv (X.wish E) pins σ H s := ⟨I.ok.wish E, I.os, I.bare, I.base, I.loc, I.cell, I.free, I.freeC, I.pin, I.hok, I.len⟩
theorem Inv.unwish (I : Inv (X.wish E) pins σ H s) : Inv X pins σ H s := ⟨I.ok.unwish, I.os, I.bare, I.base, I.loc, I.cell, I.free, I.freeC, I.pin, I.hok, I.len⟩
theorem SP.unwish {D : Ends} {f : Flow} {s' : Shared} (h : SP (X.wish E) pins D f s') : SP X pins D f s' := by
  cases f with
  | next => obtain ⟨σ', H', I, q⟩ := h; exact ⟨σ', H', I.unwish, q⟩
  | brk => obtain ⟨σ', H', I, q⟩ := h; exact ⟨σ', H', I.unwish, q⟩
  | cont => obtain ⟨σ', H', I, q⟩ := h; exact ⟨σ', H', I.unwish, q⟩
  | ret u => obtain ⟨v, σ', H', I, r, q⟩ := h; exact ⟨v, σ', H', I.unwish, r, q⟩
theorem PSs.nox {st : List Stmt} {t : TS} (h : PSs X.nox st t) : PSs X st t := fun pins s σ H D I hw =>
  wpAny_mono (h pins s σ H D (I.wish _) hw) (fun _ _ q => q.unwish) fun _ _ z => False.elim z
end
section
variable {X : Cx} {st : Stmt} {rest : List Stmt} {t u : TS} {e : Expr} {te : TE} {pos : Pos}
def tNext : TS := fun D σ H => D.nx σ H
def tSeq (t u : TS) : TS := fun D σ H => t { D with nx := u D } σ H
theorem pss_nil : PSs X [] tNext := fun _ _ σ H _ I h => wpAny_execs_nil ⟨σ, H, I, h⟩
theorem pss_cons (h1 : PS X st t) (h2 : PSs X rest u) : PSs X (st :: rest) (tSeq t u) := by
  intro pins s σ H D I h
  refine wpAny_execs_cons (thn (h1 pins s σ H { D with nx := u D } I h) fun f s1 q => ?_)
  cases f with
  | next =>
    obtain ⟨σ', H', I', q⟩ := q
    exact h2 pins s1 σ' H' D I' q
  | ret v => exact q
  | brk => exact q
  | cont => exact q
theorem pss_one (h1 : PS X st t) : PSs X [st] t := by
  intro pins s σ H D I h
  refine wpAny_execs_cons (thn (h1 pins s σ H D I h) fun f s1 q => ?_)
  cases f with
  | next => exact wpAny_execs_nil q
  | ret v => exact q
  | brk => exact q
  | cont => exact q
theorem Inv.quiet {pins : List (Addr × Obj)} {σ : St} {H : Hp} {s : Shared} (I : Inv X pins σ H s) : interactive X.env = false := by simp [interactive, I.ok.kind]
def tDrop (te : TE) : TS := fun D σ H => te σ H fun _ H1 => D.nx σ H1
theorem ps_expr (he : PE X e te) (hs : swapsWith e none pos.line X.env = pure false := by rfl) : PS X (.Expr e pos) (tDrop te) := by
  intro pins s σ H D I h
  exact wpAny_Expr_any (thn (he pins s σ H _ I h) fun v s1 ⟨x, H1, I1, r1, q1⟩ => ⟨σ, H1, I1, q1⟩) I.quiet hs
def tRet (te : TE) : TS := fun D σ H => te σ H D.rt
theorem ps_ret (he : PE X e te) : PS X (.Return (some e) pos) (tRet te) := by
  intro pins s σ H D I h
  exact wpAny_Return_some (thn (he pins s σ H _ I h) fun v s1 ⟨x, H1, I1, r1, q1⟩ => ⟨x, σ, H1, I1, r1, q1⟩)
def tIfS (c : TT) (t u : TS) : TS := fun D σ H => c σ H fun b H1 => if b = true then t D σ H1 else u D σ H1
theorem ps_if {c : Expr} {a b : List Stmt} {tc : TT} (hc : PT X c tc) (ha : PSs X a t) (hb : PSs X b u) : PS X (.If c a b pos) (tIfS tc t u) := by
  intro pins s σ H D I h
  refine wpAny_If (thn (hc pins s σ H _ I h) fun d s1 ⟨H1, I1, q1⟩ => ?_)
  cases d with
  | true => exact ha pins s1 σ H1 D I1 q1
  | false => exact hb pins s1 σ H1 D I1 q1
def tNever : TS := fun _ _ _ => False
theorem ps_never : PS X st tNever := fun _ _ _ _ _ _ h => h.elim
end
abbrev TG := V → St → Hp → (St → Hp → Prop) → Prop
abbrev TGs := List V → St → Hp → (St → Hp → Prop) → Prop
def PG (X : Cx) (target : Expr) (t : TG) : Prop :=
  ∀ (pins : List (Addr × Obj)) (s : Shared) (σ : St) (H : Hp) (v : V) (u : Value) (Q : St → Hp → Prop), Inv X pins σ H s → RelV v u → t v σ H Q →
    wpAny (model X.prog X.w) X.A (assign target X.env u) (fun _ s' => ∃ σ' H', Inv X pins σ' H' s' ∧ Q σ' H') X.xe s
def PGs (X : Cx) (ts : List Expr) (t : TGs) : Prop :=
  ∀ (pins : List (Addr × Obj)) (s : Shared) (σ : St) (H : Hp) (vs : List V) (us : List Value) (Q : St → Hp → Prop), Inv X pins σ H s → Vals vs us → t vs σ H Q →
    wpAny (model X.prog X.w) X.A (assignInOrder ((assignEach ts X.env).map (·.2)) us) (fun _ s' => ∃ σ' H', Inv X pins σ' H' s' ∧ Q σ' H') X.xe s
abbrev TSet := V → V → V → Hp → (Hp → Prop) → Prop
def PSet (X : Cx) (t : TSet) : Prop :=
  ∀ (pins : List (Addr × Obj)) (s : Shared) (σ : St) (H : Hp) (o i v : V) (ov iv u : Value) (Q : Hp → Prop), Inv X pins σ H s → RelV o ov → RelV i iv → RelV v u → t o i v H Q →
    wpAny (model X.prog X.w) X.A (setItem ov iv u) (fun _ s' => ∃ H', Inv X pins σ H' s' ∧ Q H') X.xe s
section
variable {X : Cx} {pos : Pos}
def gName (i : Nat) : TG := fun v σ H Q => Q (σ.set i (some v)) H
theorem pg_name {i : Nat} {x : Str} (hN : X.N.Nodup) (hi : X.N[i]? = some x) (hx : Loc X.env.scope x) (hf : X.fn x = true ∨ X.env.scope.names.lookup x = some .local := by first | exact .inl rfl | exact .inr rfl | assumption) : PG X (.Name x pos) (gName i) := by
  intro pins s σ H v u Q I r h
  exact wpAny_assign_Name (store_ok I hN hi hx r (fun s' I' => ⟨_, H, I', h⟩) hf)
def gNil : TGs := fun vs σ H Q => vs = [] ∧ Q σ H
def gCons (t : TG) (u : TGs) : TGs := fun vs σ H Q => ∃ v r, vs = v :: r ∧ t v σ H fun σ' H' => u r σ' H' Q
theorem pgs_nil : PGs X [] gNil := by
  intro pins s σ H vs us Q I r h
  obtain ⟨e, h⟩ := h
  subst e
  cases r
  exact assignInOrder_nil ⟨σ, H, I, h⟩
theorem pgs_cons {e : Expr} {es : List Expr} {t : TG} {u : TGs} (h1 : PG X e t) (h2 : PGs X es u)
    (hs : (assignEach (e :: es) X.env).map (·.2) = assign e X.env :: (assignEach es X.env).map (·.2) := by rfl) : PGs X (e :: es) (gCons t u) := by
  intro pins s σ H vs us Q I r h
  obtain ⟨v, vr, e1, h⟩ := h
  subst e1
  cases r with
  | cons r rr =>
    rw [hs]
    refine assignInOrder_cons (thn (h1 pins s σ H _ _ _ I r h) fun _ s1 ⟨σ1, H1, I1, q1⟩ => ?_)
    exact h2 pins s1 σ1 H1 _ _ Q I1 rr q1
def gTup (K : PySem.W.Frag) (n : Nat) (t : TGs) : TG := fun v σ H Q => ∃ a xs, v = .ref a ∧ SqT K H a xs ∧ xs.length = n ∧ t xs σ H Q
theorem pg_tup {es : List Expr} {k : Nat} {t : TGs} {n : Nat} (hc : X.calm = true) (h : PGs X es t)
    (hn : (assignEach es X.env).length = n := by rfl) (hst : (assignEach es X.env).findIdx? (·.1) = none := by rfl) : PG X (.Tuple es k pos) (gTup X.K n t) := by
  intro pins s σ H v u Q I r hw
  obtain ⟨a, xs, e1, hq, hl, hw⟩ := hw
  subst e1
  cases r
  obtain ⟨its, rv, ht, hz⟩ := I.tuple hq
  refine assign_Tuple_tuple (I.ok.hd hc) ht (by simp [hn, ← hl, rv.length]) hst fun h' hx => ?_
  have I1 : Inv X pins σ H { s with heap := h' } := I.kept (t' := s.toks) fun b o e => hx b o (Nat.ne_of_lt (Heap.lt_size e)) e
  exact h pins _ σ H xs _ Q I1 (by simpa using rv) hw
def gSub (to ti : TE) (t : TSet) : TG := fun v σ H Q => to σ H fun o H1 => ti σ H1 fun i H2 => t o i v H2 fun H3 => Q σ H3
theorem pg_sub {o i : Expr} {to ti : TE} {t : TSet} (ho : PE X o to) (hi : PE X i ti) (hs : PSet X t)
    (ha : ∀ v, assign (.Subscript o i pos) X.env v = (do
      let ov ← holding [v] (eval o X.env)
      let iv ← holding [v, ov] (eval i X.env)
      standAt pos
      holding [v, ov, iv] (setItem ov iv v)
      release [v, ov, iv] []) := by intro _; rfl) : PG X (.Subscript o i pos) (gSub to ti t) := by
  intro pins s σ H v u Q I r h
  rw [ha]
  refine wpAny_bind (wpAny_holding (thn (ho pins s σ H _ I h) fun ov s1 ⟨x, H1, I1, r1, q1⟩ => ?_))
  refine wpAny_bind (wpAny_holding (thn (hi pins s1 σ H1 _ I1 q1) fun iv s2 ⟨y, H2, I2, r2, q2⟩ => ?_))
  refine wpAny_bind (wpAny_standAt (wpAny_bind (wpAny_holding (thn (hs pins s2 σ H2 x y v ov iv u _ I2 r1 r2 r q2) fun _ s3 ⟨H3, I3, q3⟩ => ?_))))
  exact wpAny_release ⟨σ, H3, I3, q3⟩
def tAsg (te : TE) (g : TG) : TS := fun D σ H => te σ H fun x H1 => g x σ H1 D.nx
theorem ps_asg {tg e : Expr} {te : TE} {g : TG} (he : PE X e te) (hg : PG X tg g) (hs : swapsWithSole [tg] e pos.line X.env = pure false := by rfl) (hw : swappedStores [tg] e X.env = pure none := by rfl)
    (h1 : (assignEach [tg] X.env).map (·.2) = [assign tg X.env] := by rfl) : PS X (.Assign [tg] e pos) (tAsg te g) := by
  intro pins s σ H D I h
  refine wpAny_Assign_stores (thn (he pins s σ H _ I h) fun v s1 ⟨x, H1, I1, r1, q1⟩ => ?_) hs hw
  rw [h1]
  exact thn (hg pins s1 σ H1 x v _ I1 r1 q1) fun _ s2 q => q
theorem ps_set {i : Nat} {x : Str} {e : Expr} {te : TE} {pos' : Pos} (hN : X.N.Nodup) (hi : X.N[i]? = some x) (hx : Loc X.env.scope x) (he : PE X e te) (hs : swapsWith e (some (.Name x pos')) pos.line X.env = pure false := by rfl) (hf : X.fn x = true ∨ X.env.scope.names.lookup x = some .local := by first | exact .inl rfl | exact .inr rfl | assumption) :
    PS X (.Assign [.Name x pos'] e pos) (tAsg te (gName i)) := by
  intro pins s σ H D I h
  refine wpAny_Assign_Name (thn (he pins s σ H _ I h) fun v s1 ⟨y, H1, I1, r1, q1⟩ => ?_) hs
  exact store_ok I1 hN hi hx r1 (fun s2 I2 => ⟨_, H1, I2, q1⟩) hf
def tPar (i j : Nat) (ta : TA) : TS := fun D σ H => ta σ H fun vs H1 => ∃ v w, vs = [v, w] ∧ D.nx ((σ.set i (some v)).set j (some w)) H1
theorem ps_par {i j : Nat} {x y : Str} {a b : Expr} {ta : TA} {px py pt : Pos} {kt k2 pt2} (hc : X.calm = true) (hN : X.N.Nodup) (hi : X.N[i]? = some x) (hj : X.N[j]? = some y) (hij : i ≠ j)
    (hx : X.env.scope.names.lookup x = some .local) (hy : X.env.scope.names.lookup y = some .local) (ha : PA X [a, b] ta)
    (hw : swappedStores [.Tuple [.Name x px, .Name y py] kt pt] (.Tuple [a, b] k2 pt2) X.env = pure (some [x, y]))
    (hs : swapsWithSole [.Tuple [.Name x px, .Name y py] kt pt] (.Tuple [a, b] k2 pt2) pos.line X.env = pure false := by rfl) :
    PS X (.Assign [.Tuple [.Name x px, .Name y py] kt pt] (.Tuple [a, b] k2 pt2) pos) (tPar i j ta) := by
  intro pins s σ H D I h
  rw [exec_Assign_arm]
  refine wpAny_bind (wpAny_standAt ?_)
  rw [hs]
  refine wpAny_bind (wpAny_pure ?_)
  rw [if_neg (by decide)]
  refine wpAny_bind (Tuple_ (thn (ha _ pins s σ H _ I h) fun us s1 ⟨vs, H1, I1, r1, q1⟩ => ?_))
  obtain ⟨v, w, e1, q1⟩ := q1
  subst e1
  obtain ⟨u1, u2, rfl, rv, rw'⟩ : ∃ u1 u2, us = [u1, u2] ∧ RelV v u1 ∧ RelV w u2 := by
    cases r1 with
    | cons p q =>
      cases q with
      | cons p' q' =>
        cases q'
        exact ⟨_, _, rfl, p, p'⟩
  refine wpAny_newObj_type ?_ (by show 2 ≤ sizeLine; decide)
  have I2 : Inv X pins σ H1 { s1 with heap := s1.heap.push { cls := .type "tuple", data := .seq [u1, u2].toArray } } := I1.kept (t' := s1.toks) fun b o e => Heap.get?_push_of_some _ e
  rw [hw]
  refine wpAny_bind (wpAny_pure ?_)
  show wpAny (model X.prog X.w) X.A (do rule "assign.swapped-stores"; let items ← unpackItems (.ref s1.heap.objs.size) 2 none; assignInOrder [fun v => bindName X.env y v, fun v => bindName X.env x v] items.reverse; pure Flow.next) _ _ _
  refine wpAny_bind (wpAny_rule (wpAny_bind (unpackItems_tuple (items := #[u1, u2]) (I.ok.hd hc) (IsTup.new s1.heap _) fun h' hx' => ?_)))
  have I3 := I2.kept (h' := h') (t' := s1.toks) fun b o e => hx' b o (Nat.ne_of_lt (Heap.lt_size e)) e
  show wpAny _ _ (assignInOrder [fun v => bindName X.env y v, fun v => bindName X.env x v] [u2, u1] >>= fun _ => pure Flow.next) _ _ _
  refine wpAny_bind (assignInOrder_cons (wpAny_bindName (store_ok I3 hN hj (.inl hy) rw' (fun s2 I4 => ?_) (.inr hy))))
  refine assignInOrder_cons (wpAny_bindName (store_ok I4 hN hi (.inl hx) rv (fun s3 I5 => assignInOrder_nil (wpAny_pure ?_)) (.inr hx)))
  rw [List.set_comm _ _ (Ne.symm hij)] at I5
  exact ⟨_, H1, I5, q1⟩
end
section
variable {X : Cx} {pos : Pos}
def tWhile (c : TT) (tb : TS) : TS := fun D σ H => ∃ W : Nat → St → Hp → Prop, (∃ m, W m σ H) ∧ ∀ m σ H, W m σ H →
  c σ H fun b H1 => if b = true then ∃ N : St → Hp → Prop, (∀ σ' H', N σ' H' → ∃ m', m' < m ∧ W m' σ' H') ∧ tb { D with nx := N, ct := N, bk := D.nx } σ H1 else D.nx σ H1
theorem ps_while {c : Expr} {body : List Stmt} {tc : TT} {tb : TS} (hp : PassesOwn (model X.prog X.w) X.A X.env X.xe) (hc : PT X c tc) (hb : PSs X body tb) : PS X (.While c body [] pos) (tWhile tc tb) := by
  intro pins s σ H D I h
  obtain ⟨W, ⟨m0, w0⟩, turn⟩ := h
  refine wpAny_While (codeAny_whileLoop (fun n s' => ∃ σ' H', Inv X pins σ' H' s' ∧ W n σ' H') ?_ m0 ⟨σ, H, I, w0⟩)
  rintro n s1 ⟨σ1, H1, I1, w1⟩
  refine wpAny_passesOwn hp (thn (hc pins s1 σ1 H1 _ I1 (turn n σ1 H1 w1)) fun b s2 ⟨H2, I2, q2⟩ => ?_)
  cases b with
  | true =>
    obtain ⟨N, hN, q2⟩ := q2
    rw [if_pos rfl]
    refine wpAny_passesOwn hp (thn (hb pins s2 σ1 H2 _ I2 q2) fun f s3 q3 => ?_)
    cases f with
    | next =>
      obtain ⟨σ3, H3, I3, n3⟩ := q3
      obtain ⟨m', hm, w3⟩ := hN σ3 H3 n3
      exact ⟨m', hm, σ3, H3, I3, w3⟩
    | cont =>
      obtain ⟨σ3, H3, I3, n3⟩ := q3
      obtain ⟨m', hm, w3⟩ := hN σ3 H3 n3
      exact ⟨m', hm, σ3, H3, I3, w3⟩
    | brk => exact q3
    | ret v => exact q3
  | false =>
    rw [if_neg Bool.false_ne_true]
    exact wpAny_execs_nil ⟨σ1, H2, I2, q2⟩
end
structure It where
  go : Nat → Hp → Prop
  yld : Nat → Hp → V → Hp → Prop
  stop : Nat → Hp → Prop
def FpOk (X : Cx) (pins : List (Addr × Obj)) (H : Hp) (b : Addr) : Prop :=
  H b = none ∧ b ≠ X.env.locals ∧ b ∉ X.fs ∧ (b ∈ X.ex ∨ X.s₀.heap.objs.size ≤ b) ∧ (∀ x c, X.env.cells.lookup x = some c → c ≠ b) ∧ ∀ p ∈ X.pn ++ pins, p.1 ≠ b
theorem Inv.fpOk {X : Cx} {pins : List (Addr × Obj)} {σ : St} {H H' : Hp} {s : Shared} {b : Addr} (I : Inv X pins σ H s) (hb : s.heap.objs.size ≤ b) (hn : H' b = none) : FpOk X pins H' b := by
  refine ⟨hn, Nat.ne_of_gt (Nat.lt_of_lt_of_le I.lt hb), I.nofs hb, .inr (Nat.le_trans I.sz hb), fun x c e z => ?_, fun p hp z => ?_⟩
  · obtain ⟨v, q⟩ := I.cell x c e
    exact absurd (Nat.lt_of_lt_of_le q.lt (by rw [z]; exact hb)) (Nat.lt_irrefl _)
  · exact absurd (Nat.lt_of_lt_of_le (Heap.lt_size (I.pin p hp).1) (by rw [z]; exact hb)) (Nat.lt_irrefl _)
structure Turn (P : Program) (w : World) (K : PySem.W.Frag) (tg : Expr) (J : It) (fp : List Addr) (it : Addr) (tn : Nat → Heap → Prop) : Prop where
  mem : it ∈ fp
  obj : ∀ i h, tn i h → ∀ b ∈ fp, ∃ o, h.get? b = some o ∧ ∀ v, o.data ≠ .cell v
  keep : ∀ i h h', tn i h → (∀ b ∈ fp, ∀ o, h.get? b = some o → h'.get? b = some o) → tn i h'
  item : ∀ (X : Cx), X.prog = P → X.w = w → X.K = K → X.calm = true → ∀ (i : Nat) (pins : List (Addr × Obj)) (s : Shared) (σ : St) (H : Hp) (E : Value → Shared → Prop), Inv X pins σ H s → (∀ b ∈ fp, FpOk X pins H b) → tn i s.heap → J.go i H →
    wpAny (model P w) X.A (pyNext (.ref it)) (fun r s1 => ∃ u, r = some u ∧
      wpAny (model P w) X.A (letOwnedTupleGo tg (.ref it) u) (fun _ s2 => ∃ x H', Inv X pins σ H' s2 ∧ RelV x u ∧ J.yld i H x H' ∧ tn (i + 1) s2.heap ∧ ∀ b ∈ fp, H' b = none) E s1) E s
  done : ∀ (X : Cx), X.prog = P → X.w = w → X.K = K → X.calm = true → ∀ (i : Nat) (pins : List (Addr × Obj)) (s : Shared) (σ : St) (H : Hp) (E : Value → Shared → Prop), Inv X pins σ H s → (∀ b ∈ fp, FpOk X pins H b) → tn i s.heap → J.stop i H →
    wpAny (model P w) X.A (pyNext (.ref it)) (fun r s1 => r = none ∧ Inv X pins σ H s1) E s
  self : ∀ (A : Around) (i : Nat) (s : Shared) (Q : Value → Shared → Prop) (E : Value → Shared → Prop), tn i s.heap → Q (.ref it) s → wpAny (model P w) A (pyIter (.ref it)) Q E s
abbrev TI := St → Hp → (It → Hp → Prop) → Prop
def PIE (X : Cx) (pins : List (Addr × Obj)) (σ : St) (tg : Expr) (R : It → Hp → Prop) (itv : Value) (s2 : Shared) : Prop :=
  ∃ (it : Addr) (fp : List Addr) (tn : Nat → Heap → Prop) (J : It) (H' : Hp), itv = .ref it ∧ Inv X pins σ H' s2 ∧ Turn X.prog X.w X.K tg J fp it tn ∧ tn 0 s2.heap ∧ (∀ b ∈ fp, FpOk X pins H' b) ∧ R J H'
def PI (X : Cx) (tg iter : Expr) (wi : TI) : Prop :=
  ∀ (pins : List (Addr × Obj)) (s : Shared) (σ : St) (H : Hp) (R : It → Hp → Prop), Inv X pins σ H s → wi σ H R →
    wpAny (model X.prog X.w) X.A (eval iter X.env) (fun v s1 => wpAny (model X.prog X.w) X.A (pyIter v) (PIE X pins σ tg R) X.xe s1) X.xe s
theorem go_of {M : Model} {A : Around} {E : Value → Shared → Prop} {s : Shared} {tg : Expr} {it : Addr} {u : Value} {o : Obj} {n : String} {vs : Array Value} {Q : Unit → Shared → Prop} (ho : s.heap.get? it = some o) (hc : o.cls = .type n) (hd : o.data = .fields vs)
    (hn : ["enumerate", "zip", "dict_itemiterator", "dict_reverseitemiterator", "odict_iterator", "itertools.zip_longest", "itertools.pairwise"].contains n = false) (hQ : Q () s) : wpAny M A (letOwnedTupleGo tg (.ref it) u) Q E s := by
  unfold letOwnedTupleGo
  cases tg <;> first
    | exact wpAny_pure hQ
    | (cases u <;> first
        | exact wpAny_pure hQ
        | (refine wpAny_bind (wpAny_load ho ?_)
           rw [hc, hd]
           show wpAny M A (if (["enumerate", "zip", "dict_itemiterator", "dict_reverseitemiterator", "odict_iterator", "itertools.zip_longest", "itertools.pairwise"].contains n && vs[0]? == some (rawInt _)) = true then _ else _) Q E s
           rw [if_neg (by intro h; rw [hn, Bool.false_and] at h; cases h)]
           exact wpAny_pure hQ))
def Itl (K : PySem.W.Frag) (a : Addr) : It :=
  ⟨fun i H => ∃ xs x, SqL K H a xs ∧ xs[i]? = some x, fun i H x H' => H' = H ∧ ∀ xs, SqL K H a xs → xs[i]? = some x, fun i H => ∃ xs, SqL K H a xs ∧ xs.length ≤ i⟩
def Itt (K : PySem.W.Frag) (a : Addr) : It :=
  ⟨fun i H => ∃ xs x, SqT K H a xs ∧ xs[i]? = some x, fun i H x H' => H' = H ∧ ∀ xs, SqT K H a xs → xs[i]? = some x, fun i H => ∃ xs, SqT K H a xs ∧ xs.length ≤ i⟩
def Itr (lo : Int) (n : Nat) : It := ⟨fun i _ => i < n, fun i H x H' => H' = H ∧ x = .int (lo + i), fun i _ => n ≤ i⟩
theorem turn_list {P : Program} {w : World} {K : PySem.W.Frag} {tg : Expr} (a it : Addr) : Turn P w K tg (Itl K a) [it] it (fun i h => h.IsListIter it a i) where
  mem := by simp
  obj := fun i h st b hb => by
    have e : b = it := by simpa using hb
    subst e
    obtain ⟨o, e, c, d⟩ := st
    exact ⟨o, e, fun v z => by rw [d] at z; cases z⟩
  keep := fun i h h' st k => st.at fun o e => k it (by simp) o e
  item := by
    intro X hP hw hK hc i pins s σ H E I hf st hg
    subst hP hw hK
    obtain ⟨xs, x, hq, hx⟩ := hg
    obtain ⟨its, rv, p, hz⟩ := I.list hq
    obtain ⟨u, hu, ru⟩ := rv.get hx
    obtain ⟨f0, f1, f2, f3, f4, f5⟩ := hf it (by simp)
    refine wpAny_pyNext_list_item st p.isList (x := u) (by simpa using hu) fun h' st' sb => ?_
    have I1 : Inv X pins σ H { s with heap := h' } := I.turned (t' := s.toks) (fun b o hb e => (sb.2 b hb).trans e) f0 f1 f3 f4 f5
    obtain ⟨o, e, c, d⟩ := id st'
    exact ⟨u, rfl, go_of (s := { s with heap := h' }) e c d (by decide) ⟨x, H, I1, ru, ⟨rfl, fun ys hy => by rw [I.list_inj hy hq]; exact hx⟩, st', fun b hb => (hf b hb).1⟩⟩
  done := by
    intro X hP hw hK hc i pins s σ H E I hf st hg
    subst hP hw hK
    obtain ⟨xs, hq, hx⟩ := hg
    obtain ⟨its, rv, p, hz⟩ := I.list hq
    obtain ⟨f0, f1, f2, f3, f4, f5⟩ := hf it (by simp)
    have hl := rv.length
    exact wpAny_pyNext_list_end (I.ok.hd hc) st p.isList (by simp; omega) fun h' eb => ⟨rfl, I.turned (t' := s.toks) (fun b o hb e => eb b o hb e) f0 f1 f3 f4 f5⟩
  self := fun _ _ _ _ _ st h => wpAny_pyIter_listiter st h
theorem turn_tuple {P : Program} {w : World} {K : PySem.W.Frag} {tg : Expr} (a it : Addr) : Turn P w K tg (Itt K a) [it] it (fun i h => h.IsTupleIter it a i) where
  mem := by simp
  obj := fun i h st b hb => by
    have e : b = it := by simpa using hb
    subst e
    obtain ⟨o, e, c, d⟩ := st
    exact ⟨o, e, fun v z => by rw [d] at z; cases z⟩
  keep := fun i h h' st k => st.at fun o e => k it (by simp) o e
  item := by
    intro X hP hw hK hc i pins s σ H E I hf st hg
    subst hP hw hK
    obtain ⟨xs, x, hq, hx⟩ := hg
    obtain ⟨its, rv, p, hz⟩ := I.tuple hq
    obtain ⟨u, hu, ru⟩ := rv.get hx
    obtain ⟨f0, f1, f2, f3, f4, f5⟩ := hf it (by simp)
    refine wpAny_pyNext_tuple_item st (show s.heap.IsTuple a its.toArray from p) (x := u) (by simpa using hu) fun h' st' sb => ?_
    have I1 : Inv X pins σ H { s with heap := h' } := I.turned (t' := s.toks) (fun b o hb e => (sb.2 b hb).trans e) f0 f1 f3 f4 f5
    obtain ⟨o, e, c, d⟩ := id st'
    exact ⟨u, rfl, go_of (s := { s with heap := h' }) e c d (by decide) ⟨x, H, I1, ru, ⟨rfl, fun ys hy => by rw [I.tuple_inj hy hq]; exact hx⟩, st', fun b hb => (hf b hb).1⟩⟩
  done := by
    intro X hP hw hK hc i pins s σ H E I hf st hg
    subst hP hw hK
    obtain ⟨xs, hq, hx⟩ := hg
    obtain ⟨its, rv, p, hz⟩ := I.tuple hq
    obtain ⟨f0, f1, f2, f3, f4, f5⟩ := hf it (by simp)
    have hl := rv.length
    exact wpAny_pyNext_tuple_end (I.ok.hd hc) st (show s.heap.IsTuple a its.toArray from p) (by simp; omega) fun h' eb => ⟨rfl, I.turned (t' := s.toks) (fun b o hb e => eb b o hb e) f0 f1 f3 f4 f5⟩
  self := fun _ _ _ _ _ st h => wpAny_pyIter_tupleiter st h
theorem turn_range {P : Program} {w : World} {K : PySem.W.Frag} {tg : Expr} (it : Addr) (lo : Int) (n : Nat) : Turn P w K tg (Itr lo n) [it] it (fun i h => IsRangeIter h it (lo + (i : Nat) * 1) ((n : Int) - (i : Nat)) 1) where
  mem := by simp
  obj := fun i h st b hb => by
    have e : b = it := by simpa using hb
    subst e
    exact ⟨_, st, fun v z => by
      have z' : Data.fields _ = Data.cell v := z
      cases z'⟩
  keep := fun i h h' st k => k it (by simp) _ st
  item := by
    intro X hP hw hK hc i pins s σ H E I hf st hg
    subst hP hw hK
    obtain ⟨f0, f1, f2, f3, f4, f5⟩ := hf it (by simp)
    have W := Walks.range (prog := X.prog) (w := X.w) (I.ok.hd hc) it lo 1 n
    refine W.item i s _ _ hg st fun v h' tk hv st' kk => ?_
    obtain ⟨t, rfl⟩ := hv
    have I1 : Inv X pins σ H { s with heap := h', toks := tk } := I.turned (fun b o hb e => kk b o (by simpa using hb) e) f0 f1 f3 f4 f5
    refine ⟨_, rfl, go_of (s := { s with heap := h', toks := tk }) (n := "range_iterator") st' rfl rfl (by decide) ⟨.int (lo + i), H, I1, ⟨t, ?_⟩, ⟨rfl, rfl⟩, st', fun b hb => (hf b hb).1⟩⟩
    rw [Int.mul_one]
  done := by
    intro X hP hw hK hc i pins s σ H E I hf st hg
    subst hP hw hK
    obtain ⟨f0, f1, f2, f3, f4, f5⟩ := hf it (by simp)
    exact wpAny_pyNext_range_end (I.ok.hd hc) st (by have : n ≤ i := hg; omega) fun h' eb => ⟨rfl, I.turned (t' := s.toks) (fun b o hb e => eb b o hb e) f0 f1 f3 f4 f5⟩
  self := fun _ _ _ _ _ st h => wpAny_pyIter_rangeiter st h
end L2
namespace L2
open PySem PySem.Spec PyProof.Rows
section
variable {X : Cx} {tg : Expr}
def iList (K : PySem.W.Frag) (tl : TE) : TI := fun σ H R => tl σ H fun x H1 => ∃ a, x = .ref a ∧ (∃ xs, SqL K H1 a xs) ∧ R (Itl K a) H1
def iTup (K : PySem.W.Frag) (tl : TE) : TI := fun σ H R => tl σ H fun x H1 => ∃ a, x = .ref a ∧ (∃ xs, SqT K H1 a xs) ∧ R (Itt K a) H1
theorem pi_list {l : Expr} {tl : TE} (hl : PE X l tl) : PI X tg l (iList X.K tl) := by
  intro pins s σ H R I h
  refine thn (hl pins s σ H _ I h) fun v s1 ⟨x, H1, I1, r1, q1⟩ => ?_
  obtain ⟨a, e, ⟨xs, hq⟩, q⟩ := q1
  subst e
  cases r1
  obtain ⟨its, rv, p, hz⟩ := I1.list hq
  refine wpAny_pyIter_list p.isList ?_
  refine ⟨s1.heap.objs.size, [s1.heap.objs.size], _, _, H1, rfl, I1.kept (t' := s1.toks) fun b o e => Heap.get?_push_of_some _ e, turn_list a _, ⟨_, Heap.get?_push_size _ rfl, rfl, rfl⟩, fun b hb => ?_, q⟩
  have e : b = s1.heap.objs.size := by simpa using hb
  subst e
  exact I1.fpOk (Nat.le_refl _) (I1.hok.fresh (Nat.le_refl _))
theorem pi_tup {l : Expr} {tl : TE} (hl : PE X l tl) : PI X tg l (iTup X.K tl) := by
  intro pins s σ H R I h
  refine thn (hl pins s σ H _ I h) fun v s1 ⟨x, H1, I1, r1, q1⟩ => ?_
  obtain ⟨a, e, ⟨xs, hq⟩, q⟩ := q1
  subst e
  cases r1
  obtain ⟨its, rv, p, hz⟩ := I1.tuple hq
  refine wpAny_pyIter_tuple (show s1.heap.IsTuple a its.toArray from p) ?_
  refine ⟨s1.heap.objs.size, [s1.heap.objs.size], _, _, H1, rfl, I1.kept (t' := s1.toks) fun b o e => Heap.get?_push_of_some _ e, turn_tuple a _, ⟨_, Heap.get?_push_size _ rfl, rfl, rfl⟩, fun b hb => ?_, q⟩
  have e : b = s1.heap.objs.size := by simpa using hb
  subst e
  exact I1.fpOk (Nat.le_refl _) (I1.hok.fresh (Nat.le_refl _))
theorem range_it {pins : List (Addr × Obj)} {σ : St} {H : Hp} {s : Shared} {R : It → Hp → Prop} {E : Value → Shared → Prop} {lo hi : Int} {t u v : Tok} {tk : Nat} (I : Inv X pins σ H s) (h1 : -(2 ^ 62) ≤ lo) (h2 : lo < 2 ^ 62) (h3 : -(2 ^ 62) ≤ hi) (h4 : hi < 2 ^ 62)
    (q : R (Itr lo (hi - lo).toNat) H) : wpAny (model X.prog X.w) X.A (pyIter (.ref s.heap.objs.size)) (PIE X pins σ tg R) E { s with heap := s.heap.push { cls := .type "range", data := .fields #[.int lo t, .int hi u, .int 1 v] }, toks := tk } := by
  refine wpAny_pyIter_range (IsRange.new ..) (small_one h1 h2 h3 h4) ?_
  have I1 : Inv X pins σ H { s with heap := s.heap.push { cls := .type "range", data := .fields #[.int lo t, .int hi u, .int 1 v] }, toks := tk } := I.kept fun b o e => Heap.get?_push_of_some _ e
  refine ⟨(s.heap.push { cls := .type "range", data := .fields #[.int lo t, .int hi u, .int 1 v] }).objs.size, [(s.heap.push { cls := .type "range", data := .fields #[.int lo t, .int hi u, .int 1 v] }).objs.size], _, _, H, rfl,
    I1.kept (t' := tk) fun b o e => Heap.get?_push_of_some _ e, turn_range _ lo (hi - lo).toNat, ?_, fun b hb => ?_, q⟩
  · have e1 : lo + ((0 : Nat) : Int) * 1 = lo := by simp
    have e2 : (((hi - lo).toNat : Nat) : Int) - ((0 : Nat) : Int) = Builtin.Range.rangeSize lo hi 1 := by rw [rangeSize_one]; split <;> omega
    show IsRangeIter _ _ (lo + ((0 : Nat) : Int) * 1) ((((hi - lo).toNat : Nat) : Int) - ((0 : Nat) : Int)) 1
    rw [e1, e2]
    exact Heap.get?_push_size _ rfl
  · have e : b = (s.heap.push { cls := .type "range", data := .fields #[.int lo t, .int hi u, .int 1 v] }).objs.size := by simpa using hb
    subst e
    exact I1.fpOk (Nat.le_refl _) (I1.hok.fresh (Nat.le_refl _))
def iRng1 (ta : TA) : TI := fun σ H R => ta σ H fun vs H1 => ∃ j : Int, vs = [.int j] ∧ -(2 ^ 62) ≤ j ∧ j < 2 ^ 62 ∧ R (Itr 0 j.toNat) H1
theorem pi_range1 {a : Expr} {ta : TA} {p pos : Pos} (hg : Gl X "range") (hm : X.mg "range" = none) (ha : PA X [a] ta) (hs : starEach [a] X.env = [(false, eval a X.env)] := by rfl) : PI X tg (.Call (.Name "range" p) [a] [] pos) (iRng1 ta) := by
  intro pins s σ H R I h
  refine Call_ (ld_blt I hg hm boot_range (PyProof.Rows.callWith_type1 (thn (ha pos pins s σ H _ I h) fun us s1 ⟨vs, H1, I1, r1, q1⟩ => ?_) hs rfl))
  obtain ⟨j, e, q1, q2, q⟩ := q1
  subst e
  cases r1 with
  | cons r rr =>
    cases rr
    obtain ⟨t, rfl⟩ := r
    exact call_range_1 (range_it I1 (by omega) (by omega) q1 q2 (by simpa using q))
def tFor (wi : TI) (g : TG) (tb : TS) : TS := fun D σ H => wi σ H fun J H1 => ∃ W : Nat → Nat → St → Hp → Prop, (∃ m, W 0 m σ H1) ∧ ∀ i m σ H, W i m σ H →
  (J.stop i H ∧ D.nx σ H) ∨ (J.go i H ∧ ∃ N : St → Hp → Prop, (∀ σ' H', N σ' H' → ∃ m', m' < m ∧ W (i + 1) m' σ' H') ∧ ∀ x H', J.yld i H x H' → g x σ H' fun σ2 H2 => tb { D with nx := N, ct := N, bk := D.nx } σ2 H2)
def pinsAt (fp : List Addr) (h : Heap) : List (Addr × Obj) := fp.filterMap fun b => (h.get? b).map fun o => (b, o)
theorem mem_pinsAt {fp : List Addr} {h : Heap} {b : Addr} {o : Obj} (hb : b ∈ fp) (e : h.get? b = some o) : (b, o) ∈ pinsAt fp h := List.mem_filterMap.mpr ⟨b, hb, by rw [e]; rfl⟩
theorem of_pinsAt {fp : List Addr} {h : Heap} {p : Addr × Obj} (hp : p ∈ pinsAt fp h) : p.1 ∈ fp ∧ h.get? p.1 = some p.2 := by
  obtain ⟨b, hb, e⟩ := List.mem_filterMap.mp hp
  cases q : h.get? b with
  | none => rw [q] at e; cases e
  | some o =>
    rw [q] at e
    have e' : (b, o) = p := Option.some.inj e
    subst e'
    exact ⟨hb, q⟩
theorem Inv.pinned {pins : List (Addr × Obj)} {σ : St} {H : Hp} {s : Shared} {fp : List Addr} (I : Inv X pins σ H s) (hf : ∀ b ∈ fp, FpOk X pins H b) (ho : ∀ b ∈ fp, ∃ o, s.heap.get? b = some o ∧ ∀ v, o.data ≠ .cell v) : Inv X (pins ++ pinsAt fp s.heap) σ H s :=
  I.pins_of fun p hp => (List.mem_append.mp hp).elim (fun z => I.pin p (List.mem_append_right _ z)) fun z => by
    obtain ⟨hb, e⟩ := of_pinsAt z
    obtain ⟨f0, f1, f2, _⟩ := hf p.1 hb
    obtain ⟨o, e', d⟩ := ho p.1 hb
    rw [e] at e'; cases e'
    exact ⟨e, f0, f1, f2, d⟩
theorem Inv.unpinned {pins pl : List (Addr × Obj)} {σ : St} {H : Hp} {s : Shared} (I : Inv X (pins ++ pl) σ H s) : Inv X pins σ H s := I.pins_of fun p hp => I.pin p (List.mem_append_right _ (List.mem_append_left _ hp))
theorem ps_for {iter : Expr} {body : List Stmt} {wi : TI} {g : TG} {tb : TS} {pos : Pos} (hp : PassesOwn (model X.prog X.w) X.A X.env X.xe) (hc : X.calm = true) (hi : PI X tg iter wi) (hg : PG X tg g) (hb : PSs X body tb)
    (hs : ∀ x, foldedSetIterable iter X.env x = pure x := by intro _; rfl) : PS X (.For tg iter body [] pos) (tFor wi g tb) := by
  intro pins s σ H D I h
  refine wpAny_For (thn (hi pins s σ H _ I h) fun v s1 h1 => thn h1 fun itv s2 h2 => ?_) hs
  obtain ⟨it, fp, tn, J, H2, e, I2, T, st2, f2, W, ⟨m0, w0⟩, turn⟩ := h2
  subst e
  -- what stays true of the iterator's objects through the loop
  have stat : ∀ {H' : Hp}, (∀ b ∈ fp, H' b = none) → ∀ b ∈ fp, FpOk X pins H' b := fun hn b hb => ⟨hn b hb, (f2 b hb).2⟩
  refine codeAny_forLoop_any (fun n s' => ∃ i σ' H', Inv X pins σ' H' s' ∧ tn i s'.heap ∧ (∀ b ∈ fp, H' b = none) ∧ W i n σ' H') ?_ m0 ⟨0, σ, H2, I2, st2, fun b hb => (f2 b hb).1, w0⟩
  rintro n s3 ⟨i, σ3, H3, I3, st3, fr3, w3⟩
  rcases turn i n σ3 H3 w3 with ⟨stop, qn⟩ | ⟨go, N, hN, step⟩
  · refine wpAny_passesOwn hp (thn (T.done X rfl rfl rfl hc i pins s3 σ3 H3 X.xe I3 (stat fr3) st3 stop) fun r s4 ⟨hr, I4⟩ => ?_)
    subst hr
    exact wpAny_execs_nil ⟨σ3, H3, I4, qn⟩
  · refine wpAny_passesOwn hp (thn (T.item X rfl rfl rfl hc i pins s3 σ3 H3 X.xe I3 (stat fr3) st3 go) fun r s4 ⟨u, hr, h4⟩ => ?_)
    subst hr
    refine wpAny_passesOwn hp (thn h4 fun _ s5 ⟨x, H5, I5, r5, y5, st5, fr5⟩ => ?_)
    have I5' := I5.pinned (stat fr5) (T.obj _ _ st5)
    refine wpAny_passesOwn hp (thn (hg _ s5 σ3 H5 x u _ I5' r5 (step x H5 y5)) fun _ s6 ⟨σ6, H6, I6, q6⟩ => ?_)
    refine wpAny_passesOwn hp (thn (hb _ s6 σ6 H6 _ I6 q6) fun f s7 q7 => ?_)
    have again : ∀ {σ7 : St} {H7 : Hp}, Inv X (pins ++ pinsAt fp s5.heap) σ7 H7 s7 → N σ7 H7 → ∃ m, m < n ∧ ∃ i σ' H', Inv X pins σ' H' s7 ∧ tn i s7.heap ∧ (∀ b ∈ fp, H' b = none) ∧ W i m σ' H' := fun {σ7 H7} I7 n7 => by
      obtain ⟨m', hm, w7⟩ := hN σ7 H7 n7
      refine ⟨m', hm, i + 1, σ7, H7, I7.unpinned, T.keep _ _ _ st5 fun b hb o e => (I7.pin (b, o) (List.mem_append_right _ (List.mem_append_right _ (mem_pinsAt hb e)))).1, fun b hb => ?_, w7⟩
      obtain ⟨o, e, d⟩ := T.obj _ _ st5 b hb
      exact (I7.pin (b, o) (List.mem_append_right _ (List.mem_append_right _ (mem_pinsAt hb e)))).2.1
    cases f with
    | next => obtain ⟨σ7, H7, I7, n7⟩ := q7; exact again I7 n7
    | cont => obtain ⟨σ7, H7, I7, n7⟩ := q7; exact again I7 n7
    | brk => obtain ⟨σ7, H7, I7, q7⟩ := q7; exact ⟨σ7, H7, I7.unpinned, q7⟩
    | ret v => obtain ⟨x7, σ7, H7, I7, r7, q7⟩ := q7; exact ⟨x7, σ7, H7, I7.unpinned, r7, q7⟩
end
theorem for_list {K : PySem.W.Frag} {a : Addr} {xs : List V} {g : TG} {tb : TS} {D : Ends} {σ : St} {H : Hp} (Pv : Nat → St → Hp → Prop) (h0 : Pv 0 σ H) (hl : ∀ i σ H, i ≤ xs.length → Pv i σ H → SqL K H a xs)
    (hs : ∀ i x σ H, xs[i]? = some x → Pv i σ H → g x σ H fun σ2 H2 => tb { D with nx := Pv (i + 1), ct := Pv (i + 1), bk := D.nx } σ2 H2) (hd : ∀ σ H, Pv xs.length σ H → D.nx σ H) :
    ∃ W : Nat → Nat → St → Hp → Prop, (∃ m, W 0 m σ H) ∧ ∀ i m σ H, W i m σ H →
      ((Itl K a).stop i H ∧ D.nx σ H) ∨ ((Itl K a).go i H ∧ ∃ N : St → Hp → Prop, (∀ σ' H', N σ' H' → ∃ m', m' < m ∧ W (i + 1) m' σ' H') ∧ ∀ x H', (Itl K a).yld i H x H' → g x σ H' fun σ2 H2 => tb { D with nx := N, ct := N, bk := D.nx } σ2 H2) := by
  refine ⟨fun i m σ H => m = xs.length - i ∧ i ≤ xs.length ∧ Pv i σ H, ⟨xs.length, by simp, Nat.zero_le _, h0⟩, ?_⟩
  rintro i m σ H ⟨rfl, hi, p⟩
  have q := hl i σ H hi p
  by_cases hlt : i < xs.length
  · refine .inr ⟨⟨xs, xs[i], q, by simp [hlt]⟩, Pv (i + 1), fun σ' H' p' => ⟨xs.length - (i + 1), by omega, rfl, hlt, p'⟩, fun x H' y => ?_⟩
    obtain ⟨e, y⟩ := y
    subst e
    exact hs i x σ _ (y xs q) p
  · have e : i = xs.length := by omega
    subst e
    exact .inl ⟨⟨xs, q, Nat.le_refl _⟩, hd σ H p⟩
theorem for_tup {K : PySem.W.Frag} {a : Addr} {xs : List V} {g : TG} {tb : TS} {D : Ends} {σ : St} {H : Hp} (Pv : Nat → St → Hp → Prop) (h0 : Pv 0 σ H) (hl : ∀ i σ H, i ≤ xs.length → Pv i σ H → SqT K H a xs)
    (hs : ∀ i x σ H, xs[i]? = some x → Pv i σ H → g x σ H fun σ2 H2 => tb { D with nx := Pv (i + 1), ct := Pv (i + 1), bk := D.nx } σ2 H2) (hd : ∀ σ H, Pv xs.length σ H → D.nx σ H) :
    ∃ W : Nat → Nat → St → Hp → Prop, (∃ m, W 0 m σ H) ∧ ∀ i m σ H, W i m σ H →
      ((Itt K a).stop i H ∧ D.nx σ H) ∨ ((Itt K a).go i H ∧ ∃ N : St → Hp → Prop, (∀ σ' H', N σ' H' → ∃ m', m' < m ∧ W (i + 1) m' σ' H') ∧ ∀ x H', (Itt K a).yld i H x H' → g x σ H' fun σ2 H2 => tb { D with nx := N, ct := N, bk := D.nx } σ2 H2) := by
  refine ⟨fun i m σ H => m = xs.length - i ∧ i ≤ xs.length ∧ Pv i σ H, ⟨xs.length, by simp, Nat.zero_le _, h0⟩, ?_⟩
  rintro i m σ H ⟨rfl, hi, p⟩
  have q := hl i σ H hi p
  by_cases hlt : i < xs.length
  · refine .inr ⟨⟨xs, xs[i], q, by simp [hlt]⟩, Pv (i + 1), fun σ' H' p' => ⟨xs.length - (i + 1), by omega, rfl, hlt, p'⟩, fun x H' y => ?_⟩
    obtain ⟨e, y⟩ := y
    subst e
    exact hs i x σ _ (y xs q) p
  · have e : i = xs.length := by omega
    subst e
    exact .inl ⟨⟨xs, q, Nat.le_refl _⟩, hd σ H p⟩
theorem for_range {lo : Int} {n : Nat} {g : TG} {tb : TS} {D : Ends} {σ : St} {H : Hp} (Pv : Nat → St → Hp → Prop) (h0 : Pv 0 σ H)
    (hs : ∀ i σ H, i < n → Pv i σ H → g (.int (lo + i)) σ H fun σ2 H2 => tb { D with nx := Pv (i + 1), ct := Pv (i + 1), bk := D.nx } σ2 H2) (hd : ∀ σ H, Pv n σ H → D.nx σ H) :
    ∃ W : Nat → Nat → St → Hp → Prop, (∃ m, W 0 m σ H) ∧ ∀ i m σ H, W i m σ H →
      ((Itr lo n).stop i H ∧ D.nx σ H) ∨ ((Itr lo n).go i H ∧ ∃ N : St → Hp → Prop, (∀ σ' H', N σ' H' → ∃ m', m' < m ∧ W (i + 1) m' σ' H') ∧ ∀ x H', (Itr lo n).yld i H x H' → g x σ H' fun σ2 H2 => tb { D with nx := N, ct := N, bk := D.nx } σ2 H2) := by
  refine ⟨fun i m σ H => m = n - i ∧ i ≤ n ∧ Pv i σ H, ⟨n, by simp, Nat.zero_le _, h0⟩, ?_⟩
  rintro i m σ H ⟨rfl, hi, p⟩
  by_cases hlt : i < n
  · refine .inr ⟨hlt, Pv (i + 1), fun σ' H' p' => ⟨n - (i + 1), by omega, rfl, hlt, p'⟩, fun x H' y => ?_⟩
    obtain ⟨e, y⟩ := y
    subst e y
    exact hs i σ _ hlt p
  · have e : i = n := by omega
    subst e
    exact .inl ⟨Nat.le_refl _, hd σ H p⟩
theorem while_by {c : TT} {tb : TS} {D : Ends} {σ : St} {H : Hp} (Pv : St → Hp → Prop) (μ : St → Hp → Nat) (h0 : Pv σ H)
    (hs : ∀ σ H, Pv σ H → c σ H fun b H1 => if b = true then tb { D with nx := fun σ' H' => Pv σ' H' ∧ μ σ' H' < μ σ H, ct := fun σ' H' => Pv σ' H' ∧ μ σ' H' < μ σ H, bk := D.nx } σ H1 else D.nx σ H1)
    (mono : ∀ σ H Q Q', (∀ b H1, Q b H1 → Q' b H1) → c σ H Q → c σ H Q') : tWhile c tb D σ H := by
  refine ⟨fun m σ H => m = μ σ H ∧ Pv σ H, ⟨_, rfl, h0⟩, ?_⟩
  rintro m σ H ⟨rfl, p⟩
  refine mono σ H _ _ (fun b H1 q => ?_) (hs σ H p)
  cases b with
  | true => exact ⟨_, fun σ' H' ⟨p', l⟩ => ⟨_, l, rfl, p'⟩, q⟩
  | false => exact q
end L2
namespace L2
open PySem PySem.Spec PyProof.Rows
abbrev R2 := V → V → Hp → VK → Prop
def OpR (X : Cx) (f : Value → Value → Sem Value) (r : R2) : Prop :=
  ∀ (pins : List (Addr × Obj)) (s : Shared) (σ : St) (H : Hp) (x y : V) (v u : Value) (Q : VK), Inv X pins σ H s → RelV x v → RelV y u → r x y H Q →
    wpAny (model X.prog X.w) X.A (f v u) (EP X pins σ Q) X.xe s
def UnR (X : Cx) (f : Value → Sem Value) (r : V → Hp → VK → Prop) : Prop :=
  ∀ (pins : List (Addr × Obj)) (s : Shared) (σ : St) (H : Hp) (x : V) (v : Value) (Q : VK), Inv X pins σ H s → RelV x v → r x H Q →
    wpAny (model X.prog X.w) X.A (f v) (EP X pins σ Q) X.xe s
def CallR (X : Cx) (f : Value) (r : List V → Hp → VK → Prop) : Prop :=
  ∀ (pins : List (Addr × Obj)) (s : Shared) (σ : St) (H : Hp) (xs : List V) (us : List Value) (Q : VK), Inv X pins σ H s → Vals xs us → r xs H Q →
    wpAny (model X.prog X.w) X.A (call f us) (EP X pins σ Q) X.xe s
def tOp (r : R2) (ta tb : TE) : TE := fun σ H Q => ta σ H fun x H1 => tb σ H1 fun y H2 => r x y H2 Q
def tUn (r : V → Hp → VK → Prop) (ta : TE) : TE := fun σ H Q => ta σ H fun x H1 => r x H1 Q
def rI (C : Int → Int → Prop) (g : Int → Int → V) : R2 := fun x y H Q => ∃ i j, x = .int i ∧ y = .int j ∧ C i j ∧ Q (g i j) H
def rI0 (g : Int → Int → V) : R2 := fun x y H Q => ∃ i j, x = .int i ∧ y = .int j ∧ Q (g i j) H
def rU (g : Int → V) : V → Hp → VK → Prop := fun x H Q => ∃ i, x = .int i ∧ Q (g i) H
section
variable {X : Cx} {a b c : Expr} {ta tb tc : TE} {pos : Pos}
theorem binT (ha : PE X a ta) (hb : PE X b tb) {pins : List (Addr × Obj)} {s : Shared} {σ : St} {H : Hp} {R : V → V → Hp → Prop} (I : Inv X pins σ H s)
    (h : ta σ H fun x H1 => tb σ H1 fun y H2 => R x y H2) {Q : Value → Shared → Prop} {f : Value → Value → Sem Value}
    (hf : ∀ v u s2 x y H2, Inv X pins σ H2 s2 → RelV x v → RelV y u → R x y H2 → wpAny (model X.prog X.w) X.A (f v u) Q X.xe s2) :
    wpAny (model X.prog X.w) X.A (eval a X.env) (fun v s₁ => wpAny (model X.prog X.w) X.A (eval b X.env) (fun u s₂ => wpAny (model X.prog X.w) X.A (f v u) Q X.xe s₂) X.xe s₁) X.xe s := by
  refine thn (ha pins s σ H _ I h) fun v s1 ⟨x, H1, I1, r1, q1⟩ => ?_
  refine thn (hb pins s1 σ H1 _ I1 q1) fun u s2 ⟨y, H2, I2, r2, q2⟩ => ?_
  exact hf v u s2 x y H2 I2 r1 r2 q2
theorem pe_op {op : Operator} {r : R2} (ho : OpR X (binaryOp op) r) (ha : PE X a ta) (hb : PE X b tb) : PE X (.BinOp a op b pos) (tOp r ta tb) := by
  intro pins s σ H Q I h
  exact wpAny_BinOp (binT ha hb I h fun v u s2 x y H2 I2 rx ry q => ho pins s2 σ H2 x y v u Q I2 rx ry q)
theorem pe_un {op : UnaryOp} {r : V → Hp → VK → Prop} (ho : UnR X (unaryOp op) r) (ha : PE X a ta) : PE X (.UnaryOp op a pos) (tUn r ta) := by
  intro pins s σ H Q I h
  exact UnaryOp_ (thn (ha pins s σ H _ I h) fun v s1 ⟨x, H1, I1, r1, q1⟩ => ho pins s1 σ H1 x v Q I1 r1 q1)
theorem opI {f : Value → Value → Sem Value} {C : Int → Int → Prop} {g : Int → Int → Int}
    (rule : ∀ (i j : Int) (t u : Tok) (s : Shared) (Q : Value → Shared → Prop) (E : Value → Shared → Prop), C i j → Q (.int (g i j) s.toks) { s with toks := s.toks + 1 } → wpAny (model X.prog X.w) X.A (f (.int i t) (.int j u)) Q E s) :
    OpR X f (rI C fun i j => .int (g i j)) := by
  intro pins s σ H x y v u Q I rx ry h
  obtain ⟨i, j, rfl, rfl, hc, q⟩ := h
  obtain ⟨t, rfl⟩ := rx
  obtain ⟨t', rfl⟩ := ry
  exact rule i j t t' s _ _ hc ⟨.int (g i j), H, I.tok _, ⟨_, rfl⟩, q⟩
theorem opI0 {f : Value → Value → Sem Value} {g : Int → Int → Int}
    (rule : ∀ (i j : Int) (t u : Tok) (s : Shared) (Q : Value → Shared → Prop) (E : Value → Shared → Prop), Q (.int (g i j) s.toks) { s with toks := s.toks + 1 } → wpAny (model X.prog X.w) X.A (f (.int i t) (.int j u)) Q E s) :
    OpR X f (rI0 fun i j => .int (g i j)) := by
  intro pins s σ H x y v u Q I rx ry h
  obtain ⟨i, j, rfl, rfl, q⟩ := h
  obtain ⟨t, rfl⟩ := rx
  obtain ⟨t', rfl⟩ := ry
  exact rule i j t t' s _ _ ⟨.int (g i j), H, I.tok _, ⟨_, rfl⟩, q⟩
theorem opB0 {f : Value → Value → Sem Value} {g : Int → Int → Bool}
    (rule : ∀ (i j : Int) (t u : Tok) (s : Shared) (Q : Value → Shared → Prop) (E : Value → Shared → Prop), Q (.bool (g i j)) s → wpAny (model X.prog X.w) X.A (f (.int i t) (.int j u)) Q E s) :
    OpR X f (rI0 fun i j => .bl (g i j)) := by
  intro pins s σ H x y v u Q I rx ry h
  obtain ⟨i, j, rfl, rfl, q⟩ := h
  obtain ⟨t, rfl⟩ := rx
  obtain ⟨t', rfl⟩ := ry
  exact rule i j t t' s _ _ ⟨.bl (g i j), H, I, rfl, q⟩
def CDiv (i j : Int) : Prop := 0 < j ∧ j < 1073741824
def CMul (i j : Int) : Prop := (-(2 ^ 64) < i ∧ i < 2 ^ 64) ∨ (-(2 ^ 64) < j ∧ j < 2 ^ 64)
theorem CMul.ok {i j : Int} (h : CMul i j) : IntMulOk i j := by
  rcases h with ⟨h1, h2⟩ | ⟨h1, h2⟩
  · exact .of_left (intBits_le_64 h1 h2)
  · exact .of_right (intBits_le_64 h1 h2)
theorem op_add : OpR X (binaryOp .Add) (rI0 fun i j => .int (i + j)) := opI0 fun _ _ _ _ _ _ _ q => add_int q
theorem op_sub : OpR X (binaryOp .Sub) (rI0 fun i j => .int (i - j)) := opI0 fun _ _ _ _ _ _ _ q => sub_int q
theorem op_mul : OpR X (binaryOp .Mult) (rI CMul fun i j => .int (i * j)) := opI fun _ _ _ _ _ _ _ hc q => mul_int q hc.ok
theorem op_fdiv : OpR X (binaryOp .FloorDiv) (rI CDiv fun i j => .int (i / j)) := opI fun i j _ _ _ _ _ hc q => by
  have h1 : (0 : Int) < j := hc.1
  have h2 : j < 1073741824 := hc.2
  exact floordiv_int (by omega) (by rw [Int.fdiv_eq_ediv_of_nonneg i (by omega)]; exact q) (.inl (PyProof.noPylong_small (by omega)))
theorem op_mod : OpR X (binaryOp .Mod) (rI (fun _ j => 0 < j) fun i j => .int (i % j)) := opI fun i j _ _ _ _ _ hc q => by
  have h1 : (0 : Int) < j := hc
  exact mod_int' (by omega) (by rw [Int.fmod_eq_emod_of_nonneg i (by omega)]; exact q)
theorem unI {f : Value → Sem Value} {g : Int → Int}
    (rule : ∀ (i : Int) (t : Tok) (s : Shared) (Q : Value → Shared → Prop) (E : Value → Shared → Prop), Q (.int (g i) s.toks) { s with toks := s.toks + 1 } → wpAny (model X.prog X.w) X.A (f (.int i t)) Q E s) :
    UnR X f (rU fun i => .int (g i)) := by
  intro pins s σ H x v Q I rx h
  obtain ⟨i, rfl, q⟩ := h
  obtain ⟨t, rfl⟩ := rx
  exact rule i t s _ _ ⟨.int (g i), H, I.tok _, ⟨_, rfl⟩, q⟩
theorem un_neg : UnR X (unaryOp .USub) (rU fun i => .int (-i)) := unI fun _ _ _ _ _ q => neg_int q
end
def scal : V → V → Bool
  | .non, .non => true | .non, .int _ => true | .int _, .non => true | .non, .bl _ => true | .bl _, .non => true | .non, .str _ => true | .str _, .non => true
  | .int _, .int _ => true | .bl _, .bl _ => true | .str _, .str _ => true | .byt _, .byt _ => true
  | .int _, .str _ => true | .str _, .int _ => true | .bl _, .str _ => true | .str _, .bl _ => true
  | _, _ => false
def rEq : R2 := fun x y H Q => scal x y = true ∧ Q (.bl (decide (x = y))) H
def rNe : R2 := fun x y H Q => scal x y = true ∧ Q (.bl (!decide (x = y))) H
theorem dec_int {i j : Int} : decide (V.int i = V.int j) = (i == j) := by
  rw [Bool.eq_iff_iff]
  simp
theorem dec_bl {i j : Bool} : decide (V.bl i = V.bl j) = (i == j) := by
  rw [Bool.eq_iff_iff]
  simp
theorem dec_str {i j : Str} : decide (V.str i = V.str j) = (i == j) := by
  rw [Bool.eq_iff_iff]
  simp
theorem dec_byt {i j : Array UInt8} : decide (V.byt i = V.byt j) = (i.toList == j.toList) := by
  rw [Bool.eq_iff_iff]
  cases i
  cases j
  simp
section
variable {X : Cx} {a b c : Expr} {ta tb tc : TE} {pos : Pos}
theorem fin_bl {pins : List (Addr × Obj)} {σ : St} {H : Hp} {s : Shared} {Q : VK} {k k' : Bool} (I : Inv X pins σ H s) (q : Q (.bl k) H) (e : k = k') : EP X pins σ Q (.bool k') s := by
  subst e
  exact ⟨.bl k, H, I, rfl, q⟩
theorem op_eq : OpR X (compareOp .Eq) rEq := by
  intro pins s σ H x y v u Q I rx ry h
  obtain ⟨hs, q⟩ := h
  cases x with
  | non =>
    cases rx
    cases y with
    | non => cases ry; exact PySem.EqNone.eq_none_none (fin_bl I q (by simp))
    | bl j => cases ry; exact PySem.EqNone.eq_none_bool (fin_bl I q (by simp))
    | int j => obtain ⟨t', rfl⟩ := ry; exact PySem.EqNone.eq_none_int (fin_bl I q (by simp))
    | str j => obtain ⟨t', rfl⟩ := ry; exact PySem.EqNone.eq_none_str (fin_bl I q (by simp))
    | _ => exact absurd (show false = true from hs) Bool.false_ne_true
  | bl i =>
    cases rx
    cases y with
    | non => cases ry; exact PySem.EqNone.eq_bool_none (fin_bl I q (by simp))
    | bl j => cases ry; exact eq_bool (fin_bl I q dec_bl)
    | str j => obtain ⟨t', rfl⟩ := ry; exact PySem.EqMixed.eq_bool_str (fin_bl I q (by simp))
    | _ => exact absurd (show false = true from hs) Bool.false_ne_true
  | int i =>
    obtain ⟨t, rfl⟩ := rx
    cases y with
    | non => cases ry; exact PySem.EqNone.eq_int_none (fin_bl I q (by simp))
    | int j => obtain ⟨t', rfl⟩ := ry; exact eq_int (fin_bl I q dec_int)
    | str j => obtain ⟨t', rfl⟩ := ry; exact PySem.EqMixed.eq_int_str (fin_bl I q (by simp))
    | _ => exact absurd (show false = true from hs) Bool.false_ne_true
  | str i =>
    obtain ⟨t, rfl⟩ := rx
    cases y with
    | non => cases ry; exact PySem.EqNone.eq_str_none (fin_bl I q (by simp))
    | bl j => cases ry; exact PySem.EqMixed.eq_str_bool (fin_bl I q (by simp))
    | int j => obtain ⟨t', rfl⟩ := ry; exact PySem.EqMixed.eq_str_int (fin_bl I q (by simp))
    | str j => obtain ⟨t', rfl⟩ := ry; exact eq_str (fin_bl I q dec_str)
    | _ => exact absurd (show false = true from hs) Bool.false_ne_true
  | byt i =>
    obtain ⟨t, rfl⟩ := rx
    cases y with
    | byt j => obtain ⟨t', rfl⟩ := ry; exact PySem.W.eq_bytes (fin_bl I q dec_byt)
    | _ => exact absurd (show false = true from hs) Bool.false_ne_true
  | _ => cases y <;> exact absurd (show false = true from hs) Bool.false_ne_true
theorem op_ne : OpR X (compareOp .NotEq) rNe := by
  intro pins s σ H x y v u Q I rx ry h
  obtain ⟨hs, q⟩ := h
  cases x with
  | non =>
    cases rx
    cases y with
    | non => cases ry; exact PySem.EqNone.ne_none_none (fin_bl I q (by simp))
    | bl j => cases ry; exact PySem.EqNone.ne_none_bool (fin_bl I q (by simp))
    | int j => obtain ⟨t', rfl⟩ := ry; exact PySem.EqNone.ne_none_int (fin_bl I q (by simp))
    | str j => obtain ⟨t', rfl⟩ := ry; exact PySem.EqNone.ne_none_str (fin_bl I q (by simp))
    | _ => exact absurd (show false = true from hs) Bool.false_ne_true
  | bl i =>
    cases rx
    cases y with
    | non => cases ry; exact PySem.EqNone.ne_bool_none (fin_bl I q (by simp))
    | bl j => cases ry; exact ne_bool (fin_bl I q (congrArg not dec_bl))
    | str j => obtain ⟨t', rfl⟩ := ry; exact PySem.EqMixed.ne_bool_str (fin_bl I q (by simp))
    | _ => exact absurd (show false = true from hs) Bool.false_ne_true
  | int i =>
    obtain ⟨t, rfl⟩ := rx
    cases y with
    | non => cases ry; exact PySem.EqNone.ne_int_none (fin_bl I q (by simp))
    | int j => obtain ⟨t', rfl⟩ := ry; exact ne_int (fin_bl I q (congrArg not dec_int))
    | str j => obtain ⟨t', rfl⟩ := ry; exact PySem.EqMixed.ne_int_str (fin_bl I q (by simp))
    | _ => exact absurd (show false = true from hs) Bool.false_ne_true
  | str i =>
    obtain ⟨t, rfl⟩ := rx
    cases y with
    | non => cases ry; exact PySem.EqNone.ne_str_none (fin_bl I q (by simp))
    | bl j => cases ry; exact PySem.EqMixed.ne_str_bool (fin_bl I q (by simp))
    | int j => obtain ⟨t', rfl⟩ := ry; exact PySem.EqMixed.ne_str_int (fin_bl I q (by simp))
    | str j => obtain ⟨t', rfl⟩ := ry; exact ne_str (fin_bl I q (congrArg not dec_str))
    | _ => exact absurd (show false = true from hs) Bool.false_ne_true
  | byt i =>
    obtain ⟨t, rfl⟩ := rx
    cases y with
    | byt j => obtain ⟨t', rfl⟩ := ry; exact PySem.W.ne_bytes (fin_bl I q (congrArg not dec_byt))
    | _ => exact absurd (show false = true from hs) Bool.false_ne_true
  | _ => cases y <;> exact absurd (show false = true from hs) Bool.false_ne_true
theorem op_lt : OpR X (compareOp .Lt) (rI0 fun i j => .bl (decide (i < j))) := opB0 fun _ _ _ _ _ _ _ q => lt_int q
theorem op_le : OpR X (compareOp .LtE) (rI0 fun i j => .bl (decide (i ≤ j))) := opB0 fun _ _ _ _ _ _ _ q => le_int q
theorem op_gt : OpR X (compareOp .Gt) (rI0 fun i j => .bl (decide (j < i))) := opB0 fun _ _ _ _ _ _ _ q => gt_int q
theorem op_ge : OpR X (compareOp .GtE) (rI0 fun i j => .bl (decide (j ≤ i))) := opB0 fun _ _ _ _ _ _ _ q => ge_int q
theorem op_notN : OpR X (compareOp .IsNot) (fun x y H Q => y = .non ∧ Q (.bl (!decide (x = .non))) H) := by
  intro pins s σ H x y v u Q I rx ry h
  obtain ⟨rfl, q⟩ := h
  cases ry
  refine isnot_none_gen (fin_bl I q ?_)
  cases x <;> first
    | (cases rx; rfl)
    | (obtain ⟨t, rfl⟩ := rx; rfl)
theorem nomark (b : Expr) {op : CmpOp} (h : op ≠ .In := by decide) (h2 : op ≠ .NotIn := by decide) : behindInMarks op b = false := by
  have e1 : (op == CmpOp.In) = false := by cases op <;> first | rfl | exact absurd rfl h
  have e2 : (op == CmpOp.NotIn) = false := by cases op <;> first | rfl | exact absurd rfl h2
  cases b <;> simp [behindInMarks, e1, e2]
theorem pe_cmpR {op : CmpOp} {r : R2} (ho : OpR X (compareOp op) r) (ha : PE X a ta) (hb : PE X b tb) (hm : behindInMarks op b = false) : PE X (.Compare a [op] [b] pos) (tOp r ta tb) := by
  intro pins s σ H Q I h
  exact wpAny_Compare1 (binT ha hb I h fun v u s2 x y H2 I2 rx ry q => ho pins s2 σ H2 x y v u Q I2 rx ry q) hm
def tTest (t : TE) : TT := fun σ H Q => t σ H fun x H' => ∃ k, x = .bl k ∧ Q k H'
theorem pt_cmpR {op : CmpOp} {r : R2} (ho : OpR X (compareOp op) r) (ha : PE X a ta) (hb : PE X b tb) (hm : behindInMarks op b = false) : PT X (.Compare a [op] [b] pos) (tTest (tOp r ta tb)) := by
  intro pins s σ H Q I h
  refine wpAny_isTrue_Compare1 (thn (ha pins s σ H _ I h) fun v s1 ⟨x, H1, I1, r1, q1⟩ => thn (hb pins s1 σ H1 _ I1 q1) fun u s2 ⟨y, H2, I2, r2, q2⟩ =>
    thn (ho pins s2 σ H2 x y v u _ I2 r1 r2 q2) fun c s3 ⟨z, H3, I3, r3, k, e, q3⟩ => ?_) hm
  subst e
  cases r3
  exact wpAny_truthy_bool ⟨H3, I3, q3⟩
def tChain (r r' : R2) (ta tb tc : TE) : TE := fun σ H Q => ta σ H fun x H1 => tb σ H1 fun y H2 => r x y H2 fun z H3 => ∃ k, z = .bl k ∧
  (if k = true then tc σ H3 fun w' H4 => r' y w' H4 Q else Q (.bl false) H3)
theorem pe_chain {op op' : CmpOp} {r r' : R2} (ho : OpR X (compareOp op) r) (ho' : OpR X (compareOp op') r') (ha : PE X a ta) (hb : PE X b tb) (hc : PE X c tc)
    (hm : lastMarks [op, op'] [b, c] = false := by with_unfolding_all rfl) : PE X (.Compare a [op, op'] [b, c] pos) (tChain r r' ta tb tc) := by
  intro pins s σ H Q I h
  refine Compare_chain (thn (ha pins s σ H _ I h) fun v s1 ⟨x, H1, I1, r1, q1⟩ => chain_link (thn (hb pins s1 σ H1 _ I1 q1) fun u s2 ⟨y, H2, I2, r2, q2⟩ =>
    thn (ho pins s2 σ H2 x y v u _ I2 r1 r2 q2) fun d s3 ⟨z, H3, I3, r3, k, e, q3⟩ => ?_)) hm
  subst e
  cases r3
  refine wpAny_truthy_bool ?_
  cases k with
  | false => exact ite_ff ⟨.bl false, H3, I3, rfl, q3⟩
  | true => exact ite_tt (chain_last (thn (hc pins s3 σ H3 _ I3 q3) fun w' s4 ⟨z', H4, I4, r4, q4⟩ => ho' pins s4 σ H4 y z' u w' Q I4 r2 r4 q4))
theorem pt_chain {op op' : CmpOp} {r r' : R2} (ho : OpR X (compareOp op) r) (ho' : OpR X (compareOp op') r') (ha : PE X a ta) (hb : PE X b tb) (hc : PE X c tc)
    (hm : lastMarks [op, op'] [b, c] = false := by with_unfolding_all rfl) : PT X (.Compare a [op, op'] [b, c] pos) (tTest (tChain r r' ta tb tc)) := by
  intro pins s σ H Q I h
  refine isTrue_chain (thn (ha pins s σ H _ I h) fun v s1 ⟨x, H1, I1, r1, q1⟩ => test_link (thn (hb pins s1 σ H1 _ I1 q1) fun u s2 ⟨y, H2, I2, r2, q2⟩ =>
    thn (ho pins s2 σ H2 x y v u _ I2 r1 r2 q2) fun d s3 ⟨z, H3, I3, r3, k, e, q3⟩ => ?_)) hm
  subst e
  cases r3
  refine wpAny_truthy_bool ?_
  cases k with
  | false =>
    obtain ⟨k', e', q'⟩ := q3
    cases e'
    exact ite_ff ⟨H3, I3, q'⟩
  | true =>
    refine ite_tt (test_last (thn (hc pins s3 σ H3 _ I3 q3) fun w' s4 ⟨z', H4, I4, r4, q4⟩ => thn (ho' pins s4 σ H4 y z' u w' _ I4 r2 r4 q4) fun d' s5 ⟨z2, H5, I5, r5, k2, e2, q5⟩ => ?_))
    subst e2
    cases r5
    exact wpAny_truthy_bool ⟨H5, I5, q5⟩
theorem line63 : (sizeLine : Nat) < 2 ^ 63 := by rw [sizeLine_eq]; decide
theorem vals1 {x : V} {us : List Value} (r : Vals [x] us) : ∃ u, us = [u] ∧ RelV x u := by
  cases r with
  | cons r1 r2 => cases r2; exact ⟨_, rfl, r1⟩
theorem vals2 {x y : V} {us : List Value} (r : Vals [x, y] us) : ∃ u w', us = [u, w'] ∧ RelV x u ∧ RelV y w' := by
  cases r with
  | cons r1 r2 =>
    cases r2 with
    | cons r3 r4 => cases r4; exact ⟨_, _, rfl, r1, r3⟩
theorem call_max2 (hc : X.calm = true) : CallR X (.builtin "max") (fun xs H Q => ∃ i j, xs = [.int i, .int j] ∧ Q (.int (if j > i then j else i)) H) := by
  intro pins s σ H xs us Q I r h
  obtain ⟨i, j, rfl, q⟩ := h
  obtain ⟨u, w', rfl, ⟨t, rfl⟩, ⟨t', rfl⟩⟩ := vals2 r
  refine max_two_ints (I.ok.hd hc) fun h' tk k => ⟨_, H, I.kept k, ?_, q⟩
  by_cases hj : j > i
  · rw [if_pos hj, if_pos hj]; exact ⟨_, rfl⟩
  · rw [if_neg hj, if_neg hj]; exact ⟨_, rfl⟩
end
end L2
namespace L2
open PySem PySem.Spec PyProof.Rows
structure ObjM (h : Heap) (x dx C : Addr) (mA : Str → Option Value) : Prop where
  obj : h.get? x = some (PySem.W.instObj C dx)
  ns : h.Ns1 dx mA
  ne : dx ≠ x
theorem lookIn_ns {h : Heap} {dx : Addr} {mA : Str → Option Value} (n : h.Ns1 dx mA) : ∃ od, h.get? dx = some od ∧ ∀ name, PySem.W.lookIn name od = some (mA name) := by
  obtain ⟨o, es, ep, ho, hd, hk, _, hm⟩ := n
  refine ⟨o, ho, fun name => ?_⟩
  have e := hm name
  unfold nsFind findBy at e
  rw [← Array.find?_toList] at e
  unfold PySem.W.lookIn
  rw [hd]
  dsimp only
  split
  · rename_i y q
    rw [q] at e
    exact congrArg some e
  · rename_i q
    rw [q] at e
    have a : es.toList.any (·.refKey) = false := by
      rw [List.any_eq_false]
      intro y hy
      obtain ⟨z, t, hkey⟩ := hk y (Array.mem_toList_iff.mp hy)
      simp [DictEntry.refKey, hkey]
    have a' : ¬ es.toList.any (·.refKey) = true := by rw [a]; exact Bool.false_ne_true
    rw [if_neg a']
    exact congrArg some e
theorem ObjM.look {h : Heap} {x dx C : Addr} {mA : Str → Option Value} (I : ObjM h x dx C mA) : ∃ od, PySem.W.InstAt h x (PySem.W.instObj C dx) C (some od) ∧ ∀ name, PySem.W.lookIn name od = some (mA name) :=
  let ⟨od, ho, hl⟩ := lookIn_ns I.ns
  ⟨od, ⟨I.obj, rfl, rfl, ho⟩, hl⟩
section
variable {prog : Program} {w : World} {A : Around} {E : Value → Shared → Prop} {s : Shared} {K : PySem.W.Frag} {x dx C f : Addr} {mA : Str → Option Value} {name : Str} {v : Value}
theorem get_map {expr : Bool} {Q : Value → Shared → Prop} (X : K.In s.heap) (I : ObjM s.heap x dx C mA) (hg : PySem.W.plainGet K C name = true) (hh : PySem.W.hasDictIn K C = true)
    (ha : PySem.W.findIn K (.ref C) name = some none) (hv : mA name = some v) (hv' : PySem.W.handedIn v = true) (h : Q v { s with toks := s.toks + 1 }) :
    wpAny (model prog w) A (getAttr (.ref x) name expr) Q E s := by
  obtain ⟨od, J, hl⟩ := I.look
  exact PySem.W.get_value X J (PySem.W.plainGet_of hg).1 (PySem.W.findObj_own hh ha rfl (by rw [hl, hv])) hv' h
theorem get_meth {pl : Sem Bool} {Q : Value × List Value → Shared → Prop} (X : K.In s.heap) (I : ObjM s.heap x dx C mA) (hg : PySem.W.plainGet K C name = true)
    (hf : PySem.W.findIn K (.ref C) name = some (some (.ref f))) (ht : PySem.W.isFn K (.ref f) = true) (hv : mA name = none) (h : Q (.ref f, [.ref x]) s) :
    wpAny (model prog w) A (getMethod (.ref x) name pl) Q E s := by
  obtain ⟨od, J, hl⟩ := I.look
  exact PySem.W.method_fn X J (PySem.W.plainGet_of hg).1 (PySem.W.plainGet_of hg).2 hf (beq_iff_eq.mp ht) (by show (PySem.W.lookIn name od).map (·.isSome) = some false; rw [hl, hv]; rfl) h
theorem set_map {ns : List Str} {Q : Unit → Shared → Prop} (X : K.In s.heap) (I : ObjM s.heap x dx C mA)
    (hs : PySem.W.findIn K (.ref C) "__setattr__" = some (some (.builtin "object.__setattr__"))) (hp : PySem.W.plainOver K C = true) (ht : PySem.W.takerIn K C name = some none) (hh : PySem.W.hasDictIn K C = true)
    (hw : PySem.Within mA ns) (hsz : ns.length ≤ sizeLine)
    (h : ∀ h', ObjM h' x dx C (fun y => if y = name then some v else mA y) → Heap.SameBut dx s.heap h' → Q () { s with heap := h', toks := s.toks + 2 }) :
    wpAny (model prog w) A (setAttr (.ref x) name v) Q E s := by
  obtain ⟨od, J, hl⟩ := I.look
  refine PySem.W.set_plain X J hs (PySem.W.osa_open (s := { s with toks := s.toks + 1 }) (r := none) X J hp ht fun b => ?_)
  obtain ⟨cd, hc, hd'⟩ := PySem.W.any_some hh
  have hx : s.heap.get? x = some ⟨.ref C, some dx, .plain, #[]⟩ := I.obj
  refine wpAny_bind (wpAny_pure (wpAny_bind (wpAny_bind (wpAny_loadPart hx (wpAny_bind (PySem.W.Looks.here (s := { s with toks := s.toks + 1 }) (PySem.W.looks_clsIn X hc) ?_))))))
  rw [hd']
  refine wpAny_pure (a := some dx) (wpAny_bind (wpAny_pure (wpAny_bind ?_)))
  refine wpAny_nsSet1 (s := { s with toks := s.toks + 1 }) I.ns fun h' hn2 hs2 => ?_
  obtain ⟨oD, esD, epD, hoD, hdD, hcD⟩ := hn2.count (PySem.Within.cons name v hw)
  refine wpAny_bind (wpAny_lookBehind hoD (by rw [hdD]; exact pastItsLine_dict (Nat.le_trans hcD (by rw [List.length_cons]; omega))) ?_)
  exact wpAny_pure (h _ ⟨(hs2.2 _ (Ne.symm I.ne)).trans I.obj, hn2, I.ne⟩ hs2)
theorem make_map {R : Result → Shared → Prop} {vs : List Value} {kw : List (Str × Value)} (X : K.In s.heap) (hm : PySem.W.makesIn K C = true)
    (hi : PySem.W.findIn K (.ref C) "__init__" = some (some (.ref f))) (hf : PySem.W.typeIn K (.ref f) = some (.type "function"))
    (h : codeAny (model prog w) (A.under (.builtin "type.__call__" ⟨.ref C :: vs, kw⟩)) (.call (.ref f) ⟨.ref (s.heap.objs.size + 1) :: vs, kw⟩) (PySem.W.InitBack (s.heap.objs.size + 1) R)
      { s with heap := (s.heap.push PySem.W.emptyDict).push (PySem.W.instObj C s.heap.objs.size) }) :
    codeAny (model prog w) A (.call (.ref C) ⟨vs, kw⟩) R s := by
  obtain ⟨hh, g, d, t, os⟩ := s
  exact PySem.W.make_core (PySem.W.makes_of X hm) (PySem.W.looks_findIn X hi) (fun self => PySem.W.bind_fn X self hf) (.inl rfl) h
end
def putF (f : Str) (v : V) : List (Str × V) → List (Str × V)
  | [] => [(f, v)]
  | (g, x) :: r => if g = f then (g, v) :: r else (g, x) :: putF f v r
theorem lookup_putF (f g : Str) (v : V) : ∀ fs : List (Str × V), (putF f v fs).lookup g = if g = f then some v else fs.lookup g
  | [] => by
    show List.lookup g [(f, v)] = _
    by_cases h : g = f
    · have hb : (g == f) = true := beq_iff_eq.mpr h
      simp only [List.lookup, hb, if_pos h]
    · have hb : (g == f) = false := beq_eq_false_iff_ne.mpr h
      simp only [List.lookup, hb, if_neg h]
  | (k, x) :: r => by
    have ih := lookup_putF f g v r
    rw [show putF f v ((k, x) :: r) = (if k = f then (k, v) :: r else (k, x) :: putF f v r) from rfl]
    by_cases hk : k = f
    · rw [if_pos hk]
      by_cases h : g = k
      · have hb : (g == k) = true := beq_iff_eq.mpr h
        simp only [List.lookup, hb, if_pos (h.trans hk)]
      · have hb : (g == k) = false := beq_eq_false_iff_ne.mpr h
        simp only [List.lookup, hb, if_neg (fun e : g = f => h (e.trans hk.symm))]
    · rw [if_neg hk]
      by_cases h : g = k
      · have hb : (g == k) = true := beq_iff_eq.mpr h
        simp only [List.lookup, hb, if_neg (fun e : g = f => hk (h.symm.trans e))]
      · have hb : (g == k) = false := beq_eq_false_iff_ne.mpr h
        simp only [List.lookup, hb]
        exact ih
theorem keys_putF (f : Str) (v : V) : ∀ fs : List (Str × V), f ∈ (putF f v fs).map (·.1) ∧ ∀ g, g ∈ fs.map (·.1) → g ∈ (putF f v fs).map (·.1)
  | [] => ⟨by simp [putF], fun g h => by simp at h⟩
  | (k, x) :: r => by
    obtain ⟨i1, i2⟩ := keys_putF f v r
    rw [show putF f v ((k, x) :: r) = (if k = f then (k, v) :: r else (k, x) :: putF f v r) from rfl]
    by_cases hk : k = f
    · rw [if_pos hk]
      subst hk
      exact ⟨by simp, fun g h => by simpa using h⟩
    · rw [if_neg hk]
      refine ⟨?_, fun g h => ?_⟩
      · rw [List.map_cons]
        exact List.mem_cons_of_mem _ i1
      · rw [List.map_cons] at h ⊢
        rcases List.mem_cons.mp h with e | e
        · exact List.mem_cons.mpr (.inl e)
        · exact List.mem_cons_of_mem _ (i2 g e)
theorem length_putF (f : Str) (v : V) : ∀ fs : List (Str × V), (putF f v fs).length ≤ fs.length + 1
  | [] => by simp [putF]
  | (k, x) :: r => by
    have ih := length_putF f v r
    rw [show putF f v ((k, x) :: r) = (if k = f then (k, v) :: r else (k, x) :: putF f v r) from rfl]
    by_cases hk : k = f
    · rw [if_pos hk, List.length_cons, List.length_cons]; omega
    · rw [if_neg hk, List.length_cons, List.length_cons]; omega
theorem RelO.some_of {v : V} {o : Option Value} (r : RelO (some v) o) : ∃ u, o = some u ∧ RelV v u := by
  cases o with
  | none => exact (show False from r).elim
  | some u => exact ⟨u, rfl, r⟩
theorem RelO.none_of {o : Option Value} (r : RelO none o) : o = none := by
  cases o with
  | none => rfl
  | some u => exact (show False from r).elim
theorem handed_of {v : V} {u : Value} (r : RelV v u) : PySem.W.handedIn u = true := by
  cases v with
  | non => cases (show u = Value.none from r); rfl
  | bl b => cases (show u = Value.bool b from r); rfl
  | int i => obtain ⟨t, e⟩ := (show ∃ t, u = Value.int i t from r); cases e; rfl
  | str x => obtain ⟨t, e⟩ := (show ∃ t, u = Value.str x t from r); cases e; rfl
  | byt b => obtain ⟨t, e⟩ := (show ∃ t, u = Value.bytes b t from r); cases e; rfl
  | flt b => obtain ⟨t, e⟩ := (show ∃ t, u = Value.float b t from r); cases e; rfl
  | ref a => cases (show u = Value.ref a from r); rfl
  | ty n => cases (show u = Value.type n from r); rfl
section
variable {P : Program} {w : World} {H H' : Hp} {h h' : Heap} {a C dx : Addr} {fs fs' : List (Str × V)}
theorem ins_get (hok : HOk P w H h) (e : H a = some (.ins C dx fs)) : ∃ mA, ObjM h a dx C mA ∧ (∀ f, RelO (fs.lookup f) (mA f)) ∧ PySem.Within mA (fs.map (·.1)) ∧ fs.length ≤ 1000 ∧ H dx = some (.own a) := by
  obtain ⟨d, z, ne, ob, mA, n, r, q⟩ := (show ObjOk P w H h a (.ins C dx fs) from hok a _ e)
  exact ⟨mA, ⟨ob, n, ne⟩, r, q, z, d⟩
end
structure Cls (K : PySem.W.Frag) (C : Addr) : Prop where
  pg : PySem.W.plainGet K C Str.empty = true
  hd : PySem.W.hasDictIn K C = true
  po : PySem.W.plainOver K C = true
  sa : PySem.W.findIn K (.ref C) "__setattr__" = some (some (.builtin "object.__setattr__"))
theorem Cls.get {K : PySem.W.Frag} {C : Addr} (c : Cls K C) (f : Str) : PySem.W.plainGet K C f = true := c.pg
def NoAttr (K : PySem.W.Frag) (C : Addr) (f : Str) : Prop := PySem.W.findIn K (.ref C) f = some none
theorem NoAttr.taker {K : PySem.W.Frag} {C : Addr} {f : Str} (n : NoAttr K C f) : PySem.W.takerIn K C f = some none := by
  unfold PySem.W.takerIn
  rw [show PySem.W.findIn K (.ref C) f = some none from n]
  rfl
structure Con (K : PySem.W.Frag) (C : Addr) (f : Str) (v : V) (u : Value) : Prop where
  at_ : PySem.W.findIn K (.ref C) f = some (some u)
  rel : RelV v u
  get : PySem.W.specialIn K u "__get__" = some none
  cp : PySem.W.copiedNames.contains f = false
structure Meth (K : PySem.W.Frag) (C : Addr) (m : Str) (f : Addr) : Prop where
  at_ : PySem.W.findIn K (.ref C) m = some (some (.ref f))
  fn : PySem.W.isFn K (.ref f) = true
  kp : PySem.W.keepIn K (.ref f) = true
section
variable {X : Cx} {pins : List (Addr × Obj)} {σ : St} {H : Hp} {s : Shared} {a C dx : Addr} {fs : List (Str × V)} {f : Str} {v : V} {A : Around} {E : Value → Shared → Prop}
theorem getattr_ok {b : Bool} {Q : Value → Shared → Prop} (I : Inv X pins σ H s) (e : H a = some (.ins C dx fs)) (c : Cls X.K C) (n : NoAttr X.K C f) (l : fs.lookup f = some v)
    (h : ∀ u s', Inv X pins σ H s' → RelV v u → Q u s') : wpAny (model X.prog X.w) A (getAttr (.ref a) f b) Q E s := by
  obtain ⟨mA, O, r, _, _, _⟩ := ins_get I.hok e
  obtain ⟨u, hu, ru⟩ := RelO.some_of (v := v) (o := mA f) (by rw [← l]; exact r f)
  exact get_map I.kIn O (c.get f) c.hd n hu (handed_of ru) (h u _ (I.tok _) ru)
theorem getmeth_ok {m : Str} {g : Addr} {pl : Sem Bool} {Q : Value × List Value → Shared → Prop} (I : Inv X pins σ H s) (e : H a = some (.ins C dx fs)) (c : Cls X.K C) (k : Meth X.K C m g) (l : fs.lookup m = none)
    (h : Q (.ref g, [.ref a]) s) : wpAny (model X.prog X.w) A (getMethod (.ref a) m pl) Q E s := by
  obtain ⟨mA, O, r, _, _, _⟩ := ins_get I.hok e
  have hn : mA m = none := RelO.none_of (by rw [← l]; exact r m)
  exact get_meth I.kIn O (c.get m) k.at_ k.fn hn h
theorem setattr_ok {y : V} {u : Value} {Q : Unit → Shared → Prop} (I : Inv X pins σ H s) (e : H a = some (.ins C dx fs)) (c : Cls X.K C) (n : NoAttr X.K C f) (hl : fs.length < 1000) (ry : RelV y u)
    (h : ∀ s', Inv X pins σ (upd H a (.ins C dx (putF f y fs))) s' → Q () s') : wpAny (model X.prog X.w) A (setAttr (.ref a) f u) Q E s := by
  obtain ⟨mA, O, r, wi, _, ho⟩ := ins_get I.hok e
  have hz : (fs.map (·.1)).length ≤ sizeLine := by rw [List.length_map, sizeLine_eq]; omega
  refine set_map I.kIn O c.sa c.po n.taker c.hd wi hz fun h' O' sb => h _ ?_
  have hd : ∃ o, h'.get? dx = some o := let ⟨o, _, _, e', _⟩ := O'.ns; ⟨o, e'⟩
  refine I.write (x := a) (e := dx) (by rw [e]; exact True.intro) (.inr ho) (fun b q hb z => (sb.2 b hb).trans z) hd ?_
  refine ⟨by rw [upd_ne O.ne]; exact ho, ?_, O.ne, O'.obj, _, O'.ns, fun g => ?_, fun g hg => ?_⟩
  · have := length_putF f y fs; omega
  · show RelO ((putF f y fs).lookup g) (if g = f then some u else mA g)
    rw [lookup_putF]
    by_cases q : g = f
    · rw [if_pos q, if_pos q]; exact ry
    · rw [if_neg q, if_neg q]; exact r g
  · by_cases q : g = f
    · rw [q]; exact (keys_putF f y fs).1
    · refine (keys_putF f y fs).2 g (wi g fun z => hg ?_)
      show (if g = f then some u else mA g) = none
      rw [if_neg q]; exact z
theorem Inv.made (I : Inv X pins σ H s) : Inv X pins σ (upd (upd H s.heap.objs.size (.own (s.heap.objs.size + 1))) (s.heap.objs.size + 1) (.ins C s.heap.objs.size []))
    { s with heap := (s.heap.push PySem.W.emptyDict).push (PySem.W.instObj C s.heap.objs.size) } := by
  have e1 : (s.heap.push PySem.W.emptyDict).get? s.heap.objs.size = some PySem.W.emptyDict := Heap.get?_push_size s.heap rfl
  have e2 : ((s.heap.push PySem.W.emptyDict).push (PySem.W.instObj C s.heap.objs.size)).get? (s.heap.objs.size + 1) = some (PySem.W.instObj C s.heap.objs.size) := by
    have := Heap.get?_push_size (s.heap.push PySem.W.emptyDict) (o := PySem.W.instObj C s.heap.objs.size) rfl
    rwa [Heap.size_push] at this
  have e3 : (s.heap.push PySem.W.emptyDict).Ns s.heap.objs.size (fun _ => none) := ⟨PySem.W.emptyDict, #[], _, e1, rfl, (fun e he => absurd he (by simp)), fun _ => rfl⟩
  have I1 := I.laid (a := s.heap.objs.size) (o := .own (s.heap.objs.size + 1)) (h' := s.heap.push PySem.W.emptyDict) (t' := s.toks) (fun b u q => Heap.get?_push_of_some _ q) (Nat.le_refl _) ⟨_, e1⟩
  refine I1.laid (a := s.heap.objs.size + 1) (o := .ins C s.heap.objs.size []) (t' := s.toks) (fun b u q => Heap.get?_push_of_some _ q) (Nat.le_of_eq (Heap.size_push _ _)) ?_
  have ne : s.heap.objs.size ≠ s.heap.objs.size + 1 := Nat.ne_of_lt (Nat.lt_succ_self _)
  refine ⟨by rw [upd_ne ne, upd_same], Nat.zero_le _, ne, e2, fun _ => none, (Heap.Ns1.of_empty e3).at fun o q => Heap.get?_push_of_some _ q, fun _ => True.intro, fun y hy => absurd rfl hy⟩
theorem attr_of {prog : Program} {w : World} {env : Env} {e : Expr} {f : Str} {pos : Pos} {s : Shared} {Q : Value → Shared → Prop} (hb : attributeBase e f env (eval e env) = eval e env)
    (h : wpAny (model prog w) A (eval e env) (fun o s₁ => wpAny (model prog w) A (getAttr o f true) Q E s₁) E s) : wpAny (model prog w) A (eval (.Attribute e f pos) env) Q E s :=
  Attribute_any_ h (by rw [arm_eval_Attribute, hb])
end
def tFld (K : PySem.W.Frag) (ta : TE) (f : Str) : TE := fun σ H Q => ta σ H fun x H1 => ∃ a C dx fs v, x = .ref a ∧ H1 a = some (.ins C dx fs) ∧ Cls K C ∧ NoAttr K C f ∧ fs.lookup f = some v ∧ Q v H1
def sFld (K : PySem.W.Frag) (ta tv : TE) (f : Str) : TS := fun D σ H => tv σ H fun y H1 => ta σ H1 fun x H2 => ∃ a C dx fs, x = .ref a ∧ H2 a = some (.ins C dx fs) ∧ Cls K C ∧ NoAttr K C f ∧ fs.length < 1000 ∧
  D.nx σ (upd H2 a (.ins C dx (putF f y fs)))
section
variable {X : Cx} {o e value : Expr} {f : Str} {pos pos' tpos : Pos} {ta tv : TE}
theorem pe_fld (he : PE X e ta) (hb : attributeBase e f X.env (eval e X.env) = eval e X.env) : PE X (.Attribute e f pos) (tFld X.K ta f) := by
  intro pins s σ H Q I h
  refine attr_of hb (thn (he pins s σ H _ I h) fun u s1 ⟨x, H1, I1, rx, a, C, dx, fs, v, ex, ea, c, n, l, q⟩ => ?_)
  subst ex
  obtain rfl : u = Value.ref a := rx
  exact getattr_ok I1 ea c n l fun u' s2 I2 ru => ⟨v, H1, I2, ru, q⟩
theorem ps_fld (ha : PE X o ta) (hv : PE X value tv) (hs : swapsWith value (some (.Attribute o f pos')) pos.line X.env = pure false) : PS X (.Assign [.Attribute o f pos'] value pos) (sFld X.K ta tv f) := by
  intro pins s σ H D I h
  refine plainObj_wpAny_Assign_Attribute (thn (hv pins s σ H _ I h) fun u s1 ⟨y, H1, I1, ry, q⟩ => thn (ha pins s1 σ H1 _ I1 q) fun ov s2 ⟨x, H2, I2, rx, a, C, dx, fs, ex, ea, c, n, l, q2⟩ => ?_) hs
  subst ex
  obtain rfl : ov = Value.ref a := rx
  exact setattr_ok I2 ea c n l ry fun s3 I3 => ⟨σ, _, I3, q2⟩
end
section
variable {X : Cx} {pins : List (Addr × Obj)} {σ : St} {H : Hp} {s : Shared} {A : Around} {E : Value → Shared → Prop} {Q : Value → Shared → Prop} {c : Value} {b : Bool}
inductive TyOf (K : PySem.W.Frag) (H : Hp) : V → Value → Prop where
  | non : TyOf K H .non (.type "NoneType")
  | bl (x : Bool) : TyOf K H (.bl x) (.type "bool")
  | int (i : Int) : TyOf K H (.int i) (.type "int")
  | str (x : Str) : TyOf K H (.str x) (.type "str")
  | flt (x : UInt64) : TyOf K H (.flt x) (.type "float")
  | lst {a : Addr} {xs : List V} (e : H a = some (.lst xs)) : TyOf K H (.ref a) (.type "list")
  | frz {a : Addr} {o : Obj} {xs : List V} (e : H a = some (.frz o (.lst xs))) : TyOf K H (.ref a) (.type "list")
  | tup {a : Addr} {xs : List V} (e : H a = some (.tup xs)) : TyOf K H (.ref a) (.type "tuple")
  | dK {a : Addr} {kvs : List (Key × V)} (e : H a = some (.dK kvs)) : TyOf K H (.ref a) (.type "dict")
  | dT {a : Addr} {kvs : List (List Key × V)} (e : H a = some (.dT kvs)) : TyOf K H (.ref a) (.type "dict")
  | ins {a C dx : Addr} {fs : List (Str × V)} (e : H a = some (.ins C dx fs)) (cl : Cls K C) (ha : PySem.W.findIn K (.ref C) "__class__" = some (some (.builtin "object.__class__")))
      (hn : PySem.W.specialIn K (.builtin "object.__class__") "__get__" = some (some (.builtin "getset_descriptor.__get__"))) (htk : PySem.W.takesIn K (.builtin "object.__class__") = some true)
      (hm : PySem.W.mroIn K C (.type "object") = some true) : TyOf K H (.ref a) (.ref C)
theorem isinst_ok {x : V} {u t : Value} (I : Inv X pins σ H s) (rx : RelV x u) (ty : TyOf X.K H x t) (e : PySem.W.kitOne X.K t c = some b) (h : ∀ tk, Q (.bool b) { s with toks := tk }) :
    wpAny (model X.prog X.w) A (call (.builtin "isinstance") [u, c]) Q E s := by
  cases ty with
  | non => cases (show u = Value.none from rx); exact PySem.W.kia_one PySem.W.kitx_none I.kIn True.intro e (fun z => nomatch z) h
  | bl y => cases (show u = Value.bool y from rx); exact PySem.W.kia_one PySem.W.kitx_bool I.kIn True.intro e (fun z => nomatch z) h
  | int i => obtain ⟨t, q⟩ := (show ∃ t, u = Value.int i t from rx); cases q; exact PySem.W.kia_one PySem.W.kitx_int I.kIn True.intro e (fun z => nomatch z) h
  | str y => obtain ⟨t, q⟩ := (show ∃ t, u = Value.str y t from rx); cases q; exact PySem.W.kia_one PySem.W.kitx_str I.kIn True.intro e (fun z => nomatch z) h
  | flt y => obtain ⟨t, q⟩ := (show ∃ t, u = Value.float y t from rx); cases q; exact PySem.W.kia_one PySem.W.kitx_float I.kIn True.intro e (fun z => nomatch z) h
  | @lst a xs ea =>
    cases (show u = Value.ref a from rx)
    obtain ⟨_, _, n, _, h1⟩ := (show ObjOk X.prog X.w H s.heap a (.lst xs) from I.hok a _ ea)
    exact PySem.W.kia_one PySem.W.kitx_list I.kIn ⟨_, h1, rfl⟩ e (fun z => nomatch z) h
  | @frz a ob xs ea =>
    cases (show u = Value.ref a from rx)
    obtain ⟨_, _, _, n, _, h1⟩ := (show ObjOk X.prog X.w H s.heap a (.frz ob (.lst xs)) from I.hok a _ ea)
    exact PySem.W.kia_one PySem.W.kitx_list I.kIn ⟨_, h1, rfl⟩ e (fun z => nomatch z) h
  | @tup a xs ea =>
    cases (show u = Value.ref a from rx)
    obtain ⟨_, _, _, p⟩ := (show ObjOk X.prog X.w H s.heap a (.tup xs) from I.hok a _ ea)
    obtain ⟨o, h1, h2, _⟩ := p
    exact PySem.W.kia_one PySem.W.kitx_tuple I.kIn ⟨o, h1, h2⟩ e (fun z => nomatch z) h
  | @dK a kvs ea =>
    cases (show u = Value.ref a from rx)
    obtain ⟨_, _, vs, _, p⟩ := (show ObjOk X.prog X.w H s.heap a (.dK kvs) from I.hok a _ ea)
    obtain ⟨o, es, ep, h1, h2, _⟩ := p
    exact PySem.W.kia_one PySem.W.kitx_dict I.kIn ⟨o, h1, h2.1⟩ e (fun z => nomatch z) h
  | @dT a kvs ea =>
    cases (show u = Value.ref a from rx)
    obtain ⟨_, _, xs, _, o, es, ep, h1, h2, _⟩ := (show ObjOk X.prog X.w H s.heap a (.dT kvs) from I.hok a _ ea)
    exact PySem.W.kia_one PySem.W.kitx_dict I.kIn ⟨o, h1, h2.1⟩ e (fun z => nomatch z) h
  | @ins a C dx fs ea cl ha hn htk hm =>
    cases (show u = Value.ref a from rx)
    obtain ⟨mA, O, _⟩ := ins_get I.hok ea
    obtain ⟨od, J, _⟩ := O.look
    exact PySem.W.kia_one (PySem.W.kitx_own (cl.get _) cl.hd ha hn htk hm) I.kIn J e (fun z => nomatch z) h
end
end L2
namespace L2
open PySem PySem.Spec PyProof.Rows
structure Room (k : Nat) (A : Around) : Prop where
  hd : A.handled = none
  dp : A.depth + 3 * k + 5 < recursionLimit
  un : A.units + 16 * k + 200 < cLine
theorem Room.mono {j k : Nat} {A : Around} (r : Room k A) (h : j ≤ k) : Room j A := ⟨r.hd, by have := r.dp; omega, by have := r.un; omega⟩
theorem Room.deeper {k : Nat} {A : Around} (r : Room (k + 1) A) (env : Env) : Room k (A.deeper env) :=
  ⟨r.hd, by have := r.dp; show A.depth + 1 + 3 * k + 5 < _; omega, by have := r.un; show A.units + 3 + 16 * k + 200 < _; omega⟩
theorem make_depth {A : Around} {C : Addr} {us : List Value} {kw : List (Str × Value)} : (A.under (.builtin "type.__call__" ⟨.ref C :: us, kw⟩)).depth = A.depth + 1 := by
  first | rfl | simp [Around.under, Code.weight, Code.isCreation, Code.isGuard, Code.isCaller, Code.frames, Code.isFrame, guardIds]
theorem make_units {A : Around} {C : Addr} {us : List Value} {kw : List (Str × Value)} : (A.under (.builtin "type.__call__" ⟨.ref C :: us, kw⟩)).units = A.units + 1 := by
  first | rfl | simp [Around.under, Code.cUnits, Code.frames, Code.isFrame]
theorem Room.make {k : Nat} {A : Around} (r : Room (k + 1) A) (C : Addr) (us : List Value) (kw : List (Str × Value)) : Room k (A.under (.builtin "type.__call__" ⟨.ref C :: us, kw⟩)) :=
  ⟨r.hd, by have := r.dp; rw [make_depth]; omega, by have := r.un; rw [make_units]; omega⟩
theorem Room.depth {k : Nat} {A : Around} (r : Room k A) : A.depth < recursionLimit := by have := r.dp; omega
theorem Room.units0 {k : Nat} {A : Around} (r : Room k A) : A.units < cLine := by have := r.un; omega
def tNil : TA := fun _ H Q => Q [] H
def tCons (ta : TE) (tr : TA) : TA := fun σ H Q => ta σ H fun x H1 => tr σ H1 fun xs H2 => Q (x :: xs) H2
section
variable {X : Cx} {e : Expr} {es : List Expr} {te : TE} {t : TA} {pos : Pos}
theorem pa_nil : PA X [] tNil := fun _ _ _ _ H Q I h => Calls.spliced_nil ⟨[], H, I, .nil, h⟩
theorem pa_cons (ha : PE X e te) (hr : PA X es t) (hs : starEach (e :: es) X.env = (false, eval e X.env) :: starEach es X.env := by rfl) : PA X (e :: es) (tCons te t) := by
  intro pos pins s σ H Q I h
  rw [hs]
  show wpAny _ _ (spliced ((false, eval e X.env) :: backTo pos (starEach es X.env))) _ _ s
  refine Calls.spliced_cons (thn (ha pins s σ H _ I h) fun u s1 ⟨x, H1, I1, r1, q1⟩ => ?_)
  exact thn (hr pos pins s1 σ H1 _ I1 q1) fun us s2 ⟨xs, H2, I2, r2, q2⟩ => ⟨x :: xs, H2, I2, .cons r1 r2, q2⟩
def tTup (t : TA) : TE := fun σ H Q => t σ H fun xs H1 => xs.length ≤ sizeLine ∧ ∀ p, H1 p = none → Q (.ref p) (upd H1 p (.tup xs))
def tLst (t : TA) : TE := fun σ H Q => t σ H fun xs H1 => xs.length ≤ sizeLine ∧ ∀ p, H1 p = none → Q (.ref p) (upd H1 p (.lst xs))
theorem pe_tup {x1} (h : PA X es t) : PE X (.Tuple es x1 pos) (tTup t) := by
  intro pins s σ H Q I hq
  refine wpAny_Tuple_spliced (thn (h pos pins s σ H _ I hq) fun us s1 ⟨xs, H1, I1, r, z, q⟩ => ⟨by rw [← r.length]; exact z, ?_⟩)
  have hf : H1 s1.heap.objs.size = none := I1.hok.fresh (Nat.le_refl _)
  refine ⟨.ref s1.heap.objs.size, upd H1 s1.heap.objs.size (.tup xs), I1.laid (t' := s1.toks) (fun b u e => Heap.get?_push_of_some _ e) (Nat.le_refl _) ?_, rfl, q _ hf⟩
  exact ⟨z, us, r, ⟨_, Heap.get?_push_size _ rfl, rfl, _, rfl⟩⟩
theorem pe_lst (h : PA X es t) : PE X (.List es pos) (tLst t) := by
  intro pins s σ H Q I hq
  refine wpAny_List_spliced (thn (h pos pins s σ H _ I hq) fun us s1 ⟨xs, H1, I1, r, z, q⟩ => ⟨by rw [← r.length]; exact z, ?_⟩)
  have hf : H1 s1.heap.objs.size = none := I1.hok.fresh (Nat.le_refl _)
  refine ⟨.ref s1.heap.objs.size, upd H1 s1.heap.objs.size (.lst xs), I1.laid (t' := s1.toks) (fun b u e => Heap.get?_push_of_some _ e) (Nat.le_refl _) ?_, rfl, q _ hf⟩
  exact ⟨z, us, 0, r, Heap.get?_push_size _ rfl⟩
end
abbrev Sp := List V → Hp → VK → XK → Prop
abbrev CXT := List Env → Hp → Shared → XK → Value → Shared → Prop
structure Env0 (P : Program) (w : World) (K : PySem.W.Frag) (mg : Str → Option Value) (base : Heap) (A : Around) (outer : List Env) (s : Shared) (H : Hp) : Prop where
  frames : A.frames = some outer
  mod : Mod K mg base
  bs : ∀ b o, base.get? b = some o → s.heap.get? b = some o ∧ H b = none
  bsz : base.objs.size ≤ s.heap.objs.size
  funs : s.heap.FunFrames base outer
  frf : ∀ b ∈ frs outer, H b = none
  hok : HOk P w H s.heap
  bare : AllBare s.gens
def CE (outer : List Env) (P : Program) (w : World) (H : Hp) (s : Shared) (Q : VK) (u : Value) (s' : Shared) : Prop :=
  ∃ v H', s'.os = s.os ∧ AllBare s'.gens ∧ Un (frs outer) [] H H' s.heap s'.heap ∧ HOk P w H' s'.heap ∧ RelV v u ∧ Q v H'
def CR (CX : CXT) (outer : List Env) (P : Program) (w : World) (H : Hp) (s : Shared) (Q : VK) (E : XK) (r : Result) (s' : Shared) : Prop :=
  match r with
  | .ok (.ret u) => CE outer P w H s Q u s'
  | .ok _ => False
  | .error e => CX outer H s E e s'
structure FnOk (P : Program) (w : World) (K : PySem.W.Frag) (mg : Str → Option Value) (base : Heap) (CX : CXT) (k : Nat) (f : Addr) (fd : FuncData) (ps : List Str) (sp : Sp) : Prop where
  len : ∀ vs H Q E, sp vs H Q E → vs.length = ps.length
  run : ∀ (A : Around) (outer : List Env) (s : Shared) (H : Hp) (args : Args) (us : List Value) (vs : List V) (Q : VK) (E : XK), Room k A → Env0 P w K mg base A outer s H → BindsTo s fd args (ps.zip us) → Vals vs us → sp vs H Q E →
    codeAny (model P w) A (.call (.ref f) args) (CR CX outer P w H s Q E) s
theorem Env0.make {P : Program} {w : World} {K : PySem.W.Frag} {mg : Str → Option Value} {base : Heap} {A : Around} {outer : List Env} {s : Shared} {H : Hp} (e : Env0 P w K mg base A outer s H) (C : Addr) (us : List Value) (kw : List (Str × Value)) :
    Env0 P w K mg base (A.under (.builtin "type.__call__" ⟨.ref C :: us, kw⟩)) outer s H := ⟨by first | exact e.frames | (simpa [Around.under, Code.envs, Code.isFrame, pushEnvs] using e.frames), e.mod, e.bs, e.bsz, e.funs, e.frf, e.hok, e.bare⟩
section
variable {X : Cx} {pins : List (Addr × Obj)} {σ : St} {H : Hp} {s s' : Shared}
theorem Inv.env0 (I : Inv X pins σ H s) : Env0 X.prog X.w X.K X.mg X.base X.A X.stack s H :=
  ⟨I.ok.frames, I.ok.mod, I.bs, Nat.le_trans I.ok.bsz I.sz, I.stack, I.stkFree, I.hok, I.bare⟩
theorem Inv.after {Q : VK} {u : Value} (I : Inv X pins σ H s) (h : CE X.stack X.prog X.w H s Q u s') : EP X pins σ Q u s' := by
  obtain ⟨v, H', os, bare, un, hok, r, q⟩ := h
  obtain ⟨hh, g, d, t, os'⟩ := s'
  obtain rfl : os' = s.os := os
  exact ⟨v, H', I.call (h' := hh) (g' := g) (d' := d) (t' := t) (ch := []) un hok bare (fun b z => absurd z (by simp)), r, q⟩
end
def tCall (sp : Sp) (dvs : List V) (E : XK) (t : TA) : TE := fun σ H Q => t σ H fun vs H1 => sp (vs ++ dvs) H1 Q E
def tMake (C : Addr) (sp : Sp) (dvs : List V) (E : XK) (t : TA) : TE := fun σ H Q => t σ H fun vs H1 => ∀ x dx, H1 x = none → H1 dx = none → dx ≠ x →
  sp (.ref x :: (vs ++ dvs)) (upd (upd H1 dx (.own x)) x (.ins C dx [])) (fun v H2 => v = .non ∧ Q (.ref x) H2) E
def Binds (K : PySem.W.Frag) (fd : FuncData) (ps : List Str) (ds : List Value) : Prop :=
  ∀ (s : Shared) (us : List Value), K.In s.heap → (us ++ ds).length = ps.length → BindsTo s fd ⟨us, []⟩ (ps.zip (us ++ ds))
theorem Binds.all {K : PySem.W.Frag} {fd : FuncData} {ps : List Str} (h : ∀ us : List Value, us.length = ps.length → bindArgs fd ⟨us, []⟩ = pure (ps.zip us)) : Binds K fd ps [] := fun s us _ hl => by
  rw [List.append_nil] at hl ⊢
  exact .of_eq (h us hl)
def Passes (CX : CXT) (X : Cx) (E : XK) : Prop := ∀ (pins : List (Addr × Obj)) (σ : St) (H : Hp) (s : Shared) (e : Value) (s' : Shared), Inv X pins σ H s → CX X.stack H s E e s' → X.xe e s'
section
variable {X : Cx} {CX : CXT} {k : Nat} {f C : Addr} {fd : FuncData} {ps : List Str} {sp : Sp} {dvs : List V} {ds : List Value} {E : XK} {x m : Str} {p pos apos : Pos} {e o : Expr} {es : List Expr} {ta : TE} {t : TA}
theorem run_fn {pins : List (Addr × Obj)} {σ : St} {H : Hp} {s : Shared} {Q : VK} {us : List Value} {vs : List V} (F : FnOk X.prog X.w X.K X.mg X.base CX k f fd ps sp) (hr : Room k X.A) (hb : Binds X.K fd ps ds) (hd : Vals dvs ds) (hx : Passes CX X E)
    (I : Inv X pins σ H s) (r : Vals vs us) (h : sp (vs ++ dvs) H Q E) : wpAny (model X.prog X.w) X.A (call (.ref f) us) (EP X pins σ Q) X.xe s := by
  have r2 : Vals (vs ++ dvs) (us ++ ds) := r.append hd
  have hl : (us ++ ds).length = ps.length := by rw [← r2.length]; exact F.len _ _ _ _ h
  refine wpAny_call (codeAny_mono (F.run X.A X.stack s H ⟨us, []⟩ (us ++ ds) (vs ++ dvs) Q E hr I.env0 (hb s us I.kIn hl) r2 h) fun r s' hq => ?_)
  cases r with
  | error e => exact hx pins σ H s e s' I hq
  | ok fl =>
    cases fl with
    | ret u => exact I.after hq
    | next => exact False.elim hq
    | brk => exact False.elim hq
    | cont => exact False.elim hq
theorem pe_call (F : FnOk X.prog X.w X.K X.mg X.base CX k f fd ps sp) (hr : Room k X.A) (hg : Gl X x) (hm : X.mg x = some (.ref f)) (hk : PySem.W.keepIn X.K (.ref f) = true) (hb : Binds X.K fd ps ds) (hd : Vals dvs ds) (hx : Passes CX X E)
    (ha : PA X (e :: es) t) (hdb : (x == ("__debug__" : Str)) = false := by decide) (he : starEach (e :: es) X.env = (false, eval e X.env) :: starEach es X.env := by rfl) (hpl : (backTo pos (starEach es X.env)).any (·.1) = false := by rfl) :
    PE X (.Call (.Name x p) (e :: es) [] pos) (tCall sp dvs E t) := by
  intro pins s σ H Q I h
  refine wpAny_Call_Name_kw (ld_glob I hg hm ?_ hdb)
  refine PySem.W.callWith_K (h₀ := X.base) I.ok.mod.kin hk (thn (ha pos pins s σ H _ I h) fun us s1 ⟨vs, H1, I1, r, q⟩ => ⟨I1.kIn, ?_⟩) he hpl
  exact run_fn F hr hb hd hx I1 r q
theorem pe_call0 (F : FnOk X.prog X.w X.K X.mg X.base CX k f fd ps sp) (hr : Room k X.A) (hg : Gl X x) (hm : X.mg x = some (.ref f)) (hk : PySem.W.keepIn X.K (.ref f) = true) (hb : Binds X.K fd ps ds) (hd : Vals dvs ds) (hx : Passes CX X E)
    (hdb : (x == ("__debug__" : Str)) = false := by decide) : PE X (.Call (.Name x p) [] [] pos) (tCall sp dvs E tNil) := by
  intro pins s σ H Q I h
  refine wpAny_Call_Name_kw (ld_glob I hg hm ?_ hdb)
  exact PySem.W.callWith_K0 I.kIn hk (run_fn (us := []) F hr hb hd hx I .nil h)
structure Mk (K : PySem.W.Frag) (C f : Addr) : Prop where
  makes : PySem.W.makesIn K C = true
  init : PySem.W.findIn K (.ref C) "__init__" = some (some (.ref f))
  fn : PySem.W.isFn K (.ref f) = true
  kp : PySem.W.keepIn K (.ref C) = true
theorem run_make {pins : List (Addr × Obj)} {σ : St} {H : Hp} {s : Shared} {Q : VK} {us : List Value} {vs : List V} (M : Mk X.K C f) (F : FnOk X.prog X.w X.K X.mg X.base CX k f fd ps sp) (hr : Room (k + 1) X.A) (hb : Binds X.K fd ps ds) (hd : Vals dvs ds)
    (hx : Passes CX X E) (I : Inv X pins σ H s) (r : Vals vs us)
    (h : ∀ x dx, H x = none → H dx = none → dx ≠ x → sp (.ref x :: (vs ++ dvs)) (upd (upd H dx (.own x)) x (.ins C dx [])) (fun v H2 => v = .non ∧ Q (.ref x) H2) E) :
    wpAny (model X.prog X.w) X.A (call (.ref C) us) (EP X pins σ Q) X.xe s := by
  have hq := h (s.heap.objs.size + 1) s.heap.objs.size (I.hok.fresh (Nat.le_succ _)) (I.hok.fresh (Nat.le_refl _)) (Nat.ne_of_lt (Nat.lt_succ_self _))
  have I2 := Inv.made (C := C) I
  have r2 : Vals (V.ref (s.heap.objs.size + 1) :: (vs ++ dvs)) (Value.ref (s.heap.objs.size + 1) :: (us ++ ds)) := .cons rfl (r.append hd)
  have hl : (Value.ref (s.heap.objs.size + 1) :: us ++ ds).length = ps.length := by
    have e := r2.length
    rw [F.len _ _ _ _ hq] at e
    exact e.symm
  refine wpAny_call (make_map (f := f) I.kIn M.makes M.init (beq_iff_eq.mp M.fn) (codeAny_mono (F.run _ X.stack _ _ ⟨Value.ref (s.heap.objs.size + 1) :: us, []⟩ (Value.ref (s.heap.objs.size + 1) :: (us ++ ds)) _ _ E (hr.make C us [])
    (I2.env0.make C us []) (hb _ (Value.ref (s.heap.objs.size + 1) :: us) I2.kIn hl) r2 hq) fun r s' hq' => ?_))
  cases r with
  | error e => exact hx pins σ _ _ e s' I2 hq'
  | ok fl =>
    cases fl with
    | ret u =>
      obtain ⟨v, H', I3, rv, ev, q3⟩ := I2.after hq'
      subst ev
      exact ⟨rv, ⟨V.ref (s.heap.objs.size + 1), H', I3, rfl, q3⟩⟩
    | next => exact False.elim hq'
    | brk => exact False.elim hq'
    | cont => exact False.elim hq'
theorem pe_make (M : Mk X.K C f) (F : FnOk X.prog X.w X.K X.mg X.base CX k f fd ps sp) (hr : Room (k + 1) X.A) (hg : Gl X x) (hm : X.mg x = some (.ref C)) (hb : Binds X.K fd ps ds) (hd : Vals dvs ds) (hx : Passes CX X E)
    (ha : PA X (e :: es) t) (hdb : (x == ("__debug__" : Str)) = false := by decide) (he : starEach (e :: es) X.env = (false, eval e X.env) :: starEach es X.env := by rfl) (hpl : (backTo pos (starEach es X.env)).any (·.1) = false := by rfl) :
    PE X (.Call (.Name x p) (e :: es) [] pos) (tMake C sp dvs E t) := by
  intro pins s σ H Q I h
  refine wpAny_Call_Name_kw (ld_glob I hg hm ?_ hdb)
  refine PySem.W.callWith_K (h₀ := X.base) I.ok.mod.kin M.kp (thn (ha pos pins s σ H _ I h) fun us s1 ⟨vs, H1, I1, r, q⟩ => ⟨I1.kIn, ?_⟩) he hpl
  exact run_make M F hr hb hd hx I1 r q
end
section
variable {X : Cx} {CX : CXT} {k : Nat} {f C : Addr} {fd : FuncData} {ps ks : List Str} {sp : Sp} {E : XK} {x m : Str} {p pos apos kpos : Pos} {e o : Expr} {es : List Expr} {kws : List Keyword} {te ta : TE} {t tk : TA} {nm : Option Str}
structure KBinds (K : PySem.W.Frag) (fd : FuncData) (ps ks : List Str) (g : List Value → List Value → List Value) (gV : List V → List V → List V) : Prop where
  to : ∀ (s : Shared) (us ws : List Value), K.In s.heap → (g us ws).length = ps.length → BindsTo s fd ⟨us, ks.zip ws⟩ (ps.zip (g us ws))
  rel : ∀ {vs : List V} {us : List Value} {zs : List V} {ws : List Value}, Vals vs us → Vals zs ws → Vals (gV vs zs) (g us ws)
variable {g : List Value → List Value → List Value} {gV : List V → List V → List V}
end
structure FnScope (N P : List Str) (sc : Scope) : Prop where
  kind : sc.kind = .function
  co : sc.isCoroutine = false
  gen : sc.isGenerator = false
  nd : N.Nodup
  pre : N.take P.length = P
  par : ∀ x ∈ P, sc.names.lookup x = some .local ∨ sc.names.lookup x = some .cell
  nofree : ∀ y ∈ sc.names, y.2 ≠ .free
theorem bindL_out {kindOf : Str → Option NameKind} {x : Str} : ∀ {binds : List (Str × Value)} {m : Str → Option Value}, (∀ v, (x, v) ∉ binds) → bindL kindOf binds m x = m x
  | [], _, _ => rfl
  | (n, v) :: r, m, h => by
    unfold bindL
    rw [bindL_out fun w hw => h w (List.mem_cons_of_mem _ hw)]
    split
    · have : x ≠ n := by rintro rfl; exact h v List.mem_cons_self
      simp [this]
    · rfl
theorem bindC_out {kindOf : Str → Option NameKind} {x : Str} : ∀ {binds : List (Str × Value)} {m : Str → Option Value}, (∀ v, (x, v) ∉ binds) → bindC kindOf binds m x = m x
  | [], _, _ => rfl
  | (n, v) :: r, m, h => by
    unfold bindC
    rw [bindC_out fun w hw => h w (List.mem_cons_of_mem _ hw)]
    split
    · rfl
    · have : x ≠ n := by rintro rfl; exact h v List.mem_cons_self
      simp [this]
theorem bindL_get {kindOf : Str → Option NameKind} {x : Str} {v : Value} : ∀ {P : List Str} {vs : List Value} {i : Nat} {m : Str → Option Value}, P.Nodup → P[i]? = some x → vs[i]? = some v → kindOf x = some .local →
    bindL kindOf (P.zip vs) m x = some v
  | [], _, _, _, _, h, _, _ => by simp at h
  | _ :: _, [], _, _, _, _, h, _ => by simp at h
  | p :: P, w :: vs, 0, m, nd, h1, h2, hk => by
    simp at h1 h2; subst h1; subst h2
    show bindL kindOf ((p, w) :: P.zip vs) m p = _
    unfold bindL
    rw [bindL_out fun v hv => (List.nodup_cons.mp nd).1 (List.of_mem_zip hv).1, if_pos hk]
    simp
  | p :: P, w :: vs, i + 1, m, nd, h1, h2, hk => by
    show bindL kindOf ((p, w) :: P.zip vs) m x = _
    unfold bindL
    exact bindL_get (i := i) (List.nodup_cons.mp nd).2 (by simpa using h1) (by simpa using h2) hk
theorem bindC_get {kindOf : Str → Option NameKind} {x : Str} {v : Value} : ∀ {P : List Str} {vs : List Value} {i : Nat} {m : Str → Option Value}, P.Nodup → P[i]? = some x → vs[i]? = some v → kindOf x ≠ some .local →
    bindC kindOf (P.zip vs) m x = some v
  | [], _, _, _, _, h, _, _ => by simp at h
  | _ :: _, [], _, _, _, _, h, _ => by simp at h
  | p :: P, w :: vs, 0, m, nd, h1, h2, hk => by
    simp at h1 h2; subst h1; subst h2
    show bindC kindOf ((p, w) :: P.zip vs) m p = _
    unfold bindC
    rw [bindC_out fun v hv => (List.nodup_cons.mp nd).1 (List.of_mem_zip hv).1, if_neg hk]
    simp
  | p :: P, w :: vs, i + 1, m, nd, h1, h2, hk => by
    show bindC kindOf ((p, w) :: P.zip vs) m x = _
    unfold bindC
    exact bindC_get (i := i) (List.nodup_cons.mp nd).2 (by simpa using h1) (by simpa using h2) hk
def start (N : List Str) (vs : List V) : St := vs.map some ++ List.replicate (N.length - vs.length) none
def cxOf (CX : CXT) (P : Program) (w : World) (K : PySem.W.Frag) (mg : Str → Option Value) (base : Heap) (N : List Str) (qual : Str) (scope : Scope) (f : Addr) (cd : Value) (A : Around) (outer : List Env) (s : Shared) (H : Hp) (E : XK) : Cx where
  prog := P
  w := w
  K := K
  mg := mg
  base := base
  A := A.deeper (envOfC qual scope s.heap.objs.size f cd)
  N := N
  s₀ := s
  H₀ := H
  env := envOfC qual scope s.heap.objs.size f cd
  outer := outer
  stack := envOfC qual scope s.heap.objs.size f cd :: outer
  ex := []
  calm := true
  fn := fun _ => true
  pn := []
  xe := fun e s' => wpAny (model P w) (A.deeper (envOfC qual scope s.heap.objs.size f cd)) (leaving (envOfC qual scope s.heap.objs.size f cd) e) (fun _ s'' => CX outer H s E e s'') (fun e' s'' => CX outer H s E e' s'') s'
theorem cell_has {sc : Scope} {n : Nat} {x : Str} (h : sc.names.lookup x = some .cell) : ∃ c, (cellsFrom n sc.names []).lookup x = some c := by
  have q := PySem.W.cellsFrom_some sc.names n [] (.inl h)
  exact Option.isSome_iff_exists.mp q
theorem inv_start {CX : CXT} {P : Program} {w : World} {K : PySem.W.Frag} {mg : Str → Option Value} {base : Heap} {N ps : List Str} {qual : Str} {scope : Scope} {f : Addr} {cd : Value} {A : Around} {outer : List Env} {s s1 : Shared} {H : Hp} {E : XK} {us : List Value} {vs : List V}
    (S : FnScope N ps scope) (hd : A.handled = none) (e0 : Env0 P w K mg base A outer s H) (hl : vs.length = ps.length) (r : Vals vs us)
    (x : InCallC s s.heap.objs.size (bindL (envOfC qual scope s.heap.objs.size f cd).kindOf (ps.zip us) fun _ => none) (cellsFrom (s.heap.objs.size + 1) scope.names []) (bindC (envOfC qual scope s.heap.objs.size f cd).kindOf (ps.zip us) fun _ => none) s1) :
    Inv (cxOf CX P w K mg base N qual scope f cd A outer s H E) [] (start N vs) H s1 := by
  have hpl : ps.length ≤ N.length := by have := congrArg List.length S.pre; rw [List.length_take] at this; omega
  obtain ⟨h1, tk, rfl, hk⟩ := x.done
  have noA : ∀ b : Addr, b ∉ (cxOf CX P w K mg base N qual scope f cd A outer s H E).ex := fun b z => absurd (show b ∈ ([] : List Addr) from z) (by simp)
  refine ⟨⟨e0.mod, S.kind, rfl, rfl, Nat.le_refl _, fun y z c h1 h2 => ?_, fun y hy => ?_, fun y c _ h => ?_, fun _ => hd, Around.frames_deeper e0.frames, .inr ⟨rfl, rfl⟩, fun b z => absurd z (noA b), e0.bs, e0.bsz, fun b _ _ => noA b, fun b z => absurd z (noA b), e0.funs, e0.frf⟩,
    rfl, e0.bare, Un.kept hk, ⟨_, x.toInCall.ns, fun i y v h1 h2 h3 => ?_⟩, fun y c h => ⟨_, x.cell y c h⟩, e0.hok.fresh (Nat.le_refl _), fun y c h => ?_, fun p hp => absurd (show p ∈ ([] : List (Addr × Obj)) from hp) (by simp), e0.hok.kept hk, ?_⟩
  · exact name_of_addr x.apart (PySem.mem_of_lookup h1) (PySem.mem_of_lookup h2)
  · have hy : scope.names.lookup y = some .cell ∨ scope.names.lookup y = some .free := hy
    rcases hy with hy | hy
    · exact cell_has hy
    · exact absurd rfl (S.nofree _ (PySem.mem_of_lookup hy))
  · exact Nat.le_of_lt (x.above y c (PySem.mem_of_lookup h))
  · have hi : i < vs.length := by
      unfold start at h2
      by_cases hi : i < vs.length
      · exact hi
      · rw [List.getElem?_append_right (by simpa using hi)] at h2
        rw [List.getElem?_replicate] at h2
        split at h2 <;> cases h2
    have ha : vs[i]? = some v := by
      unfold start at h2
      rw [List.getElem?_append_left (by simpa using hi), List.getElem?_map] at h2
      cases e : vs[i]? with
      | none => rw [e] at h2; cases h2
      | some a => rw [e] at h2; cases h2; rfl
    obtain ⟨u, hu, rv⟩ := r.get ha
    have hp : ps[i]? = some y := by
      rw [← S.pre, List.getElem?_take_of_lt (by omega)]; exact h1
    have ndP : ps.Nodup := by rw [← S.pre]; exact S.nd.sublist (List.take_sublist _ _)
    refine ⟨u, rv, ?_⟩
    rcases S.par y (List.mem_of_getElem? hp) with k | k
    · exact .inl ⟨k, bindL_get ndP hp hu k⟩
    · obtain ⟨c, e⟩ := cell_has (n := s.heap.objs.size + 1) k
      refine .inr ⟨.inl k, c, e, ?_⟩
      have q := x.cell y c e
      rw [bindC_get ndP hp hu (by show scope.names.lookup y ≠ _; rw [k]; decide)] at q
      exact q
  · exact e0.hok.fresh (Nat.le_of_lt (x.above y c (PySem.mem_of_lookup h)))
  · unfold start
    show _ = N.length
    rw [List.length_append, List.length_map, List.length_replicate]
    omega
theorem fn_of {CX : CXT} {P : Program} {w : World} {K : PySem.W.Frag} {mg : Str → Option Value} {base : Heap} {k : Nat} {f : Addr} {name qual : Str} {params : Arguments} {body : List Stmt} {scope : Scope} {dV kV doc pm cdv ct oc : Value} {an od : Option Addr}
    {osl : Array (Option Value)} {N ps : List Str} {sp : Sp} (lk : K.lookup f = some ⟨oc, od, .func (PySem.W.fnOf name qual params body scope dV kV doc pm an cdv ct), osl⟩) (hcd : PySem.W.codeIn K cdv qual = true) (S : FnScope N ps scope)
    (len : ∀ vs H Q E, sp vs H Q E → vs.length = ps.length)
    (hbody : ∀ (A : Around) (outer : List Env) (s : Shared) (H : Hp) (vs : List V) (Q : VK) (E : XK), Room k (A.deeper (envOfC qual scope s.heap.objs.size f cdv)) → sp vs H Q E →
      ∃ t, PSs (cxOf CX P w K mg base N qual scope f cdv A outer s H E) body t ∧ t { nx := fun _ H' => Q .non H', rt := Q } (start N vs) H) :
    FnOk P w K mg base CX (k + 1) f (PySem.W.fnOf name qual params body scope dV kV doc pm an cdv ct) ps sp := by
  refine ⟨len, fun A outer s H args us vs Q E hr e0 hb r hsp => ?_⟩
  have hl := len _ _ _ _ hsp
  have KX : K.In s.heap := e0.mod.kin.keeps fun b o e => (e0.bs b o e).1
  have lim : s.heap.NoLimit := e0.mod.nolimit.keeps fun b o e => (e0.bs b o e).1
  have hkind : ∀ y ∈ ps.zip us, scope.names.lookup y.1 = some .local ∨ (scope.names.lookup y.1 = some .cell ∧ ((cellsFrom (s.heap.objs.size + 1) scope.names []).lookup y.1).isSome = true) := fun ⟨n, v⟩ hy => by
    rcases S.par n (List.of_mem_zip hy).1 with q | q
    · exact .inl q
    · exact .inr ⟨q, PySem.W.cellsFrom_some _ _ _ (.inl q)⟩
  refine codeAny_call_function hr.depth (KX _ _ lk) rfl S.co S.gen rfl (PySem.W.codeRec_of KX hcd) (hb _ _ _ _ ?_)
  refine wpAny_newFunctionEnv_cells S.kind hkind fun env he s1 x => ?_
  subst he
  refine ⟨lim.keeps x.toInCall.keep, codeAny_func ?_⟩
  obtain ⟨t, ht, hq⟩ := hbody A outer s H vs Q E (hr.deeper _) hsp
  have I : Inv (cxOf CX P w K mg base N qual scope f cdv A outer s H E) [] (start N vs) H s1 := inv_start S hr.hd e0 hl r x
  refine wpAny_mono (ht [] s1 (start N vs) H _ I hq) (fun fl s' hs => ?_) fun e s' hs => hs
  have fin : ∀ {σ' : St} {H' : Hp} {v : V} {u : Value}, Inv (cxOf CX P w K mg base N qual scope f cdv A outer s H E) [] σ' H' s' → RelV v u → Q v H' → CE outer P w H s Q u s' :=
    fun {σ' H' v u} J rv q => ⟨v, H', J.os, J.bare, J.base, J.hok, rv, q⟩
  cases fl with
  | ret u =>
    obtain ⟨v, σ', H', J, rv, q⟩ := hs
    exact fin J rv q
  | next =>
    obtain ⟨σ', H', J, q⟩ := hs
    exact fin (v := V.non) (u := Value.none) J rfl q
  | brk =>
    obtain ⟨_, _, _, q⟩ := hs
    exact False.elim q
  | cont =>
    obtain ⟨_, _, _, q⟩ := hs
    exact False.elim q
end L2
namespace L2
open PySem PySem.Spec PyProof.Rows
section
variable {X : Cx} {x : Str} {p pos : Pos} {e : Expr} {es : List Expr} {t : TA} {id T : String} {r : List V → Hp → VK → Prop}
def tCB (r : List V → Hp → VK → Prop) (t : TA) : TE := fun σ H Q => t σ H fun vs H1 => r vs H1 Q
theorem pe_callB (hc : CallR X (.builtin id) r) (hg : Gl X x) (hm : X.mg x = none) (hv : bootBuiltins x = some (.builtin id)) (ha : PA X (e :: es) t) (hn : x ≠ "__name__" := by decide) (hdb : (x == ("__debug__" : Str)) = false := by decide)
    (he : starEach (e :: es) X.env = (false, eval e X.env) :: starEach es X.env := by rfl) (hpl : (backTo pos (starEach es X.env)).any (·.1) = false := by rfl) : PE X (.Call (.Name x p) (e :: es) [] pos) (tCB r t) := by
  intro pins s σ H Q I h
  refine wpAny_Call_Name_kw (ld_blt I hg hm hv ?_ hn hdb)
  exact PyProof.Rows.callWith_builtin1 (thn (ha pos pins s σ H _ I h) fun us s1 ⟨vs, H1, I1, r1, q1⟩ => hc pins s1 σ H1 vs us Q I1 r1 q1) he hpl
theorem pe_callTy (hc : CallR X (.type T) r) (hg : Gl X x) (hm : X.mg x = none) (hv : bootBuiltins x = some (.type T)) (ha : PA X (e :: es) t) (hn : x ≠ "__name__" := by decide) (hdb : (x == ("__debug__" : Str)) = false := by decide)
    (he : starEach (e :: es) X.env = (false, eval e X.env) :: starEach es X.env := by rfl) (hpl : (backTo pos (starEach es X.env)).any (·.1) = false := by rfl) : PE X (.Call (.Name x p) (e :: es) [] pos) (tCB r t) := by
  intro pins s σ H Q I h
  refine wpAny_Call_Name_kw (ld_blt I hg hm hv ?_ hn hdb)
  exact PyProof.Rows.callWith_type1 (thn (ha pos pins s σ H _ I h) fun us s1 ⟨vs, H1, I1, r1, q1⟩ => hc pins s1 σ H1 vs us Q I1 r1 q1) he hpl
end
end L2
namespace HT
open PySem PyProof.Rows
section
open PySem.SeqAt
open PySem.AutoSeq1 (wpAny_loadPart')
open PySem.MeetsSeq PySem.MeetsSeq2 PySem.MeetsSeq3
end
section
variable {prog : Program} {w : World} {A : Around} {E : Value → Shared → Prop} {s : Shared}
def sIx (n d : Nat) : Option Int → Nat
  | none => d
  | some v => if v < 0 then (v + (n : Int)).toNat else min v.toNat n
theorem sIx_none (n d : Nat) : sIx n d none = d := rfl
theorem sIx_nat (n d k : Nat) : sIx n d (some (k : Int)) = min k n := by
  show (if (k : Int) < 0 then ((k : Int) + (n : Int)).toNat else min (k : Int).toNat n) = min k n
  rw [if_neg (by omega), Int.toNat_natCast]
end
end HT
namespace L2
open PySem PySem.Spec PyProof.Rows
abbrev TO := St → Hp → (Option Int → Hp → Prop) → Prop
def PO (X : Cx) (e : Option Expr) (t : TO) : Prop :=
  ∀ (pins : List (Addr × Obj)) (s : Shared) (σ : St) (H : Hp) (Q : Option Int → Hp → Prop), Inv X pins σ H s → t σ H Q →
    wpAny (model X.prog X.w) X.A (evalPart e X.env) (fun u s' => ∃ o H', Inv X pins σ H' s' ∧ IsPart u o ∧ Q o H') X.xe s
def tNoPart : TO := fun _ H Q => Q none H
def tPart (t : TE) : TO := fun σ H Q => t σ H fun x H1 => ∃ i, x = .int i ∧ Q (some i) H1
theorem intsAre_of {ns : List Int} : ∀ {us : List Value}, Vals (ns.map V.int) us → IntsAre us ns := by
  induction ns with
  | nil => intro us r; rw [List.map_nil] at r; cases r; exact .nil
  | cons n ns ih =>
    intro us r
    rw [List.map_cons] at r
    cases r with
    | cons r1 r2 =>
      obtain ⟨t, e⟩ := r1
      subst e
      exact .cons n t (ih r2)
section
variable {X : Cx} {e : Expr} {te : TE} {lo hi : Option Expr} {tl th : TO} {pos p2 : Pos}
theorem po_none : PO X none tNoPart := by
  intro pins s σ H Q I h
  rw [evalPart_none]
  exact wpAny_pure ⟨none, H, I, .none, h⟩
theorem po_some (h : PE X e te) : PO X (some e) (tPart te) := by
  intro pins s σ H Q I hw
  rw [evalPart_some]
  refine thn (h pins s σ H _ I hw) fun u s1 ⟨x, H1, I1, r1, q1⟩ => ?_
  obtain ⟨i, rfl, q⟩ := q1
  obtain ⟨t, rfl⟩ := r1
  exact ⟨some i, H1, I1, .int i t, q⟩
def SlR (X : Cx) (r : V → Option Int → Option Int → Hp → VK → Prop) : Prop :=
  ∀ (pins : List (Addr × Obj)) (s : Shared) (σ : St) (H : Hp) (x : V) (v vl vu : Value) (lo hi : Option Int) (sl : Addr) (Q : VK), Inv X pins σ H s → RelV x v → s.heap.IsSliceOf sl vl vu .none → IsPart vl lo → IsPart vu hi → r x lo hi H Q →
    ∃ T id, typeLookup (.type T) "__getitem__" = pure (some (.builtin id)) ∧ s.TypeIs v T ∧ wpAny (model X.prog X.w) X.A (getItem v (.ref sl)) (EP X pins σ Q) X.xe s
def tSl (r : V → Option Int → Option Int → Hp → VK → Prop) (te : TE) (tl th : TO) : TE := fun σ H Q => te σ H fun x H1 => tl σ H1 fun l H2 => th σ H2 fun u H3 => r x l u H3 Q
theorem pe_slice {r : V → Option Int → Option Int → Hp → VK → Prop} (hr : SlR X r) (he : PE X e te) (hl : PO X lo tl) (hu : PO X hi th) : PE X (.Subscript e (.Slice lo hi none p2) pos) (tSl r te tl th) := by
  intro pins s σ H Q I h
  refine Subscript_ (thn (he pins s σ H _ I h) fun v s1 ⟨x, H1, I1, r1, q1⟩ => ?_)
  refine wpAny_Slice (thn (hl pins s1 σ H1 _ I1 q1) fun vl s2 ⟨l, H2, I2, pl, q2⟩ => thn (hu pins s2 σ H2 _ I2 q2) fun vu s3 ⟨u, H3, I3, pu, q3⟩ => ?_)
  rw [evalPart_none]
  refine wpAny_pure ?_
  have I4 : Inv X pins σ H3 { s3 with heap := s3.heap.push { cls := .type "slice", data := .fields #[vl, vu, .none] } } := I3.kept (t' := s3.toks) fun b ob q => Heap.get?_push_of_some _ q
  obtain ⟨T, id, hT, ht, hg⟩ := hr pins { s3 with heap := s3.heap.push { cls := .type "slice", data := .fields #[vl, vu, .none] } } σ H3 x v vl vu l u s3.heap.objs.size Q I4 r1 (Heap.IsSliceOf.new ..) pl pu q3
  show wpAny (model X.prog X.w) X.A (subscriptTail e (.Slice lo hi none p2) v (.ref s3.heap.objs.size)) (EP X pins σ Q) X.xe { s3 with heap := s3.heap.push { cls := .type "slice", data := .fields #[vl, vu, .none] } }
  exact tail_any (ops := [.ref s3.heap.objs.size, v]) ht hT hg (by with_unfolding_all rfl)
def cutV (xs : List V) (lo hi : Option Int) : List V := (xs.drop (HT.sIx xs.length 0 lo)).take (HT.sIx xs.length xs.length hi - HT.sIx xs.length 0 lo)
theorem cutV_length (xs : List V) (lo hi : Option Int) : (cutV xs lo hi).length ≤ xs.length := by
  unfold cutV
  rw [List.length_take, List.length_drop]
  omega
end
end L2
namespace L2
open PySem PySem.Spec PyProof.Rows
def ixN (n : Nat) (i : Int) : Option Nat := if 0 ≤ i then (if i < n then some i.toNat else none) else if -(n : Int) ≤ i then some (i + n).toNat else none
def atI {α : Type} (xs : List α) (i : Int) : Option α := (ixN xs.length i).bind fun j => xs[j]?
theorem ixN_seq {n : Nat} {i : Int} {j : Nat} (h : ixN n i = some j) : seqIndex? i n = some j ∧ j < n ∧ -(n : Int) ≤ i ∧ i < n := by
  unfold ixN at h
  by_cases h0 : 0 ≤ i
  · rw [if_pos h0] at h
    by_cases h1 : i < n
    · rw [if_pos h1] at h
      have e : i.toNat = j := Option.some.inj h
      exact ⟨by rw [seqIndex_of h0 h1, e], by omega, by omega, h1⟩
    · rw [if_neg h1] at h; cases h
  · rw [if_neg h0] at h
    by_cases h1 : -(n : Int) ≤ i
    · rw [if_pos h1] at h
      have e : (i + n).toNat = j := Option.some.inj h
      exact ⟨by rw [seqIndex_neg (by omega) h1, e], by omega, h1, by omega⟩
    · rw [if_neg h1] at h; cases h
theorem atI_get {α : Type} {xs : List α} {i : Int} {v : α} (h : atI xs i = some v) : ∃ j, seqIndex? i xs.length = some j ∧ xs[j]? = some v ∧ j < xs.length ∧ -(xs.length : Int) ≤ i ∧ i < xs.length := by
  unfold atI at h
  cases e : ixN xs.length i with
  | none => rw [e] at h; cases h
  | some j =>
    rw [e] at h
    obtain ⟨h1, h2, h3, h4⟩ := ixN_seq e
    exact ⟨j, h1, h, h2, h3, h4⟩
theorem atI_nat {α : Type} {xs : List α} {j : Nat} {v : α} (h : xs[j]? = some v) : atI xs (j : Int) = some v := by
  have hj : j < xs.length := (List.getElem?_eq_some_iff.mp h).1
  have e : ixN xs.length (j : Int) = some j := by
    unfold ixN
    rw [if_pos (by omega), if_pos (by omega)]; simp
  unfold atI; rw [e]; exact h
theorem atI_last {α : Type} (xs : List α) (v : α) : atI (xs ++ [v]) (-1) = some v := by
  have hl : (xs ++ [v]).length = xs.length + 1 := by simp
  have e : ixN (xs ++ [v]).length (-1) = some xs.length := by
    unfold ixN
    rw [hl, if_neg (by decide), if_pos (by omega)]
    congr 1
    omega
  unfold atI
  rw [e]
  show (xs ++ [v])[xs.length]? = some v
  simp
def PlainIx (b : Expr) : Prop := ∀ o i, subscripted b false o i = operate [o, i] (getItem o i)
def IxR (X : Cx) (r : R2) : Prop :=
  ∀ (value slice : Expr) (pins : List (Addr × Obj)) (s : Shared) (σ : St) (H : Hp) (x y : V) (v u : Value) (Q : VK), Inv X pins σ H s → RelV x v → RelV y u → r x y H Q →
    subscripted slice false v u = operate [v, u] (getItem v u) → wpAny (model X.prog X.w) X.A (subscriptTail value slice v u) (EP X pins σ Q) X.xe s
def MtR (X : Cx) (id : String) (r : V → List V → Hp → VK → Prop) : Prop :=
  ∀ (pins : List (Addr × Obj)) (s : Shared) (σ : St) (H : Hp) (x : V) (xs : List V) (v : Value) (us : List Value) (Q : VK), Inv X pins σ H s → RelV x v → Vals xs us → r x xs H Q →
    wpAny (model X.prog X.w) X.A (call (.builtin id) (v :: us)) (EP X pins σ Q) X.xe s
section
variable {X : Cx} {a b : Expr} {ta tb : TE} {pos : Pos}
theorem pe_ix {r : R2} (hr : IxR X r) (ha : PE X a ta) (hb : PE X b tb) (hs : PlainIx b) : PE X (.Subscript a b pos) (tOp r ta tb) := by
  intro pins s σ H Q I h
  exact Subscript_ (binT ha hb I h fun v u s2 x y H2 I2 rx ry q => hr a b pins s2 σ H2 x y v u Q I2 rx ry q (hs _ _))
def rIxL (K : PySem.W.Frag) : R2 := fun x y H Q => ∃ p xs i v, x = .ref p ∧ y = .int i ∧ SqL K H p xs ∧ atI xs i = some v ∧ Q v H
def rIxT (K : PySem.W.Frag) : R2 := fun x y H Q => ∃ p xs i v, x = .ref p ∧ y = .int i ∧ SqT K H p xs ∧ atI xs i = some v ∧ Q v H
theorem ix_list : IxR X (rIxL X.K) := by
  intro value slice pins s σ H x y v u Q I rx ry h hs
  obtain ⟨p, xs, i, z, rfl, rfl, hq, he, q⟩ := h
  cases rx
  obtain ⟨t, rfl⟩ := ry
  obtain ⟨its, r, pl, hz⟩ := I.list hq
  obtain ⟨j, h1, h2, h3, h4, h5⟩ := atI_get he
  obtain ⟨w, ew, rw'⟩ := r.get h2
  have hl := r.length
  have hn := line63
  have fin : EP X pins σ Q w s := ⟨z, H, I, rw', q⟩
  by_cases h0 : 0 ≤ i
  · have hj : i.toNat = j := by
      rw [seqIndex_of h0 h5] at h1
      exact Option.some.inj h1
    exact item_listR pl.isList h0 (by omega) (by rw [hj]; simpa using ew) fin hs
  · have hj : (i + (its.toArray.size : Int)).toNat = j := by
      rw [seqIndex_neg (by omega) h4] at h1
      rw [List.size_toArray, ← hl]
      exact Option.some.inj h1
    exact subscriptTail_builtinR (x := w) pl.isList.typeIs slot_list_getitem.lookup
      (wpAny_getItem_list_neg (Q := fun r s' => r = w ∧ EP X pins σ Q r s') pl.isList (by omega) (by rw [List.size_toArray] <;> omega) (by omega) (by rw [hj]; simpa using ew) ⟨rfl, fin⟩) hs
theorem ix_tup : IxR X (rIxT X.K) := by
  intro value slice pins s σ H x y v u Q I rx ry h hs
  obtain ⟨p, xs, i, z, rfl, rfl, hq, he, q⟩ := h
  cases rx
  obtain ⟨t, rfl⟩ := ry
  obtain ⟨its, r, pl, hz⟩ := I.tuple hq
  obtain ⟨j, h1, h2, h3, h4, h5⟩ := atI_get he
  obtain ⟨w, ew, rw'⟩ := r.get h2
  have hl := r.length
  have hn := line63
  have fin : EP X pins σ Q w s := ⟨z, H, I, rw', q⟩
  exact subscriptTail_builtinR (x := w) pl.typeIs slot_tuple_getitem.lookup
    (getItem_tuple (j := j) (Q := fun r s' => r = w ∧ EP X pins σ Q r s') pl (by omega) (by omega) (by rw [List.size_toArray, ← hl]; exact h1) (by simpa using ew) ⟨rfl, fin⟩) hs
theorem mapSeq_set (its : List Value) (n j : Nat) (u : Value) : Obj.mapSeq (·.setIfInBounds j u) { cls := .type "list", data := .seq its.toArray n } = { cls := .type "list", data := .seq (its.set j u).toArray n } := by
  simp [Obj.mapSeq]
theorem Inv.lst {pins : List (Addr × Obj)} {σ : St} {H : Hp} {s : Shared} {p : Addr} {xs : List V} (I : Inv X pins σ H s) (h : H p = some (.lst xs)) :
    ∃ (its : List Value) (n : Nat), Vals xs its ∧ s.heap.get? p = some { cls := .type "list", data := .seq its.toArray n } ∧ xs.length ≤ sizeLine := by
  obtain ⟨z, its, n, r, e⟩ := I.hok p _ h
  exact ⟨its, n, r, e, z⟩
theorem Inv.lstUpd {pins : List (Addr × Obj)} {σ : St} {H : Hp} {s : Shared} {p : Addr} {xs ys : List V} {its its' : List Value} {n n' : Nat} {f : Obj → Obj} (I : Inv X pins σ H s) (h : H p = some (.lst xs))
    (ho : s.heap.get? p = some { cls := .type "list", data := .seq its.toArray n }) (hf : f { cls := .type "list", data := .seq its.toArray n } = { cls := .type "list", data := .seq its'.toArray n' }) (r : Vals ys its') (hz : ys.length ≤ sizeLine) (t : Nat) :
    Inv X pins σ (upd H p (.lst ys)) { s with heap := s.heap.update p f, toks := t } := by
  have e : (s.heap.update p f).get? p = some { cls := .type "list", data := .seq its'.toArray n' } := by
    rw [Heap.get?_update_self f ho (by rw [hf] <;> rfl), hf]
  refine I.write (x := p) (e := p) (by rw [h]; trivial) (.inl rfl) (fun b u hb q => (Heap.get?_update_other _ _ (Ne.symm hb)).trans q) ⟨_, e⟩ ?_
  exact ⟨hz, its', n', r, e⟩
def rSetL : V → V → V → Hp → (Hp → Prop) → Prop := fun o i v H Q => ∃ p xs k j, o = .ref p ∧ i = .int k ∧ H p = some (.lst xs) ∧ ixN xs.length k = some j ∧ Q (upd H p (.lst (xs.set j v)))
theorem set_list : PSet X rSetL := by
  intro pins s σ H o i v ov iv u Q I ro ri rv h
  obtain ⟨p, xs, k, j, rfl, rfl, hp, hj, q⟩ := h
  cases ro
  obtain ⟨t, rfl⟩ := ri
  obtain ⟨its, n, r, ho, hz⟩ := I.lst hp
  obtain ⟨h1, h2, h3, h4⟩ := ixN_seq hj
  have hl := r.length
  have hn := line63
  have I' : Inv X pins σ (upd H p (.lst (xs.set j v))) { s with heap := s.heap.update p (Obj.mapSeq (·.setIfInBounds j u)) } :=
    I.lstUpd hp ho (mapSeq_set its n j u) (r.set rv j) (by rw [List.length_set]; exact hz) s.toks
  by_cases h0 : 0 ≤ k
  · have hk : k.toNat = j := by
      rw [seqIndex_of h0 h4] at h1
      exact Option.some.inj h1
    exact PySem.W.ki_setAt ho h0 (by omega) (by rw [List.size_toArray, ← hl]; exact h4) (by rw [hk]; exact ⟨_, I', q⟩)
  · have hk : (k + (its.toArray.size : Int)).toNat = j := by
      rw [seqIndex_neg (by omega) h3] at h1
      rw [List.size_toArray, ← hl]
      exact Option.some.inj h1
    exact PySem.W.ki_setBack ho (by omega) (by rw [List.size_toArray, ← hl]; exact h3) (by omega) (by rw [hk]; exact ⟨_, I', q⟩)
theorem slice_bounds (lo hi : Option Int) (n : Nat) : (sliceBounds lo hi none n).1 = ((HT.sIx n 0 lo : Nat) : Int) ∧ (sliceBounds lo hi none n).2.1 = ((HT.sIx n n hi : Nat) : Int) ∧ (sliceBounds lo hi none n).2.2 = 1 := by
  refine ⟨?_, ?_, rfl⟩
  · cases lo with
    | none => simp [sliceBounds, HT.sIx]
    | some i =>
      simp only [sliceBounds, HT.sIx, Option.getD_none, show (1 : Int) > 0 by decide, if_true]
      by_cases h : i < 0
      · simp only [h, if_true] <;> omega
      · simp only [h, if_false] <;> omega
  · cases hi with
    | none => simp [sliceBounds, HT.sIx]
    | some i =>
      simp only [sliceBounds, HT.sIx, Option.getD_none, show (1 : Int) > 0 by decide, if_true]
      by_cases h : i < 0
      · simp only [h, if_true] <;> omega
      · simp only [h, if_false] <;> omega
theorem slicePick_cut (its : List Value) (lo hi : Option Int) : slicePick its.toArray lo hi none = ((its.drop (HT.sIx its.length 0 lo)).take (HT.sIx its.length its.length hi - HT.sIx its.length 0 lo)).toArray := by
  obtain ⟨h1, h2, h3⟩ := slice_bounds lo hi its.toArray.size
  unfold slicePick
  rw [h1, h2, h3]
  simp only [sliceRange_one, pick_run, List.size_toArray] <;> rfl
def rSlL (K : PySem.W.Frag) : V → Option Int → Option Int → Hp → VK → Prop := fun x lo hi H Q => ∃ a xs, x = .ref a ∧ SqL K H a xs ∧ ∀ p, H p = none → Q (.ref p) (upd H p (.lst (cutV xs lo hi)))
theorem sl_list : SlR X (rSlL X.K) := by
  intro pins s σ H x v vl vu lo hi sl Q I rx hs pl pu h
  obtain ⟨a, xs, rfl, hx, q⟩ := h
  cases rx
  obtain ⟨its, r, ht, hz⟩ := I.list hx
  have hlen := r.length
  refine ⟨"list", _, slot_list_getitem.lookup, ht.isList.typeIs, ?_⟩
  refine wpAny_getItem_list_slice ht.isList hs pl pu .none (by simp) ?_ (by rw [List.size_toArray] <;> omega)
  rw [slicePick_cut, ← hlen]
  refine ⟨.ref s.heap.objs.size, _, I.laid (t' := s.toks) (o := .lst (cutV xs lo hi)) (fun b ob q => Heap.get?_push_of_some _ q) (Nat.le_refl _) ?_, rfl, q _ (I.hok.fresh (Nat.le_refl _))⟩
  exact ⟨Nat.le_trans (cutV_length xs lo hi) hz, _, 0, (r.drop (HT.sIx xs.length 0 lo)).take (HT.sIx xs.length xs.length hi - HT.sIx xs.length 0 lo), Heap.get?_push_size _ rfl⟩
def flatV : V → Bool
  | .non => true
  | .bl _ => true
  | .int _ => true
  | .str _ => true
  | _ => false
def eqV : V → V → Bool
  | .non, .non => true
  | .bl a, .bl b => a == b
  | .bl a, .int b => (if a then 1 else 0) == b
  | .int a, .bl b => a == (if b then 1 else 0)
  | .int a, .int b => a == b
  | .str a, .str b => a == b
  | _, _ => false
theorem eqAt_V {A : Around} {s : Shared} {y x : V} {u v : Value} (ry : RelV y u) (rx : RelV x v) (fy : flatV y = true) (fx : flatV x = true) : SeqAt.EqAt A s u v (eqV y x) := by
  cases y with
  | non =>
    cases ry
    cases x with
    | non => cases rx; exact SeqAt.EqAt.same _
    | bl b => cases rx; exact SeqAt.EqAt.none_bool b
    | int b => obtain ⟨t, rfl⟩ := rx; exact SeqAt.EqAt.none_int b t
    | str b => obtain ⟨t, rfl⟩ := rx; exact SeqAt.EqAt.none_str b t
    | _ => exact absurd (show false = true from fx) Bool.false_ne_true
  | bl a =>
    cases ry
    cases x with
    | non => cases rx; exact SeqAt.EqAt.bool_none a
    | bl b => cases rx; exact SeqAt.EqAt.bool_bool a b
    | int b => obtain ⟨t, rfl⟩ := rx; exact SeqAt.EqAt.bool_int a b t
    | str b => obtain ⟨t, rfl⟩ := rx; exact SeqAt.EqAt.bool_str a b t
    | _ => exact absurd (show false = true from fx) Bool.false_ne_true
  | int a =>
    obtain ⟨t', rfl⟩ := ry
    cases x with
    | non => cases rx; exact SeqAt.EqAt.int_none a t'
    | bl b => cases rx; exact SeqAt.EqAt.int_bool a t' b
    | int b => obtain ⟨t, rfl⟩ := rx; exact SeqAt.EqAt.int_int a t' b t
    | str b => obtain ⟨t, rfl⟩ := rx; exact SeqAt.EqAt.int_str a t' b t
    | _ => exact absurd (show false = true from fx) Bool.false_ne_true
  | str a =>
    obtain ⟨t', rfl⟩ := ry
    cases x with
    | non => cases rx; exact SeqAt.EqAt.str_none a t'
    | bl b => cases rx; exact SeqAt.EqAt.str_bool a t' b
    | int b => obtain ⟨t, rfl⟩ := rx; exact SeqAt.EqAt.str_int a t' b t
    | str b => obtain ⟨t, rfl⟩ := rx; exact SeqAt.EqAt.str_str a t' b t
    | _ => exact absurd (show false = true from fx) Bool.false_ne_true
  | _ => exact absurd (show false = true from fy) Bool.false_ne_true
def eqU (x : V) (u : Value) : Bool := match u with
  | .none => eqV .non x
  | .bool b => eqV (.bl b) x
  | .int i _ => eqV (.int i) x
  | .str z _ => eqV (.str z) x
  | _ => false
theorem eqU_of {x y : V} {u : Value} (r : RelV y u) (f : flatV y = true) : eqU x u = eqV y x := by
  cases y with
  | non => cases r; rfl
  | bl b => cases r; rfl
  | int i => obtain ⟨t, rfl⟩ := r; rfl
  | str z => obtain ⟨t, rfl⟩ := r; rfl
  | _ => exact absurd (show false = true from f) Bool.false_ne_true
theorem any_eqU {x : V} : ∀ {xs : List V} {us : List Value}, Vals xs us → xs.all flatV = true → us.any (eqU x) = xs.any fun y => eqV y x
  | _, _, .nil, _ => rfl
  | y :: xs, u :: us, .cons r t, f => by
    rw [List.all_cons, Bool.and_eq_true] at f
    rw [List.any_cons, List.any_cons, eqU_of r f.1, any_eqU t f.2]
theorem mem_eqAt {A : Around} {s : Shared} {x : V} {v : Value} (rx : RelV x v) (fx : flatV x = true) : ∀ {xs : List V} {us : List Value}, Vals xs us → xs.all flatV = true → ∀ u ∈ us, SeqAt.EqAt A s u v (eqU x u)
  | _, _, .nil, _ => fun u hu => by cases hu
  | y :: xs, u :: us, .cons r t, f => fun u' hu => by
    rw [List.all_cons, Bool.and_eq_true] at f
    rcases List.mem_cons.mp hu with rfl | hu
    · rw [eqU_of r f.1]; exact eqAt_V r rx f.1 fx
    · exact mem_eqAt rx fx t f.2 u' hu
def inV (x : V) (xs : List V) : Bool := xs.any fun y => eqV y x
def rIn (K : PySem.W.Frag) (neg : Bool) : R2 := fun x y H Q => ∃ p xs, y = .ref p ∧ (SqL K H p xs ∨ SqT K H p xs) ∧ flatV x = true ∧ xs.all flatV = true ∧ Q (.bl (if neg then !inV x xs else inV x xs)) H
theorem op_in_seq : OpR X (compareOp .In) (rIn X.K false) := by
  intro pins s σ H x y v u Q I rx ry h
  obtain ⟨p, xs, rfl, hq, fx, fs, q⟩ := h
  cases ry
  rcases hq with hq | hq
  · obtain ⟨its, r, pl, hz⟩ := I.list hq
    refine SeqAt.in_listAt (eqU x) pl.isList (fun w hw => mem_eqAt rx fx r fs w (by simpa using hw)) ⟨.bl _, H, I, rfl, ?_⟩
    rw [show its.toArray.any (eqU x) = its.any (eqU x) by simp, any_eqU r fs]
    exact q
  · obtain ⟨its, r, pl, hz⟩ := I.tuple hq
    refine SeqAt.in_tupleAt (eqU x) pl (fun w hw => mem_eqAt rx fx r fs w (by simpa using hw)) ⟨.bl _, H, I, rfl, ?_⟩
    rw [show its.toArray.any (eqU x) = its.any (eqU x) by simp, any_eqU r fs]
    exact q
theorem op_notIn_seq : OpR X (compareOp .NotIn) (rIn X.K true) := by
  intro pins s σ H x y v u Q I rx ry h
  obtain ⟨p, xs, rfl, hq, fx, fs, q⟩ := h
  cases ry
  rcases hq with hq | hq
  · obtain ⟨its, r, pl, hz⟩ := I.list hq
    refine SeqAt.notIn_listAt (eqU x) pl.isList (fun w hw => mem_eqAt rx fx r fs w (by simpa using hw)) ⟨.bl _, H, I, rfl, ?_⟩
    rw [show its.toArray.any (eqU x) = its.any (eqU x) by simp, any_eqU r fs]
    exact q
  · obtain ⟨its, r, pl, hz⟩ := I.tuple hq
    refine SeqAt.notIn_tupleAt (eqU x) pl (fun w hw => mem_eqAt rx fx r fs w (by simpa using hw)) ⟨.bl _, H, I, rfl, ?_⟩
    rw [show its.toArray.any (eqU x) = its.any (eqU x) by simp, any_eqU r fs]
    exact q
theorem call_len_seq : CallR X (.builtin "len") (fun xs H Q => ∃ p ys, xs = [.ref p] ∧ (SqL X.K H p ys ∨ SqT X.K H p ys) ∧ Q (.int ys.length) H) := by
  intro pins s σ H xs us Q I r h
  obtain ⟨p, ys, rfl, hq, q⟩ := h
  obtain ⟨u, rfl, rx⟩ := vals1 r
  cases rx
  have hn := line63
  rcases hq with hq | hq
  · obtain ⟨its, r', pl, hz⟩ := I.list hq
    have hlen := r'.length
    exact Calls.call_len_list pl.isList (by simp only [List.size_toArray] <;> omega) ⟨.int ys.length, H, I.tok _, ⟨s.toks + 1, by rw [List.size_toArray, hlen]⟩, q⟩
  · obtain ⟨its, r', pl, hz⟩ := I.tuple hq
    have hlen := r'.length
    exact len_tuple pl (by simp only [List.size_toArray] <;> omega) ⟨.int ys.length, H, I.tok _, ⟨s.toks + 1, by rw [List.size_toArray, hlen]⟩, q⟩
theorem call_list_of : CallR X (.type "list") (fun xs H Q => ∃ p ys, xs = [.ref p] ∧ (SqL X.K H p ys ∨ SqT X.K H p ys) ∧ ∀ l, H l = none → Q (.ref l) (upd H l (.lst ys))) := by
  intro pins s σ H xs us Q I r h
  obtain ⟨p, ys, rfl, hq, q⟩ := h
  obtain ⟨u, rfl, rx⟩ := vals1 r
  cases rx
  have fin : ∀ (its : List Value), Vals ys its → ys.length ≤ sizeLine → ∀ (h' : Heap) (c' : Nat), (∀ b o', s.heap.get? b = some o' → h'.get? b = some o') →
      h'.get? s.heap.objs.size = some { cls := .type "list", dict := none, data := .seq its.toArray c', slots := #[] } → EP X pins σ Q (.ref s.heap.objs.size) { s with heap := h' } := fun its r' hz h' c' kp e =>
    ⟨.ref s.heap.objs.size, _, I.laid (t' := s.toks) kp (Nat.le_refl _) (show ObjOk X.prog X.w _ h' _ (.lst ys) from ⟨hz, its, c', r', e⟩), rfl, q _ (I.hok.fresh (Nat.le_refl _))⟩
  rcases hq with hq | hq
  · obtain ⟨its, r', pl, hz⟩ := I.list hq
    have hlen := r'.length
    obtain ⟨o, ho, hc, n, hd⟩ := pl.isList
    exact call_list_seq p (.inl rfl) ho hc hd (fun h' c' kp e => fin its r' hz h' c' kp e) (by simp only [List.size_toArray] <;> omega)
  · obtain ⟨its, r', pl, hz⟩ := I.tuple hq
    have hlen := r'.length
    obtain ⟨o, ho, hc, n, hd⟩ := pl
    exact call_list_seq p (.inr rfl) ho hc hd (fun h' c' kp e => fin its r' hz h' c' kp e) (by simp only [List.size_toArray] <;> omega)
def tyV (K : PySem.W.Frag) (T : String) (x : V) (H : Hp) : Prop := match x with
  | .str _ => T = "str"
  | .int _ => T = "int"
  | .ref p => (T = "list" ∧ ∃ xs, SqL K H p xs) ∨ (T = "tuple" ∧ ∃ o, K.lookup p = some o ∧ o.cls = .type "tuple" ∧ o.dict = none) ∨
      (T = "dict" ∧ ((∃ kvs, H p = some (.dK kvs)) ∨ ∃ kvs, H p = some (.dT kvs))) ∨ (T = "set" ∧ ∃ S n, H p = some (.set S n))
  | _ => False
theorem tyV_is {pins : List (Addr × Obj)} {σ : St} {H : Hp} {s : Shared} {T : String} {x : V} {v : Value} (I : Inv X pins σ H s) (r : RelV x v) (ty : tyV X.K T x H) :
    s.TypeIs v T ∧ ∀ a, v = .ref a → ∃ ob, s.heap.get? a = some ob ∧ ob.dict = none := by
  cases x with
  | str z =>
    obtain ⟨t, rfl⟩ := r
    cases (show T = "str" from ty)
    exact ⟨typeIs_str s z t, fun _ e => nomatch e⟩
  | int i =>
    obtain ⟨t, rfl⟩ := r
    cases (show T = "int" from ty)
    exact ⟨typeIs_int s i t, fun _ e => nomatch e⟩
  | ref p =>
    cases r
    rcases ty with ⟨rfl, xs, hq⟩ | ⟨rfl, o, hk, hc, hd⟩ | ⟨rfl, hk⟩ | ⟨rfl, S, n, hk⟩
    · obtain ⟨its, _, pl, _⟩ := I.list hq
      refine ⟨pl.isList.typeIs, fun a e => ?_⟩
      cases e
      obtain ⟨o, n, e, c, hd, _⟩ := pl
      exact ⟨o, e, hd⟩
    · refine ⟨⟨o, I.kIn p o hk, hc⟩, fun a e => ?_⟩
      cases e
      exact ⟨o, I.kIn _ o hk, hd⟩
    · have z : ∃ o, s.heap.get? p = some o ∧ o.ExactDict := by
        rcases hk with ⟨kvs, hk⟩ | ⟨kvs, hk⟩
        · obtain ⟨_, _, _, _, o, _, _, e, ex, _⟩ := I.hok p _ hk
          exact ⟨o, e, ex⟩
        · obtain ⟨_, _, _, _, o, _, _, e, ex, _⟩ := I.hok p _ hk
          exact ⟨o, e, ex⟩
      obtain ⟨o, e, ex⟩ := z
      refine ⟨⟨o, e, ex.1⟩, fun a e2 => ?_⟩
      cases e2
      exact ⟨o, e, ex.2.1⟩
    · obtain ⟨o, _, _, _, e, ex, _⟩ := I.hok p _ hk
      refine ⟨⟨o, e, ex.1⟩, fun a e2 => ?_⟩
      cases e2
      exact ⟨o, e, ex.2.1⟩
  | _ => exact False.elim ty
def tBM0 (K : PySem.W.Frag) (T : String) (r : V → List V → Hp → VK → Prop) (to : TE) : TE := fun σ H Q => to σ H fun x H1 => tyV K T x H1 ∧ r x [] H1 Q
def tBM (K : PySem.W.Frag) (T : String) (r : V → List V → Hp → VK → Prop) (to : TE) (t : TA) : TE := fun σ H Q => to σ H fun x H1 => tyV K T x H1 ∧ t σ H1 fun xs H2 => r x xs H2 Q
variable {o e : Expr} {es : List Expr} {to : TE} {t : TA} {name : Str} {apos cpos : Pos} {T id : String} {r : V → List V → Hp → VK → Prop}
theorem pe_bm0 (pa : PlainAttrs T) (slot : Slot T name id) (hty : typeOf (.builtin id) = pure (.type "method_descriptor")) (hm : MtR X id r) (ho : PE X o to)
    (hbase : attributeBase o name X.env (eval o X.env) = eval o X.env := by rfl) (hline : (apos.endLine == cpos.line) = true := by rfl) : PE X (.Call (.Attribute o name apos) [] [] cpos) (tBM0 X.K T r to) := by
  intro pins s σ H Q I h
  refine wpAny_Call_method0_late hbase hline (thn (ho pins s σ H _ I h) fun v s1 ⟨x, H1, I1, r1, ty, q1⟩ => ?_)
  obtain ⟨h1, h2⟩ := tyV_is I1 r1 ty
  exact ⟨T, id, pa, slot, hty, h1, h2, Calls.callWith_builtin rfl (PySem.evalArgs_none (hm pins s1 σ H1 x [] v [] Q I1 r1 .nil q1))⟩
theorem pe_bm (pa : PlainAttrs T) (slot : Slot T name id) (hty : typeOf (.builtin id) = pure (.type "method_descriptor")) (hm : MtR X id r) (ho : PE X o to) (ha : PA X (e :: es) t)
    (hbase : attributeBase o name X.env (eval o X.env) = eval o X.env := by rfl)
    (hfew : ((backTo cpos (starEach (e :: es) X.env)).all (fun x => !x.1) && (backToKw cpos (keywordEach [] X.env)).all (fun x => x.1.isSome)
      && decide ((e :: es).length + ([] : List Keyword).length + (if ([] : List Keyword).isEmpty then 0 else 1) < 30)) = true := by rfl)
    (hline : (apos.endLine == cpos.line) = true := by rfl) (hs : starEach (e :: es) X.env = (false, eval e X.env) :: starEach es X.env := by rfl) (hplain : (backTo cpos (starEach es X.env)).any (·.1) = false := by rfl) :
    PE X (.Call (.Attribute o name apos) (e :: es) [] cpos) (tBM X.K T r to t) := by
  intro pins s σ H Q I h
  refine wpAny_Call_method_late hbase hfew hline rfl (thn (ho pins s σ H _ I h) fun v s1 ⟨x, H1, I1, r1, ty, q1⟩ => ?_)
  obtain ⟨h1, h2⟩ := tyV_is I1 r1 ty
  refine ⟨T, id, pa, slot, hty, h1, h2, ?_⟩
  have hA := ha cpos pins s1 σ H1 _ I1 q1
  rw [hs] at hA ⊢
  refine Calls.callWith_builtin (by show (false || (backTo cpos (starEach es X.env)).any (·.1)) = false; rw [hplain] <;> rfl) (Calls.evalArgs_plain ?_)
  exact thn hA fun us s2 ⟨vs, H2, I2, r2, q2⟩ => hm pins s2 σ H2 x vs v us Q I2 r1 r2 q2
end
end L2
namespace L2
open PySem PySem.Spec PyProof.Rows
def MtM (X : Cx) (id : String) (r : V → List V → Hp → VK → Prop) : Prop :=
  ∀ (pins : List (Addr × Obj)) (s : Shared) (σ : St) (H : Hp) (x : V) (xs : List V) (v : Value) (us : List Value) (Q : VK), Inv X pins σ H s → RelV x v → Vals xs us → r x xs H Q →
    wpAny (model X.prog X.w) X.A (call (.builtin id) (v :: us)) (EP X pins σ Q) X.xe s
theorem Vals.one : ∀ {x : V} {us : List Value}, Vals [x] us → ∃ u, us = [u] ∧ RelV x u
  | _, _, .cons r .nil => ⟨_, rfl, r⟩
theorem Vals.zero : ∀ {us : List Value}, Vals [] us → us = []
  | _, .nil => rfl
theorem Vals.eraseIdx : ∀ {xs : List V} {us : List Value} (i : Nat), Vals xs us → Vals (xs.eraseIdx i) (us.eraseIdx i)
  | _, _, _, .nil => .nil
  | _, _, 0, .cons _ t => t
  | _, _, i + 1, .cons r t => .cons r (Vals.eraseIdx i t)
theorem Vals.reverse {xs : List V} {us : List Value} (h : Vals xs us) : Vals xs.reverse us.reverse := by
  induction h with
  | nil => exact .nil
  | cons r t ih => rw [List.reverse_cons, List.reverse_cons]; exact Vals.append ih (.cons r .nil)
theorem len_erase {α : Type} : ∀ (l : List α) (i : Nat), (l.eraseIdx i).length ≤ l.length
  | [], _ => Nat.le_refl _
  | _ :: _, 0 => Nat.le_succ _
  | _ :: r, i + 1 => Nat.succ_le_succ (len_erase r i)
section
variable {X : Cx} {pins : List (Addr × Obj)} {σ : St} {H : Hp} {s : Shared} {l b : Addr} {xs ys zs : List V}
theorem Inv.lset {its its' : List Value} {n : Nat} {f : Array Value → Array Value} {t' : Nat} (I : Inv X pins σ H s) (hH : H l = some (.lst xs))
    (e : s.heap.get? l = some { cls := .type "list", data := .seq its.toArray n }) (hf : f its.toArray = its'.toArray) (hv : Vals ys its') (hz : ys.length ≤ sizeLine) :
    Inv X pins σ (upd H l (.lst ys)) { s with heap := s.heap.update l (Obj.mapSeq f), toks := t' } := by
  have q := PySem.IsL.update e f
  rw [hf] at q
  refine I.write (x := l) (e := l) (by rw [hH]; exact trivial) (.inl rfl) (fun b' u hb hu => (Heap.get?_update_other s.heap (Obj.mapSeq f) (Ne.symm hb)).trans hu) ⟨_, q⟩ ?_
  exact ⟨hz, its', _, hv, q⟩
theorem Inv.lnew {its : List Value} {t' : Nat} (I : Inv X pins σ H s) (hv : Vals ys its) (hz : ys.length ≤ sizeLine) :
    Inv X pins σ (upd H s.heap.objs.size (.lst ys)) { s with heap := s.heap.push { cls := .type "list", data := .seq its.toArray }, toks := t' } :=
  I.laid (fun _ _ q => Heap.get?_push_of_some _ q) (Nat.le_refl _) ⟨hz, its, 0, hv, Heap.get?_push_size _ rfl⟩
theorem Inv.fresh (I : Inv X pins σ H s) : H s.heap.objs.size = none := I.hok.fresh (Nat.le_refl _)
theorem Inv.lstM (I : Inv X pins σ H s) (hH : H l = some (.lst xs)) : xs.length ≤ sizeLine ∧ ∃ (its : List Value) (n : Nat), Vals xs its ∧ xs.length = its.length ∧ s.heap.get? l = some { cls := .type "list", data := .seq its.toArray n } := by
  obtain ⟨z, its, n, r, e⟩ := I.hok l _ hH
  exact ⟨z, its, n, r, r.length, e⟩
end
section
variable {X : Cx}
def rAppend : V → List V → Hp → VK → Prop := fun x vs H Q => ∃ l xs y, x = .ref l ∧ vs = [y] ∧ H l = some (.lst xs) ∧ xs.length < sizeLine ∧ Q .non (upd H l (.lst (xs ++ [y])))
theorem mt_append : MtM X "list.append" rAppend := by
  intro pins s σ H x vs v us Q I rx rv h
  obtain ⟨l, xs, y, rfl, rfl, hH, hz, q⟩ := h
  cases rx
  obtain ⟨u, rfl, ru⟩ := rv.one
  obtain ⟨z, its, n, r, hl, e⟩ := I.lstM hH
  refine call_meets F.slot_list_append ⟨_, e, rfl⟩ F.entry_list_append (F.args_list_append_2 _ _) (PySem.list_append l its.toArray n u (by rw [List.size_toArray]; omega)) ⟨e, ?_⟩
  refine ⟨.non, _, I.lset (its' := its ++ [u]) hH e (by simp) (r.append (.cons ru .nil)) ?_, rfl, q⟩
  rw [List.length_append, List.length_singleton]
  omega
def rPopAt : V → List V → Hp → VK → Prop := fun x vs H Q => ∃ l xs i k y, x = .ref l ∧ vs = [.int i] ∧ H l = some (.lst xs) ∧ -(2 ^ 63) ≤ i ∧ i < 2 ^ 63 ∧ seqIndex? i xs.length = some k ∧ xs[k]? = some y ∧ Q y (upd H l (.lst (xs.eraseIdx k)))
theorem mt_popAt : MtM X "list.pop" rPopAt := by
  intro pins s σ H x vs v us Q I rx rv h
  obtain ⟨l, xs, i, k, y, rfl, rfl, hH, h1, h2, hk, hy, q⟩ := h
  cases rx
  obtain ⟨u, rfl, ru⟩ := rv.one
  obtain ⟨t, rfl⟩ := ru
  obtain ⟨z, its, n, r, hl, e⟩ := I.lstM hH
  obtain ⟨w, hw, rw'⟩ := r.get hy
  refine call_meets F.slot_list_pop ⟨_, e, rfl⟩ F.entry_list_pop (F.args_list_pop_2 _ _)
    (MeetsSeq.list_pop_at l its.toArray n i t k w (fitsIndex_both h1 h2) (by rw [List.size_toArray, ← hl]; exact hk) (by rw [← Array.getElem?_toList]; exact hw) (by rw [List.size_toArray]; omega)) ⟨e, ?_⟩
  refine ⟨y, _, I.lset (its' := its.eraseIdx k) hH e ?_ (r.eraseIdx k) ?_, rw', q⟩
  · show its.toArray.eraseIdxIfInBounds k = (its.eraseIdx k).toArray
    rw [List.eraseIdxIfInBounds_toArray]
  · have := len_erase xs k
    omega
def rClear : V → List V → Hp → VK → Prop := fun x vs H Q => ∃ l xs, x = .ref l ∧ vs = [] ∧ H l = some (.lst xs) ∧ Q .non (upd H l (.lst []))
theorem mt_clear : MtM X "list.clear" rClear := by
  intro pins s σ H x vs v us Q I rx rv h
  obtain ⟨l, xs, rfl, rfl, hH, q⟩ := h
  cases rx
  have hus := rv.zero
  subst hus
  obtain ⟨z, its, n, r, hl, e⟩ := I.lstM hH
  refine call_meets F.slot_list_clear ⟨_, e, rfl⟩ F.entry_list_clear (F.args_list_clear_1 _) (AutoSeq1.list_clear_list_0 l its.toArray n (by rw [List.size_toArray]; omega)) ⟨e, ?_⟩
  exact ⟨.non, _, I.lset (its' := []) (ys := []) hH e rfl .nil (Nat.zero_le _), rfl, q⟩
def rCat : R2 := fun x y H Q => ∃ l b xs zs, x = .ref l ∧ y = .ref b ∧ H l = some (.lst xs) ∧ H b = some (.lst zs) ∧ xs.length + zs.length ≤ sizeLine ∧ ∀ p, H p = none → Q (.ref p) (upd H p (.lst (xs ++ zs)))
theorem op_cat : OpR X (binaryOp .Add) rCat := by
  intro pins s σ H x y v u Q I rx ry h
  obtain ⟨l, b, xs, zs, rfl, rfl, hH, hB, hz, q⟩ := h
  cases rx
  cases ry
  obtain ⟨z, its, n, r, hl, e⟩ := I.lstM hH
  obtain ⟨z2, its2, n2, r2, hl2, e2⟩ := I.lstM hB
  refine PySem.P.add_list e e2 ?_ (by rw [List.size_toArray, List.size_toArray]; omega)
  have ea : its.toArray ++ its2.toArray = (its ++ its2).toArray := by simp
  rw [ea]
  exact ⟨.ref _, _, I.lnew (t' := s.toks) (r.append r2) (by rw [List.length_append]; omega), rfl, q _ I.fresh⟩
end
section
variable {prog : Program} {w : World} {A : Around} {E : Value → Shared → Prop} {s : Shared}
set_option maxRecDepth 100000 in
end
section
variable {X : Cx}
end
end L2
namespace Att
open PySem PySem.W PySem.Calls PyProof.Rows
theorem ints_of_wellAll {P : Params} {h : Heap} : ∀ (ns : List Int) (vs : List Value), WellAll P h vs (ns.map WData.int) → IntsAre vs ns := by
  intro ns
  induction ns with
  | nil =>
    intro vs w
    rw [List.map_nil] at w
    cases w
    exact .nil
  | cons n ns ih =>
    intro vs w
    rw [List.map_cons] at w
    cases w with
    | cons a b =>
      cases a
      exact .cons _ _ (ih _ b)
theorem script_of {l : OpenLaw} {n : Nat} (hn : l.most = some n) {P : Params} {h : Heap} {args : List WData} {vals : List Value}
    (hpre : l.row.toRowW.claim.pre args = true) (hwl : WellAll P h vals args) :
    ∃ a vs ns, vals = [Value.ref a] ∧ args = [WData.list (ns.map WData.int)] ∧ h.get? a = some { cls := .type "list", data := .seq vs.toArray } ∧ IntsAre vs ns ∧ ns.length ≤ n := by
  have hsh : WShape.hasAll [] args [.list .int] = true := (pre_splitW hpre).1
  have hc : l.pre.holds [] { args := args } = true := (pre_splitW hpre).2
  obtain ⟨d, r, rfl, h1, h2⟩ := hasAllW_cons hsh
  obtain rfl := hasAllW_nil h2
  obtain ⟨xs, rfl, h3⟩ := hasW_list h1
  obtain ⟨ns, rfl⟩ := items_int h3
  have hlen : ns.length ≤ n := by
    unfold OpenLaw.pre at hc
    have h4 : (WTm.not (.lt (.lit (.int (n : Int))) (.len (.arg 0)))).holds [] { args := [.list (ns.map .int)] } = true := by
      have h4 := (holds_andW hc).1
      rw [hn] at h4
      exact h4
    have h5 := condW_of h4 (w_not (w_lt w_lit (w_len_list (w_arg rfl))))
    rw [List.length_map] at h5
    refine Nat.le_of_not_lt fun q => ?_
    have q' : (n : Int) < ((ns.length : Nat) : Int) := by omega
    first
      | (rw [decide_eq_true q'] at h5; exact absurd h5 (by decide))
      | (simp at h5; omega)
  cases hwl with
  | cons w1 w2 =>
    cases w2
    cases w1 with
    | list ho hall => exact ⟨_, _, ns, rfl, rfl, ho, ints_of_wellAll ns _ hall, hlen⟩
theorem post_true (l : OpenLaw) (args : List WData) : l.row.toRowW.claim.post args (.bool true) args = true :=
  postW_of (r := l.row.toRowW) (X := (true == true))
    (show WShape.has [] (.bool true) .bool = true by first | rfl | decide | simp [WShape.has, WShape.arms, WShape.armsAll])
    (show (WTm.eq .res (.lit (.bool true))).value [] { args := args, res := some (.bool true), after := args } = some (.bool (true == true)) from w_eq_bool (w_res rfl) w_lit) rfl
theorem attach_call {l : OpenLaw} {n : Nat} {q : Program} {loose : List Str} {XP : (Str → Option Value) → Heap → Prop} {YP : World → Heap → Prop} {d : DefRec}
    (hn : l.most = some n) (hdf : d.params.defaults = [])
    (call : ∀ (w : World) (s₀ s₁ : Shared) (mg mb : Str → Option Value) (fa : Addr) (o : Obj) (pm cd doc : Value) (a : Addr) (vs : List Value) (ns : List Int),
      Ground q loose [] XP w s₀ mg mb s₁.heap → YP w s₁.heap →
      s₁.heap.get? fa = some o → o.data = .func (docDef d.name d.params d.body d.scope pm cd doc) → s₁.heap.CodeRec cd d.name → mg d.name = some (.ref fa) →
      s₁.heap.get? a = some { cls := .type "list", data := .seq vs.toArray } → IntsAre vs ns → ns.length ≤ n → s₁.gens = #[] →
      codeAny (model l.prog w) callerA (.call (.ref fa) ⟨[.ref a], []⟩) (fun r s' => r = .ok (.ret (.bool true)) ∧ OldK s₁.heap s'.heap ∧ s'.os = s₁.os ∧ AllBare s'.gens) s₁) :
    WalkO q loose XP YP l.row.toRowW d [] (fun f vs => PySem.call f vs) := by
  intro w s₀ s₁ mg mb G Y fa o pm cd doc dV kV ho hd hcd hD hmg hg args vals as hpre hlay hrd hwl hlo
  obtain rfl : dV = .none := Dflts.none hD hdf
  obtain rfl : kV = .none := Dflts.noKw hD
  obtain ⟨a, vs, ns, rfl, rfl, hobj, hints, hlen⟩ := script_of hn hpre hwl
  refine enter_call (codeAny_mono (call w s₀ s₁ mg mb fa o pm cd doc a vs ns G Y ho (fd_plain hd) hcd hmg hobj hints hlen hg) fun r s' hq => ?_)
  obtain ⟨rfl, h2, h3, h4⟩ := hq
  exact ⟨.inl ⟨.bool true, .bool true, [], rfl, fun _ => rfl, .bool true, post_true l _, fun _ => ⟨List.Pairwise.nil, fun _ hm => (nomatch hm)⟩⟩, h2, h3, h4⟩
section
variable {prog : Program} {w : World} {A : Around} {E : Value → Shared → Prop} {s : Shared} {K : Frag}
end
end Att
namespace L2
open PySem PySem.Spec PyProof.Rows
theorem vals_ints : ∀ {vs : List Value} {ns : List Int}, IntsAre vs ns → Vals (ns.map V.int) vs
  | _, _, .nil => .nil
  | _, _, .cons n t h => .cons ⟨t, rfl⟩ (vals_ints h)
def Only (H : Hp) : Prop := ∀ b, H b = none ∨ ∃ o xs, H b = some (.frz o (.lst xs))
theorem law_call {P : Program} {w : World} {K : PySem.W.Frag} {mg mb : Str → Option Value} {CX : CXT} {k : Nat} {fa a : Addr} {fd : FuncData} {x : Str} {sp : Sp} {s₁ : Shared} {vs : List Value} {ns : List Int}
    (KX : K.In s₁.heap) (hns : s₁.heap.Ns mainGlobals mg) (hb : s₁.heap.Ns builtinsNs mb) (hbb : ∀ x : Str, x ≠ "__name__" → mb x = bootBuiltins x) (hlim : s₁.heap.NoLimit) (hg : s₁.gens = #[])
    (ha : s₁.heap.get? a = some { cls := .type "list", data := .seq vs.toArray }) (hi : IntsAre vs ns) (hl : ns.length ≤ sizeLine) (hr : Room k callerA)
    (F : ∀ base : Heap, K.In base → base.Ns mainGlobals mg → FnOk P w K mg base CX k fa fd [x] sp) (hbind : ∀ (s : Shared) (u : Value), BindsTo s fd ⟨[u], []⟩ [(x, u)])
    (hsp : ∀ H : Hp, Only H → SqL K H a (ns.map V.int) → sp [.ref a] H (fun v _ => v = .bl true) fun _ _ _ => False)
    (hCX : ∀ H e s', CX [] H s₁ (fun _ _ _ => False) e s' → False) :
    codeAny (model P w) callerA (.call (.ref fa) ⟨[.ref a], []⟩) (fun r s' => r = .ok (.ret (.bool true)) ∧ OldK s₁.heap s'.heap ∧ s'.os = s₁.os ∧ AllBare s'.gens) s₁ := by
  have rv := vals_ints hi
  have lenV := hi.length
  -- from an abstract heap in which nothing but the script may be tracked
  have core : ∀ H : Hp, Only H → SqL K H a (ns.map V.int) → HOk P w H s₁.heap → (∀ b, H b ≠ none → b = a) → (H a ≠ none → K.lookup a = none) →
      codeAny (model P w) callerA (.call (.ref fa) ⟨[.ref a], []⟩) (fun r s' => r = .ok (.ret (.bool true)) ∧ OldK s₁.heap s'.heap ∧ s'.os = s₁.os ∧ AllBare s'.gens) s₁ := by
    intro H hO hS hok hA hK
    have base_of : ∀ {b : Addr} {o : Obj}, s₁.heap.get? b = some o → H b = none → (hidT s₁.heap H).get? b = some o := fun e n => hidT_get e n
    have noA : ∀ {b : Addr} {o : Obj} {es : Array DictEntry} {ep : Nat}, s₁.heap.get? b = some o → o.data = .dict es ep → H b = none := fun {b o es ep} e d => by
      cases q : H b with
      | none => rfl
      | some u =>
        have e' : b = a := hA b (by rw [q]; simp)
        subst e'
        rw [ha] at e; cases e
        have d' : Data.seq vs.toArray _ = Data.dict es ep := d
        cases d'
    have nsK : ∀ {b : Addr} {m : Str → Option Value}, s₁.heap.Ns b m → (hidT s₁.heap H).Ns b m := fun {b m} ⟨o, es, ep, e, d, r⟩ => ⟨o, es, ep, base_of e (noA e d), d, r⟩
    have hKb : K.In (hidT s₁.heap H) := fun b o e => base_of (KX b o e) (by
      cases q : H b with
      | none => rfl
      | some u =>
        have e' : b = a := hA b (by rw [q]; simp)
        subst e'
        rw [hK (by rw [q]; simp)] at e; cases e)
    have hM : Mod K mg (hidT s₁.heap H) := ⟨hKb, nsK hns, ⟨mb, nsK hb, hbb⟩, let ⟨mc, h1, h2⟩ := hlim; ⟨mc, nsK h1, h2⟩⟩
    have e0 : Env0 P w K mg (hidT s₁.heap H) callerA [] s₁ H := ⟨rfl, hM, fun b o e => of_hidT e, Nat.le_of_eq (hidT_size _ _), trivial, fun b hb => absurd (show b ∈ ([] : List Addr) from hb) (by simp), hok, .of_eq hg⟩
    refine codeAny_mono ((F _ hKb (nsK hns)).run callerA [] s₁ H ⟨[.ref a], []⟩ [.ref a] [.ref a] _ _ hr e0 (hbind s₁ (.ref a)) (.cons rfl .nil) (hsp H hO hS)) fun r s' h => ?_
    cases r with
    | error e => exact (hCX H e s' h).elim
    | ok fl =>
      cases fl with
      | next => exact False.elim h
      | brk => exact False.elim h
      | cont => exact False.elim h
      | ret u =>
        obtain ⟨v, H', os, bare, un, hok', r', q⟩ := h
        have q' : v = .bl true := q
        subst q'
        obtain rfl : u = Value.bool true := r'
        refine ⟨rfl, OldK.of_keep fun b o e => ?_, os, bare⟩
        cases q : H b with
        | none => exact un.keep b o e q (by intro z; exact absurd (show b ∈ ([] : List Addr) from z) (by simp)) (by simp)
        | some u =>
          rcases hO b with z | ⟨ob, xs, z⟩
          · rw [q] at z; cases z
          · have z2 := un.frzs b ob _ z
            obtain ⟨e1, _⟩ := hok b _ z
            obtain ⟨e2, _⟩ := hok' b _ z2
            rw [e] at e1; cases e1
            exact e2
  cases hk : K.lookup a with
  | some o =>
    -- the script is one of the module's own objects
    have e := KX a o hk
    rw [ha] at e
    cases e
    refine core (fun _ => none) (fun _ => .inl rfl) (.inr ⟨_, vs.toArray, _, hk, rfl, rfl, rfl, by rw [List.size_toArray, lenV]; exact hl, by simpa using rv⟩) (fun b u z => by have z' : (none : Option HO) = some u := z; cases z') (fun b z => absurd rfl z) fun z => absurd rfl z
  | none =>
    refine core (fun b => if b = a then some (.frz { cls := .type "list", data := .seq vs.toArray } (.lst (ns.map V.int))) else none) (fun b => ?_) (.inl (.inr ⟨{ cls := .type "list", data := .seq vs.toArray }, if_pos rfl⟩)) (fun b u z => ?_) (fun b z => ?_) fun _ => hk
    · by_cases hb : b = a
      · exact .inr ⟨_, _, if_pos hb⟩
      · exact .inl (if_neg hb)
    · by_cases hb : b = a
      · have z' := (if_pos hb).symm.trans z
        cases z'
        subst hb
        exact ⟨ha, by rw [List.length_map]; exact hl, vs, _, rv, ha⟩
      · have z' := (if_neg hb).symm.trans z
        cases z'
    · by_cases hb : b = a
      · exact hb
      · exact absurd (if_neg hb) z
end L2
namespace L2
open PySem PySem.Spec PyProof.Rows
abbrev KOf {K : PySem.W.Frag} {h : Heap} (_ : K.In h) : PySem.W.Frag := K
theorem walk_of {l : PySem.W.OpenLaw} {n k : Nat} {q : Program} {loose : List Str} {XP : (Str → Option Value) → Heap → Prop} {YP : World → Heap → Prop} {d : DefRec} {K : Params → PySem.W.Frag} {CX : World → CXT} {sp : World → Sp} {x : Str}
    (hn : l.most = some n) (hn2 : n ≤ sizeLine) (hdf : d.params.defaults = []) (hr : Room k callerA)
    (hY : ∀ (w : World) (h : Heap), YP w h → (K w.params).In h)
    (F : ∀ (w : World) (mg : Str → Option Value) (fa : Addr) (h : Heap), (K w.params).In h → h.Ns mainGlobals mg → mg d.name = some (.ref fa) →
      ∃ fd : FuncData, (∀ (s : Shared) (u : Value), BindsTo s fd ⟨[u], []⟩ [(x, u)]) ∧
        ∀ base : Heap, (K w.params).In base → base.Ns mainGlobals mg → FnOk l.prog w (K w.params) mg base (CX w) k fa fd [x] (sp w))
    (hsp : ∀ (w : World) (H : Hp) (a : Addr) (ns : List Int), ns.length ≤ n → Only H → SqL (K w.params) H a (ns.map V.int) → sp w [.ref a] H (fun v _ => v = .bl true) fun _ _ _ => False)
    (hCX : ∀ (w : World) (H : Hp) (s : Shared) (e : Value) (s' : Shared), CX w [] H s (fun _ _ _ => False) e s' → False) :
    PySem.W.WalkO q loose XP YP l.row.toRowW d [] (fun f vs => PySem.call f vs) := by
  refine Att.attach_call hn hdf fun w s₀ s₁ mg mb fa o pm cd doc a vs ns G Y ho hd hcd hmg hobj hints hlen hg => ?_
  have KX := hY w _ Y
  obtain ⟨fd, hb, hF⟩ := F w mg fa _ KX G.T.g hmg
  exact law_call KX G.T.g G.T.b G.T.builtins G.T.nolimit hg hobj hints (Nat.le_trans hlen hn2) hr hF hb (fun H hO hS => hsp w H a ns hlen hO hS) fun H e s' => hCX w H s₁ e s'
end L2
/- THE LAST THEOREM (shape; LID, My.* are yours):
   My.Adr: a structure of the addresses that your layer names (classes, functions); My.Txt K t: a structure (Prop) of the equations over K;
   My.txt_mk : {K} {implicit addresses ..} (e1 : nsIn K mainGlobals "law" = some (some (.ref f))) (e2 : K.lookup f = some ⟨oc, od, .func (fnOf "law" "law" params body scope dV kV doc pm an cdv ct), sl⟩) (e3 : codeIn K cdv "law" = true) .. : ∃ t, My.Txt K t
set_option maxRecDepth 100000 in
set_option maxHeartbeats 0 in
theorem PySem.Challenge.cw_LID_holds : PySem.Challenge.rw_LID.Holds := by
  w_on; o_law; k_head; (case hw => w_witness2)
  k_fill
  refine L2.walk_of (l := PySem.Challenge.rw_LID) (n := 63) (k := 40) (x := "script") (CX := fun w => ..) (sp := fun _ => My.sp_law) rfl (by decide) rfl ⟨rfl, by decide, by decide⟩ (fun w h Y => PySem.W.kIn_of Y) ?F ?S ?C
  case F =>
    intro w mg fa h KX G hmg
    have T : ∃ t, My.Txt (L2.KOf KX) t := by
      dsimp only [L2.KOf]                          -- K must stand as «<heap const> w.params» for k_is
      refine' My.txt_mk ?e1 ?e2 ?e3 ..
      (case e1 => PySem.W.k_is)                    -- in the order: a name -> its address -> its object -> its parts
      (case e2 => PySem.W.k_is)
      ..
    obtain ⟨t, T⟩ := T
    have e0 := hmg.symm.trans (PySem.W.mg_of KX G T.law)
    cases e0                                       -- fa is the law's own address
    exact ⟨_, fun s u => .of_eq rfl, fun base kb nb => My.law_fn T kb nb⟩     -- if «.of_eq rfl» comes too early: refine' ⟨_, ?b, fun base kb nb => My.law_fn T kb nb⟩; exact fun s u => .of_eq rfl
  case S => exact fun w H a ns hl hO hS => ..
  case C => exact ..
(the tactic k_is has no namespace: write k_is) -/
namespace L2
open PySem PySem.Spec PyProof.Rows
def inClass (s : Stmt) (j : Nat) : Stmt := match s with
  | .ClassDef _ _ _ body _ _ _ _ _ _ _ => body.getD j (.Pass ⟨0, 0, 0, 0⟩)
  | _ => .Pass ⟨0, 0, 0, 0⟩
def defArgs (s : Stmt) : Arguments := match s with
  | .FunctionDef _ a _ _ _ _ _ _ _ _ => a
  | _ => { posonlyargs := [], args := [], vararg := none, kwonlyargs := [], kw_defaults := [], kwarg := none, defaults := [] }
def defBody (s : Stmt) : List Stmt := match s with
  | .FunctionDef _ _ b _ _ _ _ _ _ _ => b
  | _ => []
def defScope (s : Stmt) : Scope := match s with
  | .FunctionDef _ _ _ _ _ _ sc _ _ _ => sc
  | _ => { kind := .function, names := [], isGenerator := false, isCoroutine := false }
abbrev CX0 : CXT := fun _ _ _ _ _ _ => False
abbrev E0 : XK := fun _ _ _ => False
theorem pass0 {X : Cx} : Passes CX0 X E0 := fun _ _ _ _ _ _ _ h => h.elim
structure Fun (K : PySem.W.Frag) (x qual : Str) (st : Stmt) (f : Addr) (fd : FuncData) : Prop where
  ex : ∃ (oc : Value) (od : Option Addr) (kV doc pm : Value) (an : Option Addr) (cdv ct : Value) (osl : Array (Option Value)),
    fd = PySem.W.fnOf x qual (defArgs st) (defBody st) (defScope st) .none kV doc pm an cdv ct ∧ K.lookup f = some ⟨oc, od, .func fd, osl⟩ ∧ PySem.W.codeIn K cdv qual = true
  kp : PySem.W.keepIn K (.ref f) = true
section
variable {P : Program} {w : World} {K : PySem.W.Frag} {mg : Str → Option Value} {base : Heap}
theorem Fun.ok {x qual : Str} {st : Stmt} {f : Addr} {fd : FuncData} {N ps : List Str} {k : Nat} {sp : Sp} (F : Fun K x qual st f fd) (S : FnScope N ps (defScope st)) (len : ∀ vs H Q E, sp vs H Q E → vs.length = ps.length)
    (hbody : ∀ (cdv : Value) (A : Around) (outer : List Env) (s : Shared) (H : Hp) (vs : List V) (Q : VK) (E : XK), Room k (A.deeper (envOfC qual (defScope st) s.heap.objs.size f cdv)) → sp vs H Q E →
      ∃ t, PSs (cxOf CX0 P w K mg base N qual (defScope st) f cdv A outer s H E).nox (defBody st) t ∧ t { nx := fun _ H' => Q .non H', rt := Q } (start N vs) H) : FnOk P w K mg base CX0 (k + 1) f fd ps sp := by
  obtain ⟨oc, od, kV, doc, pm, an, cdv, ct, osl, rfl, lk, hcd⟩ := F.ex
  refine fn_of lk hcd S len fun A outer s H vs Q E hr hsp => ?_
  obtain ⟨t, h, q⟩ := hbody cdv A outer s H vs Q E hr hsp
  exact ⟨t, h.nox, q⟩
theorem Fun.binds {x qual : Str} {st : Stmt} {f : Addr} {fd : FuncData} {ps : List Str} (F : Fun K x qual st f fd)
    (h : ∀ (kV doc pm : Value) (an : Option Addr) (cdv ct : Value) (us : List Value), us.length = ps.length → bindArgs (PySem.W.fnOf x qual (defArgs st) (defBody st) (defScope st) .none kV doc pm an cdv ct) ⟨us, []⟩ = pure (ps.zip us)) : Binds K fd ps [] := by
  obtain ⟨oc, od, kV, doc, pm, an, cdv, ct, osl, rfl, lk, hcd⟩ := F.ex
  exact .all (h kV doc pm an cdv ct)
theorem fun_mk {x qual : Str} {st : Stmt} {f : Addr} {oc : Value} {od an : Option Addr} {osl : Array (Option Value)} {kV doc pm cdv ct : Value} (l : K.lookup f = some ⟨oc, od, .func (PySem.W.fnOf x qual (defArgs st) (defBody st) (defScope st) .none kV doc pm an cdv ct), osl⟩)
    (c : PySem.W.codeIn K cdv qual = true) (k : PySem.W.keepIn K (.ref f) = true) : Fun K x qual st f (PySem.W.fnOf x qual (defArgs st) (defBody st) (defScope st) .none kV doc pm an cdv ct) := ⟨⟨oc, od, kV, doc, pm, an, cdv, ct, osl, rfl, l, c⟩, k⟩
end
theorem small1000 {n : Nat} (h : n ≤ 1000) : n < sizeLine := Nat.lt_of_le_of_lt h (by decide)
section
variable {X : Cx}
theorem pv (i : Nat) {x : Str} {pos : Pos} (hN : X.N[i]? = some x := by rfl) (hv : Vis X.env.scope x := by first | exact Or.inl rfl | exact Or.inr (Or.inl rfl) | exact Or.inr (Or.inr rfl)) (hd : (x == ("__debug__" : Str)) = false := by decide)
    (hcd : (x == ("__classdict__" : Str)) = false := by decide) : PE X (.Name x pos) (tVar i) := pe_var hN hv hd hcd
end
theorem iteF {A B : Prop} (h : B) : if false = true then A else B := by
  rw [if_neg Bool.false_ne_true]
  exact h
theorem iteT {A B : Prop} (h : A) : if true = true then A else B := by
  rw [if_pos rfl]
  exact h
theorem ite2 {c A B : Prop} [Decidable c] (h1 : c → A) (h2 : ¬ c → B) : if c then A else B := by
  by_cases h : c
  · rw [if_pos h]
    exact h1 h
  · rw [if_neg h]
    exact h2 h
def Same (H H' : Hp) : Prop := ∀ b o, H b = some o → H' b = some o
theorem Same.refl (H : Hp) : Same H H := fun _ _ h => h
theorem Same.trans {H H1 H2 : Hp} (a : Same H H1) (b : Same H1 H2) : Same H H2 := fun c o h => b c o (a c o h)
theorem Same.free {H H' : Hp} (e : Same H H') {l : Addr} (h : H' l = Option.none) : H l = Option.none := by
  cases q : H l with
  | none => rfl
  | some o =>
    rw [e l o q] at h
    cases h
theorem Same.seq {K : PySem.W.Frag} {H H' : Hp} {a : Addr} {xs : List V} (e : Same H H') (h : SqL K H a xs) : SqL K H' a xs := by
  rcases h with (h | ⟨o, h⟩) | h
  · exact .inl (.inl (e _ _ h))
  · exact .inl (.inr ⟨o, e _ _ h⟩)
  · exact .inr h
end L2
set_option Elab.async false
set_option maxHeartbeats 4000000
namespace L2
open PySem PySem.Spec PyProof.Rows
section
variable {X : Cx}
theorem call_isi : CallR X (.builtin "isinstance") (fun xs H Q => ∃ x n t b, xs = [x, .ty n] ∧ TyOf X.K H x t ∧ PySem.W.kitOne X.K t (.type n) = some b ∧ Q (.bl b) H) := by
  intro pins s σ H xs us Q I r h
  obtain ⟨x, n, t, b, rfl, ty, e, q⟩ := h
  obtain ⟨u, u', rfl, r1, r2⟩ := vals2 r
  cases (show u' = Value.type n from r2)
  exact isinst_ok I r1 ty e fun tk => ⟨.bl b, H, I.tok tk, rfl, q⟩
theorem call_sum (hc : X.calm = true) : CallR X (.builtin "sum") (fun xs H Q => ∃ (p : Addr) (ns : List Int), xs = [.ref p] ∧ SqL X.K H p (ns.map V.int) ∧ Q (.int ns.sum) H) := by
  intro pins s σ H xs us Q I r h
  obtain ⟨p, ns, rfl, hq, q⟩ := h
  obtain ⟨u, rfl, rx⟩ := vals1 r
  cases (show u = Value.ref p from rx)
  obtain ⟨its, r', pl, hz⟩ := I.list hq
  have hi : IntsAre its ns := intsAre_of r'
  obtain ⟨zs, hx⟩ := hi.allInts.items
  have hn : PySem.numsOf its.toArray.toList = ns := by rw [show its.toArray.toList = its from rfl, hi.numsOf]
  have hl : s.heap.IsList p its.toArray := pl.isList
  rw [hx] at hl hn
  rw [nums_intItems] at hn
  refine sum_intListG (I.ok.hd hc) hl fun h' tk t' hk => ?_
  rw [preSum_eq, List.take_of_length_le (by simp), hn]
  exact ⟨.int ns.sum, H, I.kept (h' := h') (t' := tk) hk, ⟨t', rfl⟩, q⟩
theorem bools_at {bs : List Bool} : ∀ {us : List Value}, Vals (bs.map V.bl) us → us = bs.map Value.bool := by
  induction bs with
  | nil => intro us r; cases r; rfl
  | cons b bs ih =>
    intro us r
    cases r with
    | cons r1 r2 =>
      rw [ih r2]
      rw [show _ = Value.bool b from r1]
      rfl
theorem call_all (hc : X.calm = true) : CallR X (.builtin "all") (fun xs H Q => ∃ (p : Addr) (bs : List Bool), xs = [.ref p] ∧ SqL X.K H p (bs.map V.bl) ∧ Q (.bl (bs.all id)) H) := by
  intro pins s σ H xs us Q I r h
  obtain ⟨p, bs, rfl, hq, q⟩ := h
  obtain ⟨u, rfl, rx⟩ := vals1 r
  cases (show u = Value.ref p from rx)
  obtain ⟨its, r', pl, hz⟩ := I.list hq
  have hb := bools_at r'
  subst hb
  have hl : s.heap.IsList p (bs.map Value.bool).toArray := pl.isList
  refine call_all_walk (wpAny_pyIter_list hl ?_)
  have hne : p ≠ s.heap.objs.size := by
    obtain ⟨_, e, _⟩ := hl
    exact Nat.ne_of_lt (Heap.lt_size e)
  refine ⟨_, _, _, _, _, _, fun i => bs.getD i true, rfl, Walks.list (A := X.A.in1) (I.ok.hd hc) s.heap.objs.size p hne (bs.map Value.bool).toArray, ⟨⟨_, Heap.get?_push_size _ rfl, rfl, rfl⟩, hl.at fun o e => Heap.get?_push_of_some _ e⟩, ?_, fun h' tk hk => ?_⟩
  · intro i v s' Q' E' hP hQ'
    have e : bs[i]?.map Value.bool = some v := by simpa using hP
    cases e1 : bs[i]? with
    | none => rw [e1] at e; cases e
    | some b =>
      rw [e1] at e
      cases e
      refine wpAny_truthy_bool ?_
      have : bs.getD i true = b := by simp [List.getD, e1]
      rw [← this]; exact hQ'
  · have e : ((List.range (bs.map Value.bool).toArray.size).all fun i => bs.getD i true) = bs.all id := by
      simp only [List.size_toArray, List.length_map]
      rw [Bool.eq_iff_iff]
      simp only [List.all_eq_true, List.mem_range, id]
      constructor
      · intro h b hb
        obtain ⟨i, hi, rfl⟩ := List.mem_iff_getElem.mp hb
        simpa [List.getD, List.getElem?_eq_getElem hi] using h i hi
      · intro h i hi
        simpa [List.getD, List.getElem?_eq_getElem hi] using h _ (List.getElem_mem hi)
    rw [e]
    refine ⟨.bl (bs.all id), H, I.kept (h' := h') (t' := tk) (fun b o x => hk b o (fun z => ?_) (Heap.get?_push_of_some _ x)), rfl, q⟩
    have : b = s.heap.objs.size := by simpa using z
    exact absurd (this ▸ Heap.lt_size x) (Nat.lt_irrefl _)
theorem ints_eqAt {A : Around} {s : Shared} {ns ms : List Int} {us ws : List Value} (r : Vals (ns.map V.int) us) (r' : Vals (ms.map V.int) ws) :
    ∀ j (h1 : j < us.toArray.size) (h2 : j < ws.toArray.size), SeqAt.EqAt A s us.toArray[j] ws.toArray[j] (decide (ns[j]? = ms[j]?)) := by
  intro j h1 h2
  have l1 := r.length
  have l2 := r'.length
  simp only [List.size_toArray] at h1 h2
  simp only [List.length_map] at l1 l2
  obtain ⟨u, e1, t, e2⟩ := r.get (i := j) (x := .int (ns[j]'(by omega))) (by simp)
  obtain ⟨w, f1, t', f2⟩ := r'.get (i := j) (x := .int (ms[j]'(by omega))) (by simp)
  subst e2 f2
  have g1 : us.toArray[j] = Value.int (ns[j]'(by omega)) t := by
    rw [List.getElem?_eq_getElem h1] at e1
    simpa using Option.some.inj e1
  have g2 : ws.toArray[j] = Value.int (ms[j]'(by omega)) t' := by
    rw [List.getElem?_eq_getElem h2] at f1
    simpa using Option.some.inj f1
  rw [g1, g2, List.getElem?_eq_getElem (by omega : j < ns.length), List.getElem?_eq_getElem (by omega : j < ms.length)]
  have := SeqAt.EqAt.int_int (A := A) (s := s) (ns[j]'(by omega)) t (ms[j]'(by omega)) t'
  rw [show (decide (some (ns[j]'(by omega)) = some (ms[j]'(by omega)))) = (ns[j]'(by omega) == ms[j]'(by omega)) by
    rw [Bool.beq_eq_decide_eq]; simp]
  exact this
theorem all_same {ns ms : List Int} (h : ns.length = ms.length) : ((List.range ns.length).all fun j => decide (ns[j]? = ms[j]?)) = decide (ns = ms) := by
  rw [Bool.eq_iff_iff]
  simp only [List.all_eq_true, List.mem_range, decide_eq_true_eq]
  constructor
  · intro q
    refine List.ext_getElem? fun i => ?_
    by_cases hi : i < ns.length
    · exact q i hi
    · rw [List.getElem?_eq_none (by omega), List.getElem?_eq_none (by omega)]
  · rintro rfl i _; rfl
theorem op_eqL (hu : X.A.units < cLine) : OpR X (compareOp .Eq) (fun x y H Q => ∃ (p q : Addr) (ns ms : List Int), x = .ref p ∧ y = .ref q ∧ SqL X.K H p (ns.map V.int) ∧ SqL X.K H q (ms.map V.int) ∧ Q (.bl (decide (ns = ms))) H) := by
  intro pins s σ H x y v u Q I rx ry h
  obtain ⟨p, q, ns, ms, rfl, rfl, hp, hq, k⟩ := h
  cases (show v = Value.ref p from rx)
  cases (show u = Value.ref q from ry)
  obtain ⟨its, r, pl, _⟩ := I.list hp
  obtain ⟨its', r', pl', _⟩ := I.list hq
  have l1 := r.length
  have l2 := r'.length
  simp only [List.length_map] at l1 l2
  by_cases e : ns.length = ms.length
  · refine SeqAt.eq_listAt pl.isList pl'.isList (by simp only [List.size_toArray]; omega) hu (ints_eqAt r r') ⟨.bl _, H, I, rfl, ?_⟩
    rw [List.size_toArray, ← l1, all_same e]
    exact k
  · refine SeqAt.eq_list_lengthsAt pl.isList pl'.isList (by simp only [List.size_toArray, bne_iff_ne]; omega) hu ⟨.bl _, H, I, rfl, ?_⟩
    rw [decide_eq_false (fun z => e (congrArg List.length z))] at k
    exact k
theorem op_neL (hu : X.A.units < cLine) : OpR X (compareOp .NotEq) (fun x y H Q => ∃ (p q : Addr) (ns ms : List Int), x = .ref p ∧ y = .ref q ∧ SqL X.K H p (ns.map V.int) ∧ SqL X.K H q (ms.map V.int) ∧ Q (.bl (!decide (ns = ms))) H) := by
  intro pins s σ H x y v u Q I rx ry h
  obtain ⟨p, q, ns, ms, rfl, rfl, hp, hq, k⟩ := h
  cases (show v = Value.ref p from rx)
  cases (show u = Value.ref q from ry)
  obtain ⟨its, r, pl, _⟩ := I.list hp
  obtain ⟨its', r', pl', _⟩ := I.list hq
  have l1 := r.length
  have l2 := r'.length
  simp only [List.length_map] at l1 l2
  by_cases e : ns.length = ms.length
  · refine SeqAt.RcNeAt.lists pl.isList pl'.isList (by simp only [List.size_toArray]; omega) hu (ints_eqAt r r') X.prog X.w X.xe _ ⟨.bl _, H, I, rfl, ?_⟩
    rw [List.size_toArray, ← l1, all_same e]
    exact k
  · refine SeqAt.RcNeAt.lists_lengths pl.isList pl'.isList (by simp only [List.size_toArray, bne_iff_ne]; omega) hu X.prog X.w X.xe _ ⟨.bl _, H, I, rfl, ?_⟩
    rw [decide_eq_false (fun z => e (congrArg List.length z))] at k
    exact k
end
end L2
set_option Elab.async false
set_option maxHeartbeats 4000000
namespace L2
open PySem PySem.Spec PyProof.Rows
theorem closure_go (env : Env) : ∀ (ns : List (Str × NameKind)) (cs : List (Str × Addr)), (∀ y ∈ ns, y.2 = .free → ∃ c, env.cells.lookup y.1 = some c) → (∀ x c, cs.lookup x = some c → env.cells.lookup x = some c) →
    ∃ cl, (forIn ns cs (fun (p : Str × NameKind) (r : List (Str × Addr)) => if (p.2 == NameKind.free) = true then (do let a ← cellOf env p.1; pure (ForInStep.yield ((p.1, a) :: r)) : Sem _) else pure (ForInStep.yield r)) : Sem (List (Str × Addr))) = pure cl ∧
      (∀ x c, cl.lookup x = some c → env.cells.lookup x = some c) ∧ (∀ x c, cs.lookup x = some c → ∃ c', cl.lookup x = some c') ∧ ∀ y ∈ ns, y.2 = .free → ∃ c, cl.lookup y.1 = some c
  | [], cs, _, hcs => ⟨cs, rfl, hcs, fun x c e => ⟨c, e⟩, fun y hy => nomatch hy⟩
  | (n, k) :: ns, cs, h, hcs => by
    by_cases hk : k = .free
    · subst hk
      obtain ⟨c, hc⟩ := h (n, .free) (List.mem_cons_self ..) rfl
      have hc' : ∀ x d, ((n, c) :: cs).lookup x = some d → env.cells.lookup x = some d := fun x d e => by
        rw [List.lookup_cons] at e
        cases q : x == n with
        | true =>
          rw [q] at e
          have : x = n := by simpa using q
          subst this
          cases e
          exact hc
        | false =>
          rw [q] at e
          exact hcs x d e
      obtain ⟨cl, e1, e2, e3, e4⟩ := closure_go env ns ((n, c) :: cs) (fun y hy => h y (List.mem_cons_of_mem _ hy)) hc'
      refine ⟨cl, ?_, e2, fun x d e => ?_, fun y hy hf => ?_⟩
      · rw [List.forIn_cons]
        have : cellOf env n = pure c := by unfold cellOf; rw [hc]
        simp only [this, beq_self_eq_true, if_true]
        exact e1
      · cases q : x == n with
        | true =>
          exact e3 x c (by rw [List.lookup_cons, q])
        | false => exact e3 x d (by rw [List.lookup_cons, q]; exact e)
      · rcases List.mem_cons.mp hy with z | z
        · subst z
          exact e3 n c (by rw [List.lookup_cons, beq_self_eq_true])
        · exact e4 y z hf
    · obtain ⟨cl, e1, e2, e3, e4⟩ := closure_go env ns cs (fun y hy => h y (List.mem_cons_of_mem _ hy)) hcs
      refine ⟨cl, ?_, e2, e3, fun y hy hf => ?_⟩
      · rw [List.forIn_cons]
        have : (k == NameKind.free) = false := by simpa using hk
        simp only [this, Bool.false_eq_true, if_false]
        exact e1
      · rcases List.mem_cons.mp hy with z | z
        · subst z; exact absurd hf hk
        · exact e4 y z hf
theorem closure_ok {scope : Scope} {env : Env} (h : ∀ y ∈ scope.names, y.2 = .free → ∃ c, env.cells.lookup y.1 = some c) :
    ∃ cl, closureFor scope env = pure cl ∧ (∀ x c, cl.lookup x = some c → env.cells.lookup x = some c) ∧ ∀ y ∈ scope.names, y.2 = .free → ∃ c, cl.lookup y.1 = some c := by
  obtain ⟨cl, e1, e2, _, e4⟩ := closure_go env scope.names [] h (fun x c e => by simp at e)
  refine ⟨cl, ?_, e2, e4⟩
  show ((forIn scope.names ([] : List (Str × Addr)) (fun (p : Str × NameKind) (r : List (Str × Addr)) => if (p.2 == NameKind.free) = true then (do let a ← cellOf env p.1; pure (ForInStep.yield ((p.1, a) :: r)) : Sem _) else pure (ForInStep.yield r)) : Sem (List (Str × Addr))) >>= fun r => pure r) = pure cl
  rw [e1]
  rfl
theorem relabel_free {env : Env} {y : Str} : ∀ {names : List (Str × NameKind)}, names.lookup y = some .free →
    (names.map fun (n, k) => if (k == NameKind.free && env.scope.kind == .function && env.kindOf n == some .cell) then (n, NameKind.cell) else (n, k)).lookup y = some .cell ∨
    (names.map fun (n, k) => if (k == NameKind.free && env.scope.kind == .function && env.kindOf n == some .cell) then (n, NameKind.cell) else (n, k)).lookup y = some .free
  | [], h => by simp at h
  | (n, k) :: r, h => by
    have ih := relabel_free (env := env) (y := y) (names := r)
    rw [List.lookup_cons] at h
    rw [List.map_cons]
    dsimp only
    cases q : y == n with
    | true =>
      rw [q] at h
      cases h
      split
      · exact .inl (by rw [List.lookup_cons, q])
      · exact .inr (by rw [List.lookup_cons, q])
    | false =>
      rw [q] at h
      split
      · rw [List.lookup_cons, q]; exact ih h
      · rw [List.lookup_cons, q]; exact ih h
theorem relabel_back {env : Env} {y : Str} {k' : NameKind} (hk' : k' = .cell ∨ k' = .free) : ∀ {names : List (Str × NameKind)}, (∀ p ∈ names, p.2 ≠ .cell) →
    (names.map fun (n, k) => if (k == NameKind.free && env.scope.kind == .function && env.kindOf n == some .cell) then (n, NameKind.cell) else (n, k)).lookup y = some k' → (y, NameKind.free) ∈ names
  | [], _, h => by simp at h
  | (n, k) :: r, hn, h => by
    have ih := relabel_back (env := env) (y := y) hk' (names := r) fun p hp => hn p (List.mem_cons_of_mem _ hp)
    rw [List.map_cons] at h
    dsimp only at h
    split at h
    · rename_i c
      rw [List.lookup_cons] at h
      cases q : y == n with
      | true =>
        have e : y = n := by simpa using q
        have : k = .free := by
          rw [Bool.and_eq_true, Bool.and_eq_true] at c
          simpa using c.1.1
        subst e this
        exact List.mem_cons_self ..
      | false => rw [q] at h; exact List.mem_cons_of_mem _ (ih h)
    · rw [List.lookup_cons] at h
      cases q : y == n with
      | true =>
        rw [q] at h
        have e : y = n := by simpa using q
        have e2 : k = k' := Option.some.inj h
        subst e e2
        have := hn (y, k) (List.mem_cons_self ..)
        rcases hk' with z | z
        · exact absurd z this
        · rw [z]; exact List.mem_cons_self ..
      | false => rw [q] at h; exact List.mem_cons_of_mem _ (ih h)
theorem lookup_mem {y : Str} {k : NameKind} : ∀ {l : List (Str × NameKind)}, l.lookup y = some k → (y, k) ∈ l
  | [], h => by simp at h
  | (n, k') :: r, h => by
    rw [List.lookup_cons] at h
    cases q : y == n with
    | true =>
      rw [q] at h
      have e : y = n := by simpa using q
      cases h
      subst e
      exact List.mem_cons_self ..
    | false => rw [q] at h; exact List.mem_cons_of_mem _ (lookup_mem h)
def compCx (X : Cx) (NC : List Str) (scope : Scope) (cl : List (Str × Addr)) (C : Addr) (s : Shared) (H : Hp) (fp : List Addr) : Cx :=
  { X with N := NC, s₀ := s, H₀ := H, env := compEnvC scope cl C X.env, outer := X.stack, stack := X.stack, ex := fp, fn := fun _ => false, pn := [], xe := fun _ _ => False }
inductive Frees (X : Cx) (scope : Scope) : List Str → List Nat → Prop
  | nil : Frees X scope [] []
  | cons {y : Str} {i : Nat} {fr : List Str} {ρ : List Nat} (hN : X.N[i]? = some y) (hl : scope.names.lookup y = some .free) (hk : X.env.kindOf y = some .cell ∨ X.env.kindOf y = some .free) (r : Frees X scope fr ρ) : Frees X scope (y :: fr) (i :: ρ)
theorem Frees.len {X : Cx} {scope : Scope} {fr : List Str} {ρ : List Nat} (h : Frees X scope fr ρ) : fr.length = ρ.length := by
  induction h with
  | nil => rfl
  | cons _ _ _ _ ih => simp [ih]
theorem Frees.at {X : Cx} {scope : Scope} {fr : List Str} {ρ : List Nat} (h : Frees X scope fr ρ) : ∀ (j : Nat) (y : Str), fr[j]? = some y → ∃ i, ρ[j]? = some i ∧ X.N[i]? = some y ∧ scope.names.lookup y = some .free ∧ (X.env.kindOf y = some .cell ∨ X.env.kindOf y = some .free) := by
  induction h with
  | nil => intro j y e; simp at e
  | @cons y i fr ρ hN hl hk r ih =>
    intro j z e
    cases j with
    | zero =>
      have : y = z := by simpa using e
      subst this
      exact ⟨i, rfl, hN, hl, hk⟩
    | succ j => exact ih j z (by simpa using e)
theorem Frees.mem {X : Cx} {scope : Scope} {fr : List Str} {ρ : List Nat} (h : Frees X scope fr ρ) (y : Str) (hy : y ∈ fr) : X.env.kindOf y = some .cell ∨ X.env.kindOf y = some .free := by
  obtain ⟨j, hj, e⟩ := List.mem_iff_getElem.mp hy
  obtain ⟨i, _, _, _, k⟩ := h.at j y (by rw [← e]; simp)
  exact k
def takes (σ : St) (ρ : List Nat) : St := ρ.map fun i => (σ[i]?).getD none
def PF (X : Cx) (ifs : List Expr) (t : TT) : Prop :=
  ∀ (pins : List (Addr × Obj)) (s : Shared) (σ : St) (H : Hp) (Q : Bool → Hp → Prop), Inv X pins σ H s → t σ H Q →
    wpAny (model X.prog X.w) X.A (forIn ifs true fun c r => if r = true then do let ok ← isTrue c X.env (eval c X.env); pure (ForInStep.yield ok) else pure (ForInStep.yield r)) (TP X pins σ Q) X.xe s
theorem pf_nil {X : Cx} : PF X [] (fun _ H Q => Q true H) := fun _ _ _ H _ I h => wpAny_tests_nil ⟨H, I, h⟩
def tCompTurn (J : It) (tt : TT) (te : TE) (fs : St) (D : Addr) (R : Hp → Prop) : Hp → Prop := fun H1 =>
  ∃ W : Nat → Nat → List V → Hp → Prop, (∃ m, W 0 m [] (upd H1 D (.lst []))) ∧ ∀ i m acc H, W i m acc H → H D = some (.lst acc) ∧
    ((J.stop i H ∧ R H) ∨ (J.go i H ∧ ∀ y H', J.yld i H y H' → tt (some y :: fs) H' fun b H2 =>
      if b = true then te (some y :: fs) H2 fun z H3 => H3 D = some (.lst acc) ∧ acc.length < sizeLine ∧ ∃ m', m' < m ∧ W (i + 1) m' (acc ++ [z]) (upd H3 D (.lst (acc ++ [z])))
      else ∃ m', m' < m ∧ W (i + 1) m' acc H2))
def tComp (ρ : List Nat) (wi : TI) (tt : TT) (te : TE) : TE := fun σ H Q => wi σ H fun J H1 => ∀ D, H1 D = none → tCompTurn J tt te (takes σ ρ) D (Q (.ref D)) H1
theorem comp_core {X : Cx} {x : Str} {px pos : Pos} {elt iter : Expr} {ifs : List Expr} {scope : Scope} {fr : List Str} {ρ : List Nat} {tt : TT} {te : TE} {J : It} {it : Addr} {fp : List Addr} {tn : Nat → Heap → Prop}
    {pins : List (Addr × Obj)} {s2 : Shared} {σ : St} {H2 : Hp} {cl : List (Str × Addr)} {R : Addr → Hp → Prop} {RR : Value → Addr → Result → Shared → Prop} {E : Value → Shared → Prop}
    (hc : X.calm = true) (hk : scope.kind = .function) (hcl : ∀ y ∈ scope.names, y.2 ≠ .cell) (hx : scope.names.lookup x = some .local) (hnd : (x :: fr).Nodup) (hfr : Frees X scope fr ρ) (hall : ∀ y ∈ scope.names, y.2 = .free → y.1 ∈ fr)
    (cl1 : ∀ x c, cl.lookup x = some c → X.env.cells.lookup x = some c) (cl2 : ∀ y ∈ scope.names, y.2 = .free → ∃ c, cl.lookup y.1 = some c)
    (hb1 : ∀ cl C s0 H0 ex, PF (compCx X (x :: fr) scope cl C s0 H0 ex) ifs tt) (hb2 : ∀ cl C s0 H0 ex, PE (compCx X (x :: fr) scope cl C s0 H0 ex) elt te)
    (I2 : Inv X pins σ H2 s2) (T : Turn X.prog X.w X.K (.Name x px) J fp it tn) (st2 : tn 0 s2.heap) (f2 : ∀ b ∈ fp, FpOk X pins H2 b)
    (h : ∀ D, H2 D = none → tCompTurn J tt te (takes σ ρ) D (R D) H2)
    (hRR : ∀ D C H' s' m, s'.heap.Ns C m → Inv X pins σ H' s' → FpOk X pins H' C → R D H' → RR (.ref D) C (.ok .next) s') :
    wpAny (model X.prog X.w) X.A (newList []) (fun acc s₃ => wpAny (model X.prog X.w) X.A (newFunctionEnv scope X.env.globals cl [] X.env.qual none .none (some X.env)) (fun cenv s₄ =>
      codeAny (model X.prog X.w) X.A (.compStart (.ListComp elt [⟨.Name x px, iter, ifs, 0⟩] scope pos) 0 (.ref it) acc { cenv with scope := relabel scope X.env }) (RR acc cenv.locals) s₄) E s₃) E s2 := by
  refine wpAny_newObj_type (wpAny_newFunctionEnv hcl (by intro y hy; simp at hy) (fun h₁ hns₁ hsb₁ => ?_) hk)
  dsimp only at hns₁ hsb₁ ⊢
  have I3 : Inv X pins σ (upd H2 s2.heap.objs.size (.lst [])) { s2 with heap := s2.heap.push { cls := .type "list", dict := none, data := .seq ([] : List Value).toArray } } := I2.lnew (t' := s2.toks) (ys := []) (its := []) .nil (Nat.zero_le _)
  have hD := h s2.heap.objs.size I2.fresh
  have z3 : (s2.heap.push { cls := .type "list", dict := none, data := .seq ([] : List Value).toArray }).objs.size = s2.heap.objs.size + 1 := Heap.size_push ..
  have k3 : ∀ b o, s2.heap.get? b = some o → (s2.heap.push { cls := .type "list", dict := none, data := .seq ([] : List Value).toArray }).get? b = some o := fun b o e => Heap.get?_push_of_some _ e
  generalize s2.heap.push { cls := .type "list", dict := none, data := .seq ([] : List Value).toArray } = h3 at I3 z3 k3 hns₁ hsb₁ ⊢
  generalize hDD : s2.heap.objs.size = D at I3 hD z3 ⊢
  generalize hH3 : upd H2 D (.lst []) = H3 at I3
  have old : ∀ b o, h3.get? b = some o → h₁.get? b = some o := fun b o e => hsb₁.extBut b o (Nat.ne_of_lt (Heap.lt_size e)) (Heap.get?_push_of_some _ e)
  have lt2 : ∀ b ∈ fp, b < D := fun b hb => by
    obtain ⟨o, e, _⟩ := T.obj 0 _ st2 b hb
    rw [← hDD]
    exact Heap.lt_size e
  have lt3 : ∀ b ∈ fp, b < h3.objs.size := fun b hb => Nat.lt_of_lt_of_le (lt2 b hb) (by rw [z3]; exact Nat.le_succ _)
  have fr3 : ∀ b ∈ fp, H3 b = none := fun b hb => by rw [← hH3, upd_ne (Nat.ne_of_lt (lt2 b hb))]; exact (f2 b hb).1
  have stk : ∀ b ∈ fp, b ∉ frs X.stack := fun b hb z => (List.mem_cons.mp (I2.stkSub b z)).elim (f2 b hb).2.1 (f2 b hb).2.2.1
  have cel : ∀ x c, cl.lookup x = some c → ∀ b ∈ fp, c ≠ b := fun x c e b hb => (f2 b hb).2.2.2.2.1 x c (cl1 x c e)
  have okC : (compCx X (x :: fr) scope cl h3.objs.size { s2 with heap := h3 } H3 fp).Ok := by
    refine ⟨I2.ok.mod, hk, I2.ok.glob, I2.ok.blt, Nat.le_refl _, fun a b c e1 e2 => I2.ok.inj a b c (cl1 a c e1) (cl1 b c e2), fun y hy => ?_, fun _ _ q => (nomatch q), I2.ok.hd, I2.ok.frames, .inl rfl, fun b hb => ⟨Nat.ne_of_lt (lt3 b hb), fun y c e => cel y c e b hb⟩,
      I3.bs, Nat.le_trans I2.ok.bsz I3.sz, fun b o e hb => ?_, stk, I3.stack, I3.stkFree⟩
    · rcases hy with hy | hy
      · exact cl2 (y, .free) (relabel_back (.inl rfl) hcl hy) rfl
      · exact cl2 (y, .free) (relabel_back (.inr rfl) hcl hy) rfl
    · rcases (f2 b hb).2.2.2.1 with z | z
      · exact I2.ok.noex b o e z
      · exact absurd (Nat.lt_of_lt_of_le (Heap.lt_size (I2.ok.bs b o e).1) z) (Nat.lt_irrefl _)
  have I4 : Inv (compCx X (x :: fr) scope cl h3.objs.size { s2 with heap := h3 } H3 fp) [] (none :: takes σ ρ) H3 { s2 with heap := h₁, toks := s2.toks + ([] : List (Str × Value)).length } := by
    refine ⟨okC, rfl, I3.bare, Un.kept old, ⟨_, hns₁, fun i y v e1 e2 e3 => ?_⟩, fun y c e => ?_, I3.hok.fresh (Nat.le_refl _), fun y c e => I3.freeC y c (cl1 y c e), fun p hp => (nomatch hp), I3.hok.kept old, by simp [takes, compCx, hfr.len]⟩
    · cases i with
      | zero => simp at e2
      | succ j =>
        obtain ⟨i', r1, r2, r3, r4⟩ := hfr.at j y (by simpa [compCx] using e1)
        have e2' : (σ[i']?).getD none = some v := by simpa [takes, r1] using e2
        have e2'' : σ[i']? = some (some v) := by
          cases q : σ[i']? with
          | none => rw [q] at e2'; cases e2'
          | some o => rw [q] at e2'; exact congrArg some e2'
        obtain ⟨m, hn, hl⟩ := I3.loc
        have vis : Vis X.env.scope y := by rcases r4 with r4 | r4; exact .inr (.inl r4); exact .inr (.inr r4)
        obtain ⟨u, ru, lk⟩ := hl i' y v r2 e2'' vis
        refine ⟨u, ru, .inr ⟨relabel_free r3, ?_⟩⟩
        rcases lk with ⟨k, _⟩ | ⟨_, c, hc', q⟩
        · rcases r4 with r4 | r4 <;> (rw [k] at r4; cases r4)
        · have hm : (y, NameKind.free) ∈ scope.names := lookup_mem r3
          obtain ⟨c', hc''⟩ := cl2 _ hm rfl
          have := (cl1 _ _ hc'').symm.trans hc'
          cases this
          obtain ⟨o, ho, hd⟩ := q
          exact ⟨c, hc'', o, old _ _ ho, hd⟩
    · obtain ⟨v, o, ho, hd⟩ := I3.cell y c (cl1 y c e)
      exact ⟨v, o, old _ _ ho, hd⟩
  have st4 : tn 0 h₁ := T.keep 0 _ _ st2 fun b hb o e => old b o (k3 b o e)
  have stat : ∀ {H' : Hp}, (∀ b ∈ fp, H' b = none) → ∀ b ∈ fp, FpOk (compCx X (x :: fr) scope cl h3.objs.size { s2 with heap := h3 } H3 fp) [] H' b := fun hn b hb =>
    ⟨hn b hb, Nat.ne_of_lt (lt3 b hb), stk b hb, .inl hb, fun y c e => cel y c e b hb, fun p hp => (nomatch hp)⟩
  have hxl : (relabel scope X.env).names.lookup x = some .local := lookup_relabel_local hx
  obtain ⟨W, ⟨m0, w0⟩, turn⟩ := hD
  rw [hH3] at w0
  have loop : ∀ s4 : Shared, s4 = { s2 with heap := h₁, toks := s2.toks + ([] : List (Str × Value)).length } →
      codeAny (model X.prog X.w) X.A (.compLoop (.ListComp elt [⟨.Name x px, iter, ifs, 0⟩] scope pos) 0 (.ref it) (.ref D) (compEnvC scope cl h3.objs.size X.env)) (RR (.ref D) h3.objs.size) s4 := by
    rintro s4 rfl
    refine codeAny_compLoop_tests (fun n s' => ∃ i acc σ' H', Inv (compCx X (x :: fr) scope cl h3.objs.size { s2 with heap := h3 } H3 fp) [] σ' H' s' ∧ σ'.drop 1 = takes σ ρ ∧ tn i s'.heap ∧ (∀ b ∈ fp, H' b = none) ∧ W i n acc H') ?_ m0 ⟨0, [], _, _, I4, rfl, st4, fr3, w0⟩
    rintro n s5 ⟨i, acc, σ5, H5, I5, dr5, st5, fr5, w5⟩
    obtain ⟨hacc, alt⟩ := turn i n acc H5 w5
    rcases alt with ⟨stop, q⟩ | ⟨go, step⟩
    · refine wpAny_mono (T.done (compCx X (x :: fr) scope cl h3.objs.size { s2 with heap := h3 } H3 fp) rfl rfl rfl hc i [] s5 σ5 H5 (fun _ _ => False) I5 (stat fr5) st5 stop) (fun r s6 q6 => ?_) fun _ _ z => z.elim
      obtain ⟨hr, I6⟩ := q6
      subst hr
      obtain ⟨m6, hn6, _⟩ := I6.loc
      refine hRR _ _ H5 s6 m6 hn6 (I3.call' (ch := fp) I6.os I6.base I6.hok I6.bare fun b hb => ⟨(f2 b hb).2.2.2.1, (f2 b hb).2.1, (f2 b hb).2.2.2.2.1, (f2 b hb).2.2.2.2.2⟩) (I3.fpOk (Nat.le_refl _) I6.free) q
    · refine wpAny_mono (T.item (compCx X (x :: fr) scope cl h3.objs.size { s2 with heap := h3 } H3 fp) rfl rfl rfl hc i [] s5 σ5 H5 (fun _ _ => False) I5 (stat fr5) st5 go) (fun r s6 q6 => ?_) fun _ _ z => z.elim
      obtain ⟨u, hr, h6⟩ := q6
      subst hr
      dsimp only
      refine wpAny_bind (m := letOwnedTupleGo (.Name x px) (.ref it) u) (f := fun _ => assign (.Name x px) (compEnvC scope cl h3.objs.size X.env) u) (wpAny_mono h6 (fun _ s7 q7 => ?_) fun _ _ z => z.elim)
      obtain ⟨y, H7, I7, r7, y7, st7, fr7⟩ := q7
      have I7' := I7.pinned (stat fr7) (T.obj _ _ st7)
      refine wpAny_mono (pg_name (X := compCx X (x :: fr) scope cl h3.objs.size { s2 with heap := h3 } H3 fp) (i := 0) hnd rfl (.inl hxl) (.inr hxl) _ s7 σ5 H7 y u (fun σ8 H8 => σ8 = some y :: takes σ ρ ∧ H8 = H7) I7' r7 ?_) (fun _ s8 q8 => ?_) fun _ _ z => z.elim
      · refine ⟨?_, rfl⟩
        have l5 := I5.len
        cases σ5 with
        | nil => simp [compCx] at l5
        | cons a r =>
          have : r = takes σ ρ := by simpa using dr5
          subst this
          rfl
      obtain ⟨σ8, H8, I8, e8, e8'⟩ := q8
      subst e8 e8'
      have back : ∀ {H9 : Hp} {s9 : Shared} {acc' : List V} {m' : Nat}, Inv (compCx X (x :: fr) scope cl h3.objs.size { s2 with heap := h3 } H3 fp) ([] ++ pinsAt fp s7.heap) (some y :: takes σ ρ) H9 s9 → m' < n → W (i + 1) m' acc' H9 →
          ∃ m, m < n ∧ ∃ i acc σ' H', Inv (compCx X (x :: fr) scope cl h3.objs.size { s2 with heap := h3 } H3 fp) [] σ' H' s9 ∧ σ'.drop 1 = takes σ ρ ∧ tn i s9.heap ∧ (∀ b ∈ fp, H' b = none) ∧ W i m acc H' := fun {H9 s9 acc' m'} I9 lt w9 => by
        have pn : ∀ b ∈ fp, ∀ o, s7.heap.get? b = some o → s9.heap.get? b = some o ∧ H9 b = none := fun b hb o e => by
          have z := I9.pin (b, o) (List.mem_append_right _ (List.mem_append_right _ (mem_pinsAt hb e)))
          exact ⟨z.1, z.2.1⟩
        refine ⟨m', lt, i + 1, acc', _, H9, I9.unpinned, rfl, T.keep _ _ _ st7 fun b hb o e => (pn b hb o e).1, fun b hb => ?_, w9⟩
        obtain ⟨o, e, _⟩ := T.obj _ _ st7 b hb
        exact (pn b hb o e).2
      refine wpAny_mono (hb1 cl h3.objs.size _ H3 fp _ s8 _ H8 _ I8 (step y H8 y7)) (fun ok s9 q9 => ?_) fun _ _ z => z.elim
      obtain ⟨H9, I9, q9⟩ := q9
      cases ok with
      | false =>
        obtain ⟨m', lt, w9⟩ := q9
        exact back I9 lt w9
      | true =>
        refine wpAny_mono (hb2 cl h3.objs.size _ H3 fp _ s9 _ H9 _ I9 q9) (fun z s10 q10 => ?_) fun _ _ z => z.elim
        obtain ⟨zv, H10, I10, rz, e10, lz, m', lt, w10⟩ := q10
        refine wpAny_mono (mt_append (X := compCx X (x :: fr) scope cl h3.objs.size { s2 with heap := h3 } H3 fp) _ s10 _ H10 (.ref D) [zv] (.ref D) [z] (fun _ H11 => H11 = upd H10 D (.lst (acc ++ [zv]))) I10 rfl (.cons rz .nil) ⟨D, acc, zv, rfl, rfl, e10, lz, rfl⟩) (fun _ s11 q11 => ?_) fun _ _ z => z.elim
        obtain ⟨_, H11, I11, _, e11⟩ := q11
        subst e11
        exact back I11 lt w10
  exact codeAny_compStart_list (loop _ rfl) (T.self X.A 0 _ _ _ st4 (loop _ rfl))
theorem pe_comp {X : Cx} {x : Str} {px pos : Pos} {elt iter : Expr} {ifs : List Expr} {scope : Scope} {fr : List Str} {ρ : List Nat} {tt : TT} {te : TE} {wi : TI}
    (hc : X.calm = true) (hk : scope.kind = .function) (hcl : ∀ y ∈ scope.names, y.2 ≠ .cell) (hnm : ∀ y ∈ scope.names, y.2 = .local → scope.names.lookup y.1 = some .local) (hx : scope.names.lookup x = some .local) (hnd : (x :: fr).Nodup)
    (hfr : Frees X scope fr ρ) (hall : ∀ y ∈ scope.names, y.2 = .free → y.1 ∈ fr) (hi : PI X (.Name x px) iter wi)
    (hb1 : ∀ cl C s0 H0 ex, PF (compCx X (x :: fr) scope cl C s0 H0 ex) ifs tt) (hb2 : ∀ cl C s0 H0 ex, PE (compCx X (x :: fr) scope cl C s0 H0 ex) elt te)
    (hs : ∀ v, foldedSetIterable iter X.env v = pure v := by intro _; rfl) : PE X (.ListComp elt [⟨.Name x px, iter, ifs, 0⟩] scope pos) (tComp ρ wi tt te) := by
  intro pins s σ H Q I h
  obtain ⟨cl, e1, c1, c2⟩ := closure_ok (scope := scope) (env := X.env) fun y hy hf => I.ok.has y.1 (hfr.mem y.1 (hall y hy hf))
  rw [eval_ListComp]
  refine wpAny_comprehension_free (use := none) rfl hs e1 hk hnm ?_
  refine thn (hi pins s σ H _ I h) fun v s1 h1 => thn h1 fun itv s2 h2 => ?_
  obtain ⟨it, fp, tn, J, H2, e, I2, T, st2, f2, q⟩ := h2
  subst e
  refine comp_core (RR := fun acc C => compPost _ _ X.xe none (EP X pins σ Q) acc C) hc hk hcl hx hnd hfr hall c1 c2 hb1 hb2 I2 T st2 f2 (R := fun D => Q (.ref D)) q ?_
  intro D C H' s' m hn I' fC r
  exact ⟨m, hn, fun h' hs' => ⟨.ref D, H', I'.turned (t' := s'.toks) (fun b o hb e => (hs'.2 b hb).trans e) fC.1 fC.2.1 fC.2.2.2.1 fC.2.2.2.2.1 fC.2.2.2.2.2, rfl, r⟩⟩
end L2
set_option maxRecDepth 100000
set_option Elab.async false
namespace L2
open PySem
section
variable {prog : Program} {w : World} {A : Around} {E : Value → Shared → Prop} {s : Shared}
theorem next_enumC {e it l : Addr} {i : Nat} {c : Int} {items : Array Value} {x old : Value} {Q : Value → Shared → Prop}
    (a1 : IsEnum s.heap e it c old) (a2 : s.heap.IsListIter it l i) (a3 : s.heap.IsList l items) (a4 : items[i]? = some x) (ne : e ≠ it)
    (k : ∀ h', IsEnumOut h' e it (c + 1) x s.heap.objs.size → h'.IsListIter it l (i + 1) →
      h'.get? s.heap.objs.size = some { cls := .type "tuple", data := .seq #[.int c s.toks, x] } → h'.objs.size = s.heap.objs.size + 1 →
      (∀ b o, b ≠ e → b ≠ it → s.heap.get? b = some o → h'.get? b = some o) → Q (.ref s.heap.objs.size) { s with heap := h', toks := s.toks + 1 }) :
    wpAny (model prog w) A (Builtin.«enumerate.__next__» ⟨[.ref e], []⟩) (fun fin s' => ∃ v, fin = .done (.ret v) ∧ Q v s') E s := by
  obtain ⟨h0, g, d, tk, os⟩ := s
  show wpAny _ _ (field (.ref e) 2 >>= _) _ _ _
  refine wpAny_bind (wpAny_field a1 rfl (x := .ref it) rfl (wpAny_bind (wpAny_nextOf_list_item a2 a3 a4 fun h1 b2 c1 => ?_)))
  replace c1 : Heap.SameBut it h0 h1 := c1
  have b1 : IsEnum h1 e it c old := (c1.2 e ne).trans a1
  show wpAny _ _ (field (.ref e) 3 >>= _) _ _ ⟨h1, g, d, tk, os⟩
  refine wpAny_bind (wpAny_field b1 rfl (x := rawInt c) rfl ?_)
  show wpAny _ _ (field (.ref e) 4 >>= _) _ _ ⟨h1, g, d, tk, os⟩
  refine wpAny_bind (wpAny_field b1 rfl (x := .none) rfl ?_)
  show wpAny _ _ (mkInt c >>= _) _ _ ⟨h1, g, d, tk, os⟩
  refine wpAny_bind (wpAny_mkInt ?_)
  show wpAny _ _ (setField (.ref e) 3 (rawInt (c + 1)) >>= _) _ _ ⟨h1, g, d, tk + 1, os⟩
  refine wpAny_bind (wpAny_setField_rec b1 (by simp) fun h2 d1 c2 => ?_)
  replace c2 : Heap.SameBut e h1 h2 := c2
  replace d1 : IsEnum h2 e it (c + 1) old := d1
  show wpAny _ _ (setField (.ref e) 4 .none >>= _) _ _ ⟨h2, g, d, tk + 1, os⟩
  refine wpAny_bind (wpAny_setField_rec d1 (by simp) fun h3 d2 c3 => ?_)
  replace c3 : Heap.SameBut e h2 h3 := c3
  replace d2 : IsEnum h3 e it (c + 1) old := d2
  show wpAny _ _ (newTuple [.int c tk, x] >>= _) _ _ ⟨h3, g, d, tk + 1, os⟩
  refine wpAny_bind (wpAny_newTuple ?_)
  have d3 : IsEnum (h3.push { cls := .type "tuple", data := .seq #[.int c tk, x] }) e it (c + 1) old := Heap.get?_push_of_some _ d2
  have z3 : h3.objs.size = h0.objs.size := by rw [c3.1, c2.1, c1.1]
  have lt : e < h0.objs.size := Heap.lt_size a1
  generalize eq4 : h3.push { cls := .type "tuple", data := .seq #[.int c tk, x] } = h4 at d3
  have t4 : h4.get? h0.objs.size = some { cls := .type "tuple", data := .seq #[.int c tk, x] } := by rw [← eq4, ← z3]; exact Heap.get?_push_size _ rfl
  have z4 : h4.objs.size = h0.objs.size + 1 := by rw [← eq4, Heap.size_push, z3]
  have k4 : ∀ b o, b ≠ e → b ≠ it → h0.get? b = some o → h4.get? b = some o := fun b o n1 n2 q => by
    rw [← eq4]
    exact Heap.get?_push_of_some _ (c3.extBut b o n1 (c2.extBut b o n1 (c1.extBut b o n2 q)))
  have i4 : h4.IsListIter it l (i + 1) := by
    rw [← eq4]
    obtain ⟨o, ho, r⟩ := (b2.extBut c2.extBut (Ne.symm ne)).extBut c3.extBut (Ne.symm ne)
    exact ⟨o, Heap.get?_push_of_some _ ho, r⟩
  show wpAny _ _ (Builtin.SmallTypes.ownedTupleIsFree (.ref e) >>= _) _ _ ⟨h4, g, d, tk + 1, os⟩
  rw [z3]
  clear eq4 d2 d1 b1 c3 c2 c1 b2 z3 h3 h2 h1
  refine wpAny_bind ?_
  unfold Builtin.SmallTypes.ownedTupleIsFree
  refine wpAny_bind (wpAny_field d3 rfl (x := .none) rfl (wpAny_pure ?_))
  simp only [if_true]
  refine wpAny_bind (wpAny_rule (wpAny_bind (wpAny_field d3 rfl (x := old) rfl ?_)))
  refine wpAny_bind (wpAny_setField_rec d3 (by simp) fun h5 d5 c5 => ?_)
  replace c5 : Heap.SameBut e h4 h5 := c5
  replace d5 : IsEnum h5 e it (c + 1) x := d5
  show wpAny _ _ (Builtin.SmallTypes.ownedTupleHandOut (.ref e) (.ref h0.objs.size) >>= _) _ _ ⟨h5, g, d, tk + 1, os⟩
  refine wpAny_bind ?_
  unfold Builtin.SmallTypes.ownedTupleHandOut
  refine wpAny_bind (wpAny_setField_rec d5 (by simp) fun h6 d6 c6 => ?_)
  replace c6 : Heap.SameBut e h5 h6 := c6
  replace d6 : IsEnumOut h6 e it (c + 1) x h0.objs.size := d6
  refine wpAny_setField_rec d6 (by simp) fun h7 d7 c7 => ?_
  replace c7 : Heap.SameBut e h6 h7 := c7
  replace d7 : IsEnumOut h7 e it (c + 1) x h0.objs.size := d7
  have up : ∀ b o, b ≠ e → h4.get? b = some o → h7.get? b = some o := fun b o n q => c7.extBut b o n (c6.extBut b o n (c5.extBut b o n q))
  refine wpAny_bind (wpAny_letGo (wpAny_pure ⟨_, rfl, k h7 d7 ?_ ?_ ?_ ?_⟩))
  · obtain ⟨o, ho, r⟩ := i4
    exact ⟨o, up it o (Ne.symm ne) ho, r⟩
  · exact up _ _ (Nat.ne_of_gt lt) t4
  · rw [c7.1, c6.1, c5.1, z4]
  · exact fun b o n1 n2 q => up b o n1 (k4 b o n1 n2 q)
theorem pyNext_enumC {e it l : Addr} {i : Nat} {c : Int} {items : Array Value} {x old : Value} {Q : Option Value → Shared → Prop}
    (a1 : IsEnum s.heap e it c old) (a2 : s.heap.IsListIter it l i) (a3 : s.heap.IsList l items) (a4 : items[i]? = some x) (ne : e ≠ it)
    (k : ∀ h', IsEnumOut h' e it (c + 1) x s.heap.objs.size → h'.IsListIter it l (i + 1) →
      h'.get? s.heap.objs.size = some { cls := .type "tuple", data := .seq #[.int c s.toks, x] } → h'.objs.size = s.heap.objs.size + 1 →
      (∀ b o, b ≠ e → b ≠ it → s.heap.get? b = some o → h'.get? b = some o) → Q (some (.ref s.heap.objs.size)) { s with heap := h', toks := s.toks + 1 }) :
    wpAny (model prog w) A (pyNext (.ref e)) Q E s := by
  have ty : s.TypeIs (.ref e) "enumerate" := ⟨_, a1, rfl⟩
  unfold pyNext
  exact wpAny_bind (wpAny_attempt (wpAny_callSpecial?_slot (name := Str.ofString "__next__") ty F.slot_enumerate_next
    (wpAny_call_entry F.slot_enumerate_next ty F.entry_enumerate_next (next_enumC a1 a2 a3 a4 ne fun h' q1 q2 q3 q4 q5 => wpAny_pure (k h' q1 q2 q3 q4 q5)) (F.args_enumerate_next_1 _))))
theorem pyNext_enumEnd {e it l : Addr} {i : Nat} {c : Int} {items : Array Value} {old : Value} {Q : Option Value → Shared → Prop} (hh : A.handled = none)
    (a1 : IsEnum s.heap e it c old) (a2 : s.heap.IsListIter it l i) (a3 : s.heap.IsList l items) (a4 : items[i]? = none)
    (k : ∀ h', Heap.ExtBut it s.heap h' → Q none { s with heap := h' }) : wpAny (model prog w) A (pyNext (.ref e)) Q E s := by
  have ty : s.TypeIs (.ref e) "enumerate" := ⟨_, a1, rfl⟩
  unfold pyNext
  refine wpAny_bind (wpAny_attempt (wpAny_callSpecial?_slot (name := Str.ofString "__next__") ty F.slot_enumerate_next
    (wpAny_call_entry F.slot_enumerate_next ty F.entry_enumerate_next ?_ (F.args_enumerate_next_1 _))))
  show wpAny _ _ (field (.ref e) 2 >>= _) _ _ _
  refine wpAny_bind (wpAny_field a1 rfl (x := .ref it) rfl (wpAny_bind (wpAny_nextOf_list_end hh a2 a3 a4 fun h' x q1 q2 => ?_)))
  obtain ⟨o, ho, hc⟩ := q2
  exact wpAny_bind (wpAny_isInstance (T := "StopIteration") (b := true) ⟨o, ho, hc⟩ isSubtype_stop (wpAny_pure (k _ q1)))
end
end L2
set_option Elab.async false
set_option maxHeartbeats 4000000
namespace L2
open PySem PySem.Spec PyProof.Rows
structure Callee (P : Program) (w : World) (K : PySem.W.Frag) (mg : Str → Option Value) (base : Heap) (x : Str) (ps : List Str) (k : Nat) (sp : Sp) : Prop where
  ex : ∃ f fd, FnOk P w K mg base CX0 k f fd ps sp ∧ mg x = some (.ref f) ∧ PySem.W.keepIn K (.ref f) = true ∧ Binds K fd ps []
def tCl (sp : Sp) (t : TA) : TE := fun σ H Q => t σ H fun vs H1 => sp vs H1 Q E0
theorem pe_callC {X : Cx} {x : Str} {ps : List Str} {k : Nat} {sp : Sp} {e : Expr} {es : List Expr} {t : TA} {p pos : Pos} (C : Callee X.prog X.w X.K X.mg X.base x ps k sp) (hr : Room k X.A) (hg : Gl X x) (ha : PA X (e :: es) t)
    (hdb : (x == ("__debug__" : Str)) = false := by decide) (he : starEach (e :: es) X.env = (false, eval e X.env) :: starEach es X.env := by rfl) (hpl : (backTo pos (starEach es X.env)).any (·.1) = false := by rfl) :
    PE X (.Call (.Name x p) (e :: es) [] pos) (tCl sp t) := by
  obtain ⟨f, fd, F, hm, hk, hb⟩ := C.ex
  have h := pe_call (p := p) (pos := pos) F hr hg hm hk hb .nil pass0 ha hdb he hpl
  intro pins s σ H Q I q
  refine h pins s σ H Q I ?_
  unfold tCall
  simp only [List.append_nil]
  exact q
inductive WrittenInts : List Expr → List Int → Prop
  | nil : WrittenInts [] []
  | cons {i : Int} {k : Nat} {p : Pos} {es : List Expr} {js : List Int} (h : WrittenInts es js) : WrittenInts (.Constant (.int i) k p :: es) (i :: js)
def tInts (js : List Int) : TA := fun _ H Q => Q (js.map V.int) H
theorem pa_ints {X : Cx} {es : List Expr} {js : List Int} (h : WrittenInts es js) : PA X es (tInts js) := by
  induction h with
  | nil => exact pa_nil
  | cons _ ih => exact pa_cons pe_int ih
theorem callK {X : Cx} {K : PySem.W.Frag} {f : Value} {r : PySem.W.Frag → List V → Hp → VK → Prop} (h : CallR X f (r X.K)) (e : X.K = K) : CallR X f (r K) := by
  rw [← e]; exact h
theorem ixK {X : Cx} {K : PySem.W.Frag} {r : PySem.W.Frag → R2} (h : IxR X (r X.K)) (e : X.K = K) : IxR X (r K) := by
  rw [← e]; exact h
def rLen (K : PySem.W.Frag) : List V → Hp → VK → Prop := fun xs H Q => ∃ p ys, xs = [.ref p] ∧ (SqL K H p ys ∨ SqT K H p ys) ∧ Q (.int ys.length) H
theorem call_len' {X : Cx} : CallR X (.builtin "len") (rLen X.K) := call_len_seq
def rSum (K : PySem.W.Frag) : List V → Hp → VK → Prop := fun xs H Q => ∃ (p : Addr) (ns : List Int), xs = [.ref p] ∧ SqL K H p (ns.map V.int) ∧ Q (.int ns.sum) H
theorem call_sum' {X : Cx} (hc : X.calm = true) : CallR X (.builtin "sum") (rSum X.K) := call_sum hc
def rIsi (K : PySem.W.Frag) : List V → Hp → VK → Prop := fun xs H Q => ∃ x n t b, xs = [x, .ty n] ∧ TyOf K H x t ∧ PySem.W.kitOne K t (.type n) = some b ∧ Q (.bl b) H
theorem call_isi' {X : Cx} : CallR X (.builtin "isinstance") (rIsi X.K) := call_isi
def rAllB (K : PySem.W.Frag) : List V → Hp → VK → Prop := fun xs H Q => ∃ (p : Addr) (bs : List Bool), xs = [.ref p] ∧ SqL K H p (bs.map V.bl) ∧ Q (.bl (bs.all id)) H
theorem call_all' {X : Cx} (hc : X.calm = true) : CallR X (.builtin "all") (rAllB X.K) := call_all hc
def rListOf (K : PySem.W.Frag) : List V → Hp → VK → Prop := fun xs H Q => ∃ p ys, xs = [.ref p] ∧ (SqL K H p ys ∨ SqT K H p ys) ∧ ∀ l, H l = none → Q (.ref l) (upd H l (.lst ys))
theorem call_list' {X : Cx} : CallR X (.type "list") (rListOf X.K) := call_list_of
def rEqL (K : PySem.W.Frag) : R2 := fun x y H Q => ∃ (p q : Addr) (ns ms : List Int), x = .ref p ∧ y = .ref q ∧ SqL K H p (ns.map V.int) ∧ SqL K H q (ms.map V.int) ∧ Q (.bl (decide (ns = ms))) H
theorem op_eqL' {X : Cx} (hu : X.A.units < cLine) : OpR X (compareOp .Eq) (rEqL X.K) := op_eqL hu
def rNeL (K : PySem.W.Frag) : R2 := fun x y H Q => ∃ (p q : Addr) (ns ms : List Int), x = .ref p ∧ y = .ref q ∧ SqL K H p (ns.map V.int) ∧ SqL K H q (ms.map V.int) ∧ Q (.bl (!decide (ns = ms))) H
theorem op_neL' {X : Cx} (hu : X.A.units < cLine) : OpR X (compareOp .NotEq) (rNeL X.K) := op_neL hu
section
variable {K : PySem.W.Frag} {D : Ends} {σ : St} {H : Hp} {Q : VK} {QB : Bool → Hp → Prop} {QA : List V → Hp → Prop} {t u : TS} {c tA tB' : TT} {te ta tb tc : TE} {tx : TA} {g : TG} {r r' : R2}
theorem rd_if (h : c σ H fun b H1 => if b = true then t D σ H1 else u D σ H1) : tIfS c t u D σ H := h
theorem rd_name {i : Nat} {v : V} {R : St → Hp → Prop} (h : R (σ.set i (some v)) H) : gName i v σ H R := h
theorem rd_var {i : Nat} {v : V} (e : σ[i]? = some (some v)) (q : Q v H) : tVar i σ H Q := ⟨v, e, q⟩
theorem rd_c {v : V} (q : Q v H) : tC v σ H Q := q
theorem rd_op (h : ta σ H fun x H1 => tb σ H1 fun y H2 => r x y H2 Q) : tOp r ta tb σ H Q := h
theorem rd_un {rr : V → Hp → VK → Prop} (h : ta σ H fun x H1 => rr x H1 Q) : tUn rr ta σ H Q := h
theorem rd_test (h : te σ H fun x H' => ∃ k, x = .bl k ∧ QB k H') : tTest te σ H QB := h
theorem rd_tB (h : te σ H fun x H' => ∃ k, x = .bl k ∧ QB k H') : tB te σ H QB := h
theorem rd_bl {b : Bool} {R : Bool → Prop} (h : R b) : ∃ k, V.bl b = .bl k ∧ R k := ⟨b, rfl, h⟩
theorem rd_and (h : tA σ H fun c H1 => if c = true then tB' σ H1 QB else QB false H1) : tAnd tA tB' σ H QB := h
theorem rd_or (h : tA σ H fun c H1 => if c = true then QB true H1 else tB' σ H1 QB) : tOr tA tB' σ H QB := h
theorem rd_not (h : tA σ H fun c H1 => QB (!c) H1) : tNot tA σ H QB := h
theorem rd_andV (h : ta σ H fun x H1 => ∃ c, x = .bl c ∧ if c = true then tb σ H1 Q else Q (.bl false) H1) : tAndV ta tb σ H Q := h
theorem rd_notV (h : ta σ H fun x H1 => ∃ c, x = .bl c ∧ Q (.bl (!c)) H1) : tNotV ta σ H Q := h
theorem rd_cons (h : ta σ H fun x H1 => tx σ H1 fun xs H2 => QA (x :: xs) H2) : tCons ta tx σ H QA := h
theorem rd_nil (h : QA [] H) : tNil σ H QA := h
theorem rd_ints {js : List Int} (h : QA (js.map V.int) H) : tInts js σ H QA := h
theorem rd_cb {rr : List V → Hp → VK → Prop} (h : tx σ H fun vs H1 => rr vs H1 Q) : tCB rr tx σ H Q := h
theorem rd_cl {sp : Sp} (h : tx σ H fun vs H1 => sp vs H1 Q E0) : tCl sp tx σ H Q := h
theorem rd_lst (h : tx σ H fun xs H1 => xs.length ≤ sizeLine ∧ ∀ p, H1 p = none → Q (.ref p) (upd H1 p (.lst xs))) : tLst tx σ H Q := h
theorem rd_tup (h : tx σ H fun xs H1 => xs.length ≤ sizeLine ∧ ∀ p, H1 p = none → Q (.ref p) (upd H1 p (.tup xs))) : tTup tx σ H Q := h
theorem rd_I0 {f : Int → Int → V} {i j : Int} (h : Q (f i j) H) : rI0 f (.int i) (.int j) H Q := ⟨i, j, rfl, rfl, h⟩
theorem rd_I {C : Int → Int → Prop} {f : Int → Int → V} {i j : Int} (hc : C i j) (h : Q (f i j) H) : rI C f (.int i) (.int j) H Q := ⟨i, j, rfl, rfl, hc, h⟩
theorem rd_U {f : Int → V} {i : Int} (h : Q (f i) H) : rU f (.int i) H Q := ⟨i, rfl, h⟩
theorem rd_eqI {i j : Int} (h : Q (.bl (decide (i = j))) H) : rEq (.int i) (.int j) H Q := ⟨rfl, by
  have e : decide (V.int i = V.int j) = decide (i = j) := by rw [dec_int, Bool.beq_eq_decide_eq]
  rw [e]; exact h⟩
theorem rd_neI {i j : Int} (h : Q (.bl (!decide (i = j))) H) : rNe (.int i) (.int j) H Q := ⟨rfl, by
  have e : decide (V.int i = V.int j) = decide (i = j) := by rw [dec_int, Bool.beq_eq_decide_eq]
  rw [e]; exact h⟩
theorem rd_eqB {i j : Bool} (h : Q (.bl (decide (i = j))) H) : rEq (.bl i) (.bl j) H Q := ⟨rfl, by
  have e : decide (V.bl i = V.bl j) = decide (i = j) := by rw [dec_bl, Bool.beq_eq_decide_eq]
  rw [e]; exact h⟩
theorem rd_chain (h : ta σ H fun x H1 => tb σ H1 fun y H2 => r x y H2 fun z H3 => ∃ k, z = .bl k ∧ if k = true then tc σ H3 fun w H4 => r' y w H4 Q else Q (.bl false) H3) : tChain r r' ta tb tc σ H Q := h
theorem rd_lenI {p : Addr} {ns : List Int} (e : SqL K H p (ns.map V.int)) (h : Q (.int ns.length) H) : rLen K [.ref p] H Q := ⟨p, _, rfl, .inl e, by rw [List.length_map]; exact h⟩
theorem rd_len {p : Addr} {xs : List V} (e : SqL K H p xs) (h : Q (.int xs.length) H) : rLen K [.ref p] H Q := ⟨p, _, rfl, .inl e, h⟩
theorem rd_sum {p : Addr} {ns : List Int} (e : SqL K H p (ns.map V.int)) (h : Q (.int ns.sum) H) : rSum K [.ref p] H Q := ⟨p, _, rfl, e, h⟩
theorem rd_isiInt {i : Int} {n : String} {b : Bool} (e : PySem.W.kitOne K (.type "int") (.type n) = some b) (h : Q (.bl b) H) : rIsi K [.int i, .ty n] H Q := ⟨_, n, _, b, rfl, .int i, e, h⟩
theorem rd_all {p : Addr} {bs : List Bool} (e : SqL K H p (bs.map V.bl)) (h : Q (.bl (bs.all id)) H) : rAllB K [.ref p] H Q := ⟨p, _, rfl, e, h⟩
theorem rd_listOf {p : Addr} {xs : List V} (e : SqL K H p xs) (h : ∀ l, H l = none → Q (.ref l) (upd H l (.lst xs))) : rListOf K [.ref p] H Q := ⟨p, _, rfl, .inl e, h⟩
theorem rd_ixL {p : Addr} {xs : List V} {i : Int} {v : V} (e : SqL K H p xs) (a : atI xs i = some v) (h : Q v H) : rIxL K (.ref p) (.int i) H Q := ⟨p, _, _, _, rfl, rfl, e, a, h⟩
theorem rd_ixT {p : Addr} {xs : List V} {i : Int} {v : V} (e : SqT K H p xs) (a : atI xs i = some v) (h : Q v H) : rIxT K (.ref p) (.int i) H Q := ⟨p, _, _, _, rfl, rfl, e, a, h⟩
theorem rd_eqL {p q : Addr} {ns ms : List Int} (e : SqL K H p (ns.map V.int)) (e' : SqL K H q (ms.map V.int)) (h : Q (.bl (decide (ns = ms))) H) : rEqL K (.ref p) (.ref q) H Q := ⟨p, q, ns, ms, rfl, rfl, e, e', h⟩
theorem rd_neL {p q : Addr} {ns ms : List Int} (e : SqL K H p (ns.map V.int)) (e' : SqL K H q (ms.map V.int)) (h : Q (.bl (!decide (ns = ms))) H) : rNeL K (.ref p) (.ref q) H Q := ⟨p, q, ns, ms, rfl, rfl, e, e', h⟩
theorem rd_append {l : Addr} {xs : List V} {y : V} (e : H l = some (.lst xs)) (hz : xs.length < sizeLine) (h : Q .non (upd H l (.lst (xs ++ [y])))) : rAppend (.ref l) [y] H Q := ⟨l, xs, y, rfl, rfl, e, hz, h⟩
theorem rd_two {x y : V} {R : V → V → Prop} (h : R x y) : ∃ v w, [x, y] = [v, w] ∧ R v w := ⟨x, y, rfl, h⟩
theorem rd_bm {T : String} {rr : V → List V → Hp → VK → Prop} {to : TE} (h : to σ H fun x H1 => tyV K T x H1 ∧ tx σ H1 fun xs H2 => rr x xs H2 Q) : tBM K T rr to tx σ H Q := h
theorem rd_bm0 {T : String} {rr : V → List V → Hp → VK → Prop} {to : TE} (h : to σ H fun x H1 => tyV K T x H1 ∧ rr x [] H1 Q) : tBM0 K T rr to σ H Q := h
theorem rd_sl {rs : V → Option Int → Option Int → Hp → VK → Prop} {tl th : TO} (h : te σ H fun x H1 => tl σ H1 fun l H2 => th σ H2 fun u H3 => rs x l u H3 Q) : tSl rs te tl th σ H Q := h
theorem rd_part {QO : Option Int → Hp → Prop} (h : te σ H fun x H1 => ∃ i, x = .int i ∧ QO (some i) H1) : tPart te σ H QO := h
theorem rd_nopart {QO : Option Int → Hp → Prop} (h : QO none H) : tNoPart σ H QO := h
theorem rd_int {i : Int} {R : Int → Prop} (h : R i) : ∃ j, V.int i = .int j ∧ R j := ⟨i, rfl, h⟩
theorem rd_slL {a : Addr} {xs : List V} {lo hi : Option Int} (e : SqL K H a xs) (h : ∀ p, H p = none → Q (.ref p) (upd H p (.lst (cutV xs lo hi)))) : rSlL K (.ref a) lo hi H Q := ⟨a, xs, rfl, e, h⟩
theorem rd_iList {R : It → Hp → Prop} (h : te σ H fun x H1 => ∃ a, x = .ref a ∧ (∃ xs, SqL K H1 a xs) ∧ R (Itl K a) H1) : iList K te σ H R := h
theorem rd_iRng1 {R : It → Hp → Prop} (h : tx σ H fun vs H1 => ∃ j : Int, vs = [.int j] ∧ -(2 ^ 62) ≤ j ∧ j < 2 ^ 62 ∧ R (Itr 0 j.toNat) H1) : iRng1 tx σ H R := h
theorem rd_comp {ρ : List Nat} {wi : TI} {tt : TT} (h : wi σ H fun J H1 => ∀ D, H1 D = none → tCompTurn J tt te (takes σ ρ) D (Q (.ref D)) H1) : tComp ρ wi tt te σ H Q := h
theorem rd_gsub {to ti : TE} {ts : TSet} {v : V} {R : St → Hp → Prop} (h : to σ H fun o H1 => ti σ H1 fun i H2 => ts o i v H2 fun H3 => R σ H3) : gSub to ti ts v σ H R := h
theorem rd_setL {p : Addr} {xs : List V} {k : Int} {j : Nat} {v : V} {R : Hp → Prop} (e : H p = some (.lst xs)) (a : ixN xs.length k = some j) (h : R (upd H p (.lst (xs.set j v)))) : rSetL (.ref p) (.int k) v H R := ⟨p, xs, k, j, rfl, rfl, e, a, h⟩
theorem in_ints (i : Int) : ∀ ns : List Int, inV (.int i) (ns.map V.int) = decide (i ∈ ns)
  | [] => rfl
  | n :: ns => by
    have ih := in_ints i ns
    unfold inV at ih ⊢
    rw [List.map_cons, List.any_cons, ih]
    simp only [eqV, List.mem_cons]
    by_cases h : n = i
    · subst h; simp
    · have h' : ¬ i = n := fun z => h z.symm
      simp [h, h']
theorem flat_ints (ns : List Int) : (ns.map V.int).all flatV = true := by
  rw [List.all_eq_true]
  intro x hx
  obtain ⟨i, _, rfl⟩ := List.mem_map.mp hx
  rfl
theorem rd_inI {p : Addr} {ns : List Int} {i : Int} (e : SqL K H p (ns.map V.int)) (h : Q (.bl (decide (i ∈ ns))) H) : rIn K false (.int i) (.ref p) H Q := ⟨p, _, rfl, .inl e, rfl, flat_ints ns, by rw [in_ints]; exact h⟩
def tJoin (t : TS) : TS := fun D σ H => ∃ J : St → Hp → Prop, t { D with nx := J } σ H ∧ ∀ σ' H', J σ' H' → D.nx σ' H'
theorem ps_join {X : Cx} {st : Stmt} (h : PS X st t) : PS X st (tJoin t) := by
  intro pins s σ H D I q
  obtain ⟨J, q1, q2⟩ := q
  refine thn (h pins s σ H { D with nx := J } I q1) fun f s1 z => ?_
  cases f with
  | next =>
    obtain ⟨σ', H', I', z⟩ := z
    exact ⟨σ', H', I', q2 _ _ z⟩
  | ret v => exact z
  | brk => exact z
  | cont => exact z
theorem comp_list {a : Addr} {xs : List V} {fs : St} {D : Addr} {R : Hp → Prop} (G : V → V) (hS : SqL K H a xs) (hD : H D = none) (hl : xs.length ≤ 1000)
    (he : ∀ (i : Nat) (x : V) (H' : Hp) (Q : VK), xs[i]? = some x → Same H H' → Q (G x) H' → te (some x :: fs) H' Q) (hR : R (upd H D (.lst (xs.map G)))) :
    tCompTurn (Itl K a) (fun _ H Q => Q true H) te fs D R H := by
  have sn : ∀ o, Same H (upd H D o) := fun o b u q => by rw [upd_ne (ne_of_none q hD)]; exact q
  refine ⟨fun i m acc H' => i ≤ xs.length ∧ m = xs.length - i ∧ acc = (xs.take i).map G ∧ H' = upd H D (.lst acc), ⟨_, Nat.zero_le _, rfl, rfl, rfl⟩, ?_⟩
  rintro i m acc H' ⟨h1, rfl, rfl, rfl⟩
  refine ⟨upd_same, ?_⟩
  have q : SqL K (upd H D (.lst ((xs.take i).map G))) a xs := (sn _).seq hS
  by_cases hi : i < xs.length
  · refine .inr ⟨⟨xs, xs[i], q, by simp [hi]⟩, fun y H2 hy => ?_⟩
    obtain ⟨e, hy⟩ := hy
    subst e
    have hy := hy xs q
    refine iteT ?_
    refine he i y _ _ hy (sn _) ⟨upd_same, ?_, xs.length - (i + 1), by omega, hi, rfl, ?_, upd_upd⟩
    · rw [List.length_map, List.length_take]
      exact small1000 (by omega)
    · rw [List.take_succ, hy, List.map_append]
      rfl
  · have e : i = xs.length := by omega
    subst e
    refine .inl ⟨⟨xs, q, Nat.le_refl _⟩, ?_⟩
    rw [List.take_length]
    exact hR
theorem tyL {a : Addr} {xs : List V} (e : SqL K H a xs) : tyV K "list" (.ref a) H := .inl ⟨rfl, _, e⟩
end
end L2
set_option Elab.async false
set_option maxHeartbeats 4000000
namespace L2
open PySem PySem.Spec PyProof.Rows
def Ite (K : PySem.W.Frag) (a : Addr) (k : Int) : It :=
  ⟨fun i H => ∃ xs x, SqL K H a xs ∧ xs[i]? = some x,
   fun i H x H' => ∃ p v, H p = none ∧ x = .ref p ∧ H' = upd H p (.tup [.int (k + i), v]) ∧ ∀ xs, SqL K H a xs → xs[i]? = some v,
   fun i H => ∃ xs, SqL K H a xs ∧ xs.length ≤ i⟩
theorem turn_enum {P : Program} {w : World} {K : PySem.W.Frag} {elts : List Expr} {x1 : Nat} {tp : Pos} (a e it : Addr) (k : Int) (ne : e ≠ it) :
    Turn P w K (.Tuple elts x1 tp) (Ite K a k) [e, it] e (fun i h => (∃ old, IsEnum h e it (k + i) old) ∧ h.IsListIter it a i) where
  mem := by simp
  obj := fun i h st b hb => by
    obtain ⟨⟨old, q⟩, o, e2, c, d⟩ := st
    rcases List.mem_cons.mp hb with z | z
    · subst z; exact ⟨_, q, fun v z => nomatch z⟩
    · have z : b = it := by simpa using z
      subst z
      exact ⟨o, e2, fun v z => by rw [d] at z; cases z⟩
  keep := fun i h h' st kp => by
    obtain ⟨⟨old, q⟩, r⟩ := st
    exact ⟨⟨old, kp e (by simp) _ q⟩, r.at fun o z => kp it (by simp) o z⟩
  item := by
    intro X hP hw hK hc i pins s σ H E I hf st hg
    subst hP hw hK
    obtain ⟨xs, x, hq, hx⟩ := hg
    obtain ⟨its, rv, p, hz⟩ := I.list hq
    obtain ⟨u, hu, ru⟩ := rv.get hx
    obtain ⟨⟨old, q1⟩, q2⟩ := st
    refine pyNext_enumC q1 q2 p.isList (x := u) (by simpa using hu) ne fun h1 o1 l1 t1 s1 k1 => ?_
    refine ⟨_, rfl, wpAny_letOwnedTupleGo_enum o1 fun h2 o2 sb => ?_⟩
    replace sb : Heap.SameBut e h1 h2 := sb
    have le : e < s.heap.objs.size := Heap.lt_size q1
    have nw : H s.heap.objs.size = none := I.fresh
    have keep : ∀ b o, b ≠ e → b ≠ it → s.heap.get? b = some o → h2.get? b = some o := fun b o n1 n2 z => sb.extBut b o n1 (k1 b o n1 n2 z)
    have ht : h2.get? s.heap.objs.size = some { cls := .type "tuple", data := .seq #[.int (k + i) s.toks, u] } := sb.extBut _ _ (Nat.ne_of_gt le) t1
    have fe := hf e (by simp)
    have fi := hf it (by simp)
    have hne : ∀ b o, H b = some o → b ≠ e ∧ b ≠ it := fun b o z => ⟨fun y => (by rw [y, fe.1] at z; cases z), fun y => (by rw [y, fi.1] at z; cases z)⟩
    have hlt : ∀ b o, s.heap.get? b = some o → b ≠ s.heap.objs.size := fun b o z => Nat.ne_of_lt (Heap.lt_size z)
    have hnw : ∀ b o, H b = some o → b ≠ s.heap.objs.size := fun b o z => ne_of_none z nw
    have I2 : Inv X pins σ (upd H s.heap.objs.size (.tup [.int (k + i), x])) { s with heap := h2, toks := s.toks + 1 } := by
      refine I.step (g' := s.gens) (d' := s.drawn) (ch := [e, it]) (fun b hb => ?_) (fun b o _ _ hc' z _ => keep b o (fun y => hc' (by simp [y])) (fun y => hc' (by simp [y])) z) (fun b o _ _ hc' z _ => ⟨o.slots, keep b o (fun y => hc' (by simp [y])) (fun y => hc' (by simp [y])) z⟩)
        (fun b o _ z n => by rw [upd_ne (hlt b o z)]; exact n) (fun b o hc' z => ⟨o, keep b o (fun y => hc' (by simp [y])) (fun y => hc' (by simp [y])) z⟩) (fun b ys z => by rw [upd_ne (hnw b _ z)]; exact z) (fun b ob ys z => by rw [upd_ne (hnw b _ z)]; exact z)
        (fun b ps z => ⟨#[], by rw [upd_ne (hnw b _ z), z]; simp⟩) (fun m hm => ?_) (fun b o z => ?_) I.bare
      · rcases List.mem_cons.mp hb with y | y
        · subst y; exact ⟨fe.2.2.2.1, fe.2.1, fe.2.2.2.2.1, fe.2.2.2.2.2⟩
        · have y : b = it := by simpa using y
          subst y
          exact ⟨fi.2.2.2.1, fi.2.1, fi.2.2.2.2.1, fi.2.2.2.2.2⟩
      · obtain ⟨o, es, ep, ho, r⟩ := hm
        exact ⟨o, es, ep, keep _ o (Ne.symm fe.2.1) (Ne.symm fi.2.1) ho, r⟩
      · by_cases hb : b = s.heap.objs.size
        · subst hb
          rw [upd_same] at z
          cases z
          exact ⟨by show 2 ≤ sizeLine; decide, [.int (k + i) s.toks, u], .cons ⟨_, rfl⟩ (.cons ru .nil), _, ht, rfl, _, rfl⟩
        · rw [upd_ne hb] at z
          have nb := hne b o z
          refine (I.hok b o z).stay (fun c v hc' q => ?_) (fun c q => by rw [upd_ne (hnw c _ q)]; exact q) fun c ys q => by rw [upd_ne (hnw c _ q)]; exact q
          rcases hc' with y | y
          · subst y; exact keep c v nb.1 nb.2 q
          · have nc := hne c _ y
            exact keep c v nc.1 nc.2 q
    refine ⟨.ref s.heap.objs.size, _, I2, rfl, ⟨_, x, nw, rfl, rfl, fun ys hy => by rw [I.list_inj hy hq]; exact hx⟩, ⟨⟨u, ?_⟩, l1.extBut sb.extBut (Ne.symm ne)⟩, fun b hb => ?_⟩
    · have e1 : k + ((i + 1 : Nat) : Int) = k + (i : Int) + 1 := by omega
      rw [e1]
      exact o2
    · have z := (hf b hb).1
      rcases List.mem_cons.mp hb with y | y
      · subst y; rw [upd_ne (Nat.ne_of_lt le)]; exact z
      · have y : b = it := by simpa using y
        subst y
        obtain ⟨o, ho, _⟩ := q2
        rw [upd_ne (Nat.ne_of_lt (Heap.lt_size ho))]
        exact z
  done := by
    intro X hP hw hK hc i pins s σ H E I hf st hg
    subst hP hw hK
    obtain ⟨xs, hq, hx⟩ := hg
    obtain ⟨its, rv, p, hz⟩ := I.list hq
    obtain ⟨⟨old, q1⟩, q2⟩ := st
    obtain ⟨f0, f1, f2, f3, f4, f5⟩ := hf it (by simp)
    have hl := rv.length
    exact pyNext_enumEnd (I.ok.hd hc) q1 q2 p.isList (by simp; omega) fun h' eb => ⟨rfl, I.turned (t' := s.toks) (fun b o hb e => eb b o hb e) f0 f1 f3 f4 f5⟩
  self := fun _ _ _ _ _ st h => by
    obtain ⟨⟨old, q⟩, _⟩ := st
    exact wpAny_pyIter_enum q h
theorem for_enum {K : PySem.W.Frag} {a : Addr} {k : Int} {xs : List V} {g : TG} {tb : TS} {D : Ends} {σ : St} {H : Hp} (Pv : Nat → St → Hp → Prop) (h0 : Pv 0 σ H) (hl : ∀ i σ H, i ≤ xs.length → Pv i σ H → SqL K H a xs)
    (hs : ∀ i x p σ H, xs[i]? = some x → H p = none → Pv i σ H → g (.ref p) σ (upd H p (.tup [.int (k + (i : Nat)), x])) fun σ2 H2 => tb { D with nx := Pv (i + 1), ct := Pv (i + 1), bk := D.nx } σ2 H2) (hd : ∀ σ H, Pv xs.length σ H → D.nx σ H) :
    ∃ W : Nat → Nat → St → Hp → Prop, (∃ m, W 0 m σ H) ∧ ∀ i m σ H, W i m σ H →
      ((Ite K a k).stop i H ∧ D.nx σ H) ∨ ((Ite K a k).go i H ∧ ∃ N : St → Hp → Prop, (∀ σ' H', N σ' H' → ∃ m', m' < m ∧ W (i + 1) m' σ' H') ∧ ∀ x H', (Ite K a k).yld i H x H' → g x σ H' fun σ2 H2 => tb { D with nx := N, ct := N, bk := D.nx } σ2 H2) := by
  refine ⟨fun i m σ H => m = xs.length - i ∧ i ≤ xs.length ∧ Pv i σ H, ⟨xs.length, by simp, Nat.zero_le _, h0⟩, ?_⟩
  rintro i m σ H ⟨rfl, hi, p⟩
  have q := hl i σ H hi p
  by_cases hlt : i < xs.length
  · refine .inr ⟨⟨xs, xs[i], q, by simp [hlt]⟩, Pv (i + 1), fun σ' H' p' => ⟨xs.length - (i + 1), by omega, rfl, hlt, p'⟩, fun x H' y => ?_⟩
    obtain ⟨r, v, n, e1, e2, e3⟩ := y
    subst e1 e2
    exact hs i v r σ H (e3 xs q) n p
  · have e : i = xs.length := by omega
    subst e
    exact .inl ⟨⟨xs, q, Nat.le_refl _⟩, hd σ H p⟩
end L2
set_option Elab.async false
set_option maxHeartbeats 4000000
namespace L2
open PySem PySem.Spec PyProof.Rows
end L2
set_option Elab.async false
set_option maxHeartbeats 4000000
namespace L2
open PySem PySem.Spec PyProof.Rows
section
variable {X : Cx} {a b c d : Expr} {ta tb tc td : TE} {pos : Pos}
def tChain3 (r r' r'' : R2) (ta tb tc td : TE) : TE := fun σ H Q => ta σ H fun x H1 => tb σ H1 fun y H2 => r x y H2 fun z H3 => ∃ k, z = .bl k ∧
  (if k = true then tc σ H3 fun w' H4 => r' y w' H4 fun z' H5 => ∃ k', z' = .bl k' ∧ (if k' = true then td σ H5 fun w'' H6 => r'' w' w'' H6 Q else Q (.bl false) H5) else Q (.bl false) H3)
theorem pt_chain3 {op op' op'' : CmpOp} {r r' r'' : R2} (ho : OpR X (compareOp op) r) (ho' : OpR X (compareOp op') r') (ho'' : OpR X (compareOp op'') r'') (ha : PE X a ta) (hb : PE X b tb) (hc : PE X c tc) (hd : PE X d td)
    (hm : lastMarks [op, op', op''] [b, c, d] = false := by with_unfolding_all rfl) : PT X (.Compare a [op, op', op''] [b, c, d] pos) (tTest (tChain3 r r' r'' ta tb tc td)) := by
  intro pins s σ H Q I h
  refine isTrue_chain (thn (ha pins s σ H _ I h) fun v s1 q => ?_) hm
  obtain ⟨x, H1, I1, r1, q1⟩ := q
  refine test_link (thn (hb pins s1 σ H1 _ I1 q1) fun u s2 q => ?_)
  obtain ⟨y, H2, I2, r2, q2⟩ := q
  refine thn (ho pins s2 σ H2 x y v u _ I2 r1 r2 q2) fun d' s3 q => ?_
  obtain ⟨z, H3, I3, r3, k, e, q3⟩ := q
  subst e
  cases r3
  refine wpAny_truthy_bool ?_
  cases k with
  | false =>
    obtain ⟨k', e', q'⟩ := q3
    cases e'
    exact ite_ff ⟨H3, I3, q'⟩
  | true =>
    refine ite_tt (test_link (thn (hc pins s3 σ H3 _ I3 q3) fun w' s4 q => ?_))
    obtain ⟨z', H4, I4, r4, q4⟩ := q
    refine thn (ho' pins s4 σ H4 y z' u w' _ I4 r2 r4 q4) fun d'' s5 q => ?_
    obtain ⟨z2, H5, I5, r5, k2, e2, q5⟩ := q
    subst e2
    cases r5
    refine wpAny_truthy_bool ?_
    cases k2 with
    | false =>
      obtain ⟨k', e', q'⟩ := q5
      cases e'
      exact ite_ff ⟨H5, I5, q'⟩
    | true =>
      refine ite_tt (test_last (thn (hd pins s5 σ H5 _ I5 q5) fun w'' s6 q => ?_))
      obtain ⟨z3, H6, I6, r6, q6⟩ := q
      refine thn (ho'' pins s6 σ H6 z' z3 w' w'' _ I6 r4 r6 q6) fun d3 s7 q => ?_
      obtain ⟨z4, H7, I7, r7, k3, e3, q7⟩ := q
      subst e3
      cases r7
      exact wpAny_truthy_bool ⟨H7, I7, q7⟩
def rMaxL (K : PySem.W.Frag) : List V → Hp → VK → Prop := fun xs H Q => ∃ (p : Addr) (ns : List Int), xs = [.ref p] ∧ SqL K H p (ns.map V.int) ∧ ns ≠ [] ∧ ∀ M, M ∈ ns → (∀ a ∈ ns, a ≤ M) → Q (.int M) H
def rMinL (K : PySem.W.Frag) : List V → Hp → VK → Prop := fun xs H Q => ∃ (p : Addr) (ns : List Int), xs = [.ref p] ∧ SqL K H p (ns.map V.int) ∧ ns ≠ [] ∧ ∀ M, M ∈ ns → (∀ a ∈ ns, M ≤ a) → Q (.int M) H
theorem call_maxL (hc : X.calm = true) : CallR X (.builtin "max") (rMaxL X.K) := by
  intro pins s σ H xs us Q I r h
  obtain ⟨p, ns, rfl, hq, hne, q⟩ := h
  obtain ⟨u, rfl, rx⟩ := vals1 r
  cases (show u = Value.ref p from rx)
  obtain ⟨its, r', pl, hz⟩ := I.list hq
  have hi : IntsAre its ns := intsAre_of r'
  obtain ⟨m, F⟩ := I.fr
  have hpos : 0 < ns.length := List.length_pos_iff.mpr hne
  obtain ⟨zs, e⟩ := hi.allInts.items
  have hns : ns = zs.toList.map (·.1) := by rw [← hi.numsOf, ← nums_intItems, ← e]
  have hsz : 0 < zs.size := by
    have h3 := hpos
    rw [hns, List.length_map, Array.length_toList] at h3
    exact h3
  have hl : s.heap.IsList p its.toArray := pl.isList
  rw [e] at hl
  refine max_intList (I.ok.hd hc) hl hsz fun v h' tk hv hk => ?_
  obtain ⟨t, rfl⟩ := intItems_at hv
  obtain ⟨h1, h2⟩ := argBest_gt (numAt zs) (zs.size - 1)
  refine ⟨.int _, H, I.kept (h' := h') (t' := tk) hk, ⟨t, rfl⟩, q _ ?_ fun a ha => ?_⟩
  · rw [hns, numAt_eq]
    exact getD_mem (by rw [List.length_map, Array.length_toList]; omega)
  · rw [hns] at ha
    obtain ⟨j, hj, rfl⟩ := mem_getD ha
    rw [List.length_map, Array.length_toList] at hj
    rw [← numAt_eq]
    exact h2 j (by omega)
theorem call_minL (hc : X.calm = true) : CallR X (.builtin "min") (rMinL X.K) := by
  intro pins s σ H xs us Q I r h
  obtain ⟨p, ns, rfl, hq, hne, q⟩ := h
  obtain ⟨u, rfl, rx⟩ := vals1 r
  cases (show u = Value.ref p from rx)
  obtain ⟨its, r', pl, hz⟩ := I.list hq
  have hi : IntsAre its ns := intsAre_of r'
  have hpos : 0 < ns.length := List.length_pos_iff.mpr hne
  obtain ⟨zs, e⟩ := hi.allInts.items
  have hns : ns = zs.toList.map (·.1) := by rw [← hi.numsOf, ← nums_intItems, ← e]
  have hsz : 0 < zs.size := by
    have h3 := hpos
    rw [hns, List.length_map, Array.length_toList] at h3
    exact h3
  have hl : s.heap.IsList p its.toArray := pl.isList
  rw [e] at hl
  refine min_intList (I.ok.hd hc) hl hsz fun v h' tk hv hk => ?_
  obtain ⟨t, rfl⟩ := intItems_at hv
  obtain ⟨h1, h2⟩ := argBest_lt (numAt zs) (zs.size - 1)
  refine ⟨.int _, H, I.kept (h' := h') (t' := tk) hk, ⟨t, rfl⟩, q _ ?_ fun a ha => ?_⟩
  · rw [hns, numAt_eq]
    exact getD_mem (by rw [List.length_map, Array.length_toList]; omega)
  · rw [hns] at ha
    obtain ⟨j, hj, rfl⟩ := mem_getD ha
    rw [List.length_map, Array.length_toList] at hj
    rw [← numAt_eq]
    exact h2 j (by omega)
def tRev (K : PySem.W.Frag) (te t3 : TE) : TE := fun σ H Q => te σ H fun x H1 => t3 σ H1 fun y H2 => y = .int (-1) ∧ ∃ a xs, x = .ref a ∧ SqL K H2 a xs ∧ ∀ p, H2 p = none → Q (.ref p) (upd H2 p (.lst xs.reverse))
theorem pe_rev {e e3 : Expr} {te t3 : TE} {p2 : Pos} (he : PE X e te) (h3 : PE X e3 t3) : PE X (.Subscript e (.Slice none none (some e3) p2) pos) (tRev X.K te t3) := by
  intro pins s σ H Q I h
  refine Subscript_ (thn (he pins s σ H _ I h) fun v s1 q => ?_)
  obtain ⟨x, H1, I1, r1, q1⟩ := q
  refine wpAny_Slice (thn (po_none pins s1 σ H1 (fun o H2 => o = none ∧ H2 = H1) I1 ⟨rfl, rfl⟩) fun vl s2 q => ?_)
  obtain ⟨l, H2, I2, pl, rfl, rfl⟩ := q
  refine thn (po_none pins s2 σ H2 (fun o H3 => o = none ∧ H3 = H2) I2 ⟨rfl, rfl⟩) fun vu s3 q => ?_
  obtain ⟨u, H3, I3, pu, rfl, rfl⟩ := q
  rw [evalPart_some]
  refine thn (h3 pins s3 σ H3 _ I3 q1) fun vs s4 q => ?_
  obtain ⟨y, H4, I4, ry, rfl, a, xs, rfl, hx, q⟩ := q
  obtain ⟨t, rfl⟩ := ry
  cases (show v = Value.ref a from r1)
  have I5 : Inv X pins σ H4 { s4 with heap := s4.heap.push { cls := .type "slice", data := .fields #[vl, vu, .int (-1) t] } } := I4.kept (t' := s4.toks) fun b ob q => Heap.get?_push_of_some _ q
  obtain ⟨its, r, ht, hz⟩ := I5.list hx
  have hlen := r.length
  show wpAny (model X.prog X.w) X.A (subscriptTail e (.Slice none none (some e3) p2) (.ref a) (.ref s4.heap.objs.size)) (EP X pins σ Q) X.xe { s4 with heap := s4.heap.push { cls := .type "slice", data := .fields #[vl, vu, .int (-1) t] } }
  refine tail_any (ops := [.ref a, .ref s4.heap.objs.size]) ht.isList.typeIs slot_list_getitem.lookup ?_ (by with_unfolding_all rfl)
  refine wpAny_getItem_list_slice ht.isList (Heap.IsSliceOf.new ..) pl pu (.int (-1) t) (by simp) ?_ (by rw [List.size_toArray] <;> omega)
  rw [PySem.W.krv_pick]
  refine ⟨.ref _, _, I5.laid (t' := s4.toks) (o := .lst xs.reverse) (fun b ob q => Heap.get?_push_of_some _ q) (Nat.le_refl _) ?_, rfl, q _ (I5.hok.fresh (Nat.le_refl _))⟩
  exact ⟨by rw [List.length_reverse]; exact hz, _, 0, r.reverse, Heap.get?_push_size _ rfl⟩
end
section
variable {K : PySem.W.Frag} {D : Ends} {σ : St} {H : Hp} {Q : VK} {ta tb tc td te t3 : TE} {r r' r'' : R2}
theorem rd_chain3 (h : ta σ H fun x H1 => tb σ H1 fun y H2 => r x y H2 fun z H3 => ∃ k, z = .bl k ∧ (if k = true then tc σ H3 fun w' H4 => r' y w' H4 fun z' H5 => ∃ k', z' = .bl k' ∧ (if k' = true then td σ H5 fun w'' H6 => r'' w' w'' H6 Q else Q (.bl false) H5) else Q (.bl false) H3)) :
    tChain3 r r' r'' ta tb tc td σ H Q := h
theorem iteNT {A B : Prop} (h : B) : if (!true) = true then A else B := h
theorem iteNF {A B : Prop} (h : A) : if (!false) = true then A else B := h
theorem rd_rev (h : te σ H fun x H1 => t3 σ H1 fun y H2 => y = .int (-1) ∧ ∃ a xs, x = .ref a ∧ SqL K H2 a xs ∧ ∀ p, H2 p = none → Q (.ref p) (upd H2 p (.lst xs.reverse))) : tRev K te t3 σ H Q := h
theorem rd_isiTup {a : Addr} {xs : List V} {n : String} {b : Bool} (hl : H a = some (.tup xs)) (e : PySem.W.kitOne K (.type "tuple") (.type n) = some b) (h : Q (.bl b) H) : rIsi K [.ref a, .ty n] H Q := ⟨_, n, _, b, rfl, .tup hl, e, h⟩
theorem rd_lenT {p : Addr} {xs : List V} (e : SqT K H p xs) (h : Q (.int xs.length) H) : rLen K [.ref p] H Q := ⟨p, _, rfl, .inr e, h⟩
end
end L2
set_option Elab.async false
set_option maxHeartbeats 4000000
namespace L2
open PySem PySem.Spec PyProof.Rows
structure RaisedAt (P : Program) (w : World) (outer : List Env) (H : Hp) (s : Shared) (x C t : Addr) (B h0 : Heap) (H' : Hp) (F : List Addr) (s' : Shared) : Prop where
  os : s'.os = s.os
  bare : AllBare s'.gens
  fly : Heap.FlyingW B outer x (.ref C) (.ref t) s'.heap
  inB : ∀ b o, h0.get? b = some o → b ∉ F → B.get? b = some o
  hF : ∀ b ∈ F, b ∈ frs outer ∨ s.heap.objs.size ≤ b
  fH : ∀ b ∈ F, H' b = none
  up : h0.UpToSlots s'.heap
  fr0 : ∀ b ∈ frs outer, ∃ o, h0.get? b = some o ∧ ∀ vs, o.data ≠ .fields vs
  un : Un (frs outer) [] H H' s.heap h0
  hok : HOk P w H' h0
  new : h0.get? x = none
  newH : H' x = none
section
variable {P : Program} {w : World} {outer : List Env} {H H' : Hp} {s s' : Shared} {x C t : Addr} {B h0 : Heap} {F : List Addr}
end
def CXE (P : Program) (w : World) : CXT := fun outer H s E e s' => ∃ x C t B h0 H' F, e = .ref x ∧ RaisedAt P w outer H s x C t B h0 H' F s' ∧ E (.ref C) none H'
section
variable {X : Cx} {pins : List (Addr × Obj)} {σ : St} {H H' : Hp} {s s' : Shared} {x C t : Addr} {B h0 : Heap} {F : List Addr}
end
section
variable {P : Program} {w : World} {K : PySem.W.Frag} {mg : Str → Option Value} {base : Heap} {N : List Str} {qual : Str} {scope : Scope} {f : Addr} {cd : Value} {A : Around} {outer : List Env} {s₀ : Shared} {H₀ : Hp} {E : XK}
end
end L2
namespace L2
open PySem PySem.Spec PyProof.Rows
def ExcCls (K : PySem.W.Frag) (C : Addr) : Prop := PySem.W.excIn K C [.type "ValueError", .type "Exception", .type "BaseException", .type "object"] "ValueError.__new__" = true
section
variable {X : Cx} {E : XK} {x : Str} {C : Addr} {np cpos pos : Pos} {e : Expr} {es : List Expr} {t : TA}
end
end L2
set_option Elab.async false
set_option maxHeartbeats 4000000
set_option maxRecDepth 100000
namespace L2
open PySem PySem.Spec PyProof.Rows
section
variable {M : Model} {A : Around} {E : Value → Shared → Prop} {h : Heap} {g : Array GenState} {d : Drawn} {t : Nat} {os : OsState}
end
end L2
set_option Elab.async false
set_option maxHeartbeats 4000000
set_option maxRecDepth 100000
namespace L2
open PySem PySem.Spec PyProof.Rows
section
variable {P : Program} {w : World} {outer : List Env} {H H' : Hp} {s s' : Shared} {x C t : Addr} {B h0 : Heap} {F : List Addr}
end
section
variable {X : Cx} {n : Str} {D : Addr} {dx : Str} {np hpos pos : Pos} {body suite : List Stmt} {b₀ : Stmt} {tb ts : TS} {i : Nat}
end
end L2
set_option Elab.async false
set_option maxHeartbeats 4000000
set_option maxRecDepth 100000
namespace L2
open PySem PySem.Spec PyProof.Rows PySem.W
structure ExcLook (K : PySem.W.Frag) (C : Addr) : Prop where
  cls : ExcCls K C
  ga : findIn K (.ref C) "__getattribute__" = some (some (.builtin "BaseException.__getattribute__"))
  hook : findIn K (.ref C) "__getattr__" = some none
  own : findIn K (.ref C) "__class__" = some (some (.builtin "object.__class__"))
  obj : mroIn K C (.type "object") = some true
  base : mroIn K C (.type "BaseException") = some true
section
variable {prog : Program} {w : World} {A : Around} {E : Value → Shared → Prop} {h : Heap} {g : Array GenState} {d : Drawn} {t : Nat} {os : OsState} {K : PySem.W.Frag} {x C : Addr} {o : Obj}
open Builtin Builtin.ObjectAttr Builtin.Getset_descriptor in
end
section
variable {X : Cx}
end
end L2
set_option Elab.async false
set_option maxHeartbeats 4000000
set_option maxRecDepth 100000
namespace L2
open PySem PySem.Spec PyProof.Rows
section
variable {P : Program} {w : World} {K : PySem.W.Frag} {mg : Str → Option Value} {base : Heap}
end
structure CalleeE (P : Program) (w : World) (K : PySem.W.Frag) (mg : Str → Option Value) (base : Heap) (x : Str) (ps : List Str) (k : Nat) (sp : Sp) : Prop where
  ex : ∃ f fd, FnOk P w K mg base (CXE P w) k f fd ps sp ∧ mg x = some (.ref f) ∧ PySem.W.keepIn K (.ref f) = true ∧ Binds K fd ps []
section
variable {X : Cx} {x : Str} {ps : List Str} {k : Nat} {sp : Sp} {E : XK} {e : Expr} {es : List Expr} {t : TA} {p pos : Pos}
end
structure RoomH (k : Nat) (A : Around) : Prop where
  dp : A.depth + 3 * k + 5 < recursionLimit
  un : A.units + 16 * k + 200 < cLine
structure FnOkH (P : Program) (w : World) (K : PySem.W.Frag) (mg : Str → Option Value) (base : Heap) (k : Nat) (f : Addr) (fd : FuncData) (ps : List Str) (sp : Sp) : Prop where
  len : ∀ vs H Q E, sp vs H Q E → vs.length = ps.length
  run : ∀ (A : Around) (outer : List Env) (s : Shared) (H : Hp) (args : Args) (us : List Value) (vs : List V) (Q : VK) (E : XK), RoomH k A → Env0 P w K mg base A outer s H → BindsTo s fd args (ps.zip us) → Vals vs us → sp vs H Q E →
    codeAny (model P w) A (.call (.ref f) args) (CR CX0 outer P w H s Q E) s
structure CalleeH (P : Program) (w : World) (K : PySem.W.Frag) (mg : Str → Option Value) (base : Heap) (x : Str) (ps : List Str) (k : Nat) (sp : Sp) : Prop where
  ex : ∃ f fd, FnOkH P w K mg base k f fd ps sp ∧ mg x = some (.ref f) ∧ PySem.W.keepIn K (.ref f) = true ∧ Binds K fd ps []
end L2
set_option Elab.async false
set_option maxHeartbeats 4000000
set_option maxRecDepth 100000
namespace L2
open PySem PySem.Spec PyProof.Rows
section
variable {X : Cx} {x : Str} {pos : Pos}
theorem pe_globI {n : Int} (hm : ∃ t, X.mg x = some (.int n t)) (hg : Gl X x) (hd : (x == ("__debug__" : Str)) = false := by decide) : PE X (.Name x pos) (tC (.int n)) := by
  obtain ⟨t, hm⟩ := hm
  exact pe_glob hg hm ⟨t, rfl⟩ hd
end
structure MethC (P : Program) (w : World) (K : PySem.W.Frag) (mg : Str → Option Value) (base : Heap) (C : Addr) (m : Str) (ps : List Str) (k : Nat) (sp : Sp) : Prop where
  ex : ∃ f fd, Meth K C m f ∧ FnOk P w K mg base CX0 k f fd ps sp ∧ Binds K fd ps []
  cl : Cls K C
def tMethG (P : Program) (w : World) (K : PySem.W.Frag) (mg : Str → Option Value) (base : Heap) (A : Around) (m : Str) (ta : TE) (t : TA) : TE := fun σ H Q => ta σ H fun x H1 => ∃ a C dx fs ps k sp, x = .ref a ∧ H1 a = some (.ins C dx fs) ∧ fs.lookup m = none ∧
  MethC P w K mg base C m ps k sp ∧ Room k A ∧ t σ H1 fun vs H2 => sp (.ref a :: vs) H2 Q E0
section
variable {X : Cx} {o e : Expr} {es : List Expr} {m : Str} {ta : TE} {t : TA} {apos pos p : Pos} {k : Nat} {ps : List Str} {sp : Sp} {C : Addr} {x : Str}
theorem pe_methG {pl : Sem Bool} (he : PE X o ta) (ha : PA X (e :: es) t)
    (hst : starEach (e :: es) X.env = (false, eval e X.env) :: starEach es X.env := by rfl) (hpl : (backTo pos (starEach es X.env)).any (·.1) = false := by rfl)
    (ht : eval (.Call (.Attribute o m apos) (e :: es) [] pos) X.env = (do
      let ov ← eval o X.env
      standAt apos.atName
      let (f, first) ← holding [ov] (getMethod ov m pl)
      callWith pos f first (backTo pos (starEach (e :: es) X.env)) (backToKw pos (keywordEach [] X.env))) := by rfl) :
    PE X (.Call (.Attribute o m apos) (e :: es) [] pos) (tMethG X.prog X.w X.K X.mg X.base X.A m ta t) := by
  intro pins s σ H Q I h
  refine PySem.W.methodCall_KW (pl := pl) (thn (he pins s σ H _ I h) fun u s1 q => ?_) ht
  obtain ⟨x, H1, I1, rx, a, C, dx, fs, ps, k, sp, ex, ea, l, MC, hr, q⟩ := q
  obtain ⟨f, fd, hm, F, hb⟩ := MC.ex
  subst ex
  obtain rfl : u = Value.ref a := rx
  refine getmeth_ok I1 ea MC.cl hm l ?_
  refine PySem.W.callWith_K (first := [.ref a]) (h₀ := X.base) I.ok.mod.kin hm.kp (thn (ha pos pins s1 σ H1 _ I1 q) fun us s2 ⟨vs, H2, I2, r, q2⟩ => ⟨I2.kIn, ?_⟩) hst hpl
  exact run_fn (us := .ref a :: us) (vs := .ref a :: vs) (dvs := []) F hr hb .nil pass0 I2 (.cons rfl r) (by rw [List.append_nil]; exact q2)
structure MakeC (P : Program) (w : World) (K : PySem.W.Frag) (mg : Str → Option Value) (base : Heap) (x : Str) (C : Addr) (ps : List Str) (k : Nat) (sp : Sp) : Prop where
  ex : ∃ f fd, Mk K C f ∧ FnOk P w K mg base CX0 k f fd ps sp ∧ Binds K fd ps []
  at_ : mg x = some (.ref C)
def tMkC (C : Addr) (sp : Sp) (t : TA) : TE := fun σ H Q => t σ H fun vs H1 => ∀ x dx, H1 x = none → H1 dx = none → dx ≠ x → sp (.ref x :: vs) (upd (upd H1 dx (.own x)) x (.ins C dx [])) (fun v H2 => v = .non ∧ Q (.ref x) H2) E0
theorem pe_makeC (M : MakeC X.prog X.w X.K X.mg X.base x C ps k sp) (hr : Room (k + 1) X.A) (hg : Gl X x) (ha : PA X (e :: es) t) (hdb : (x == ("__debug__" : Str)) = false := by decide)
    (he : starEach (e :: es) X.env = (false, eval e X.env) :: starEach es X.env := by rfl) (hpl : (backTo pos (starEach es X.env)).any (·.1) = false := by rfl) : PE X (.Call (.Name x p) (e :: es) [] pos) (tMkC C sp t) := by
  obtain ⟨f, fd, mk, F, hb⟩ := M.ex
  have h := pe_make (p := p) (pos := pos) mk F hr hg M.at_ hb .nil pass0 ha hdb he hpl
  intro pins s σ H Q I q
  refine h pins s σ H Q I ?_
  unfold tMake
  simp only [List.append_nil]
  exact q
end
structure InsTy (K : PySem.W.Frag) (C : Addr) : Prop where
  cl : Cls K C
  ha : PySem.W.findIn K (.ref C) "__class__" = some (some (.builtin "object.__class__"))
  hn : PySem.W.specialIn K (.builtin "object.__class__") "__get__" = some (some (.builtin "getset_descriptor.__get__"))
  htk : PySem.W.takesIn K (.builtin "object.__class__") = some true
  hm : PySem.W.mroIn K C (.type "object") = some true
def rMax2 : List V → Hp → VK → Prop := fun xs H Q => ∃ i j, xs = [.int i, .int j] ∧ Q (.int (if j > i then j else i)) H
theorem call_max2' {X : Cx} (hc : X.calm = true) : CallR X (.builtin "max") rMax2 := call_max2 hc
section
variable {P : Program} {w : World} {K : PySem.W.Frag} {mg : Str → Option Value} {base : Heap} {A : Around} {D : Ends} {σ : St} {H H1 : Hp} {Q : VK} {ta te : TE} {t : TA} {f m : Str} {a C dx : Addr} {fs : List (Str × V)} {ps : List Str} {k : Nat} {sp : Sp}
theorem rd_methT (h : ta σ H fun x H1 => ∃ a C dx fs ps k sp, x = .ref a ∧ H1 a = some (.ins C dx fs) ∧ fs.lookup m = none ∧ MethC P w K mg base C m ps k sp ∧ Room k A ∧ t σ H1 fun vs H2 => sp (.ref a :: vs) H2 Q E0) : tMethG P w K mg base A m ta t σ H Q := h
theorem rd_meth (M : MethC P w K mg base C m ps k sp) (hr : Room k A) (e : H1 a = some (.ins C dx fs)) (l : fs.lookup m = none) (q : t σ H1 fun vs H2 => sp (.ref a :: vs) H2 Q E0) :
    ∃ a' C dx fs ps k sp, V.ref a = .ref a' ∧ H1 a' = some (.ins C dx fs) ∧ fs.lookup m = none ∧ MethC P w K mg base C m ps k sp ∧ Room k A ∧ t σ H1 fun vs H2 => sp (.ref a' :: vs) H2 Q E0 := ⟨a, C, dx, fs, ps, k, sp, rfl, e, l, M, hr, q⟩
theorem rd_fldT (h : ta σ H fun x H1 => ∃ a C dx fs v, x = .ref a ∧ H1 a = some (.ins C dx fs) ∧ Cls K C ∧ NoAttr K C f ∧ fs.lookup f = some v ∧ Q v H1) : tFld K ta f σ H Q := h
theorem rd_fld {v : V} {R : V → Prop} (e : H1 a = some (.ins C dx fs)) (c : Cls K C) (n : NoAttr K C f) (l : fs.lookup f = some v) (q : R v) : ∃ a' C dx fs v, V.ref a = .ref a' ∧ H1 a' = some (.ins C dx fs) ∧ Cls K C ∧ NoAttr K C f ∧ fs.lookup f = some v ∧ R v := ⟨a, C, dx, fs, v, rfl, e, c, n, l, q⟩
theorem rd_mkT (h : t σ H fun vs H1 => ∀ x dx, H1 x = none → H1 dx = none → dx ≠ x → sp (.ref x :: vs) (upd (upd H1 dx (.own x)) x (.ins C dx [])) (fun v H2 => v = .non ∧ Q (.ref x) H2) E0) : tMkC C sp t σ H Q := h
theorem rd_max2 {i j : Int} (h : Q (.int (if j > i then j else i)) H) : rMax2 [.int i, .int j] H Q := ⟨i, j, rfl, h⟩
theorem rd_cat {l b : Addr} {xs zs : List V} (e1 : H l = some (.lst xs)) (e2 : H b = some (.lst zs)) (hz : xs.length + zs.length ≤ sizeLine) (h : ∀ p, H p = none → Q (.ref p) (upd H p (.lst (xs ++ zs)))) : rCat (.ref l) (.ref b) H Q := ⟨l, b, xs, zs, rfl, rfl, e1, e2, hz, h⟩
theorem rd_ifE {tt : TT} {tb : TE} (h : tt σ H fun c H1 => if c = true then ta σ H1 Q else tb σ H1 Q) : tIf tt ta tb σ H Q := h
theorem rd_iTup {R : It → Hp → Prop} (h : te σ H fun x H1 => ∃ a, x = .ref a ∧ (∃ xs, SqT K H1 a xs) ∧ R (Itt K a) H1) : iTup K te σ H R := h
end
end L2
set_option Elab.async false
set_option maxHeartbeats 4000000
set_option maxRecDepth 100000
namespace L2
open PySem PySem.Spec PyProof.Rows
section
variable {K : PySem.W.Frag} {H : Hp} {te : TE}
theorem comp_listS {a : Addr} {xs : List V} {fs : St} {D : Addr} {R : Hp → Prop} (G : Nat → V → V) (hS : SqL K H a xs) (hD : H D = none) (hl : xs.length ≤ 1000)
    (he : ∀ (i : Nat) (x : V) (H' : Hp) (Q : VK), xs[i]? = some x → Same H H' → (∀ H'', Same H' H'' → Q (G i x) H'') → te (some x :: fs) H' Q)
    (hR : ∀ H', Same H H' → H' D = some (.lst (xs.mapIdx G)) → R H') :
    tCompTurn (Itl K a) (fun _ H Q => Q true H) te fs D R H := by
  have sn : ∀ (o : HO) (H2 : Hp), Same H H2 → Same H (upd H2 D o) := fun o H2 s b u q => by rw [upd_ne (ne_of_none q hD)]; exact s b u q
  refine ⟨fun i m acc H' => i ≤ xs.length ∧ m = xs.length - i ∧ acc = (xs.take i).mapIdx G ∧ Same H H' ∧ H' D = some (.lst acc), ⟨_, Nat.zero_le _, rfl, rfl, sn _ _ (Same.refl H), upd_same⟩, ?_⟩
  rintro i m acc H' ⟨h1, rfl, rfl, s, hd⟩
  refine ⟨hd, ?_⟩
  have q : SqL K H' a xs := s.seq hS
  by_cases hi : i < xs.length
  · refine .inr ⟨⟨xs, xs[i], q, by simp [hi]⟩, fun y H2 hy => ?_⟩
    obtain ⟨e, hy⟩ := hy
    subst e
    have hy := hy xs q
    refine iteT ?_
    refine he i y _ _ hy s fun H'' s' => ⟨s' _ _ hd, ?_, xs.length - (i + 1), by omega, hi, rfl, ?_, sn _ _ (s.trans s'), ?_⟩
    · rw [List.length_mapIdx, List.length_take]
      exact small1000 (by omega)
    · rw [List.take_succ, hy, List.mapIdx_append]
      simp only [Option.toList, List.mapIdx_cons, List.mapIdx_nil]
      rw [List.length_take, Nat.min_eq_left (by omega), Nat.zero_add]
    · rw [upd_same]
  · have e : i = xs.length := by omega
    subst e
    refine .inl ⟨⟨xs, q, Nat.le_refl _⟩, hR _ s ?_⟩
    rw [hd, List.take_length]
theorem rd_clear {Q : VK} {l : Addr} {xs : List V} (e : H l = some (.lst xs)) (h : Q .non (upd H l (.lst []))) : rClear (.ref l) [] H Q := ⟨l, xs, rfl, rfl, e, h⟩
end
end L2
set_option Elab.async false
set_option maxHeartbeats 4000000
set_option maxRecDepth 100000
namespace L2
open PySem PySem.Spec PyProof.Rows
section
variable {X : Cx}
end
section
variable {X : Cx} {tg : Expr}
end
section
variable {K : PySem.W.Frag} {σ : St} {H : Hp} {Q : VK} {tx : TA}
end
end L2
set_option Elab.async false
set_option maxHeartbeats 4000000
set_option maxRecDepth 100000
namespace L2
open PySem PySem.Spec PyProof.Rows
def rNeSame (K : PySem.W.Frag) : R2 := fun x y H Q => ∃ (p q : Addr) (as : List Addr), x = .ref p ∧ y = .ref q ∧ SqL K H p (as.map V.ref) ∧ SqL K H q (as.map V.ref) ∧ Q (.bl false) H
theorem refs_at : ∀ {as : List Addr} {us : List Value}, Vals (as.map V.ref) us → us = as.map Value.ref
  | [], _, r => by cases r; rfl
  | a :: as, _, r => by
    cases r with
    | cons r1 r2 => rw [refs_at r2, show _ = Value.ref a from r1]; rfl
theorem op_neSame {X : Cx} (hu : X.A.units < cLine) : OpR X (compareOp .NotEq) (rNeSame X.K) := by
  intro pins s σ H x y v u Q I rx ry h
  obtain ⟨p, q, as, rfl, rfl, hp, hq, k⟩ := h
  cases (show v = Value.ref p from rx)
  cases (show u = Value.ref q from ry)
  obtain ⟨its, r, pl, _⟩ := I.list hp
  obtain ⟨its', r', pl', _⟩ := I.list hq
  cases refs_at r
  cases refs_at r'
  refine SeqAt.RcNeAt.lists (e := fun _ => true) pl.isList pl'.isList rfl hu (fun j h1 h2 => SeqAt.EqAt.same _) X.prog X.w X.xe _ ⟨.bl _, H, I, rfl, ?_⟩
  rw [show (List.all (List.range _) fun _ => true) = true from List.all_eq_true.mpr fun _ _ => rfl]
  exact k
theorem rd_neSame {K : PySem.W.Frag} {H : Hp} {Q : VK} {p q : Addr} {as : List Addr} (e : SqL K H p (as.map V.ref)) (e' : SqL K H q (as.map V.ref)) (h : Q (.bl false) H) : rNeSame K (.ref p) (.ref q) H Q := ⟨p, q, as, rfl, rfl, e, e', h⟩
theorem pe_callC0 {X : Cx} {x : Str} {ps : List Str} {k : Nat} {sp : Sp} {p pos : Pos} (C : Callee X.prog X.w X.K X.mg X.base x ps k sp) (hr : Room k X.A) (hg : Gl X x) (hdb : (x == ("__debug__" : Str)) = false := by decide) : PE X (.Call (.Name x p) [] [] pos) (tCl sp tNil) := by
  obtain ⟨f, fd, F, hm, hk, hb⟩ := C.ex
  have h := pe_call0 (p := p) (pos := pos) F hr hg hm hk hb .nil pass0 hdb
  intro pins s σ H Q I q
  refine h pins s σ H Q I ?_
  unfold tCall
  simp only [List.append_nil]
  exact q
end L2
set_option Elab.async false
set_option maxHeartbeats 4000000
set_option maxRecDepth 100000
namespace L2
open PySem PySem.Spec PyProof.Rows
section
variable {K : PySem.W.Frag} {n b c : St → Hp → Prop} {r : VK} {σ : St} {H : Hp} {t u : TS} {te : TE} {g : TG} {tb : TS}
theorem rd_seqF (h : t (Ends.mk (u (Ends.mk n r b c)) r b c) σ H) : tSeq t u (Ends.mk n r b c) σ H := h
theorem rd_retF (h : te σ H r) : tRet te (Ends.mk n r b c) σ H := h
theorem rd_dropF (h : te σ H fun _ H1 => n σ H1) : tDrop te (Ends.mk n r b c) σ H := h
theorem rd_asgF (h : te σ H fun x H1 => g x σ H1 n) : tAsg te g (Ends.mk n r b c) σ H := h
theorem rd_nextF (h : n σ H) : tNext (Ends.mk n r b c) σ H := h
theorem rd_forF {wi : TI} (h : wi σ H fun J H1 => ∃ W : Nat → Nat → St → Hp → Prop, (∃ m, W 0 m σ H1) ∧ ∀ i m σ H, W i m σ H →
    (J.stop i H ∧ n σ H) ∨ (J.go i H ∧ ∃ N : St → Hp → Prop, (∀ σ' H', N σ' H' → ∃ m', m' < m ∧ W (i + 1) m' σ' H') ∧ ∀ x H', J.yld i H x H' → g x σ H' fun σ2 H2 => tb (Ends.mk N r n N) σ2 H2)) : tFor wi g tb (Ends.mk n r b c) σ H := h
theorem rd_parF {i j : Nat} {tx : TA} (h : tx σ H fun vs H1 => ∃ v w, vs = [v, w] ∧ n ((σ.set i (some v)).set j (some w)) H1) : tPar i j tx (Ends.mk n r b c) σ H := h
theorem rd_joinF (J : St → Hp → Prop) (h1 : t (Ends.mk J r b c) σ H) (h2 : ∀ σ' H', J σ' H' → n σ' H') : tJoin t (Ends.mk n r b c) σ H := ⟨J, h1, h2⟩
theorem for_listF {a : Addr} {xs : List V} (Pv : Nat → St → Hp → Prop) (h0 : Pv 0 σ H) (hl : ∀ i σ H, i ≤ xs.length → Pv i σ H → SqL K H a xs)
    (hs : ∀ i x σ H, xs[i]? = some x → Pv i σ H → g x σ H fun σ2 H2 => tb (Ends.mk (Pv (i + 1)) r n (Pv (i + 1))) σ2 H2) (hd : ∀ σ H, Pv xs.length σ H → n σ H) :
    ∃ W : Nat → Nat → St → Hp → Prop, (∃ m, W 0 m σ H) ∧ ∀ i m σ H, W i m σ H →
      ((Itl K a).stop i H ∧ n σ H) ∨ ((Itl K a).go i H ∧ ∃ N : St → Hp → Prop, (∀ σ' H', N σ' H' → ∃ m', m' < m ∧ W (i + 1) m' σ' H') ∧ ∀ x H', (Itl K a).yld i H x H' → g x σ H' fun σ2 H2 => tb (Ends.mk N r n N) σ2 H2) :=
  for_list (D := Ends.mk n r (fun _ _ => False) (fun _ _ => False)) Pv h0 hl hs hd
theorem for_tupF {a : Addr} {xs : List V} (Pv : Nat → St → Hp → Prop) (h0 : Pv 0 σ H) (hl : ∀ i σ H, i ≤ xs.length → Pv i σ H → SqT K H a xs)
    (hs : ∀ i x σ H, xs[i]? = some x → Pv i σ H → g x σ H fun σ2 H2 => tb (Ends.mk (Pv (i + 1)) r n (Pv (i + 1))) σ2 H2) (hd : ∀ σ H, Pv xs.length σ H → n σ H) :
    ∃ W : Nat → Nat → St → Hp → Prop, (∃ m, W 0 m σ H) ∧ ∀ i m σ H, W i m σ H →
      ((Itt K a).stop i H ∧ n σ H) ∨ ((Itt K a).go i H ∧ ∃ N : St → Hp → Prop, (∀ σ' H', N σ' H' → ∃ m', m' < m ∧ W (i + 1) m' σ' H') ∧ ∀ x H', (Itt K a).yld i H x H' → g x σ H' fun σ2 H2 => tb (Ends.mk N r n N) σ2 H2) :=
  for_tup (D := Ends.mk n r (fun _ _ => False) (fun _ _ => False)) Pv h0 hl hs hd
theorem for_rangeF {lo : Int} {k : Nat} (Pv : Nat → St → Hp → Prop) (h0 : Pv 0 σ H)
    (hs : ∀ i σ H, i < k → Pv i σ H → g (.int (lo + i)) σ H fun σ2 H2 => tb (Ends.mk (Pv (i + 1)) r n (Pv (i + 1))) σ2 H2) (hd : ∀ σ H, Pv k σ H → n σ H) :
    ∃ W : Nat → Nat → St → Hp → Prop, (∃ m, W 0 m σ H) ∧ ∀ i m σ H, W i m σ H →
      ((Itr lo k).stop i H ∧ n σ H) ∨ ((Itr lo k).go i H ∧ ∃ N : St → Hp → Prop, (∀ σ' H', N σ' H' → ∃ m', m' < m ∧ W (i + 1) m' σ' H') ∧ ∀ x H', (Itr lo k).yld i H x H' → g x σ H' fun σ2 H2 => tb (Ends.mk N r n N) σ2 H2) :=
  for_range (D := Ends.mk n r (fun _ _ => False) (fun _ _ => False)) Pv h0 hs hd
end
end L2
set_option maxRecDepth 100000
set_option maxHeartbeats 4000000
set_option Elab.async false
namespace L2
open PySem
section
variable {prog : Program} {w : World} {A : Around} {R : Result → Shared → Prop} {I : Addr} {fp wr : List Addr} {n : Nat} {P : Nat → Value → Prop} {St : Nat → Heap → Prop} {dv : Value}
theorem args_maxD (a b : Value) : argsOk "max" ⟨[a], [("default", b)]⟩ := by unfold argsOk; kernel_rfl
theorem name_max : (toString "max" ++ toString ".loop" : String) = "max.loop" := by decide
theorem maxD_loop (W : Walks prog w A.in1 I fp wr n P St) (bt : Nat → Nat → Bool) (cm : CmpOf prog w A.in1 .Gt P bt) (S : Addr) (nS : S ∉ fp) :
    ∀ (k j : Nat) (s : Shared) (best : Value) (c : Nat), n - (j + 1) = k → j + 1 ≤ n → St (j + 1) s.heap → P (argBest bt j) best →
    s.heap.get? S = some { cls := .type "list", dict := none, data := .seq #[best, best] c, slots := #[] } →
    (∀ v h2 t2, P (argBest bt (n - 1)) v → (∀ b o, b ∉ wr → b ≠ S → s.heap.get? b = some o → h2.get? b = some o) → R (.ok (.ret v)) { s with heap := h2, toks := t2 }) →
    codeAny (model prog w) A (.builtin "max.loop" ⟨[.ref I, .none, .ref S], [("default", dv)]⟩) R s := by
  have nW : S ∉ wr := fun z => nS (W.sub _ z)
  intro k
  induction k with
  | zero =>
    intro j s best c hk hj st pb at_ rr
    have jn : j + 1 = n := by omega
    refine codeAny_builtin F.entry_max_loop ?_
    rw [Around.under_plainId F.plain_max_loop _]
    show wpAny _ A.in1 (seqItems? (.ref S) >>= _) _ _ s
    refine wpAny_bind (wpAny_seqItems at_ rfl ?_)
    show wpAny _ A.in1 (tryCatch (pyNext (.ref I)) _ >>= _) _ _ s
    refine wpAny_bind (wpAny_tryCatch (W.done s _ _ (jn ▸ st) fun h2 t2 k2 => ?_))
    have at2 := k2 S _ nW at_
    show wpAny _ A.in1 (updateSeq S (fun _ => #[]) >>= _) _ _ _
    refine wpAny_bind ?_
    refine wpAny_updateSeq at2 rfl (wpAny_bind (wpAny_letGo (wpAny_pure ?_)))
    exact rr best _ t2 (by rw [← jn]; exact pb) fun b o b1 b2 e => (Heap.get?_update_other _ _ (Ne.symm b2)).trans (k2 b o b1 e)
  | succ k ih =>
    intro j s best c hk hj st pb at_ rr
    have lt : j + 1 < n := by omega
    refine codeAny_builtin F.entry_max_loop ?_
    rw [Around.under_plainId F.plain_max_loop _]
    show wpAny _ A.in1 (seqItems? (.ref S) >>= _) _ _ s
    refine wpAny_bind (wpAny_seqItems at_ rfl ?_)
    show wpAny _ A.in1 (tryCatch (pyNext (.ref I)) _ >>= _) _ _ s
    refine wpAny_bind (wpAny_tryCatch (W.item (j + 1) s _ _ lt st fun v h2 t2 pv st2 k2 => ?_))
    have at2 := k2 S _ nW at_
    show wpAny _ A.in1 (tryCatch (holding [v, v] (richCompare .Gt v best >>= _)) _ >>= _) _ _ _
    refine wpAny_bind (wpAny_tryCatch (wpAny_holding (wpAny_bind (cm (j + 1) (argBest bt j) v best _ _ _ pv pb ?_))))
    refine wpAny_bind (wpAny_holding (wpAny_truthy_bool ?_))
    refine wpAny_bind (wpAny_letGo (wpAny_pure ?_))
    cases hb : bt (j + 1) (argBest bt j) with
    | true =>
      simp only [if_true]
      refine wpAny_bind ?_
      refine wpAny_updateSeq at2 rfl (wpAny_bind (wpAny_letGo ?_))
      rw [name_max]
      refine wpAny_pure ⟨plainId_quiet F.plain_max_loop _, ih (j + 1) _ v _ (by omega) lt (W.frame _ _ _ st2 fun b bf o e => ?_) (by simp only [argBest, hb, if_true]; exact pv) (Heap.get?_update_self _ at2 rfl)
        fun v3 h3 t3 p3 k3 => ?_⟩
      · exact (Heap.get?_update_other _ _ (fun z : S = b => nS (by rw [z]; exact bf))).trans e
      · exact rr v3 h3 t3 p3 fun b o b1 b2 e => k3 b o b1 b2 ((Heap.get?_update_other _ _ (Ne.symm b2)).trans (k2 b o b1 e))
    | false =>
      simp only [Bool.false_eq_true, if_false]
      refine wpAny_bind (wpAny_letGo ?_)
      rw [name_max]
      refine wpAny_pure ⟨plainId_quiet F.plain_max_loop _, ih (j + 1) _ best c (by omega) lt st2 (by simp only [argBest, hb, Bool.false_eq_true, if_false]; exact pb) at2 fun v3 h3 t3 p3 k3 => ?_⟩
      exact rr v3 h3 t3 p3 fun b o b1 b2 e => k3 b o b1 b2 (k2 b o b1 e)
theorem maxD_start (W : Walks prog w A.in1 I fp wr n P St) (bt : Nat → Nat → Bool) (cm : CmpOf prog w A.in1 .Gt P bt) (S : Addr) (nS : S ∉ fp) (hn : 0 < n) {s : Shared} {c : Nat} (st : St 0 s.heap)
    (at_ : s.heap.get? S = some { cls := .type "list", dict := none, data := .seq #[] c, slots := #[] })
    (rr : ∀ v h2 t2, P (argBest bt (n - 1)) v → (∀ b o, b ∉ wr → b ≠ S → s.heap.get? b = some o → h2.get? b = some o) → R (.ok (.ret v)) { s with heap := h2, toks := t2 }) :
    codeAny (model prog w) A (.builtin "max.loop" ⟨[.ref I, .none, .ref S], [("default", dv)]⟩) R s := by
  have nW : S ∉ wr := fun z => nS (W.sub _ z)
  refine codeAny_builtin F.entry_max_loop ?_
  rw [Around.under_plainId F.plain_max_loop _]
  show wpAny _ A.in1 (seqItems? (.ref S) >>= _) _ _ s
  refine wpAny_bind (wpAny_seqItems at_ rfl ?_)
  show wpAny _ A.in1 (tryCatch (pyNext (.ref I)) _ >>= _) _ _ s
  refine wpAny_bind (wpAny_tryCatch (W.item 0 s _ _ hn st fun v h2 t2 pv st2 k2 => ?_))
  have at2 := k2 S _ nW at_
  show wpAny _ A.in1 (updateSeq S (fun _ => #[v, v]) >>= _) _ _ _
  refine wpAny_bind ?_
  refine wpAny_updateSeq at2 rfl ?_
  rw [name_max]
  refine wpAny_pure ⟨plainId_quiet F.plain_max_loop _, maxD_loop W bt cm S nS _ 0 _ v _ rfl hn (W.frame _ _ _ st2 fun b bf o e => ?_) pv (Heap.get?_update_self _ at2 rfl) fun v3 h3 t3 p3 k3 => ?_⟩
  · exact (Heap.get?_update_other _ _ (fun z : S = b => nS (by rw [z]; exact bf))).trans e
  · exact rr v3 h3 t3 p3 fun b o b1 b2 e => k3 b o b1 b2 ((Heap.get?_update_other _ _ (Ne.symm b2)).trans (k2 b o b1 e))
theorem maxD_none (W : Walks prog w A.in1 I fp wr 0 P St) (S : Addr) {s : Shared} {c : Nat} (st : St 0 s.heap)
    (at_ : s.heap.get? S = some { cls := .type "list", dict := none, data := .seq #[] c, slots := #[] })
    (rr : ∀ h2 t2, (∀ b o, b ∉ wr → b ≠ S → s.heap.get? b = some o → h2.get? b = some o) → R (.ok (.ret dv)) { s with heap := h2, toks := t2 }) :
    codeAny (model prog w) A (.builtin "max.loop" ⟨[.ref I, .none, .ref S], [("default", dv)]⟩) R s := by
  refine codeAny_builtin F.entry_max_loop ?_
  rw [Around.under_plainId F.plain_max_loop _]
  show wpAny _ A.in1 (seqItems? (.ref S) >>= _) _ _ s
  refine wpAny_bind (wpAny_seqItems at_ rfl ?_)
  show wpAny _ A.in1 (tryCatch (pyNext (.ref I)) _ >>= _) _ _ s
  refine wpAny_bind (wpAny_tryCatch (W.done s _ _ st fun h2 t2 k2 => ?_))
  show wpAny _ A.in1 (rule _ >>= _) _ _ _
  refine wpAny_bind (wpAny_rule (wpAny_pure ?_))
  exact rr h2 t2 fun b o b1 _ e => k2 b o b1 e
end
section
variable {prog : Program} {w : World} {A : Around} {E : Value → Shared → Prop} {s : Shared}
theorem callFn_kw {id : String} {b : Builtin} {args : List Value} {kw : List (Str × Value)} {Q : Value → Shared → Prop} (hk : builtinKind id = none) (hp : plainId id = true)
    (hb : entryFor table id = some b) (ha : argsOk id ⟨args, kw⟩)
    (hc : wpAny (model prog w) A.in1 (b ⟨args, kw⟩) (fun fin s' => match fin with
      | .done f => (match (Except.ok f : Result) with | .ok (.ret v) => Q v s' | .ok _ => False | .error e => E e s')
      | .again c' => c'.quiet = true ∧ codeAny (model prog w) A c' (fun r s' => match r with | .ok (.ret v) => Q v s' | .ok _ => False | .error e => E e s') s') E s) :
    wpAny (model prog w) A (call (.builtin id) args kw) Q E s := by
  refine wpAny_call (codeAny_call_builtin hp hb ?_)
  simp only [checkBuiltinCall, hk]
  cases sg : Manifest.signature? id with
  | none => exact wpAny_pure hc
  | some sig =>
    simp only [argsOk, sg] at ha
    have h2 : Bind.checkArgs id sig ⟨args, kw⟩ = pure () := ha
    show wpAny _ A.in1 (Bind.checkArgs id sig ⟨args, kw⟩) _ _ s
    rw [h2]; exact wpAny_pure hc
theorem maxD_ints {l : Addr} {xs : Array (Int × Tok)} {dv : Value} {Q : Value → Shared → Prop} (hh : A.handled = none) (hl : s.heap.IsList l (intItems xs))
    (q1 : 0 < xs.size → ∀ v h2 t2, (intItems xs)[argBest (fun i j => decide (numAt xs i > numAt xs j)) (xs.size - 1)]? = some v → (∀ b o, s.heap.get? b = some o → h2.get? b = some o) → Q v { s with heap := h2, toks := t2 })
    (q0 : xs.size = 0 → ∀ h2 t2, (∀ b o, s.heap.get? b = some o → h2.get? b = some o) → Q dv { s with heap := h2, toks := t2 }) :
    wpAny (model prog w) A (call (.builtin "max") [.ref l] [("default", dv)]) Q E s := by
  refine callFn_kw F.kind_max F.plain_max F.entry_max (args_maxD _ _) ?_
  show wpAny _ A.in1 (Builtin.Builtins.bindParams "max" ["key", "default"] 0 ⟨[], [("default", dv)]⟩ >>= _) _ _ s
  refine wpAny_bind (wpAny_of_eq (show Builtin.Builtins.bindParams "max" ["key", "default"] 0 ⟨[], [("default", dv)]⟩ = pure [none, some dv] from rfl) ?_)
  refine wpAny_bind (wpAny_pure ?_)
  refine wpAny_bind (iter_intList hl fun s2 e st hfp ne => ?_)
  subst e
  have W := Walks.list (prog := prog) (w := w) (A := A.in1) hh _ l ne (intItems xs)
  refine wpAny_bind (wpAny_newObj_type ?_)
  have nS : (s.heap.push { cls := .type "list_iterator", data := .fields #[.ref l, .int 0 0] }).objs.size ∉ [s.heap.objs.size, l] := fun z => Nat.lt_irrefl _ (hfp _ z)
  rw [name_max]
  have fr := W.frame 0 _ ((s.heap.push { cls := .type "list_iterator", data := .fields #[.ref l, .int 0 0] }).push { cls := .type "list", data := .seq ([] : List Value).toArray }) st fun b _ o e => Heap.get?_push_of_some _ e
  have old : ∀ (h2 : Heap), (∀ b o, b ∉ [s.heap.objs.size] → b ≠ (s.heap.push { cls := .type "list_iterator", data := .fields #[.ref l, .int 0 0] }).objs.size → ((s.heap.push { cls := .type "list_iterator", data := .fields #[.ref l, .int 0 0] }).push { cls := .type "list", data := .seq ([] : List Value).toArray }).get? b = some o → h2.get? b = some o) →
      ∀ b o, s.heap.get? b = some o → h2.get? b = some o := fun h2 k2 b o e => by
    have lt := Heap.lt_size e
    refine k2 b o (fun z => ?_) (fun z => ?_) (Heap.get?_push_of_some _ (Heap.get?_push_of_some _ e))
    · have z : b = s.heap.objs.size := by simpa using z
      exact Nat.lt_irrefl _ (z ▸ lt)
    · rw [Heap.size_push] at z
      exact absurd lt (by rw [z]; exact Nat.not_lt.mpr (Nat.le_succ _))
  by_cases h0 : 0 < xs.size
  · exact wpAny_pure ⟨plainId_quiet F.plain_max_loop _, maxD_start W _ (CmpOf.ints_gt (numAt xs) (fun _ _ => intItems_at)) _ nS (by simpa [intItems] using h0) fr (Heap.get?_push_size _ rfl) fun v h2 t2 pv k2 =>
      q1 h0 v h2 t2 (by simpa [intItems] using pv) (old h2 k2)⟩
  · have h0 : xs.size = 0 := by omega
    have hz : (intItems xs).size = 0 := by simpa [intItems] using h0
    rw [hz] at W
    exact wpAny_pure ⟨plainId_quiet F.plain_max_loop _, maxD_none W _ fr (Heap.get?_push_size _ rfl) fun h2 t2 k2 => q0 h0 h2 t2 (old h2 k2)⟩
end
end L2
set_option maxRecDepth 100000
set_option maxHeartbeats 4000000
set_option Elab.async false
namespace L2
open PySem
abbrev ZObj (h : Heap) (z ti tt : Addr) (u v : Value) : Prop := h.get? z = some { cls := .type "zip", dict := none, data := .fields #[u, v, .bool false, .ref ti, .ref tt], slots := #[] }
section
variable {prog : Program} {w : World} {A : Around} {E : Value → Shared → Prop} {s : Shared}
theorem alive_is {a : Addr} {o : Obj} {Q : Option Obj → Shared → Prop} (e : s.heap.get? a = some o) (q : Q (some o) s) : wpAny (model prog w) A (loadIfAlive a) Q E s := by
  have q2 : Q (s.heap.get? a) s := by rw [e]; exact q
  exact fun _ _ _ => q2
theorem zip_notFree {z ti tt a : Addr} {f : Bool} {oa : Obj} {Q : Bool → Shared → Prop} (hz : ZObj s.heap z ti tt (rawInt a) (.bool f)) (ha : s.heap.get? a = some oa)
    (q : ∀ h1, ZObj h1 z ti tt (rawInt a) (.bool true) → Heap.SameBut z s.heap h1 → Q false { s with heap := h1 }) : wpAny (model prog w) A (Builtin.SmallTypes.ownedTupleIsFree (.ref z)) Q E s := by
  unfold Builtin.SmallTypes.ownedTupleIsFree
  refine wpAny_bind (wpAny_field hz rfl (x := rawInt a) rfl ?_)
  show wpAny _ _ (loadIfAlive ((a : Int).toNat) >>= _) _ _ _
  rw [Int.toNat_natCast]
  refine wpAny_bind (alive_is ha ?_)
  simp only [Option.isNone_some, Bool.false_eq_true, if_false]
  refine wpAny_bind (wpAny_field hz rfl (x := .bool f) rfl ?_)
  cases f with
  | true =>
    rw [if_neg (show ¬ ((Value.bool true != Value.bool true) = true) from Bool.false_ne_true)]
    exact wpAny_pure (q _ hz (Heap.SameBut.refl _ _))
  | false =>
    rw [if_pos (show (Value.bool false != Value.bool true) = true from rfl)]
    exact wpAny_bind (wpAny_setField_rec hz (by simp) fun h3 e3 s3 => wpAny_pure (q h3 e3 s3))
theorem zip_nextOut {z ti tt i1 i2 l1 l2 a : Addr} {f : Bool} {oa : Obj} {k : Nat} {xs ys : Array Value} {x y : Value} {Q : Option Value → Shared → Prop}
    (D : ZipApart z ti tt i1 i2 l1 l2) (hz : ZObj s.heap z ti tt (rawInt a) (.bool f)) (ha : s.heap.get? a = some oa) (hp : IsPair s.heap ti (.ref i1) (.ref i2))
    (b1 : s.heap.IsListIter i1 l1 k) (b2 : s.heap.IsListIter i2 l2 k) (c1 : s.heap.IsList l1 xs) (c2 : s.heap.IsList l2 ys) (hx : xs[k]? = some x) (hy : ys[k]? = some y)
    (q : ∀ h', ZObj h' z ti tt (rawInt a) (.bool true) → h'.IsListIter i1 l1 (k + 1) → h'.IsListIter i2 l2 (k + 1) → IsPair h' s.heap.objs.size x y → h'.objs.size = s.heap.objs.size + 1 →
      (∀ c o, c ≠ z → c ≠ i1 → c ≠ i2 → s.heap.get? c = some o → h'.get? c = some o) → Q (some (.ref s.heap.objs.size)) { s with heap := h' }) :
    wpAny (model prog w) A (pyNext (.ref z)) Q E s := by
  have hT : s.TypeIs (.ref z) "zip" := ⟨_, hz, rfl⟩
  unfold pyNext
  refine wpAny_bind (wpAny_attempt (wpAny_callSpecial?_slot (name := Str.ofString "__next__") hT F.slot_zip_next
    (wpAny_call_entry F.slot_zip_next hT F.entry_zip_next ?_ (F.args_zip_next_1 _))))
  show wpAny _ _ (field (.ref z) 2 >>= _) _ _ _
  refine wpAny_bind (wpAny_field hz rfl (x := .bool false) rfl ?_)
  show wpAny _ _ (field (.ref z) 3 >>= _) _ _ _
  refine wpAny_bind (wpAny_field hz rfl (x := .ref ti) rfl ?_)
  refine wpAny_bind (wpAny_seqItems hp rfl ?_)
  show wpAny _ _ (Builtin.SmallTypes.ownedTupleIsFree (.ref z) >>= _) _ _ _
  refine wpAny_bind (zip_notFree hz ha fun h1 z1 s1 => ?_)
  simp only [Bool.false_eq_true, if_false]
  refine wpAny_bind ?_
  simp only [List.forIn_toArray, List.forIn_cons, List.forIn_nil]
  refine wpAny_bind (wpAny_bind (wpAny_holding ?_))
  show wpAny _ _ (Builtin.SmallTypes.nextOf (.ref i1) >>= _) _ _ _
  refine wpAny_bind (wpAny_nextOf_list_item (b1.extBut s1.extBut D.i1z) (c1.extBut s1.extBut D.l1z) hx fun h2 b1' s2 => wpAny_pure (wpAny_pure ?_))
  refine wpAny_bind (wpAny_bind (wpAny_holding ?_))
  show wpAny _ _ (Builtin.SmallTypes.nextOf (.ref i2) >>= _) _ _ _
  refine wpAny_bind (wpAny_nextOf_list_item ((b2.extBut s1.extBut D.i2z).extBut s2.extBut D.i12.symm) ((c2.extBut s1.extBut D.l2z).extBut s2.extBut D.l2i1) hy fun h3 b2' s3 => wpAny_pure (wpAny_pure (wpAny_pure ?_)))
  refine wpAny_bind (wpAny_newTuple ?_ (by show 2 ≤ sizeLine; decide))
  have sz : h3.objs.size = s.heap.objs.size := by rw [s3.1, s2.1, s1.1]
  have up : ∀ c o, h3.get? c = some o → (h3.push { cls := .type "tuple", data := .seq #[x, y] }).get? c = some o := fun c o e => Heap.get?_push_of_some _ e
  refine wpAny_pure ⟨_, rfl, wpAny_pure ?_⟩
  have kp : ∀ c o, c ≠ z → c ≠ i1 → c ≠ i2 → s.heap.get? c = some o → h3.get? c = some o := fun c o n1 n2 n3 e => s3.extBut _ _ n3 (s2.extBut _ _ n2 (s1.extBut _ _ n1 e))
  show Q (some (.ref h3.objs.size)) { s with heap := h3.push { cls := .type "tuple", data := .seq #[x, y] } }
  rw [sz]
  refine q _ (up _ _ (s3.extBut _ _ D.i2z.symm (s2.extBut _ _ D.i1z.symm z1))) ((b1'.extBut s3.extBut D.i12).at fun o e => up _ o e) (b2'.at fun o e => up _ o e) ?_ (by rw [Heap.size_push, sz]) fun c o n1 n2 n3 e => up c o (kp c o n1 n2 n3 e)
  rw [← sz]
  exact Heap.get?_push_size _ rfl
theorem zip_endOut {z ti tt i1 i2 l1 l2 a : Addr} {f : Bool} {oa : Obj} {k : Nat} {xs ys : Array Value} {Q : Option Value → Shared → Prop} (hh : A.handled = none)
    (D : ZipApart z ti tt i1 i2 l1 l2) (hz : ZObj s.heap z ti tt (rawInt a) (.bool f)) (ha : s.heap.get? a = some oa) (hp : IsPair s.heap ti (.ref i1) (.ref i2))
    (b1 : s.heap.IsListIter i1 l1 k) (b2 : s.heap.IsListIter i2 l2 k) (c1 : s.heap.IsList l1 xs) (c2 : s.heap.IsList l2 ys) (fin : xs[k]? = none ∨ ys[k]? = none)
    (q : ∀ h', (∀ c o, c ≠ z → c ≠ i1 → c ≠ i2 → s.heap.get? c = some o → h'.get? c = some o) → Q none { s with heap := h' }) :
    wpAny (model prog w) A (pyNext (.ref z)) Q E s := by
  have hT : s.TypeIs (.ref z) "zip" := ⟨_, hz, rfl⟩
  unfold pyNext
  refine wpAny_bind (wpAny_attempt (wpAny_callSpecial?_slot (name := Str.ofString "__next__") hT F.slot_zip_next
    (wpAny_call_entry F.slot_zip_next hT F.entry_zip_next ?_ (F.args_zip_next_1 _))))
  show wpAny _ _ (field (.ref z) 2 >>= _) _ _ _
  refine wpAny_bind (wpAny_field hz rfl (x := .bool false) rfl ?_)
  show wpAny _ _ (field (.ref z) 3 >>= _) _ _ _
  refine wpAny_bind (wpAny_field hz rfl (x := .ref ti) rfl ?_)
  refine wpAny_bind (wpAny_seqItems hp rfl ?_)
  show wpAny _ _ (Builtin.SmallTypes.ownedTupleIsFree (.ref z) >>= _) _ _ _
  refine wpAny_bind (zip_notFree hz ha fun h1 z1 s1 => ?_)
  simp only [Bool.false_eq_true, if_false]
  refine wpAny_bind ?_
  simp only [List.forIn_toArray, List.forIn_cons, List.forIn_nil]
  refine wpAny_bind (wpAny_bind (wpAny_holding ?_))
  show wpAny _ _ (Builtin.SmallTypes.nextOf (.ref i1) >>= _) _ _ _
  cases hx : xs[k]? with
  | none =>
    refine wpAny_bind (wpAny_nextOf_list_end hh (b1.extBut s1.extBut D.i1z) (c1.extBut s1.extBut D.l1z) hx fun h2 e s2 he => ?_)
    obtain ⟨o, ho, hc⟩ := he
    refine wpAny_bind (wpAny_isInstance (T := "StopIteration") (b := true) ⟨o, ho, hc⟩ isSubtype_stop ?_)
    exact wpAny_pure (q _ fun c o n1 n2 n3 x => s2 _ _ n2 (s1.extBut _ _ n1 x))
  | some x =>
    have hy : ys[k]? = none := by
      rcases fin with z | z
      · rw [hx] at z; cases z
      · exact z
    refine wpAny_bind (wpAny_nextOf_list_item (b1.extBut s1.extBut D.i1z) (c1.extBut s1.extBut D.l1z) hx fun h2 b1' s2 => wpAny_pure (wpAny_pure ?_))
    refine wpAny_bind (wpAny_bind (wpAny_holding ?_))
    show wpAny _ _ (Builtin.SmallTypes.nextOf (.ref i2) >>= _) _ _ _
    refine wpAny_bind (wpAny_nextOf_list_end hh ((b2.extBut s1.extBut D.i2z).extBut s2.extBut D.i12.symm) ((c2.extBut s1.extBut D.l2z).extBut s2.extBut D.l2i1) hy fun h3 e s3 he => ?_)
    obtain ⟨o, ho, hc⟩ := he
    refine wpAny_bind (wpAny_isInstance (T := "StopIteration") (b := true) ⟨o, ho, hc⟩ isSubtype_stop ?_)
    exact wpAny_pure (q _ fun c o n1 n2 n3 x => s3 _ _ n3 (s2.extBut _ _ n2 (s1.extBut _ _ n1 x)))
end
structure ZSt (h : Heap) (z ti tt i1 i2 l1 l2 S : Addr) (xs ys : Array Value) (k : Nat) : Prop where
  pr : IsPair h ti (.ref i1) (.ref i2)
  b1 : h.IsListIter i1 l1 k
  b2 : h.IsListIter i2 l2 k
  c1 : h.IsList l1 xs
  c2 : h.IsList l2 ys
  zz : (IsZip h z ti tt .none ∧ ∃ a b, IsPair h tt a b) ∨ ∃ (a : Addr) (f : Bool) (oa : Obj), ZObj h z ti tt (rawInt a) (.bool f) ∧ h.get? a = some oa ∧ S < a
structure ZLow (z ti tt i1 i2 l1 l2 S : Addr) : Prop where
  z : z < S
  ti : ti < S
  tt : tt < S
  i1 : i1 < S
  i2 : i2 < S
  l1 : l1 < S
  l2 : l2 < S
section
variable {prog : Program} {w : World} {A : Around} {E : Value → Shared → Prop} {s : Shared} {z ti tt i1 i2 l1 l2 S : Addr} {xs ys : Array Value} {k : Nat}
theorem ZSt.keep {h h' : Heap} (st : ZSt h z ti tt i1 i2 l1 l2 S xs ys k) (lo : ZLow z ti tt i1 i2 l1 l2 S) (kp : ∀ b o, b ≠ S → h.get? b = some o → h'.get? b = some o) : ZSt h' z ti tt i1 i2 l1 l2 S xs ys k := by
  refine ⟨kp _ _ (Nat.ne_of_lt lo.ti) st.pr, st.b1.at fun o e => kp _ o (Nat.ne_of_lt lo.i1) e, st.b2.at fun o e => kp _ o (Nat.ne_of_lt lo.i2) e, st.c1.at fun o e => kp _ o (Nat.ne_of_lt lo.l1) e, st.c2.at fun o e => kp _ o (Nat.ne_of_lt lo.l2) e, ?_⟩
  rcases st.zz with ⟨e, a, b, p⟩ | ⟨a, f, oa, e, ha, lt⟩
  · exact .inl ⟨kp _ _ (Nat.ne_of_lt lo.z) e, a, b, kp _ _ (Nat.ne_of_lt lo.tt) p⟩
  · exact .inr ⟨a, f, oa, kp _ _ (Nat.ne_of_lt lo.z) e, kp _ _ (Nat.ne_of_gt lt) ha, lt⟩
theorem ZSt.item {x y : Value} {Q : Option Value → Shared → Prop} (st : ZSt s.heap z ti tt i1 i2 l1 l2 S xs ys k) (D : ZipApart z ti tt i1 i2 l1 l2) (lo : ZLow z ti tt i1 i2 l1 l2 S) (hS : S < s.heap.objs.size) (hx : xs[k]? = some x) (hy : ys[k]? = some y)
    (q : ∀ h', ZSt h' z ti tt i1 i2 l1 l2 S xs ys (k + 1) → IsPair h' s.heap.objs.size x y → h'.objs.size = s.heap.objs.size + 1 →
      (∀ c o, c ≠ z → c ≠ tt → c ≠ i1 → c ≠ i2 → s.heap.get? c = some o → h'.get? c = some o) → Q (some (.ref s.heap.objs.size)) { s with heap := h' }) : wpAny (model prog w) A (pyNext (.ref z)) Q E s := by
  obtain ⟨pr, b1, b2, c1, c2, zz⟩ := st
  rcases zz with ⟨e, a, b, p⟩ | ⟨a, f, oa, e, ha, lt⟩
  · refine wpAny_pyNext_zip_item D e pr p b1 b2 c1 c2 hx hy fun h' a1 a2 a3 a4 a5 a6 hk => q h' ⟨hk _ _ D.TIz D.TITO D.TIi1 D.TIi2 pr, a3, a4, ?_, ?_, .inr ⟨_, false, _, a1, a5, hS⟩⟩ a5 a6 hk
    · exact c1.at fun o e => hk _ o D.l1z D.l1TO D.l1i1 D.l1i2 e
    · exact c2.at fun o e => hk _ o D.l2z D.l2TO D.l2i1 D.l2i2 e
  · refine zip_nextOut D e ha pr b1 b2 c1 c2 hx hy fun h' a1 a3 a4 a5 a6 hk => q h' ⟨hk _ _ D.TIz D.TIi1 D.TIi2 pr, a3, a4, ?_, ?_, .inr ⟨a, true, oa, a1, hk a oa ?_ ?_ ?_ ha, lt⟩⟩ a5 a6 fun c o n1 _ n3 n4 e => hk c o n1 n3 n4 e
    · exact c1.at fun o e => hk _ o D.l1z D.l1i1 D.l1i2 e
    · exact c2.at fun o e => hk _ o D.l2z D.l2i1 D.l2i2 e
    · exact Nat.ne_of_gt (Nat.lt_trans lo.z lt)
    · exact Nat.ne_of_gt (Nat.lt_trans lo.i1 lt)
    · exact Nat.ne_of_gt (Nat.lt_trans lo.i2 lt)
theorem ZSt.fin {Q : Option Value → Shared → Prop} (hh : A.handled = none) (st : ZSt s.heap z ti tt i1 i2 l1 l2 S xs ys k) (D : ZipApart z ti tt i1 i2 l1 l2) (fin : xs[k]? = none ∨ ys[k]? = none)
    (q : ∀ h', (∀ c o, c ≠ z → c ≠ tt → c ≠ i1 → c ≠ i2 → s.heap.get? c = some o → h'.get? c = some o) → Q none { s with heap := h' }) : wpAny (model prog w) A (pyNext (.ref z)) Q E s := by
  obtain ⟨pr, b1, b2, c1, c2, zz⟩ := st
  rcases zz with ⟨e, a, b, p⟩ | ⟨a, f, oa, e, ha, lt⟩
  · exact wpAny_pyNext_zip_end hh D e pr p b1 b2 c1 c2 fin q
  · exact zip_endOut hh D e ha pr b1 b2 c1 c2 fin fun h' hk => q h' fun c o n1 _ n3 n4 e => hk c o n1 n3 n4 e
structure ZG (S : Addr) (xs ys : Array Value) (h : Heap) (as : List Addr) : Prop where
  rise : as.Pairwise (· < ·)
  at_ : ∀ (j : Nat) (a : Addr), as[j]? = some a → S < a ∧ ∃ x y, xs[j]? = some x ∧ ys[j]? = some y ∧ IsPair h a x y
end
section
variable {prog : Program} {w : World} {A : Around} {s : Shared} {R : Result → Shared → Prop} {z ti tt i1 i2 l1 l2 S : Addr} {xs ys : Array Value}
theorem zip_loop (hh : A.handled = none) (D : ZipApart z ti tt i1 i2 l1 l2) (lo : ZLow z ti tt i1 i2 l1 l2 S) {n : Nat} (hn : n = min xs.size ys.size) (hz : n ≤ sizeLine) (res : Value) {h1 : Heap}
    (rr : ∀ h' tk acc c as, (∀ b o, b ≠ S → b ≠ z → b ≠ tt → b ≠ i1 → b ≠ i2 → h1.get? b = some o → h'.get? b = some o) → h'.get? S = some { cls := .type "list", dict := none, data := .seq acc c, slots := #[] } → as.length = n → ZG S xs ys h' as →
      acc.toList = as.map Value.ref → R (.ok (.ret res)) { s with heap := h', toks := tk }) :
    ∀ (k i : Nat) (h : Heap) (tk c : Nat) (acc : Array Value) (as : List Addr), n - i = k → i ≤ n → ZSt h z ti tt i1 i2 l1 l2 S xs ys i → (∀ b o, b ≠ S → b ≠ z → b ≠ tt → b ≠ i1 → b ≠ i2 → h1.get? b = some o → h.get? b = some o) →
      h.get? S = some { cls := .type "list", dict := none, data := .seq acc c, slots := #[] } → acc.toList = as.map Value.ref → as.length = i → ZG S xs ys h as →
      codeAny (model prog w) A (.builtin "list.extend.loop" ⟨[.ref S, .ref z, res], []⟩) R { s with heap := h, toks := tk } := by
  intro k
  induction k with
  | zero =>
    intro i h tk c acc as hk hi st kp at_ ea la G
    have ie : i = n := by omega
    refine codeAny_builtin PySem.F.entry_extend_loop ?_
    rw [Around.under_plainId PySem.F.plain_extend_loop _]
    show wpAny _ A.in1 (pyNext (.ref z) >>= _) _ _ _
    have fin : xs[i]? = none ∨ ys[i]? = none := by
      rcases Nat.le_total xs.size ys.size with q | q
      · exact .inl (Array.getElem?_eq_none (by omega))
      · exact .inr (Array.getElem?_eq_none (by omega))
    refine wpAny_bind (ZSt.fin (s := { s with heap := h, toks := tk }) (A := A.in1) hh st D fin fun h' k2 => ?_)
    have up : ∀ b o, S < b → h.get? b = some o → h'.get? b = some o := fun b o lt e => k2 b o (Nat.ne_of_gt (Nat.lt_trans lo.z lt)) (Nat.ne_of_gt (Nat.lt_trans lo.tt lt)) (Nat.ne_of_gt (Nat.lt_trans lo.i1 lt)) (Nat.ne_of_gt (Nat.lt_trans lo.i2 lt)) e
    refine wpAny_pure (rr h' tk acc c as (fun b o n1 n2 n3 n4 n5 e => k2 b o n2 n3 n4 n5 (kp b o n1 n2 n3 n4 n5 e)) (k2 S _ (Nat.ne_of_gt lo.z) (Nat.ne_of_gt lo.tt) (Nat.ne_of_gt lo.i1) (Nat.ne_of_gt lo.i2) at_) (by omega) ⟨G.rise, fun j a hj => ?_⟩ ea)
    obtain ⟨g0, x, y, g1, g2, g3⟩ := G.at_ j a hj
    exact ⟨g0, x, y, g1, g2, up a _ g0 g3⟩
  | succ k ih =>
    intro i h tk c acc as hk hi st kp at_ ea la G
    have lx : i < xs.size := by omega
    have ly : i < ys.size := by omega
    have hx : xs[i]? = some xs[i] := Array.getElem?_eq_getElem lx
    have hy : ys[i]? = some ys[i] := Array.getElem?_eq_getElem ly
    have hsz : acc.size = i := by rw [← Array.length_toList, ea, List.length_map, la]
    have hS : S < h.objs.size := Heap.lt_size at_
    refine codeAny_builtin PySem.F.entry_extend_loop ?_
    rw [Around.under_plainId PySem.F.plain_extend_loop _]
    show wpAny _ A.in1 (pyNext (.ref z) >>= _) _ _ _
    refine wpAny_bind (ZSt.item (s := { s with heap := h, toks := tk }) st D lo hS hx hy fun h' st2 nw sz k2 => ?_)
    dsimp only at nw sz k2 ⊢
    have at2 := k2 S _ (Nat.ne_of_gt lo.z) (Nat.ne_of_gt lo.tt) (Nat.ne_of_gt lo.i1) (Nat.ne_of_gt lo.i2) at_
    have up : ∀ b o, b ≠ S → h'.get? b = some o → (h'.update S (Obj.mapSeq (·.push (Value.ref h.objs.size)))).get? b = some o := fun b o hb e => (Heap.get?_update_other _ _ (Ne.symm hb)).trans e
    show wpAny _ A.in1 (updateSeq S (·.push (Value.ref h.objs.size)) >>= _) _ _ _
    refine wpAny_bind ?_
    refine wpAny_updateSeq at2 rfl (wpAny_pure ⟨plainId_quiet PySem.F.plain_extend_loop _, ih (i + 1) _ tk _ (acc.push (Value.ref h.objs.size)) (as ++ [h.objs.size]) (by omega) (by omega) (st2.keep lo up)
      (fun b o n1 n2 n3 n4 n5 e => up b o n1 (k2 b o n2 n3 n4 n5 (kp b o n1 n2 n3 n4 n5 e))) (Heap.get?_update_self _ at2 rfl) (by rw [Array.toList_push, ea, List.map_append]; rfl) (by rw [List.length_append, la]; rfl) ⟨?_, ?_⟩⟩) (by rw [hsz]; omega)
    · refine List.pairwise_append.mpr ⟨G.rise, List.pairwise_singleton _ _, fun a ha b hb => ?_⟩
      rw [List.mem_singleton.mp hb]
      obtain ⟨j, hj⟩ := List.mem_iff_getElem?.mp ha
      obtain ⟨_, _, _, _, _, e⟩ := G.at_ j a hj
      exact Heap.lt_size e
    · intro j b hj
      rcases Nat.lt_trichotomy j as.length with q | q | q
      · rw [List.getElem?_append_left q] at hj
        obtain ⟨g0, x, y, g1, g2, g3⟩ := G.at_ j b hj
        exact ⟨g0, x, y, g1, g2, up b _ (Nat.ne_of_gt g0) (k2 b _ (Nat.ne_of_gt (Nat.lt_trans lo.z g0)) (Nat.ne_of_gt (Nat.lt_trans lo.tt g0)) (Nat.ne_of_gt (Nat.lt_trans lo.i1 g0)) (Nat.ne_of_gt (Nat.lt_trans lo.i2 g0)) g3)⟩
      · subst q
        have hb : h.objs.size = b := by simpa using hj
        subst hb
        rw [la]
        exact ⟨hS, _, _, hx, hy, up _ _ (Nat.ne_of_gt hS) nw⟩
      · rw [List.getElem?_eq_none (by rw [List.length_append, List.length_singleton]; omega)] at hj
        cases hj
end
theorem zip_noLen : typeLookup (.type "zip") "__len__" = pure none := by rw [typeLookup_type, builtinLookup_eq_fast]; kernel_rfl
theorem zip_noHint : typeLookup (.type "zip") "__length_hint__" = pure none := by rw [typeLookup_type, builtinLookup_eq_fast]; kernel_rfl
section
variable {prog : Program} {w : World} {A : Around} {s : Shared} {z ti tt i1 i2 l1 l2 S : Addr} {xs ys : Array Value}
theorem zip_extend {R : Result → Shared → Prop} (hh : A.handled = none) (D : ZipApart z ti tt i1 i2 l1 l2) (lo : ZLow z ti tt i1 i2 l1 l2 S) (st : ZSt s.heap z ti tt i1 i2 l1 l2 S xs ys 0) (hz : min xs.size ys.size ≤ sizeLine) (res : Value) (c0 : Nat)
    (at_ : s.heap.get? S = some { cls := .type "list", data := .seq #[] c0 })
    (rr : ∀ h' tk acc c as, (∀ b o, b ≠ S → b ≠ z → b ≠ tt → b ≠ i1 → b ≠ i2 → s.heap.get? b = some o → h'.get? b = some o) → h'.get? S = some { cls := .type "list", dict := none, data := .seq acc c, slots := #[] } → as.length = min xs.size ys.size → ZG S xs ys h' as →
      acc.toList = as.map Value.ref → R (.ok (.ret res)) { s with heap := h', toks := tk }) :
    wpAny (model prog w) A.in1 (Builtin.List.listExtendWith (.ref S) (.ref z) res)
      (fun fin s' => match fin with | .done f => R (.ok f) s' | .again c' => c'.quiet = true ∧ codeAny (model prog w) A c' R s') (fun e s' => R (.error e) s') s := by
  have tz : s.TypeIs (.ref z) "zip" := by
    rcases st.zz with ⟨e, _⟩ | ⟨a, f, oa, e, _⟩
    · exact ⟨_, e, rfl⟩
    · exact ⟨_, e, rfl⟩
  unfold Builtin.List.listExtendWith
  refine wpAny_bind (wpAny_typeOf tz ?_)
  have e1 : Builtin.List.listSameRef (.ref S) (.ref z) = false := by simp [Builtin.List.listSameRef, Nat.ne_of_gt lo.z]
  have e2 : (Value.type "zip" == Value.type "list") = false := by decide
  have e3 : (Value.type "zip" == Value.type "tuple") = false := by decide
  simp only [e1, e2, e3, Bool.or_false, Bool.false_eq_true, if_false]
  have self : ∀ {Q : Value → Shared → Prop} {E : Value → Shared → Prop}, Q (.ref z) s → wpAny (model prog w) A.in1 (pyIter (.ref z)) Q E s := fun q => by
    rcases st.zz with ⟨e, _⟩ | ⟨a, f, oa, e, _⟩
    · exact wpAny_pyIter_zip e q
    · refine wpAny_pyIter_slot tz F.slot_zip_iter (wpAny_call_entry F.slot_zip_iter tz F.entry_zip_iter ?_ (F.args_zip_iter_1 _))
      show wpAny _ _ (ret (.ref z)) _ _ s
      exact wpAny_pure ⟨_, rfl, "zip", _, tz, F.slot_zip_next.lookup, q⟩
  refine wpAny_bind (self ?_)
  refine wpAny_bind (wpAny_holding ?_)
  unfold Builtin.List.listLengthHint
  refine wpAny_bind (wpAny_specialOf tz zip_noLen ?_)
  show wpAny _ A.in1 (specialOf (Value.ref z) (Str.ofString "__length_hint__") >>= _) _ _ _
  refine wpAny_bind (wpAny_specialOf tz zip_noHint ?_)
  refine wpAny_pure ?_
  show wpAny _ A.in1 (rule "list.extend.makes-room" >>= fun _ => Builtin.List.listTouch (.ref S) >>= fun _ =>
    again (.builtin "list.extend.loop" ⟨[.ref S, .ref z, res], []⟩)) _ _ _
  refine wpAny_bind (wpAny_rule ?_)
  refine wpAny_bind ?_
  show wpAny _ A.in1 (updateSeq S (·.push .none) >>= fun _ => updateSeq S (·.pop)) _ _ _
  refine wpAny_bind (wpAny_updateSeq at_ rfl ?_)
  have at2 := Heap.get?_update_self (Obj.mapSeq (·.push Value.none)) at_ rfl
  refine wpAny_updateSeq (hz := by seq_fits) at2 rfl ?_
  have at3 := Heap.get?_update_self (Obj.mapSeq (·.pop)) at2 rfl
  have oth : ∀ b o, b ≠ S → s.heap.get? b = some o → ((s.heap.update S (Obj.mapSeq (·.push Value.none))).update S (Obj.mapSeq (·.pop))).get? b = some o :=
    fun b o hb e => (Heap.get?_update_other _ _ (Ne.symm hb)).trans ((Heap.get?_update_other _ _ (Ne.symm hb)).trans e)
  refine wpAny_pure ⟨plainId_quiet F.plain_extend_loop _, ?_⟩
  exact zip_loop (s := s) (h1 := s.heap) hh D lo rfl hz res rr _ 0 _ s.toks _ #[] [] rfl (Nat.zero_le _) (st.keep lo oth) (fun b o n1 _ _ _ _ e => oth b o n1 e) at3 rfl rfl ⟨List.Pairwise.nil, fun j a hj => by simp at hj⟩
theorem zip_init {R : Result → Shared → Prop} (hh : A.handled = none) (D : ZipApart z ti tt i1 i2 l1 l2) (lo : ZLow z ti tt i1 i2 l1 l2 S) (st : ZSt s.heap z ti tt i1 i2 l1 l2 S xs ys 0) (hz : min xs.size ys.size ≤ sizeLine)
    (at_ : s.heap.get? S = some { cls := .type "list", data := .seq #[] })
    (rr : ∀ h' tk acc c as, (∀ b o, b ≠ S → b ≠ z → b ≠ tt → b ≠ i1 → b ≠ i2 → s.heap.get? b = some o → h'.get? b = some o) → h'.get? S = some { cls := .type "list", dict := none, data := .seq acc c, slots := #[] } → as.length = min xs.size ys.size → ZG S xs ys h' as →
      acc.toList = as.map Value.ref → R (.ok (.ret .none)) { s with heap := h', toks := tk }) :
    wpAny (model prog w) A.in1 (Builtin.«list.__init__» ⟨[.ref S, .ref z], []⟩)
      (fun fin s' => match fin with | .done f => R (.ok f) s' | .again c' => c'.quiet = true ∧ codeAny (model prog w) A c' R s') (fun e s' => R (.error e) s') s := by
  show wpAny _ A.in1 (do let old ← Builtin.List.listItems (.ref S); Builtin.List.listUpdate (.ref S) (fun _ => #[]); letGo old.toList.reverse; Builtin.List.listExtendWith (.ref S) (.ref z) .none) _ _ s
  refine wpAny_bind ?_
  unfold Builtin.List.listItems
  refine wpAny_bind (wpAny_seqItems at_ rfl (wpAny_pure ?_))
  show wpAny _ A.in1 (updateSeq S (fun _ => #[]) >>= fun _ => letGo (#[] : Array Value).toList.reverse >>= fun _ => Builtin.List.listExtendWith (.ref S) (.ref z) .none) _ _ s
  refine wpAny_bind (wpAny_updateSeq at_ rfl ?_)
  have at2 := Heap.get?_update_self (Obj.mapSeq (fun _ => (#[] : Array Value))) at_ rfl
  have oth : ∀ b o, b ≠ S → s.heap.get? b = some o → (s.heap.update S (Obj.mapSeq (fun _ => (#[] : Array Value)))).get? b = some o := fun b o hb e => (Heap.get?_update_other _ _ (Ne.symm hb)).trans e
  refine wpAny_bind (wpAny_letGo ?_)
  exact zip_extend hh D lo (st.keep lo oth) hz .none _ at2 fun h' tk acc c as kp e1 e2 e3 e4 => rr h' tk acc c as (fun b o n1 n2 n3 n4 n5 e => kp b o n1 n2 n3 n4 n5 (oth b o n1 e)) e1 e2 e3 e4
end
section
variable {prog : Program} {w : World} {A : Around} {E : Value → Shared → Prop} {s : Shared}
theorem call_listZip {z ti tt i1 i2 l1 l2 : Addr} {xs ys : Array Value} {Q : Value → Shared → Prop} (hh : A.handled = none) (D : ZipApart z ti tt i1 i2 l1 l2) (lo : ZLow z ti tt i1 i2 l1 l2 s.heap.objs.size) (st : ZSt s.heap z ti tt i1 i2 l1 l2 s.heap.objs.size xs ys 0)
    (hz : min xs.size ys.size ≤ sizeLine)
    (q : ∀ h' tk acc c as, (∀ b o, b ≠ z → b ≠ tt → b ≠ i1 → b ≠ i2 → s.heap.get? b = some o → h'.get? b = some o) → h'.get? s.heap.objs.size = some { cls := .type "list", dict := none, data := .seq acc c, slots := #[] } → as.length = min xs.size ys.size →
      ZG s.heap.objs.size xs ys h' as → acc.toList = as.map Value.ref → Q (.ref s.heap.objs.size) { s with heap := h', toks := tk }) :
    wpAny (model prog w) A (call (.type "list") [.ref z]) Q E s := by
  refine callType_codes (Q₁ := fun obj s₁ => obj = .ref s.heap.objs.size ∧ s₁ = { s with heap := s.heap.push { cls := .type "list", data := .seq #[] } }) F.called_list (F.typeCall_list_1 _) F.entry_list_init
    (code_list_new _ ⟨rfl, rfl⟩) fun obj s1 e1 => ?_
  obtain ⟨rfl, rfl⟩ := e1
  have at_ : (s.heap.push { cls := .type "list", data := .seq #[] }).get? s.heap.objs.size = some { cls := .type "list", data := .seq #[] } := Heap.get?_push_size _ rfl
  refine ⟨⟨_, at_, rfl⟩, F.args_list_init_2 _ _, zip_init (A := A.in1) hh D lo (st.keep lo fun b o _ e => Heap.get?_push_of_some _ e) hz at_ fun h' tk acc c as kp a1 a2 a3 a4 => ?_⟩
  exact ⟨rfl, q h' tk acc c as (fun b o n2 n3 n4 n5 e => kp b o (Nat.ne_of_lt (Heap.lt_size e)) n2 n3 n4 n5 (Heap.get?_push_of_some _ e)) a1 a2 a3 a4⟩
end
end L2
set_option Elab.async false
set_option maxHeartbeats 4000000
set_option maxRecDepth 100000
namespace L2
open PySem PySem.Spec PyProof.Rows
section
variable {X : Cx} {pins : List (Addr × Obj)} {σ : List (Option V)} {H H' : Hp} {s : Shared} {h' : Heap}
theorem Inv.many {t' : Nat} {it : List Addr} (I : Inv X pins σ H s) (itn : ∀ b ∈ it, H b = none ∧ b ≠ X.env.locals ∧ b ∉ X.fs ∧ (b ∈ X.ex ∨ X.s₀.heap.objs.size ≤ b) ∧ (∀ x c, X.env.cells.lookup x = some c → c ≠ b) ∧ (∀ p ∈ X.pn ++ pins, p.1 ≠ b) ∧ H' b = none)
    (k : ∀ b u, b ∉ it → s.heap.get? b = some u → h'.get? b = some u) (out : ∀ b o, H b = some o → H' b = some o)
    (new : ∀ b o, H' b = some o → H b = some o ∨ (s.heap.objs.size ≤ b ∧ ObjOk X.prog X.w H' h' b o)) : Inv X pins σ H' { s with heap := h', toks := t' } := by
  have fr : ∀ b o, s.heap.get? b = some o → H b = none → H' b = none := fun b o e n => by
    cases z : H' b with
    | none => rfl
    | some u =>
      rcases new b u z with q | ⟨q, _⟩
      · rw [n] at q; cases q
      · exact absurd (Heap.lt_size e) (Nat.not_lt.mpr q)
  refine I.step (g' := s.gens) (d' := s.drawn) (ch := it) (fun b hb => ?_) (fun b o _ _ hc z _ => k b o hc z) (fun b o _ _ hc z _ => ⟨o.slots, k b o hc z⟩) (fun b o _ z n => fr b o z n) (fun b o hc z => ⟨o, k b o hc z⟩) (fun b xs z => out b _ z) (fun b o u z => out b _ z)
    (fun b ps z => ⟨#[], by rw [out b _ z]; simp⟩) (fun m hm => ?_) (fun b o z => ?_) I.bare
  · obtain ⟨_, a1, _, a2, a3, a4, _⟩ := itn b hb
    exact ⟨a2, a1, a3, a4⟩
  · obtain ⟨o, es, ep, ho, r⟩ := hm
    exact ⟨o, es, ep, k _ o (fun z => (itn _ z).2.1 rfl) ho, r⟩
  · rcases new b o z with q | ⟨_, q⟩
    · have nb : ∀ c u, H c = some u → c ∉ it := fun c u e z => by rw [(itn c z).1] at e; cases e
      refine (I.hok b o q).stay (fun c v hc e => k c v ?_ e) (fun c e => out c _ e) fun c ys e => out c _ e
      rcases hc with y | y
      · rw [y]; exact nb b o q
      · exact nb c _ y
    · exact q
end
def lay2 (H : Hp) : List Addr → List (V × V) → Hp
  | a :: as, (x, y) :: ps => upd (lay2 H as ps) a (.tup [x, y])
  | _, _ => H
theorem lay2_out {H : Hp} {b : Addr} : ∀ {as : List Addr} {ps : List (V × V)}, b ∉ as → lay2 H as ps b = H b
  | [], _, _ => by unfold lay2; rfl
  | a :: as, [], _ => by unfold lay2; rfl
  | a :: as, (x, y) :: ps, h => by
    unfold lay2
    rw [upd_ne (fun z => h (by rw [z]; exact List.mem_cons_self ..)), lay2_out fun z => h (List.mem_cons_of_mem _ z)]
theorem lay2_at {H : Hp} : ∀ {as : List Addr} {ps : List (V × V)} {j : Nat} {a : Addr} {x y : V}, as.Pairwise (· < ·) → as[j]? = some a → ps[j]? = some (x, y) → lay2 H as ps a = some (.tup [x, y])
  | [], _, j, _, _, _, _, e, _ => by simp at e
  | _ :: _, [], j, _, _, _, _, _, e => by simp at e
  | c :: as, (u, v) :: ps, 0, a, x, y, _, e1, e2 => by
    have e1 : c = a := by simpa using e1
    have e2 : (u, v) = (x, y) := by simpa using e2
    cases e2
    unfold lay2
    rw [e1, upd_same]
  | c :: as, (u, v) :: ps, j + 1, a, x, y, h, e1, e2 => by
    obtain ⟨h1, h2⟩ := List.pairwise_cons.mp h
    have e1 : as[j]? = some a := by simpa using e1
    have e2 : ps[j]? = some (x, y) := by simpa using e2
    unfold lay2
    rw [upd_ne (Nat.ne_of_gt (h1 a (List.mem_of_getElem? e1)))]
    exact lay2_at h2 e1 e2
theorem lay2_inv {H : Hp} {b : Addr} {o : HO} : ∀ {as : List Addr} {ps : List (V × V)}, lay2 H as ps b = some o → H b = some o ∨ ∃ (j : Nat) (x y : V), as[j]? = some b ∧ ps[j]? = some (x, y) ∧ o = .tup [x, y]
  | [], _, h => .inl (by unfold lay2 at h; exact h)
  | _ :: _, [], h => .inl (by unfold lay2 at h; exact h)
  | c :: as, (u, v) :: ps, h => by
    unfold lay2 at h
    by_cases z : b = c
    · subst z
      rw [upd_same] at h
      exact .inr ⟨0, u, v, rfl, rfl, (Option.some.inj h).symm⟩
    · rw [upd_ne z] at h
      rcases lay2_inv h with q | ⟨j, x, y, e1, e2, e3⟩
      · exact .inl q
      · exact .inr ⟨j + 1, x, y, by simpa using e1, by simpa using e2, e3⟩
theorem vals_refs : ∀ (as : List Addr), Vals (as.map V.ref) (as.map Value.ref)
  | [] => .nil
  | _ :: as => .cons rfl (vals_refs as)
def tLZ (K : PySem.W.Frag) (t : TA) : TE := fun σ H Q => t σ H fun vs H1 => ∃ a b xs ys, vs = [.ref a, .ref b] ∧ SqL K H1 a xs ∧ SqL K H1 b ys ∧
  ∀ (l : Addr) (as : List Addr) (H2 : Hp), (∀ d o, H1 d = some o → H2 d = some o) → H1 l = none → H2 l = some (.lst (as.map V.ref)) → as.length = (xs.zip ys).length →
    (∀ (j : Nat) (x y : V), (xs.zip ys)[j]? = some (x, y) → ∃ p, as[j]? = some p ∧ H1 p = none ∧ p ≠ l ∧ H2 p = some (.tup [x, y])) → Q (.ref l) H2
theorem pe_listZip {X : Cx} {p p2 pos pos2 : Pos} {a b : Expr} {t : TA} (hc : X.calm = true) (hg : Gl X "list") (hm : X.mg "list" = none) (hg2 : Gl X "zip") (hm2 : X.mg "zip" = none) (ha : PA X [a, b] t)
    (hs : starEach [a, b] X.env = (false, eval a X.env) :: starEach [b] X.env := by rfl) (hpl : (backTo pos2 (starEach [b] X.env)).any (·.1) = false := by rfl)
    (hs2 : starEach [.Call (.Name "zip" p2) [a, b] [] pos2] X.env = [(false, eval (.Call (.Name "zip" p2) [a, b] [] pos2) X.env)] := by rfl) :
    PE X (.Call (.Name "list" p) [.Call (.Name "zip" p2) [a, b] [] pos2] [] pos) (tLZ X.K t) := by
  intro pins s σ H Q I h
  refine wpAny_Call_Name_kw (ld_blt I hg hm (by decide +kernel : bootBuiltins "list" = some (.type "list")) ?_ (by decide) (by decide))
  refine PyProof.Rows.callWith_type1 ?_ (by rw [hs2]; rfl) (by rfl)
  rw [hs2]
  show wpAny _ _ (spliced ((false, eval (.Call (.Name "zip" p2) [a, b] [] pos2) X.env) :: backTo pos [])) _ _ s
  refine Calls.spliced_cons ?_
  refine wpAny_Call_Name_kw (ld_blt I hg2 hm2 (by decide +kernel : bootBuiltins "zip" = some (.type "zip")) ?_ (by decide) (by decide))
  refine PyProof.Rows.callWith_type1 (thn (ha pos2 pins s σ H _ I h) fun us s1 q1 => ?_) hs hpl
  obtain ⟨vs, H1, I1, r, la, lb, xs, ys, rfl, hx, hy, q⟩ := q1
  obtain ⟨u, u', rfl, r1, r2⟩ := vals2 r
  cases (show u = Value.ref la from r1)
  cases (show u' = Value.ref lb from r2)
  obtain ⟨ix, vx, px, zx⟩ := I1.list hx
  obtain ⟨iy, vy, py, zy⟩ := I1.list hy
  have lta : la < s1.heap.objs.size := by obtain ⟨_, e, _⟩ := px.isList; exact Heap.lt_size e
  have ltb : lb < s1.heap.objs.size := by obtain ⟨_, e, _⟩ := py.isList; exact Heap.lt_size e
  refine call_zip_2 px.isList py.isList fun h2 e1 e2 e3 e4 e5 sz k2 => ?_
  refine Calls.spliced_nil ?_
  have D := zipApart_new lta ltb
  have lo : ZLow (s1.heap.objs.size + 4) (s1.heap.objs.size + 2) (s1.heap.objs.size + 3) s1.heap.objs.size (s1.heap.objs.size + 1) la lb h2.objs.size :=
    ⟨by rw [sz]; exact Nat.add_lt_add_left (by decide) _, by rw [sz]; exact Nat.add_lt_add_left (by decide) _, by rw [sz]; exact Nat.add_lt_add_left (by decide) _, by rw [sz]; exact Nat.lt_add_of_pos_right (by decide), by rw [sz]; exact Nat.add_lt_add_left (by decide) _,
     by rw [sz]; exact Nat.lt_of_lt_of_le lta (Nat.le_add_right _ _), by rw [sz]; exact Nat.lt_of_lt_of_le ltb (Nat.le_add_right _ _)⟩
  have st : ZSt h2 (s1.heap.objs.size + 4) (s1.heap.objs.size + 2) (s1.heap.objs.size + 3) s1.heap.objs.size (s1.heap.objs.size + 1) la lb h2.objs.size ix.toArray iy.toArray 0 :=
    ⟨e2, e4, e5, px.isList.at fun o e => k2 _ o e, py.isList.at fun o e => k2 _ o e, .inl ⟨e1, _, _, e3⟩⟩
  have len1 : xs.length = ix.length := vx.length
  have len2 : ys.length = iy.length := vy.length
  have mn : min ix.toArray.size iy.toArray.size = (xs.zip ys).length := by simp [len1, len2]
  refine call_listZip (s := { s1 with heap := h2 }) (I.ok.hd hc) D lo st (by simp; omega) fun h3 tk acc c as k3 a1 a2 a3 a4 => ?_
  dsimp only at k3 a1 a3
  have big : s1.heap.objs.size ≤ h2.objs.size := by rw [sz]; exact Nat.le_add_right _ _
  have fr : H1 h2.objs.size = none := I1.hok.fresh big
  have ge : ∀ j p, as[j]? = some p → h2.objs.size < p := fun j p e => (a3.at_ j p e).1
  have zl : ∀ {j x y}, (xs.zip ys)[j]? = some (x, y) → xs[j]? = some x ∧ ys[j]? = some y := fun e => by
    have := List.getElem?_zip_eq_some.mp e
    exact this
  have old : ∀ d o, H1 d = some o → d < s1.heap.objs.size := fun d o e => I1.hok.lt e
  let H2 : Hp := upd (lay2 H1 as (xs.zip ys)) h2.objs.size (.lst (as.map V.ref))
  have nin : ∀ d, d ≤ h2.objs.size → d ∉ as := fun d hd hm => by
    obtain ⟨j, e⟩ := List.mem_iff_getElem?.mp hm
    exact absurd (ge j d e) (Nat.not_lt.mpr hd)
  have out : ∀ d o, H1 d = some o → H2 d = some o := fun d o e => by
    have lt := old d o e
    show upd _ _ _ d = _
    rw [upd_ne (Nat.ne_of_lt (Nat.lt_of_lt_of_le lt big)), lay2_out (nin d (Nat.le_of_lt (Nat.lt_of_lt_of_le lt big)))]
    exact e
  have atl : H2 h2.objs.size = some (.lst (as.map V.ref)) := upd_same
  have atp : ∀ (j : Nat) (x y : V), (xs.zip ys)[j]? = some (x, y) → ∃ p, as[j]? = some p ∧ H1 p = none ∧ p ≠ h2.objs.size ∧ H2 p = some (.tup [x, y]) := fun j x y e => by
    have lj : j < as.length := by rw [a2, mn]; exact (List.getElem?_eq_some_iff.mp e).1
    have ej : as[j]? = some as[j] := List.getElem?_eq_getElem lj
    have g := ge j _ ej
    refine ⟨as[j], ej, I1.hok.fresh (Nat.le_trans big (Nat.le_of_lt g)), Nat.ne_of_gt g, ?_⟩
    show upd _ _ _ _ = _
    rw [upd_ne (Nat.ne_of_gt g)]
    exact lay2_at a3.rise ej e
  refine ⟨.ref h2.objs.size, H2, ?_, rfl, q _ as H2 out fr atl (by rw [a2, mn]) atp⟩
  show Inv X pins σ H2 { s1 with heap := h3, toks := tk }
  refine I1.many (t' := tk) (it := []) (fun b hb => nomatch hb) (fun b u _ e => ?_) out fun b o e => ?_
  · have lt := Heap.lt_size e
    refine k3 b u ?_ ?_ ?_ ?_ (k2 b u e)
    · exact Nat.ne_of_lt (Nat.lt_of_lt_of_le lt (Nat.le_add_right _ _))
    · exact Nat.ne_of_lt (Nat.lt_of_lt_of_le lt (Nat.le_add_right _ _))
    · exact Nat.ne_of_lt lt
    · exact Nat.ne_of_lt (Nat.lt_of_lt_of_le lt (Nat.le_add_right _ _))
  · by_cases z : b = h2.objs.size
    · subst z
      rw [atl] at e
      cases e
      refine .inr ⟨big, ?_, acc.toList, c, ?_, ?_⟩
      · rw [List.length_map, a2, mn, List.length_zip]
        exact Nat.le_trans (Nat.min_le_left _ _) zx
      · rw [a4]
        exact vals_refs as
      · rw [a1]
    · replace e : lay2 H1 as (xs.zip ys) b = some o := by
        have e' : upd _ _ _ b = _ := e
        rw [upd_ne z] at e'
        exact e'
      rcases lay2_inv e with q1 | ⟨j, x, y, ej, ez, rfl⟩
      · exact .inl q1
      · have g := ge j b ej
        obtain ⟨_, u, v, eu, ev, ob⟩ := a3.at_ j b ej
        obtain ⟨zx1, zy1⟩ := zl ez
        have ru : RelV x u := by
          obtain ⟨u', hu, r⟩ := vx.get zx1
          have : u' = u := by simpa [hu] using eu
          rw [← this]; exact r
        have rv : RelV y v := by
          obtain ⟨v', hv, r⟩ := vy.get zy1
          have : v' = v := by simpa [hv] using ev
          rw [← this]; exact r
        exact .inr ⟨Nat.le_trans big (Nat.le_of_lt g), by show 2 ≤ sizeLine; decide, [u, v], .cons ru (.cons rv .nil), _, ob, rfl, _, rfl⟩
def tMaxD (K : PySem.W.Frag) (t : TA) (td : TE) : TE := fun σ H Q => t σ H fun vs H1 => td σ H1 fun y H2 => ∃ (a : Addr) (ns : List Int) (d : Int), vs = [.ref a] ∧ y = .int d ∧ SqL K H2 a (ns.map V.int) ∧
  (ns = [] → Q (.int d) H2) ∧ (ns ≠ [] → ∀ M, M ∈ ns → (∀ z ∈ ns, z ≤ M) → Q (.int M) H2)
theorem pe_maxD {X : Cx} {p kp pos : Pos} {l e : Expr} {tl : TA} {td : TE} (hc : X.calm = true) (hg : Gl X "max") (hm : X.mg "max" = none) (hl : PA X [l] tl) (he : PE X e td)
    (hst : backTo pos (starEach [l] X.env) = (false, eval l X.env) :: backTo pos (starEach [] X.env) := by rfl)
    (hpl : (backTo pos (starEach [l] X.env)).any (·.1) = false := by rfl)
    (hall : (backToKw pos (keywordEach [⟨some "default", e, kp⟩] X.env)).all (·.1.isSome) = true := by rfl)
    (hkw : (backToKw pos (keywordEach [⟨some "default", e, kp⟩] X.env)).any (·.1.isNone) = false := by rfl)
    (hks : (backToKw pos (keywordEach [⟨some "default", e, kp⟩] X.env)).filterMap (·.1) = [Str.ofString "default"] := by rfl) :
    PE X (.Call (.Name "max" p) [l] [⟨some "default", e, kp⟩] pos) (tMaxD X.K tl td) := by
  intro pins s σ H Q I h
  refine wpAny_Call_Name_kw (ld_blt I hg hm (by decide +kernel : bootBuiltins "max" = some (.builtin "max")) ?_ (by decide) (by decide))
  refine PyProof.Rows.callWith_kw ?_ hst hpl hall hkw
  refine thn (hl pos pins s σ H _ I h) fun us s1 q1 => ?_
  obtain ⟨vs, H1, I1, r, q⟩ := q1
  refine kwAll_cons (thn (he pins s1 σ H1 _ I1 q) fun u' s2 q2 => ?_)
  obtain ⟨y, H2, I2, ry, a, ns, d, rfl, rfl, hq, q0, qn⟩ := q2
  obtain ⟨t, rfl⟩ := ry
  obtain ⟨u, rfl, rx⟩ := vals1 r
  cases (show u = Value.ref a from rx)
  refine kwAll_nil ?_
  rw [hks]
  show wpAny _ _ (call (.builtin "max") [.ref a] [("default", .int d t)]) _ _ s2
  obtain ⟨its, r', pl, hz⟩ := I2.list hq
  have hi : IntsAre its ns := intsAre_of r'
  obtain ⟨zs, ez⟩ := hi.allInts.items
  have hns : ns = zs.toList.map (·.1) := by rw [← hi.numsOf, ← nums_intItems, ← ez]
  have hsz : ns.length = zs.size := by rw [hns, List.length_map, Array.length_toList]
  have hl' : s2.heap.IsList a its.toArray := pl.isList
  rw [ez] at hl'
  refine maxD_ints (I2.ok.hd hc) hl' (fun pos' v h2 t2 hv hk => ?_) fun z0 h2 t2 hk => ?_
  · obtain ⟨t', rfl⟩ := intItems_at hv
    obtain ⟨g1, g2⟩ := argBest_gt (numAt zs) (zs.size - 1)
    refine ⟨.int _, H2, I2.kept (h' := h2) (t' := t2) hk, ⟨t', rfl⟩, qn (fun z => by rw [z] at hsz; simp at hsz; omega) _ ?_ fun b hb => ?_⟩
    · rw [hns, numAt_eq]
      exact getD_mem (by rw [List.length_map, Array.length_toList]; omega)
    · rw [hns] at hb
      obtain ⟨j, hj, rfl⟩ := mem_getD hb
      rw [List.length_map, Array.length_toList] at hj
      rw [← numAt_eq]
      exact g2 j (by omega)
  · refine ⟨.int d, H2, I2.kept (h' := h2) (t' := t2) hk, ⟨t, rfl⟩, q0 (List.eq_nil_of_length_eq_zero (by omega))⟩
def iEnum0 (K : PySem.W.Frag) (tl : TA) : TI := fun σ H R => tl σ H fun vs H1 => ∃ a, vs = [.ref a] ∧ (∃ xs, SqL K H1 a xs) ∧ R (Ite K a 0) H1
theorem pi_enum {X : Cx} {elts : List Expr} {x1 : Nat} {tp p pos : Pos} {l : Expr} {tl : TA} (hg : Gl X "enumerate") (hm : X.mg "enumerate" = none) (hl : PA X [l] tl)
    (he : starEach [l] X.env = (false, eval l X.env) :: starEach [] X.env := by rfl) (hpl : (backTo pos (starEach [] X.env)).any (·.1) = false := by rfl) :
    PI X (.Tuple elts x1 tp) (.Call (.Name "enumerate" p) [l] [] pos) (iEnum0 X.K tl) := by
  intro pins s σ H R I h
  refine wpAny_Call_Name_kw (ld_blt I hg hm (by decide +kernel : bootBuiltins "enumerate" = some (.type "enumerate")) ?_ (by decide) (by decide))
  refine PyProof.Rows.callWith_type1 (thn (hl pos pins s σ H _ I h) fun us s1 q1 => ?_) he hpl
  obtain ⟨vs, H2, I2, r, a, rfl, ⟨xs, hq⟩, qR⟩ := q1
  obtain ⟨u, rfl, rx⟩ := vals1 r
  cases (show u = Value.ref a from rx)
  obtain ⟨its, rv, p, hz⟩ := I2.list hq
  refine call_enumerate_list p.isList fun h1 e1 e2 z1 kp => ?_
  have I3 : Inv X pins σ H2 { s1 with heap := h1 } := I2.kept (t' := s1.toks) kp
  have ne : s1.heap.objs.size + 1 ≠ s1.heap.objs.size := Nat.succ_ne_self _
  refine wpAny_pyIter_enum e1 ⟨_, _, _, _, H2, rfl, I3, turn_enum a _ _ 0 ne, ⟨⟨.none, by simpa using e1⟩, e2⟩, fun b hb => ?_, qR⟩
  rcases List.mem_cons.mp hb with z | z
  · subst z
    exact I2.fpOk (Nat.le_succ _) (I2.hok.fresh (Nat.le_succ _))
  · have z : b = s1.heap.objs.size := by simpa using z
    subst z
    exact I2.fpOk (Nat.le_refl _) I2.fresh
def rIsiL (K : PySem.W.Frag) : List V → Hp → VK → Prop := fun xs H Q => ∃ (a : Addr) (ys : List V) (m : String) (q : Bool), xs = [.ref a, .ty m] ∧ SqL K H a ys ∧ PySem.W.kitOne K (.type "list") (.type m) = some q ∧ Q (.bl q) H
theorem call_isiL {X : Cx} : CallR X (.builtin "isinstance") (rIsiL X.K) := by
  intro pins s σ H xs us Q I r h
  obtain ⟨a, ys, m, b, rfl, hq, e, q⟩ := h
  obtain ⟨u, u', rfl, r1, r2⟩ := vals2 r
  cases (show u' = Value.type m from r2)
  cases (show u = Value.ref a from r1)
  obtain ⟨its, _, pl, _⟩ := I.list hq
  obtain ⟨o, n, e1, e2, _⟩ := pl
  exact PySem.W.kia_one PySem.W.kitx_list I.kIn ⟨o, e1, e2⟩ e (fun z => nomatch z) fun tk => ⟨.bl b, H, I.tok tk, rfl, q⟩
theorem slK {X : Cx} {K : PySem.W.Frag} {r : PySem.W.Frag → V → Option Int → Option Int → Hp → VK → Prop} (h : SlR X (r X.K)) (e : X.K = K) : SlR X (r K) := by
  subst e; exact h
section
variable {K : PySem.W.Frag} {n b c : St → Hp → Prop} {r Q : VK} {σ : St} {H : Hp} {t u tb : TS} {te tv ta td : TE} {tc : TT} {g : TG} {tx tl : TA} {f : Str}
theorem rd_iEnum0 {R : It → Hp → Prop} (h : tl σ H fun vs H1 => ∃ a, vs = [.ref a] ∧ (∃ xs, SqL K H1 a xs) ∧ R (Ite K a 0) H1) : iEnum0 K tl σ H R := h
theorem rd_lz (h : tx σ H fun vs H1 => ∃ a b xs ys, vs = [.ref a, .ref b] ∧ SqL K H1 a xs ∧ SqL K H1 b ys ∧
  ∀ (l : Addr) (as : List Addr) (H2 : Hp), (∀ d o, H1 d = some o → H2 d = some o) → H1 l = none → H2 l = some (.lst (as.map V.ref)) → as.length = (xs.zip ys).length →
    (∀ (j : Nat) (x y : V), (xs.zip ys)[j]? = some (x, y) → ∃ p, as[j]? = some p ∧ H1 p = none ∧ p ≠ l ∧ H2 p = some (.tup [x, y])) → Q (.ref l) H2) : tLZ K tx σ H Q := h
theorem rd_maxD (h : tx σ H fun vs H1 => td σ H1 fun y H2 => ∃ (a : Addr) (ns : List Int) (d : Int), vs = [.ref a] ∧ y = .int d ∧ SqL K H2 a (ns.map V.int) ∧
  (ns = [] → Q (.int d) H2) ∧ (ns ≠ [] → ∀ M, M ∈ ns → (∀ z ∈ ns, z ≤ M) → Q (.int M) H2)) : tMaxD K tx td σ H Q := h
theorem rd_sfldF (h : tv σ H fun y H1 => ta σ H1 fun x H2 => ∃ a C dx fs, x = .ref a ∧ H2 a = some (.ins C dx fs) ∧ Cls K C ∧ NoAttr K C f ∧ fs.length < 1000 ∧ n σ (upd H2 a (.ins C dx (putF f y fs)))) : sFld K ta tv f (Ends.mk n r b c) σ H := h
theorem rd_notInI {p : Addr} {ns : List Int} {i : Int} (e : SqL K H p (ns.map V.int)) (h : Q (.bl (!decide (i ∈ ns))) H) : rIn K true (.int i) (.ref p) H Q := ⟨p, _, rfl, .inl e, rfl, flat_ints ns, by rw [in_ints]; exact h⟩
theorem for_enumF {a : Addr} {k : Int} {xs : List V} (Pv : Nat → St → Hp → Prop) (h0 : Pv 0 σ H) (hl : ∀ i σ H, i ≤ xs.length → Pv i σ H → SqL K H a xs)
    (hs : ∀ i x p σ H, xs[i]? = some x → H p = none → Pv i σ H → g (.ref p) σ (upd H p (.tup [.int (k + (i : Nat)), x])) fun σ2 H2 => tb (Ends.mk (Pv (i + 1)) r n (Pv (i + 1))) σ2 H2) (hd : ∀ σ H, Pv xs.length σ H → n σ H) :
    ∃ W : Nat → Nat → St → Hp → Prop, (∃ m, W 0 m σ H) ∧ ∀ i m σ H, W i m σ H →
      ((Ite K a k).stop i H ∧ n σ H) ∨ ((Ite K a k).go i H ∧ ∃ N : St → Hp → Prop, (∀ σ' H', N σ' H' → ∃ m', m' < m ∧ W (i + 1) m' σ' H') ∧ ∀ x H', (Ite K a k).yld i H x H' → g x σ H' fun σ2 H2 => tb (Ends.mk N r n N) σ2 H2) :=
  for_enum (D := Ends.mk n r (fun _ _ => False) (fun _ _ => False)) Pv h0 hl hs hd
theorem while_byF (Pv : St → Hp → Prop) (μ : St → Nat) (h0 : Pv σ H)
    (hs : ∀ σ H, Pv σ H → tc σ H fun q H1 => if q = true then tb (Ends.mk (fun σ' H' => Pv σ' H' ∧ μ σ' < μ σ) r n (fun σ' H' => Pv σ' H' ∧ μ σ' < μ σ)) σ H1 else n σ H1)
    (mono : ∀ σ H Q Q', (∀ b H1, Q b H1 → Q' b H1) → tc σ H Q → tc σ H Q') : tWhile tc tb (Ends.mk n r b c) σ H :=
  while_by (D := Ends.mk n r b c) Pv (fun σ _ => μ σ) h0 hs mono
theorem rd_isiL {a : Addr} {ys : List V} {m : String} {q : Bool} (y : SqL K H a ys) (e : PySem.W.kitOne K (.type "list") (.type m) = some q) (h : Q (.bl q) H) : rIsiL K [.ref a, .ty m] H Q := ⟨a, ys, m, q, rfl, y, e, h⟩
end
end L2
namespace Mine
def partsFrom (row : List Int) : Nat → Int → List Nat → List Int
  | p, s, [] => [s + (row.drop p).sum]
  | p, s, c :: cs => (s + ((row.drop p).take (c - p)).sum) :: partsFrom row c 0 cs
def lawParts (C : List Nat) : Nat → List Int → Int → List Int
  | _, [], s => [s]
  | p, x :: xs, s => if p ∈ C then s :: lawParts C (p + 1) xs x else lawParts C (p + 1) xs (s + x)
def Rising : Nat → Nat → List Nat → Prop
  | _, _, [] => True
  | lo, n, c :: cs => lo ≤ c ∧ c < n ∧ Rising (c + 1) n cs
theorem Rising.mono {n : Nat} : ∀ {lo lo' : Nat} {cs : List Nat}, Rising lo n cs → lo' ≤ lo → Rising lo' n cs
  | _, _, [], _, _ => trivial
  | _, _, _ :: _, ⟨h1, h2, h3⟩, h => ⟨Nat.le_trans h h1, h2, h3⟩
theorem Rising.mem {n : Nat} : ∀ {lo : Nat} {cs : List Nat}, Rising lo n cs → ∀ c ∈ cs, lo ≤ c ∧ c < n
  | _, [], _, c, h => by cases h
  | lo, d :: cs, ⟨h1, h2, h3⟩, c, h => by
    rcases List.mem_cons.mp h with rfl | h
    · exact ⟨h1, h2⟩
    · have := Rising.mem h3 c h
      exact ⟨by omega, this.2⟩
theorem Rising.len {n : Nat} : ∀ {lo : Nat} {cs : List Nat}, Rising lo n cs → lo ≤ n → cs.length + lo ≤ n
  | _, [], _, h => by simpa using h
  | lo, d :: cs, ⟨h1, h2, h3⟩, _ => by
    have := Rising.len h3 (by omega)
    simp only [List.length_cons]; omega
theorem partsFrom_step {row : List Int} {p : Nat} {s : Int} (hp : p < row.length) : ∀ {cs : List Nat}, (∀ c ∈ cs, p < c) → partsFrom row p s cs = partsFrom row (p + 1) (s + row[p]) cs
  | [], _ => by
    simp only [partsFrom]
    rw [List.drop_eq_getElem_cons hp, List.sum_cons, Int.add_assoc]
  | c :: cs, h => by
    have hc := h c (List.mem_cons_self ..)
    simp only [partsFrom]
    rw [List.drop_eq_getElem_cons hp, show c - p = (c - (p + 1)) + 1 by omega, List.take_succ_cons, List.sum_cons, Int.add_assoc]
theorem lawParts_eq {row : List Int} {C : List Nat} : ∀ (k p : Nat) (s : Int) (cs : List Nat), row.length - p = k → p ≤ row.length → Rising p row.length cs → (∀ q, p ≤ q → (q ∈ C ↔ q ∈ cs)) →
    lawParts C p (row.drop p) s = partsFrom row p s cs := by
  intro k
  induction k with
  | zero =>
    intro p s cs hk hp hr _
    have hd : row.drop p = [] := List.drop_eq_nil_of_le (by omega)
    cases cs with
    | nil => rw [hd]; simp [lawParts, partsFrom, hd]
    | cons c cs => exact absurd (hr.2.1) (by have := hr.1; omega)
  | succ k ih =>
    intro p s cs hk hp hr hm
    have hlt : p < row.length := by omega
    rw [List.drop_eq_getElem_cons hlt]
    by_cases hin : p ∈ C
    · have hc := (hm p (Nat.le_refl p)).mp hin
      cases cs with
      | nil => cases hc
      | cons c cs =>
        have e : c = p := by
          rcases List.mem_cons.mp hc with h | h
          · exact h.symm
          · have := (hr.2.2).mem p h
            have := hr.1
            omega
        subst e
        simp only [lawParts, if_pos hin, partsFrom, Nat.sub_self, List.take_zero, List.sum_nil, Int.add_zero]
        congr 1
        rw [partsFrom_step hlt fun d hd => by have := (hr.2.2).mem d hd; omega, Int.zero_add]
        refine ih (c + 1) _ cs (by omega) hlt hr.2.2 fun q hq => ?_
        rw [hm q (by omega), List.mem_cons]
        exact ⟨fun h => h.resolve_left (by omega), .inr⟩
    · have hnc : p ∉ cs := fun h => hin ((hm p (Nat.le_refl p)).mpr h)
      simp only [lawParts, if_neg hin]
      rw [partsFrom_step hlt fun d hd => by
        have := hr.mem d hd
        have : d ≠ p := fun e => hnc (e ▸ hd)
        omega]
      refine ih (p + 1) _ cs (by omega) hlt ?_ fun q hq => hm q (by omega)
      cases cs with
      | nil => trivial
      | cons c cs =>
        have : c ≠ p := fun e => hnc (e ▸ List.mem_cons_self ..)
        exact ⟨by have := hr.1; omega, hr.2.1, hr.2.2⟩
theorem lawParts_cuts {row : List Int} {cs : List Nat} (h : Rising 1 row.length cs) : lawParts cs 0 row 0 = partsFrom row 0 0 cs := by
  have := lawParts_eq (row := row) (C := cs) _ 0 0 cs rfl (Nat.zero_le _) (h.mono (Nat.zero_le _)) fun _ _ => Iff.rfl
  simpa using this
theorem sum_bound {M : Int} (hM : 0 ≤ M) : ∀ {xs : List Int}, (∀ x ∈ xs, 0 ≤ x ∧ x ≤ M) → 0 ≤ xs.sum ∧ xs.sum ≤ M * xs.length
  | [], _ => by simp
  | x :: xs, h => by
    have h1 := h x (List.mem_cons_self ..)
    have h2 := sum_bound hM (xs := xs) fun y hy => h y (List.mem_cons_of_mem _ hy)
    simp only [List.sum_cons, List.length_cons, Int.natCast_add, Int.natCast_one, Int.mul_add, Int.mul_one]
    omega
end Mine
namespace Mine
open PySem L2
seal L2.PS L2.PSs L2.PE L2.PT L2.PW L2.PA L2.PI L2.PG L2.PGs L2.PF L2.PC L2.PO
local macro_rules | `(tactic| walk_at "rd") => `(tactic| repeat' (first | (with_reducible refine rd_seqF ?_) | (with_reducible refine rd_seq ?_)   | ((with_reducible apply rd_var); exact rfl) | (with_reducible refine rd_c ?_) | (with_reducible refine rd_asgF ?_) | (with_reducible refine rd_asg ?_) | (with_reducible refine rd_name ?_) | (with_reducible refine rd_if ?_) | (with_reducible refine rd_retF ?_) | (with_reducible refine rd_ret ?_) | (with_reducible refine rd_dropF ?_) | (with_reducible refine rd_drop ?_) | (with_reducible refine rd_nextF ?_) | (with_reducible refine rd_next ?_) | (with_reducible refine rd_op ?_) | (with_reducible refine rd_un ?_) | (with_reducible refine rd_test ?_) | (with_reducible refine rd_tB ?_) | (with_reducible refine rd_bl ?_) | (with_reducible refine rd_and ?_) | (with_reducible refine rd_or ?_) | (with_reducible refine rd_not ?_) | (with_reducible refine rd_andV ?_) | (with_reducible refine rd_orV ?_) | (with_reducible refine rd_notV ?_) | (with_reducible refine rd_cons ?_) | (with_reducible refine rd_nil ?_) | (with_reducible refine rd_ints ?_) | (with_reducible refine rd_cb ?_) | (with_reducible refine rd_cl ?_) | (with_reducible refine rd_lst ?_) | (with_reducible refine rd_tup ?_) | (with_reducible refine rd_I0 ?_) | (with_reducible refine rd_U ?_) | (with_reducible refine rd_eqI ?_) | (with_reducible refine rd_neI ?_) | (with_reducible refine rd_eqB ?_) | (with_reducible refine rd_neB ?_) | (with_reducible refine rd_chain ?_) | (with_reducible refine rd_chain3 ?_) | (with_reducible refine rd_isB ?_) | (with_reducible refine rd_notB ?_) | (with_reducible refine rd_abs ?_) | (with_reducible refine rd_parF ?_) | (with_reducible refine rd_par ?_) | (with_reducible refine rd_par3F ?_) | (with_reducible refine rd_par3 ?_) | (with_reducible refine rd_two ?_) | (with_reducible refine rd_three ?_) | (with_reducible refine rd_bm ?_) | (with_reducible refine rd_bm0 ?_) | (with_reducible refine rd_sl ?_) | (with_reducible refine rd_part ?_) | (with_reducible refine rd_nopart ?_) | (with_reducible refine rd_int ?_) | (with_reducible refine rd_forF ?_) | (with_reducible refine rd_for ?_) | (with_reducible refine rd_iList ?_) | (with_reducible refine rd_iRng1 ?_) | (with_reducible refine rd_iRng2 ?_) | (with_reducible refine rd_iEnum ?_) | (with_reducible refine rd_comp ?_) | (with_reducible refine rd_gsub ?_) | (with_reducible refine rd_methT ?_) | (with_reducible refine rd_fldT ?_) | (with_reducible refine rd_mkT ?_) | (with_reducible refine rd_max2 ?_) | (with_reducible refine rd_min2 ?_) | (with_reducible refine rd_clE ?_) | (with_reducible refine rd_ifE ?_) | (with_reducible refine rd_iTup ?_) | (with_reducible refine rd_rev ?_) | (with_reducible refine rd_iRng3 ?_) | (with_reducible refine rd_range1 ?_) | (with_reducible refine rd_iEnum0 ?_) | (with_reducible refine rd_lz ?_) | (with_reducible refine rd_maxD ?_) | (with_reducible refine rd_fs ?_) | (with_reducible refine rd_sfldF ?_) | (with_reducible refine iteT ?_) | (with_reducible refine iteF ?_) | ((with_reducible apply rd_lenI); assumption) | ((with_reducible apply rd_len); assumption) | ((with_reducible apply rd_sum); assumption)))
local macro_rules | `(tactic| walk_at "rr") => `(tactic| repeat' (first | (with_reducible refine rd_seqF ?_) | (with_reducible refine rd_seq ?_)   | ((with_reducible apply rd_var); exact rfl) | (with_reducible refine rd_c ?_) | (with_reducible refine rd_asgF ?_) | (with_reducible refine rd_asg ?_) | (with_reducible refine rd_name ?_) | (with_reducible refine rd_if ?_) | (with_reducible refine rd_retF ?_) | (with_reducible refine rd_ret ?_) | (with_reducible refine rd_dropF ?_) | (with_reducible refine rd_drop ?_) | (with_reducible refine rd_nextF ?_) | (with_reducible refine rd_next ?_) | (with_reducible refine rd_op ?_) | (with_reducible refine rd_un ?_) | (with_reducible refine rd_test ?_) | (with_reducible refine rd_tB ?_) | (with_reducible refine rd_bl ?_) | (with_reducible refine rd_and ?_) | (with_reducible refine rd_or ?_) | (with_reducible refine rd_not ?_) | (with_reducible refine rd_andV ?_) | (with_reducible refine rd_orV ?_) | (with_reducible refine rd_notV ?_) | (with_reducible refine rd_cons ?_) | (with_reducible refine rd_nil ?_) | (with_reducible refine rd_ints ?_) | (with_reducible refine rd_cb ?_) | (with_reducible refine rd_cl ?_) | (with_reducible refine rd_lst ?_) | (with_reducible refine rd_tup ?_) | (with_reducible refine rd_I0 ?_) | (with_reducible refine rd_U ?_) | (with_reducible refine rd_eqI ?_) | (with_reducible refine rd_neI ?_) | (with_reducible refine rd_eqB ?_) | (with_reducible refine rd_neB ?_) | (with_reducible refine rd_chain ?_) | (with_reducible refine rd_chain3 ?_) | (with_reducible refine rd_isB ?_) | (with_reducible refine rd_notB ?_) | (with_reducible refine rd_abs ?_) | (with_reducible refine rd_parF ?_) | (with_reducible refine rd_par ?_) | (with_reducible refine rd_par3F ?_) | (with_reducible refine rd_par3 ?_) | (with_reducible refine rd_two ?_) | (with_reducible refine rd_three ?_) | (with_reducible refine rd_bm ?_) | (with_reducible refine rd_bm0 ?_) | (with_reducible refine rd_sl ?_) | (with_reducible refine rd_part ?_) | (with_reducible refine rd_nopart ?_) | (with_reducible refine rd_int ?_) | (with_reducible refine rd_forF ?_) | (with_reducible refine rd_for ?_) | (with_reducible refine rd_iList ?_) | (with_reducible refine rd_iRng1 ?_) | (with_reducible refine rd_iRng2 ?_) | (with_reducible refine rd_iEnum ?_) | (with_reducible refine rd_comp ?_) | (with_reducible refine rd_gsub ?_) | (with_reducible refine rd_methT ?_) | (with_reducible refine rd_fldT ?_) | (with_reducible refine rd_mkT ?_) | (with_reducible refine rd_max2 ?_) | (with_reducible refine rd_min2 ?_) | (with_reducible refine rd_clE ?_) | (with_reducible refine rd_ifE ?_) | (with_reducible refine rd_iTup ?_) | (with_reducible refine rd_rev ?_) | (with_reducible refine rd_iRng3 ?_) | (with_reducible refine rd_range1 ?_) | (with_reducible refine rd_iEnum0 ?_) | (with_reducible refine rd_lz ?_) | (with_reducible refine rd_maxD ?_) | (with_reducible refine rd_fs ?_) | (with_reducible refine rd_sfldF ?_) | (with_reducible refine iteNT ?_) | (with_reducible refine iteNF ?_) | (with_reducible refine iteT ?_) | (with_reducible refine iteF ?_) | ((with_reducible apply rd_lenI); assumption) | ((with_reducible apply rd_len); assumption) | ((with_reducible apply rd_sum); assumption)))
def top (i : Nat) : Stmt := PySem.Challenge.pw_cutrow_k05_answers_by_hand.main.body.getD i (.Pass ⟨0, 0, 0, 0⟩)
theorem boot_sum : bootBuiltins "sum" = some (.builtin "sum") := by decide +kernel
theorem boot_all : bootBuiltins "all" = some (.builtin "all") := by decide +kernel
theorem boot_isinstance : bootBuiltins "isinstance" = some (.builtin "isinstance") := by decide +kernel
theorem boot_max : bootBuiltins "max" = some (.builtin "max") := by decide +kernel
theorem boot_min : bootBuiltins "min" = some (.builtin "min") := by decide +kernel
theorem boot_int : bootBuiltins "int" = some (.type "int") := by decide +kernel
theorem boot_bool : bootBuiltins "bool" = some (.type "bool") := by decide +kernel
theorem boot_list : bootBuiltins "list" = some (.type "list") := by decide +kernel
theorem boot_tuple : bootBuiltins "tuple" = some (.type "tuple") := by decide +kernel
structure Txt (mg : Str → Option Value) : Prop where
  b_len : mg "len" = none
  b_sum : mg "sum" = none
  b_any : mg "any" = none
  b_all : mg "all" = none
  b_isinstance : mg "isinstance" = none
  b_max : mg "max" = none
  b_min : mg "min" = none
  b_int : mg "int" = none
  b_bool : mg "bool" = none
  b_list : mg "list" = none
  b_tuple : mg "tuple" = none
  b_range : mg "range" = none
  b_enumerate : mg "enumerate" = none
  b_zip : mg "zip" = none
  g_MOST_LOAD : ∃ t, mg "MOST_LOAD" = some (.int 1000000 t)
  g_MOST_LOADS : ∃ t, mg "MOST_LOADS" = some (.int 1000000 t)
structure CA where
  Fewest : Addr
  Great : Addr
  Least : Addr
  Most : Addr
structure Cl (K : PySem.W.Frag) (mg : Str → Option Value) (a : CA) : Prop where
  m_Fewest : mg "Fewest" = some (.ref a.Fewest)
  y_Fewest : InsTy K a.Fewest
  m_Great : mg "Great" = some (.ref a.Great)
  y_Great : InsTy K a.Great
  m_Least : mg "Least" = some (.ref a.Least)
  y_Least : InsTy K a.Least
  m_Most : mg "Most" = some (.ref a.Most)
  y_Most : InsTy K a.Most
  n_Fewest_cuts : NoAttr K a.Fewest "cuts"
  n_Fewest_stretches : NoAttr K a.Fewest "stretches"
  n_Great_place : NoAttr K a.Great "place"
  n_Least_cuts : NoAttr K a.Least "cuts"
  n_Least_number : NoAttr K a.Least "number"
  n_Least_stretches : NoAttr K a.Least "stretches"
  n_Most_cuts : NoAttr K a.Most "cuts"
  n_Most_places : NoAttr K a.Most "places"
theorem kit_int_int (K : PySem.W.Frag) : PySem.W.kitOne K (.type "int") (.type "int") = some true := by unfold PySem.W.kitOne; rfl
theorem kit_list_list (K : PySem.W.Frag) : PySem.W.kitOne K (.type "list") (.type "list") = some true := by unfold PySem.W.kitOne; rfl
theorem kit_int_bool (K : PySem.W.Frag) : PySem.W.kitOne K (.type "int") (.type "bool") = some false := by first | rfl | (unfold PySem.W.kitOne; decide +kernel)
theorem at_int {ns : List Int} {i : Nat} {y : V} (h : (ns.map V.int)[i]? = some y) : ∃ z, y = .int z ∧ ns[i]? = some z := by
  rw [List.getElem?_map] at h
  cases e : ns[i]? with
  | none => rw [e] at h; cases h
  | some z => rw [e] at h; exact ⟨z, (Option.some.inj h).symm, rfl⟩
theorem lt_of_at {α : Type} {xs : List α} {i : Nat} {z : α} (h : xs[i]? = some z) : i < xs.length := (List.getElem?_eq_some_iff.mp h).1
theorem mem_of_at {α : Type} {xs : List α} {i : Nat} {z : α} (h : xs[i]? = some z) : z ∈ xs := List.mem_of_getElem? h
theorem drop_at {α : Type} {xs : List α} {i : Nat} {z : α} (h : xs[i]? = some z) : xs.drop i = z :: xs.drop (i + 1) := by
  obtain ⟨hi, e⟩ := List.getElem?_eq_some_iff.mp h
  rw [List.drop_eq_getElem_cons hi, e]
theorem same_new {H : Hp} {p : Addr} (h : H p = none) (o : HO) : Same H (upd H p o) := fun b u q => by rw [upd_ne (ne_of_none q h)]; exact q
theorem small {n : Nat} (h : n ≤ 1000) : n ≤ sizeLine := Nat.le_of_lt (small1000 h)
def Good (ns : List Int) : Prop := ∀ x ∈ ns, 0 ≤ x ∧ x ≤ 1000000
def ic (cs : List Nat) : List Int := cs.map fun c : Nat => (c : Int)
theorem ic_len (cs : List Nat) : (ic cs).length = cs.length := List.length_map _
theorem at_ic {cs : List Nat} {i : Nat} {z : Int} (h : (ic cs)[i]? = some z) : ∃ c : Nat, z = c ∧ cs[i]? = some c := by
  unfold ic at h
  rw [List.getElem?_map] at h
  cases e : cs[i]? with
  | none => rw [e] at h; cases h
  | some c => rw [e] at h; exact ⟨c, (Option.some.inj h).symm, rfl⟩
theorem Rising.at {n : Nat} : ∀ {lo : Nat} {cs : List Nat} {i c : Nat}, Rising lo n cs → cs[i]? = some c → lo ≤ c ∧ c < n ∧ ∀ d, i ≠ 0 → cs[i - 1]? = some d → d < c
  | _, [], _, _, _, e => by simp at e
  | lo, c0 :: cs, 0, c, ⟨h1, h2, _⟩, e => by
    have : c0 = c := by simpa using e
    subst this
    exact ⟨h1, h2, fun _ z => absurd rfl z⟩
  | lo, c0 :: cs, i + 1, c, ⟨h1, h2, h3⟩, e => by
    have q := Rising.at (i := i) (c := c) h3 (by simpa using e)
    refine ⟨by omega, q.2.1, fun d _ ed => ?_⟩
    cases i with
    | zero =>
      have : c0 = d := by simpa using ed
      omega
    | succ i => exact q.2.2 d (by omega) (by simpa using ed)
theorem cut_ints (ns : List Int) (lo hi : Option Int) : cutV (ns.map V.int) lo hi = (((ns.drop (HT.sIx ns.length 0 lo)).take (HT.sIx ns.length ns.length hi - HT.sIx ns.length 0 lo))).map V.int := by
  unfold cutV
  rw [List.length_map, List.map_take, List.map_drop]
def spCell (K : PySem.W.Frag) : Sp := fun vs H Q _ => ∃ (a : Addr) (ns : List Int) (k : Int), vs = [.ref a, .int k] ∧ SqL K H a (ns.map V.int) ∧ 0 ≤ k ∧ ∀ v, Q (.int v) H
def spDraw : Sp := fun vs H Q _ => ∃ c k m : Int, vs = [.int c, .int k, .int m] ∧ 0 ≤ k ∧ 0 < m ∧ ∀ (r : Int) (H' : Hp), 0 ≤ r → r < m → Same H H' → Q (.int r) H'
def spRow (K : PySem.W.Frag) : Sp := fun vs H Q _ => ∃ (a : Addr) (ns : List Int), vs = [.ref a] ∧ SqL K H a (ns.map V.int) ∧ ns.length ≤ 63 ∧
  ∀ (r : Addr) (H' : Hp) (ms : List Int), ms.length = ns.length → Good ms → Same H H' → H r = none → H' r = some (.lst (ms.map V.int)) → Q (.ref r) H'
def lawBorne (ns : List Int) (cs : List Nat) : List Int := if ns = [] then [] else lawParts cs 0 ns 0
def spLawBorne (K : PySem.W.Frag) : Sp := fun vs H Q _ => ∃ (a b : Addr) (ns : List Int) (cs : List Nat), vs = [.ref a, .ref b] ∧ SqL K H a (ns.map V.int) ∧ SqL K H b ((ic cs).map V.int) ∧ ns.length ≤ 63 ∧
  ∀ (r : Addr) (H' : Hp), Same H H' → H r = none → H' r = some (.lst ((lawBorne ns cs).map V.int)) → Q (.ref r) H'
def risingB (n : Int) : Int → List Int → Bool
  | _, [] => true
  | last, c :: cs => decide (last < c) && decide (c < n) && risingB n c cs
def spRising (K : PySem.W.Frag) : Sp := fun vs H Q _ => ∃ (a : Addr) (lo n : Int) (ns : List Int), vs = [.ref a, .int lo, .int n] ∧ SqL K H a (ns.map V.int) ∧ Q (.bl (risingB n (lo - 1) ns)) H
def bear (row : List Int) (f e : Int) : Int := ((row.drop f.toNat).take ((e + 1).toNat - f.toNat)).sum
def linkedB (row : List Int) (least : Int) : Int → List (Int × Int) → Bool
  | _, [] => true
  | last, (f, e) :: r => decide (last ≤ f) && decide (f < e) && decide (e < row.length) && !decide (bear row f e < least) && linkedB row least e r
def PairsAt (K : PySem.W.Frag) (H : Hp) : List V → List (Int × Int) → Prop
  | [], [] => True
  | x :: xs, (f, e) :: ps => (∃ p, x = .ref p ∧ SqT K H p [.int f, .int e]) ∧ PairsAt K H xs ps
  | _, _ => False
theorem PairsAt.len {K : PySem.W.Frag} {H : Hp} : ∀ {xs : List V} {ps : List (Int × Int)}, PairsAt K H xs ps → xs.length = ps.length
  | [], [], _ => rfl
  | _ :: _, (_, _) :: _, ⟨_, h⟩ => by rw [List.length_cons, List.length_cons, h.len]
  | [], _ :: _, h => h.elim
  | _ :: _, [], h => h.elim
theorem PairsAt.at {K : PySem.W.Frag} {H : Hp} : ∀ {xs : List V} {ps : List (Int × Int)} {i : Nat} {x : V}, PairsAt K H xs ps → xs[i]? = some x → ∃ p f e, ps[i]? = some (f, e) ∧ x = .ref p ∧ SqT K H p [.int f, .int e]
  | [], [], _, _, _, h => by simp at h
  | x :: xs, (f, e) :: ps, 0, y, ⟨⟨p, hp, ht⟩, _⟩, h => by
    have : x = y := by simpa using h
    subst this
    exact ⟨p, f, e, rfl, hp, ht⟩
  | x :: xs, (f, e) :: ps, i + 1, y, ⟨_, hr⟩, h => by
    obtain ⟨p, f', e', h1, h2⟩ := hr.at (i := i) (x := y) (by simpa using h)
    exact ⟨p, f', e', by simpa using h1, h2⟩
  | [], _ :: _, _, _, h, _ => h.elim
  | _ :: _, [], _, _, h, _ => h.elim
theorem _root_.L2.Same.tup {K : PySem.W.Frag} {H H' : Hp} {a : Addr} {xs : List V} (e : Same H H') (h : SqT K H a xs) : SqT K H' a xs := by
  rcases h with h | h
  · rcases h with h | ⟨o, h⟩
    · exact .inl (.inl (e _ _ h))
    · exact .inl (.inr ⟨o, e _ _ h⟩)
  · exact .inr h
theorem PairsAt.same {K : PySem.W.Frag} {H H' : Hp} (s : Same H H') : ∀ {xs : List V} {ps : List (Int × Int)}, PairsAt K H xs ps → PairsAt K H' xs ps
  | [], [], _ => trivial
  | _ :: _, (_, _) :: _, ⟨⟨p, h1, h2⟩, h⟩ => ⟨⟨p, h1, s.tup h2⟩, h.same s⟩
  | [], _ :: _, h => h.elim
  | _ :: _, [], h => h.elim
def spLinked (K : PySem.W.Frag) : Sp := fun vs H Q _ => ∃ (a b : Addr) (least : Int) (row : List Int) (xs : List V) (ps : List (Int × Int)), vs = [.ref a, .ref b, .int least] ∧ SqL K H a (row.map V.int) ∧ SqL K H b xs ∧ PairsAt K H xs ps ∧
  ∀ H', Same H H' → Q (.bl (linkedB row least 0 ps)) H'
section
variable {P : Program} {w : World} {K : PySem.W.Frag} {mg : Str → Option Value} {base : Heap} {f : Addr} {fd : FuncData}
theorem at_place {ns : List Int} {k : Int} (h0 : 0 ≤ k) (h : k < ns.length) : ∃ v, ns[k.toNat]? = some v ∧ atI (ns.map V.int) k = some (.int v) := by
  have hk : k.toNat < ns.length := by omega
  refine ⟨ns[k.toNat], by simp [hk], ?_⟩
  have e : k = ((k.toNat : Nat) : Int) := by omega
  have q : atI (ns.map V.int) ((k.toNat : Nat) : Int) = some (.int ns[k.toNat]) := atI_nat (by simp [hk])
  rw [← e] at q
  exact q
theorem sc_cell : FnScope ["_law_script", "_law_k"] ["_law_script", "_law_k"] (defScope (top 38)) := ⟨rfl, rfl, rfl, by decide +kernel, rfl, by decide +kernel, by decide +kernel⟩
theorem ok_cell (T : Txt mg) (F : Fun K "_law_cell_at" "_law_cell_at" (top 38) f fd) : FnOk P w K mg base CX0 1 f fd ["_law_script", "_law_k"] (spCell K) := by
  have S := sc_cell
  refine F.ok S (fun vs H Q E h => ?_) (fun cdv A outer s H vs Q E hr h => ?_)
  · obtain ⟨a, ns, k, rfl, _⟩ := h
    rfl
  obtain ⟨a, ns, k, rfl, hS, h0, q⟩ := h
  refine ⟨_, (pss_cons (ps_if (pt_cmpR op_lt (pv 1) (pe_callB call_len' rfl T.b_len PySem.boot_len (pa_cons (pv 0) pa_nil)) (nomark _))
      (pss_one (ps_ret (pe_ix ix_list (pv 0) (pv 1) (fun _ _ => rfl))))
      pss_nil)
    (pss_one (ps_ret pe_int))), ?_⟩
  try dsimp only [cxOf, Cx.nox, Cx.wish]
  walk_at "rd"
  refine ite2 (fun c => ?_) (fun c => ?_)
  · have c := of_decide_eq_true c
    obtain ⟨v, _, e⟩ := at_place h0 c
    walk_at "rd"
    exact rd_ixL hS e (q v)
  · walk_at "rd"
    exact q 0
theorem prime_at {k : Int} (h0 : 0 ≤ k) (h : k < 16) : ∃ p, atI ([1000003, 1000033, 1000037, 1000039, 1000081, 1000099, 1000117, 1000121, 1000133, 1000151, 1000159, 1000171, 1000183, 1000187, 1000193, 1000199].map V.int) k = some (.int p) ∧ 0 < p := by
  obtain ⟨v, e1, e2⟩ := at_place (ns := [1000003, 1000033, 1000037, 1000039, 1000081, 1000099, 1000117, 1000121, 1000133, 1000151, 1000159, 1000171, 1000183, 1000187, 1000193, 1000199]) h0 (by simpa using h)
  refine ⟨v, e2, ?_⟩
  have m := mem_of_at e1
  revert m v
  intro v _ _ m
  simp only [List.mem_cons, List.not_mem_nil, or_false] at m
  omega
theorem menu_at {k : Int} (h0 : 0 ≤ k) (h : k < 4) : ∃ p, atI ([3, 30, 1000001, 10].map V.int) k = some (.int p) ∧ 3 ≤ p ∧ p ≤ 1000001 := by
  obtain ⟨v, e1, e2⟩ := at_place (ns := [3, 30, 1000001, 10]) h0 (by simpa using h)
  refine ⟨v, e2, ?_⟩
  have m := mem_of_at e1
  simp only [List.mem_cons, List.not_mem_nil, or_false] at m
  omega
theorem sc_draw : FnScope ["_law_cell", "_law_k", "_law_many", "_law_primes"] ["_law_cell", "_law_k", "_law_many"] (defScope (top 39)) := ⟨rfl, rfl, rfl, by decide +kernel, rfl, by decide +kernel, by decide +kernel⟩
theorem ok_draw (T : Txt mg) (F : Fun K "_law_draw" "_law_draw" (top 39) f fd) : FnOk P w K mg base CX0 1 f fd ["_law_cell", "_law_k", "_law_many"] spDraw := by
  have S := sc_draw
  refine F.ok S (fun vs H Q E h => ?_) (fun cdv A outer s H vs Q E hr h => ?_)
  · obtain ⟨c, k, m, rfl, _⟩ := h
    rfl
  obtain ⟨c, k, m, rfl, h0, hm, q⟩ := h
  refine ⟨_, (pss_cons (ps_set (i := 3) S.nd rfl (Or.inl rfl) (pe_tup (pa_ints (js := [1000003, 1000033, 1000037, 1000039, 1000081, 1000099, 1000117, 1000121, 1000133, 1000151, 1000159, 1000171, 1000183, 1000187, 1000193, 1000199]) (.cons (.cons (.cons (.cons (.cons (.cons (.cons (.cons (.cons (.cons (.cons (.cons (.cons (.cons (.cons (.cons .nil)))))))))))))))))))
    (pss_one (ps_ret (pe_op op_mod (pe_op op_mod (pe_op op_add (pe_op op_mul (pv 0) pe_int) (pe_op op_mul (pv 1) pe_int)) (pe_ix ix_tup (pv 3) (pe_op op_mod (pv 1) pe_int) (fun _ _ => rfl))) (pv 2))))), ?_⟩
  try dsimp only [cxOf, Cx.nox, Cx.wish]
  walk_at "rd"
  refine ⟨by show 16 ≤ sizeLine; decide, fun p hp => ?_⟩
  walk_at "rd"
  refine rd_I (.inr ⟨by decide, by decide⟩) ?_
  walk_at "rd"
  refine rd_I (.inr ⟨by decide, by decide⟩) ?_
  walk_at "rd"
  refine rd_I (by decide) ?_
  obtain ⟨pr, e, hpr⟩ := prime_at (k := k % 16) (Int.emod_nonneg _ (by decide)) (Int.emod_lt_of_pos _ (by decide))
  refine rd_ixT (SqT.of upd_same) e ?_
  refine rd_I hpr ?_
  walk_at "rd"
  refine rd_I hm ?_
  exact q _ _ (Int.emod_nonneg _ (by omega)) (Int.emod_lt_of_pos _ hm) (same_new hp _)
end
section
variable {P : Program} {w : World} {K : PySem.W.Frag} {mg : Str → Option Value} {base : Heap} {f : Addr} {fd : FuncData}
theorem sc_row : FnScope ["_law_script", "_law_kind", "_law_most", "_law_row_here", "_law_k", "_law_load"] ["_law_script"] (defScope (top 40)) := ⟨rfl, rfl, rfl, by decide +kernel, rfl, by decide +kernel, by decide +kernel⟩
theorem ok_row (T : Txt mg) (C_law_cell_at : Callee P w K mg base "_law_cell_at" ["_law_script", "_law_k"] 1 (spCell K)) (C_law_draw : Callee P w K mg base "_law_draw" ["_law_cell", "_law_k", "_law_many"] 1 spDraw) (F : Fun K "_law_row" "_law_row" (top 40) f fd) :
    FnOk P w K mg base CX0 2 f fd ["_law_script"] (spRow K) := by
  have S := sc_row
  refine F.ok S (fun vs H Q E h => ?_) (fun cdv A outer s H vs Q E hr h => ?_)
  · obtain ⟨a, ns, rfl, _⟩ := h
    rfl
  obtain ⟨a, ns, rfl, hS, hl, q⟩ := h
  refine ⟨_, (pss_cons (ps_set (i := 1) S.nd rfl (Or.inl rfl) (pe_callC C_law_draw (hr.mono (by decide)) rfl (pa_cons (pe_callC C_law_cell_at (hr.mono (by decide)) rfl (pa_cons (pv 0) (pa_cons pe_int pa_nil))) (pa_cons pe_int (pa_cons pe_int pa_nil)))))
    (pss_cons (ps_set (i := 2) S.nd rfl (Or.inl rfl) (pe_ix ix_tup (pe_tup (pa_cons pe_int (pa_cons pe_int (pa_cons pe_int (pa_cons pe_int pa_nil))))) (pe_callC C_law_draw (hr.mono (by decide)) rfl (pa_cons (pe_callC C_law_cell_at (hr.mono (by decide)) rfl (pa_cons (pv 0) (pa_cons pe_int pa_nil))) (pa_cons pe_int (pa_cons pe_int pa_nil)))) (fun _ _ => rfl)))
    (pss_cons (ps_set (i := 3) S.nd rfl (Or.inl rfl) (pe_lst pa_nil))
    (pss_cons (ps_for PassesOwn.never rfl (pi_range1 rfl T.b_range (pa_cons (pe_callB call_len' rfl T.b_len PySem.boot_len (pa_cons (pv 0) pa_nil)) pa_nil)) (pg_name (i := 4) S.nd rfl (Or.inl rfl))
      (pss_cons (ps_set (i := 5) S.nd rfl (Or.inl rfl) (pe_callC C_law_draw (hr.mono (by decide)) rfl (pa_cons (pe_ix ix_list (pv 0) (pv 4) (fun _ _ => rfl)) (pa_cons (pe_op op_add (pe_op op_mod (pv 4) pe_int) pe_int) (pa_cons (pv 2) pa_nil)))))
      (pss_cons (ps_join (ps_if (PW.pt (pw_and (pt_cmpR op_eq (pv 1) pe_int (nomark _)) (pw_and1 (pt_cmpR op_gt (pe_callC C_law_draw (hr.mono (by decide)) rfl (pa_cons (pe_ix ix_list (pv 0) (pv 4) (fun _ _ => rfl)) (pa_cons (pe_op op_add (pe_op op_mod (pv 4) pe_int) pe_int) (pa_cons pe_int pa_nil)))) pe_int (nomark _)))))
        (pss_one (ps_set (i := 5) S.nd rfl (Or.inl rfl) pe_int))
        pss_nil))
      (pss_cons (ps_join (ps_if (pt_cmpR op_eq (pv 1) pe_int (nomark _))
        (pss_one (ps_set (i := 5) S.nd rfl (Or.inl rfl) (pe_op op_add (pe_op op_fdiv (pv 2) pe_int) (pe_op op_mod (pv 5) pe_int))))
        pss_nil))
      (pss_one (ps_expr (pe_bm PySem.F.plainAttrs_list PySem.F.slot_list_append PySem.F.type_list_append mt_append (pv 3) (pa_cons (pv 5) pa_nil))))))))
    (pss_one (ps_ret (pv 3))))))), ?_⟩
  try dsimp only [cxOf, Cx.nox, Cx.wish]
  walk_at "rd"
  refine ⟨a, ns, 0, rfl, hS, by decide, fun v => ?_⟩
  walk_at "rd"
  refine ⟨v, 6, 4, rfl, by decide, by decide, fun kd H1 _ _ s1 => ?_⟩
  walk_at "rd"
  refine ⟨by show 4 ≤ sizeLine; decide, fun p hp => ?_⟩
  have s2 := s1.trans (same_new hp (.tup ([3, 30, 1000001, 10].map V.int)))
  walk_at "rd"
  refine ⟨a, ns, 1, rfl, s2.seq hS, by decide, fun v' => ?_⟩
  walk_at "rd"
  refine ⟨v', 7, 4, rfl, by decide, by decide, fun ix H2 i0 i1 s3 => ?_⟩
  obtain ⟨mo, em, m1, m2⟩ := menu_at i0 i1
  walk_at "rd"
  refine rd_ixT (SqT.of (s3 _ _ upd_same)) em ?_
  walk_at "rd"
  have s4 := s2.trans s3
  refine ⟨Nat.zero_le _, fun r hr' => ?_⟩
  have s5 := s4.trans (same_new hr' (.lst []))
  have hS5 : SqL K (upd H2 r (.lst [])) a (ns.map V.int) := s5.seq hS
  walk_at "rd"
  refine ⟨_, rfl, by omega, by omega, for_rangeF (lo := 0) (k := ns.length) (fun i σ H3 => ∃ (ms : List Int) (v1 v2 : Option V), σ = [some (.ref a), some (.int kd), some (.int mo), some (.ref r), v1, v2] ∧ Same H H3 ∧ H3 r = some (.lst (ms.map V.int)) ∧ ms.length = i ∧ Good ms)
    ⟨[], none, none, rfl, s5, upd_same, rfl, fun x hx => nomatch hx⟩ ?_ ?_⟩
  · rintro i σ H3 hi ⟨ms, v1, v2, rfl, s6, hr6, ml, gm⟩
    obtain ⟨z, _, ez⟩ := at_place (ns := ns) (k := 0 + (i : Nat)) (by omega) (by omega)
    walk_at "rd"
    refine rd_ixL (s6.seq hS) ez ?_
    walk_at "rd"
    refine rd_I (by decide) ?_
    walk_at "rd"
    refine ⟨_, _, _, rfl, (by have := Int.emod_nonneg (0 + (i : Int)) (b := 5) (by decide); omega), by omega, fun ld H4 l0 l1 s7 => ?_⟩
    walk_at "rd"
    refine rd_joinF (fun σ' H5 => ∃ ld : Int, σ' = [some (.ref a), some (.int kd), some (.int mo), some (.ref r), some (.int (0 + (i : Nat))), some (.int ld)] ∧ Same H3 H5 ∧ 0 ≤ ld ∧ ld < mo) ?_ ?_
    · walk_at "rd"
      refine ite2 (fun c => ?_) (fun c => ?_)
      · walk_at "rd"
        refine rd_ixL ((s6.trans s7).seq hS) ez ?_
        walk_at "rd"
        refine rd_I (by decide) ?_
        walk_at "rd"
        refine ⟨_, _, _, rfl, (by have := Int.emod_nonneg (0 + (i : Int)) (b := 7) (by decide); omega), by decide, fun ld' H5 _ _ s8 => ?_⟩
        walk_at "rd"
        refine ite2 (fun c => ?_) (fun c => ?_)
        · walk_at "rd"
          exact ⟨0, rfl, s7.trans s8, Int.le_refl 0, by omega⟩
        · walk_at "rd"
          exact ⟨ld, rfl, s7.trans s8, l0, l1⟩
      · walk_at "rd"
        exact ⟨ld, rfl, s7, l0, l1⟩
    · rintro σ' H5 ⟨ld, rfl, s9, l0, l1⟩
      walk_at "rd"
      refine rd_joinF (fun σ' H6 => ∃ ld : Int, σ' = [some (.ref a), some (.int kd), some (.int mo), some (.ref r), some (.int (0 + (i : Nat))), some (.int ld)] ∧ H6 = H5 ∧ 0 ≤ ld ∧ ld ≤ 1000000) ?_ ?_
      · walk_at "rd"
        refine ite2 (fun c => ?_) (fun c => ?_)
        · walk_at "rd"
          refine rd_I ⟨by decide, by decide⟩ ?_
          walk_at "rd"
          refine rd_I (by decide) ?_
          walk_at "rd"
          have e1 := Int.emod_nonneg ld (b := 2) (by decide)
          have e2 := Int.emod_lt_of_pos ld (b := 2) (by decide)
          exact ⟨_, rfl, rfl, by omega, by omega⟩
        · walk_at "rd"
          exact ⟨ld, rfl, rfl, l0, by omega⟩
      · rintro σ' H6 ⟨ld, rfl, rfl, g0, g1⟩
        have hr7 := s9 _ _ hr6
        walk_at "rd"
        refine ⟨tyL (SqL.of hr7), ?_⟩
        walk_at "rd"
        refine rd_append (xs := ms.map V.int) hr7 (by rw [List.length_map]; exact small1000 (by omega)) ?_
        walk_at "rd"
        refine ⟨ms ++ [ld], _, _, rfl, fun d o zz => ?_, ?_, by rw [List.length_append, ml]; rfl, fun x hx => ?_⟩
        · have z2 := s9 _ _ (s6 d o zz)
          have ne : d ≠ r := fun y => by
            subst y
            have := s4 _ _ zz
            rw [hr'] at this
            cases this
          rw [upd_ne ne]
          exact z2
        · rw [upd_same, List.map_append]
          rfl
        · rcases List.mem_append.mp hx with y | y
          · exact gm x y
          · have y : x = ld := by simpa using y
            subst y
            exact ⟨g0, g1⟩
  · rintro σ H3 ⟨ms, v1, v2, rfl, s6, hr6, ml, gm⟩
    walk_at "rd"
    exact q r H3 ms ml gm s6 (s4.free hr') hr6
end
section
variable {P : Program} {w : World} {K : PySem.W.Frag} {mg : Str → Option Value} {base : Heap} {f : Addr} {fd : FuncData}
end
section
variable {P : Program} {w : World} {K : PySem.W.Frag} {mg : Str → Option Value} {base : Heap} {f : Addr} {fd : FuncData}
theorem ixN_last {n : Nat} : ixN (n + 1) (-1) = some n := by
  unfold ixN
  rw [if_neg (by decide), if_pos (by omega)]
  congr 1
  omega
theorem set_last {α : Type} (xs : List α) (x y : α) : (xs ++ [x]).set xs.length y = xs ++ [y] := by simp
theorem mem_ic {cs : List Nat} {i : Nat} : (0 + (i : Int)) ∈ ic cs ↔ i ∈ cs := by
  unfold ic
  rw [List.mem_map]
  constructor
  · rintro ⟨c, hc, e⟩
    have : c = i := by omega
    exact this ▸ hc
  · intro h
    exact ⟨i, h, by omega⟩
theorem sc_lawborne : FnScope ["_law_row_here", "_law_cuts", "_law_found", "_law_place"] ["_law_row_here", "_law_cuts"] (defScope (top 43)) := ⟨rfl, rfl, rfl, by decide +kernel, rfl, by decide +kernel, by decide +kernel⟩
theorem ok_lawborne (T : Txt mg) (F : Fun K "_law_borne" "_law_borne" (top 43) f fd) : FnOk P w K mg base CX0 1 f fd ["_law_row_here", "_law_cuts"] (spLawBorne K) := by
  have S := sc_lawborne
  refine F.ok S (fun vs H Q E h => ?_) (fun cdv A outer s H vs Q E hr h => ?_)
  · obtain ⟨a, b, ns, cs, rfl, _⟩ := h
    rfl
  obtain ⟨a, b, ns, cs, rfl, hS, hB, hl, q⟩ := h
  refine ⟨_, (pss_cons (ps_if (pt_cmpR (op_eqL' (hr.units0)) (pv 0) (pe_lst pa_nil) (nomark _))
      (pss_one (ps_ret (pe_lst pa_nil)))
      pss_nil)
    (pss_cons (ps_set (i := 2) S.nd rfl (Or.inl rfl) (pe_lst (pa_cons pe_int pa_nil)))
    (pss_cons (ps_for PassesOwn.never rfl (pi_range1 rfl T.b_range (pa_cons (pe_callB call_len' rfl T.b_len PySem.boot_len (pa_cons (pv 0) pa_nil)) pa_nil)) (pg_name (i := 3) S.nd rfl (Or.inl rfl))
      (pss_cons (ps_join (ps_if (pt_cmpR op_in_seq (pv 3) (pv 1) (by with_unfolding_all rfl))
        (pss_one (ps_expr (pe_bm PySem.F.plainAttrs_list PySem.F.slot_list_append PySem.F.type_list_append mt_append (pv 2) (pa_cons pe_int pa_nil))))
        pss_nil))
      (pss_one (ps_asg (pe_op op_add (pe_ix ix_list (pv 2) (pe_un un_neg pe_int) (fun _ _ => rfl)) (pe_ix ix_list (pv 0) (pv 3) (fun _ _ => rfl))) (pg_sub (pv 2) (pe_un un_neg pe_int) set_list)))))
    (pss_one (ps_ret (pv 2)))))), ?_⟩
  try dsimp only [cxOf, Cx.nox, Cx.wish]
  walk_at "rd"
  refine ⟨Nat.zero_le _, fun p0 hp0 => ?_⟩
  have s0 := same_new hp0 (.lst [])
  refine rd_eqL (ms := []) (s0.seq hS) (SqL.of upd_same) ?_
  walk_at "rd"
  refine ite2 (fun c => ?_) (fun c => ?_)
  · have c := of_decide_eq_true c
    walk_at "rd"
    refine ⟨Nat.zero_le _, fun r hr' => ?_⟩
    exact q r _ (s0.trans (same_new hr' _)) (s0.free hr') (by rw [upd_same, lawBorne, if_pos c]; rfl)
  · have c : ns ≠ [] := fun z => c (by rw [z]; rfl)
    walk_at "rd"
    refine ⟨by show 1 ≤ sizeLine; decide, fun r hr' => ?_⟩
    have s1 := s0.trans (same_new hr' (.lst [.int 0]))
    have hS1 : SqL K (upd (upd H p0 (.lst [])) r (.lst [.int 0])) a (ns.map V.int) := s1.seq hS
    walk_at "rd"
    refine ⟨_, rfl, by omega, by omega, for_rangeF (lo := 0) (k := ns.length) (fun i σ H3 => ∃ (pre : List Int) (t : Int) (v1 : Option V), σ = [some (.ref a), some (.ref b), some (.ref r), v1] ∧ Same H H3 ∧ H3 r = some (.lst ((pre ++ [t]).map V.int)) ∧ pre.length ≤ i ∧ pre ++ lawParts cs i (ns.drop i) t = lawParts cs 0 ns 0)
      ⟨[], 0, none, rfl, s1, upd_same, Nat.le_refl _, rfl⟩ ?_ ?_⟩
    · rintro i σ H3 hi ⟨pre, t, v1, rfl, s2, hr2, pl, eq⟩
      obtain ⟨z, hz, ez⟩ := at_place (ns := ns) (k := 0 + (i : Nat)) (by omega) (by omega)
      have hz : ns[i]? = some z := by rw [← hz]; congr 1; omega
      have nsr : ∀ d o, H d = some o → d ≠ r := fun d o zz y => by
        subst y
        have := s0 _ _ zz
        rw [hr'] at this
        cases this
      rw [drop_at hz] at eq
      simp only [lawParts] at eq
      walk_at "rd"
      refine rd_joinF (fun σ' H4 => ∃ (pre' : List Int) (t' : Int), σ' = [some (.ref a), some (.ref b), some (.ref r), some (.int (0 + (i : Nat)))] ∧ Same H H4 ∧ H4 r = some (.lst ((pre' ++ [t']).map V.int)) ∧ pre'.length ≤ i + 1 ∧ pre' ++ lawParts cs (i + 1) (ns.drop (i + 1)) (t' + z) = lawParts cs 0 ns 0) ?_ ?_
      · walk_at "rd"
        refine rd_inI (s2.seq hB) ?_
        walk_at "rd"
        refine ite2 (fun c => ?_) (fun c => ?_)
        · have c := mem_ic.mp (of_decide_eq_true c)
          rw [if_pos c] at eq
          walk_at "rd"
          refine ⟨tyL (SqL.of hr2), ?_⟩
          walk_at "rd"
          refine rd_append hr2 (by rw [List.length_map, List.length_append]; exact small1000 (by simp only [List.length_singleton]; omega)) ?_
          walk_at "rd"
          refine ⟨pre ++ [t], 0, rfl, fun d o zz => by rw [upd_ne (nsr d o zz)]; exact s2 d o zz, ?_, by rw [List.length_append]; simp only [List.length_singleton]; omega, ?_⟩
          · rw [upd_same, List.map_append (l₂ := [0])]
            rfl
          · rw [← eq, Int.zero_add, List.append_assoc]
            rfl
        · have c : ¬ i ∈ cs := fun y => c (decide_eq_true (mem_ic.mpr y))
          rw [if_neg c] at eq
          walk_at "rd"
          exact ⟨pre, t, rfl, s2, hr2, by omega, eq⟩
      · rintro σ' H4 ⟨pre', t', rfl, s3, hr3, pl', eq'⟩
        walk_at "rd"
        refine rd_ixL (SqL.of hr3) (v := .int t') (by rw [List.map_append]; exact atI_last _ _) ?_
        walk_at "rd"
        refine rd_ixL (s3.seq hS) ez ?_
        walk_at "rd"
        refine rd_setL (j := pre'.length) hr3 (by rw [List.length_map, List.length_append]; exact ixN_last) ?_
        refine ⟨pre', t' + z, _, rfl, fun d o zz => by rw [upd_ne (nsr d o zz)]; exact s3 d o zz, ?_, pl', eq'⟩
        rw [upd_same, List.map_append, List.map_append]
        have e := set_last (pre'.map V.int) (.int t') (.int (t' + z))
        rw [List.length_map] at e
        exact congrArg (fun l => some (HO.lst l)) e
    · rintro σ H3 ⟨pre, t, v1, rfl, s2, hr2, pl, eq⟩
      rw [List.drop_eq_nil_of_le (Nat.le_refl _)] at eq
      walk_at "rd"
      refine q r H3 s2 (s0.free hr') ?_
      rw [lawBorne, if_neg c, ← eq]
      exact hr2
end
section
variable {P : Program} {w : World} {K : PySem.W.Frag} {mg : Str → Option Value} {base : Heap} {f : Addr} {fd : FuncData}
theorem sc_rising : FnScope ["_law_places", "_law_least", "_law_many", "_law_last", "_law_place"] ["_law_places", "_law_least", "_law_many"] (defScope (top 42)) := ⟨rfl, rfl, rfl, by decide +kernel, rfl, by decide +kernel, by decide +kernel⟩
theorem ok_rising (T : Txt mg) (F : Fun K "_law_rising" "_law_rising" (top 42) f fd) : FnOk P w K mg base CX0 1 f fd ["_law_places", "_law_least", "_law_many"] (spRising K) := by
  have S := sc_rising
  refine F.ok S (fun vs H Q E h => ?_) (fun cdv A outer s H vs Q E hr h => ?_)
  · obtain ⟨a, lo, n, ns, rfl, _⟩ := h
    rfl
  obtain ⟨a, lo, n, ns, rfl, hS, q⟩ := h
  refine ⟨_, (pss_cons (ps_set (i := 3) S.nd rfl (Or.inl rfl) (pe_op op_sub (pv 1) pe_int))
    (pss_cons (ps_for PassesOwn.never rfl (pi_list (pv 0)) (pg_name (i := 4) S.nd rfl (Or.inl rfl))
      (pss_cons (ps_if (pt_not (pt_chain op_lt op_lt (pv 3) (pv 4) (pv 2)))
        (pss_one (ps_ret pe_bl))
        pss_nil)
      (pss_one (ps_set (i := 3) S.nd rfl (Or.inl rfl) (pv 4)))))
    (pss_one (ps_ret pe_bl)))), ?_⟩
  try dsimp only [cxOf, Cx.nox, Cx.wish]
  walk_at "rr"
  refine ⟨a, rfl, ⟨_, hS⟩, for_listF (K := K) (a := a) (xs := ns.map V.int) (fun i σ H2 => ∃ (last : Int) (v : Option V), σ = [some (.ref a), some (.int lo), some (.int n), some (.int last), v] ∧ H2 = H ∧ risingB n last (ns.drop i) = risingB n (lo - 1) ns) ⟨_, none, rfl, rfl, rfl⟩ (fun i σ H2 _ hh => ?_) ?_ ?_⟩
  · obtain ⟨_, _, _, rfl, _⟩ := hh
    exact hS
  · rintro i y σ H2 hi ⟨last, v, rfl, rfl, eq⟩
    obtain ⟨z, rfl, hz⟩ := at_int hi
    rw [drop_at hz] at eq
    simp only [risingB] at eq
    walk_at "rr"
    refine ite2 (fun c => ?_) (fun c => ?_)
    · rw [c] at eq
      walk_at "rr"
      by_cases c2 : z < n
      · rw [decide_eq_true c2] at eq ⊢
        walk_at "rr"
        refine ⟨z, _, rfl, rfl, ?_⟩
        rw [← eq]
        simp
      · rw [decide_eq_false c2] at eq ⊢
        walk_at "rr"
        rw [← eq] at q
        simpa using q
    · have c := Bool.eq_false_iff.mpr c
      rw [c] at eq
      walk_at "rr"
      rw [← eq] at q
      simpa using q
  · rintro σ H2 ⟨last, v, rfl, rfl, eq⟩
    rw [List.length_map, List.drop_eq_nil_of_le (Nat.le_refl _)] at eq
    walk_at "rr"
    rw [← eq] at q
    exact q
theorem sc_linked : FnScope ["_law_row_here", "_law_stretches", "_law_least", "_law_last", "_law_first", "_law_end"] ["_law_row_here", "_law_stretches", "_law_least"] (defScope (top 44)) := ⟨rfl, rfl, rfl, by decide +kernel, rfl, by decide +kernel, by decide +kernel⟩
theorem ok_linked (T : Txt mg) (F : Fun K "_law_linked" "_law_linked" (top 44) f fd) : FnOk P w K mg base CX0 1 f fd ["_law_row_here", "_law_stretches", "_law_least"] (spLinked K) := by
  have S := sc_linked
  refine F.ok S (fun vs H Q E h => ?_) (fun cdv A outer s H vs Q E hr h => ?_)
  · obtain ⟨a, b, least, row, xs, ps, rfl, _⟩ := h
    rfl
  obtain ⟨a, b, least, row, xs, ps, rfl, hS, hB, hP, q⟩ := h
  refine ⟨_, (pss_cons (ps_set (i := 3) S.nd rfl (Or.inl rfl) pe_int)
    (pss_cons (ps_for PassesOwn.never rfl (pi_list (pv 1)) (pg_tup rfl (pgs_cons (pg_name (i := 4) S.nd rfl (Or.inl rfl)) (pgs_cons (pg_name (i := 5) S.nd rfl (Or.inl rfl)) pgs_nil)))
      (pss_cons (ps_if (PW.pt (pw_or (pt_not (pt_chain3 op_le op_lt op_lt (pv 3) (pv 4) (pv 5) (pe_callB call_len' rfl T.b_len PySem.boot_len (pa_cons (pv 0) pa_nil)))) (pw_or1 (pt_cmpR op_lt (pe_callB (call_sum' rfl) rfl T.b_sum boot_sum (pa_cons (pe_slice sl_list (pv 0) (po_some (pv 4)) (po_some (pe_op op_add (pv 5) pe_int))) pa_nil)) (pv 2) (nomark _)))))
        (pss_one (ps_ret pe_bl))
        pss_nil)
      (pss_one (ps_set (i := 3) S.nd rfl (Or.inl rfl) (pv 5)))))
    (pss_one (ps_ret pe_bl)))), ?_⟩
  try dsimp only [cxOf, Cx.nox, Cx.wish]
  walk_at "rr"
  refine ⟨b, rfl, ⟨_, hB⟩, for_listF (K := K) (a := b) (xs := xs) (fun i σ H2 => ∃ (last : Int) (v1 v2 : Option V), σ = [some (.ref a), some (.ref b), some (.int least), some (.int last), v1, v2] ∧ Same H H2 ∧ 0 ≤ last ∧ linkedB row least last (ps.drop i) = linkedB row least 0 ps) ⟨0, none, none, rfl, Same.refl H, Int.le_refl 0, rfl⟩ (fun i σ H2 _ hh => ?_) ?_ ?_⟩
  · obtain ⟨_, _, _, _, sm, _⟩ := hh
    exact sm.seq hB
  · rintro i y σ H2 hi ⟨last, v1, v2, rfl, sm, l0, eq⟩
    obtain ⟨p, fi, en, hp, rfl, ht⟩ := (hP.same sm).at hi
    rw [drop_at hp] at eq
    simp only [linkedB] at eq
    have hR := sm.seq hS
    refine ⟨_, _, rfl, ht, rfl, _, _, rfl, _, _, rfl, rfl, ?_⟩
    walk_at "rr"
    refine ite2 (fun c => ?_) (fun c => ?_)
    · rw [c] at eq
      have c := of_decide_eq_true c
      walk_at "rr"
      refine ite2 (fun c2 => ?_) (fun c2 => ?_)
      · rw [c2] at eq
        have c2 := of_decide_eq_true c2
        walk_at "rr"
        by_cases c3 : en < row.length
        · rw [decide_eq_true c3] at eq ⊢
          walk_at "rr"
          refine rd_slL hR fun r hr' => ?_
          walk_at "rr"
          refine rd_sum (ns := (row.drop fi.toNat).take ((en + 1).toNat - fi.toNat)) (SqL.of ?_) ?_
          · have e1 : fi = ((fi.toNat : Nat) : Int) := by omega
            have e2 : en + 1 = (((en + 1).toNat : Nat) : Int) := by omega
            rw [upd_same, cut_ints]
            have s1 : HT.sIx row.length 0 (some fi) = fi.toNat := by
              rw [e1, HT.sIx_nat, Nat.min_eq_left (by omega)]
              omega
            have s2 : HT.sIx row.length row.length (some (en + 1)) = (en + 1).toNat := by
              rw [e2, HT.sIx_nat, Nat.min_eq_left (by omega)]
              omega
            rw [s1, s2]
          walk_at "rr"
          have sm2 := sm.trans (same_new hr' (.lst (cutV (row.map V.int) (some fi) (some (en + 1)))))
          refine ite2 (fun c4 => ?_) (fun c4 => ?_)
          · have c4 : bear row fi en < least := of_decide_eq_true c4
            rw [decide_eq_true c4] at eq
            walk_at "rr"
            have := q _ sm2
            rw [← eq] at this
            simpa using this
          · have c4 : ¬ bear row fi en < least := of_decide_eq_false (Bool.eq_false_iff.mpr c4)
            rw [decide_eq_false c4] at eq
            walk_at "rr"
            refine ⟨en, _, _, rfl, sm2, by omega, ?_⟩
            rw [← eq]
            simp
        · rw [decide_eq_false c3] at eq ⊢
          walk_at "rr"
          have := q _ sm
          rw [← eq] at this
          simpa using this
      · have c2 := Bool.eq_false_iff.mpr c2
        rw [c2] at eq
        walk_at "rr"
        have := q _ sm
        rw [← eq] at this
        simpa using this
    · have c := Bool.eq_false_iff.mpr c
      rw [c] at eq
      walk_at "rr"
      have := q _ sm
      rw [← eq] at this
      simpa using this
  · rintro σ H2 ⟨last, v1, v2, rfl, sm, l0, eq⟩
    rw [List.drop_eq_nil_of_le (by rw [hP.len]; exact Nat.le_refl _)] at eq
    walk_at "rr"
    have := q _ sm
    rw [← eq] at this
    exact this
end
def PairsT (H : Hp) : List V → List (Int × Int) → Prop
  | [], [] => True
  | x :: xs, (f, e) :: ps => (∃ p, x = .ref p ∧ H p = some (.tup [.int f, .int e])) ∧ PairsT H xs ps
  | _, _ => False
theorem PairsT.pairs {K : PySem.W.Frag} {H : Hp} : ∀ {xs : List V} {ps : List (Int × Int)}, PairsT H xs ps → PairsAt K H xs ps
  | [], [], _ => trivial
  | _ :: _, (_, _) :: _, ⟨⟨p, h1, h2⟩, h⟩ => ⟨⟨p, h1, .inl (.inl h2)⟩, h.pairs⟩
  | [], _ :: _, h => h.elim
  | _ :: _, [], h => h.elim
theorem PairsT.same {H H' : Hp} (s : Same H H') : ∀ {xs : List V} {ps : List (Int × Int)}, PairsT H xs ps → PairsT H' xs ps
  | [], [], _ => trivial
  | _ :: _, (_, _) :: _, ⟨⟨p, h1, h2⟩, h⟩ => ⟨⟨p, h1, s _ _ h2⟩, h.same s⟩
  | [], _ :: _, h => h.elim
  | _ :: _, [], h => h.elim
theorem PairsT.len {H : Hp} {xs : List V} {ps : List (Int × Int)} (h : PairsT H xs ps) : xs.length = ps.length := (h.pairs (K := [])).len
theorem PairsT.at {H : Hp} : ∀ {xs : List V} {ps : List (Int × Int)} {i : Nat} {x : V}, PairsT H xs ps → xs[i]? = some x → ∃ p f e, x = .ref p ∧ H p = some (.tup [.int f, .int e])
  | [], [], _, _, _, h => by simp at h
  | x :: xs, (f, e) :: ps, 0, y, ⟨⟨p, hp, ht⟩, _⟩, h => by
    have : x = y := by simpa using h
    subst this
    exact ⟨p, f, e, hp, ht⟩
  | x :: xs, (f, e) :: ps, i + 1, y, ⟨_, hr⟩, h => hr.at (i := i) (x := y) (by simpa using h)
  | [], _ :: _, _, _, h, _ => h.elim
  | _ :: _, [], _, _, h, _ => h.elim
theorem kit_tup_tup (K : PySem.W.Frag) : PySem.W.kitOne K (.type "tuple") (.type "tuple") = some true := by unfold PySem.W.kitOne; rfl
section
variable {P : Program} {w : World} {K : PySem.W.Frag} {mg : Str → Option Value} {base : Heap} {f : Addr} {fd : FuncData}
end
theorem small1 {n : Nat} (h : n ≤ 1000) : n ≤ sizeLine := small h
theorem rising_nat {n : Nat} : ∀ {cs : List Int} {lo : Nat}, risingB n ((lo : Int) - 1) cs = true → ∃ ds : List Nat, cs = ic ds ∧ Rising lo n ds
  | [], _, _ => ⟨[], rfl, trivial⟩
  | c :: cs, lo, h => by
    simp only [risingB, Bool.and_eq_true, decide_eq_true_eq] at h
    obtain ⟨⟨h1, h2⟩, h3⟩ := h
    have e : c = (((c.toNat + 1 : Nat) : Int) - 1) := by omega
    rw [e] at h3
    obtain ⟨ds, r, hr⟩ := rising_nat h3
    refine ⟨c.toNat :: ds, ?_, by omega, by omega, hr⟩
    rw [r]
    unfold ic
    rw [List.map_cons, show ((c.toNat : Nat) : Int) = c by omega]
theorem rising_of {n : Nat} : ∀ {ds : List Nat} {lo : Nat}, Rising lo n ds → risingB n ((lo : Int) - 1) (ic ds) = true
  | [], _, _ => rfl
  | d :: ds, lo, ⟨h1, h2, h3⟩ => by
    have := rising_of h3
    unfold ic at this ⊢
    rw [List.map_cons]
    simp only [risingB, Bool.and_eq_true, decide_eq_true_eq]
    refine ⟨⟨by omega, by omega⟩, ?_⟩
    rw [show ((d : Nat) : Int) = ((d + 1 : Nat) : Int) - 1 by omega]
    exact this
theorem ic_toNat (ds : List Nat) : (ic ds).map Int.toNat = ds := by
  unfold ic
  rw [List.map_map]
  exact (List.map_congr_left (fun x _ => Int.toNat_natCast x)).trans (List.map_id _)
theorem lawBorne_len {ns : List Int} {cs : List Nat} (h : ns.length ≤ 63) : (lawBorne ns cs).length ≤ 64 := by
  have key : ∀ (xs : List Int) (p : Nat) (s : Int), (lawParts cs p xs s).length ≤ xs.length + 1 := by
    intro xs
    induction xs with
    | nil => intro p s; simp [lawParts]
    | cons x xs ih =>
      intro p s
      unfold lawParts
      split
      · have := ih (p + 1) x
        simp only [List.length_cons]; omega
      · have := ih (p + 1) (s + x)
        simp only [List.length_cons]; omega
  unfold lawBorne
  split
  · simp
  · have := key ns 0 0
    omega
def fits (ns : List Int) (b : Int) (cs : List Int) : Bool := (lawBorne ns (cs.map Int.toNat)).all fun z => decide (z ≤ b)
def dueF (ns : List Int) (b : Int) (cs : List Int) (ps : List (Int × Int)) : Bool := risingB ns.length 0 cs && linkedB ns (b + 1) 0 ps && (decide (cs.length = ps.length) && fits ns b cs)
def dueG (ns : List Int) (b p : Int) : Bool := decide (0 ≤ p) && decide (p < ns.length) && decide (b < ns.getD p.toNat 0)
structure FewAt (C : Addr) (H : Hp) (x cA sA : Addr) (cs : List Int) (xs : List V) (ps : List (Int × Int)) : Prop where
  ex : ∃ dx fs, H x = some (.ins C dx fs) ∧ fs.lookup ("cuts" : Str) = some (.ref cA) ∧ fs.lookup ("stretches" : Str) = some (.ref sA) ∧ fs.lookup ("shows" : Str) = none
  cuts : H cA = some (.lst (cs.map V.int))
  stre : H sA = some (.lst xs)
  prs : PairsT H xs ps
theorem FewAt.same {C : Addr} {H H' : Hp} {x cA sA : Addr} {cs : List Int} {xs : List V} {ps : List (Int × Int)} (h : FewAt C H x cA sA cs xs ps) (s : Same H H') : FewAt C H' x cA sA cs xs ps := by
  obtain ⟨⟨dx, fs, h1, h2⟩, h3, h4, h5⟩ := h
  exact ⟨⟨dx, fs, s _ _ h1, h2⟩, s _ _ h3, s _ _ h4, h5.same s⟩
def GreatAt (C : Addr) (H : Hp) (x : Addr) (p : Int) : Prop := ∃ dx fs, H x = some (.ins C dx fs) ∧ fs.lookup ("place" : Str) = some (.int p) ∧ fs.lookup ("shows" : Str) = none
theorem max_le {zs : List Int} {M b : Int} (hb : 0 ≤ b) (h1 : M ∈ (0 : Int) :: zs) (h2 : ∀ a ∈ (0 : Int) :: zs, a ≤ M) : decide (M ≤ b) = zs.all fun z => decide (z ≤ b) := by
  apply Bool.eq_iff_iff.mpr
  rw [decide_eq_true_eq, List.all_eq_true]
  constructor
  · intro h z hz
    have := h2 z (List.mem_cons_of_mem _ hz)
    exact decide_eq_true (by omega)
  · intro h
    rcases List.mem_cons.mp h1 with rfl | hm
    · exact hb
    · exact of_decide_eq_true (h M hm)
def FewTold (ca : CA) (H H' : Hp) (x : Addr) (ns : List Int) (b : Int) : Prop :=
  (∃ cA sA cs xs ps, FewAt ca.Fewest H' x cA sA cs xs ps ∧ H cA = none ∧ H sA = none ∧ cA ≠ sA ∧ dueF ns b cs ps = true) ∨ ∃ p, GreatAt ca.Great H' x p ∧ dueG ns b p = true
def spFewest (ca : CA) : Sp := fun vs H Q _ => ∃ (a : Addr) (ns : List Int) (b : Int), vs = [.ref a, .int b] ∧ H a = some (.lst (ns.map V.int)) ∧ ns.length ≤ 63 ∧ Good ns ∧ 0 ≤ b ∧ ∀ (x : Addr) (H' : Hp), Same H H' → H x = none → FewTold ca H H' x ns b → Q (.ref x) H'
def spShowsF (K : PySem.W.Frag) (ca : CA) : Sp := fun vs H Q _ => ∃ (x a cA sA : Addr) (ns : List Int) (b : Int) (cs : List Int) (xs : List V) (ps : List (Int × Int)), vs = [.ref x, .ref a, .int b] ∧ SqL K H a (ns.map V.int) ∧ ns.length ≤ 63 ∧ Good ns ∧ 0 ≤ b ∧
  FewAt ca.Fewest H x cA sA cs xs ps ∧ cs.length ≤ 200 ∧ ps.length ≤ 200 ∧ ∀ H', Same H H' → Q (.bl (dueF ns b cs ps)) H'
def spShowsG (K : PySem.W.Frag) (ca : CA) : Sp := fun vs H Q _ => ∃ (x a : Addr) (ns : List Int) (b p : Int), vs = [.ref x, .ref a, .int b] ∧ SqL K H a (ns.map V.int) ∧ ns.length ≤ 63 ∧ Good ns ∧ 0 ≤ b ∧ GreatAt ca.Great H x p ∧ ∀ H', Same H H' → Q (.bl (dueG ns b p)) H'
section
variable {C : Addr} {H : Hp} {x cA sA : Addr} {cs : List Int} {xs : List V} {ps : List (Int × Int)}
end
theorem same_upd {H H' : Hp} {p : Addr} (s : Same H H') (h : H p = none) (o : HO) : Same H (upd H' p o) := fun b u q => by rw [upd_ne (ne_of_none q h)]; exact s b u q
theorem dueF_len {ns : List Int} {b : Int} {cs : List Int} {ps : List (Int × Int)} (h : dueF ns b cs ps = true) : cs.length = ps.length := by
  unfold dueF at h
  simp only [Bool.and_eq_true, decide_eq_true_eq] at h
  exact h.2.1
theorem dueF_not {ns : List Int} {b : Int} {cs : List Int} {ps : List (Int × Int)} (h : cs.length ≠ ps.length) : dueF ns b cs ps = false := by
  unfold dueF
  rw [decide_eq_false h, Bool.false_and, Bool.and_false]
theorem linked_len {row : List Int} {least : Int} : ∀ {ps : List (Int × Int)} {last : Int}, 0 ≤ last → linkedB row least last ps = true → (ps.length : Int) + last ≤ row.length ∨ ps = []
  | [], _, _, _ => .inr rfl
  | (f, e) :: ps, last, h0, h => by
    simp only [linkedB, Bool.and_eq_true, decide_eq_true_eq] at h
    obtain ⟨⟨⟨⟨h1, h2⟩, h3⟩, _⟩, h5⟩ := h
    refine .inl ?_
    rcases linked_len (by omega) h5 with q | q
    · simp only [List.length_cons]; omega
    · subst q
      simp only [List.length_cons, List.length_nil]; omega
theorem dueF_short {ns : List Int} {b : Int} {cs : List Int} {ps : List (Int × Int)} (h : dueF ns b cs ps = true) (hl : ns.length ≤ 63) : ps.length ≤ 63 := by
  unfold dueF at h
  simp only [Bool.and_eq_true, decide_eq_true_eq] at h
  rcases linked_len (by decide) h.1.2 with q | q
  · omega
  · subst q; simp
def spLaw (K : PySem.W.Frag) : Sp := fun vs H Q _ => ∃ (a : Addr) (ns : List Int), vs = [.ref a] ∧ SqL K H a (ns.map V.int) ∧ ns.length ≤ 63 ∧ ∀ H', Q (.bl true) H'
theorem good_sum {ns : List Int} (h : Good ns) (hl : ns.length ≤ 63) : 0 ≤ ns.sum ∧ ns.sum ≤ 63000000 := by
  have := sum_bound (M := 1000000) (by decide) h
  omega
def dueL (ns : List Int) (k : Int) (cs : List Int) (num : Int) (ps : List (Int × Int)) : Bool :=
  risingB ns.length 0 cs && decide ((cs.length : Int) < k) && decide (0 ≤ num) && fits ns num cs && (decide (num = 0) || decide (num ∈ ns) || (decide ((ps.length : Int) = k) && linkedB ns num 0 ps))
structure LeastAt (C : Addr) (H : Hp) (x cA sA : Addr) (cs : List Int) (num : Int) (xs : List V) (ps : List (Int × Int)) : Prop where
  ex : ∃ dx fs, H x = some (.ins C dx fs) ∧ fs.lookup ("cuts" : Str) = some (.ref cA) ∧ fs.lookup ("number" : Str) = some (.int num) ∧ fs.lookup ("stretches" : Str) = some (.ref sA) ∧ (fs.lookup ("shows" : Str) = none ∧ fs.lookup ("is_needed" : Str) = none)
  cuts : H cA = some (.lst (cs.map V.int))
  stre : H sA = some (.lst xs)
  prs : PairsT H xs ps
theorem LeastAt.same {C : Addr} {H H' : Hp} {x cA sA : Addr} {cs : List Int} {num : Int} {xs : List V} {ps : List (Int × Int)} (h : LeastAt C H x cA sA cs num xs ps) (s : Same H H') : LeastAt C H' x cA sA cs num xs ps := by
  obtain ⟨⟨dx, fs, h1, h2⟩, h3, h4, h5⟩ := h
  exact ⟨⟨dx, fs, s _ _ h1, h2⟩, s _ _ h3, s _ _ h4, h5.same s⟩
theorem rising_len {n : Int} : ∀ {cs : List Int} {last : Int}, last < n → risingB n last cs = true → (cs.length : Int) + last < n
  | [], last, h, _ => by simp; exact h
  | c :: cs, last, h, q => by
    simp only [risingB, Bool.and_eq_true, decide_eq_true_eq] at q
    have := rising_len (last := c) (by omega) q.2
    simp only [List.length_cons]; omega
theorem rising_len0 {n : Nat} {cs : List Int} (q : risingB n 0 cs = true) : cs.length ≤ n := by
  cases cs with
  | nil => simp
  | cons c cs =>
    have q' := q
    simp only [risingB, Bool.and_eq_true, decide_eq_true_eq] at q'
    have := rising_len (last := 0) (by omega) q
    omega
def spLowest (C : Addr) : Sp := fun vs H Q _ => ∃ (a : Addr) (ns : List Int) (k : Int), vs = [.ref a, .int k] ∧ H a = some (.lst (ns.map V.int)) ∧ ns.length ≤ 63 ∧ Good ns ∧ (1 ≤ k ∧ k < 1073741824) ∧
  ∀ (x : Addr) (H' : Hp) (cA sA : Addr) (cs : List Int) (num : Int) (xs : List V) (ps : List (Int × Int)), Same H H' → H x = none → LeastAt C H' x cA sA cs num xs ps → H cA = none → H sA = none → cA ≠ sA → ps.length ≤ 100 → dueL ns k cs num ps = true → Q (.ref x) H'
def spShowsL (K : PySem.W.Frag) (C : Addr) : Sp := fun vs H Q _ => ∃ (x a cA sA : Addr) (ns : List Int) (k : Int) (cs : List Int) (num : Int) (xs : List V) (ps : List (Int × Int)), vs = [.ref x, .ref a, .int k] ∧ SqL K H a (ns.map V.int) ∧ ns.length ≤ 63 ∧ Good ns ∧ 1 ≤ k ∧
  LeastAt C H x cA sA cs num xs ps ∧ cs.length ≤ 200 ∧ ps.length ≤ 200 ∧ ∀ H', Same H H' → Q (.bl (dueL ns k cs num ps)) H'
def betw (row : List Int) : Nat → List Nat → List Int
  | st, [] => [(row.drop st).sum]
  | st, p :: ps => ((row.drop st).take (p - st)).sum :: betw row (p + 1) ps
theorem betw_len (row : List Int) : ∀ (ps : List Nat) (st : Nat), (betw row st ps).length = ps.length + 1
  | [], _ => rfl
  | p :: ps, st => by simp only [betw, List.length_cons, betw_len row ps]
def dueM (ns : List Int) (b : Int) (cs pl : List Int) : Bool :=
  risingB ns.length 0 cs && risingB ns.length (-1) pl && (betw ns 0 (pl.map Int.toNat)).all (fun z => decide (z < b)) &&
    (if pl = [] then decide (cs = []) else decide (cs.length + 1 = pl.length) && (lawBorne ns (cs.map Int.toNat)).all fun z => decide (b ≤ z))
structure MostAt (C : Addr) (H : Hp) (x cA pA : Addr) (cs pl : List Int) : Prop where
  ex : ∃ dx fs, H x = some (.ins C dx fs) ∧ fs.lookup ("cuts" : Str) = some (.ref cA) ∧ fs.lookup ("places" : Str) = some (.ref pA) ∧ (fs.lookup ("shows" : Str) = none ∧ fs.lookup ("has_full_parts" : Str) = none)
  cuts : H cA = some (.lst (cs.map V.int))
  plac : H pA = some (.lst (pl.map V.int))
theorem MostAt.same {C : Addr} {H H' : Hp} {x cA pA : Addr} {cs pl : List Int} (h : MostAt C H x cA pA cs pl) (s : Same H H') : MostAt C H' x cA pA cs pl := by
  obtain ⟨⟨dx, fs, h1, h2⟩, h3, h4⟩ := h
  exact ⟨⟨dx, fs, s _ _ h1, h2⟩, s _ _ h3, s _ _ h4⟩
theorem rising_len1 {n : Nat} {cs : List Int} (q : risingB n (-1) cs = true) : cs.length ≤ n := by
  have := rising_len (last := -1) (by omega) q
  omega
theorem dueM_len {ns : List Int} {b : Int} {cs pl : List Int} (h : dueM ns b cs pl = true) : cs.length ≤ ns.length ∧ pl.length ≤ ns.length := by
  unfold dueM at h
  simp only [Bool.and_eq_true] at h
  exact ⟨rising_len0 h.1.1.1, rising_len1 h.1.1.2⟩
theorem max_lt {zs : List Int} {M b : Int} (h1 : M ∈ zs) (h2 : ∀ a ∈ zs, a ≤ M) : decide (b ≤ M) = !(zs.all fun z => decide (z < b)) := by
  apply Bool.eq_iff_iff.mpr
  rw [decide_eq_true_eq, Bool.not_eq_true', ← Bool.not_eq_true, List.all_eq_true]
  constructor
  · intro h z
    have := of_decide_eq_true (z M h1)
    omega
  · intro h
    have : ¬ M < b := fun lt => h fun z hz => decide_eq_true (by have := h2 z hz; omega)
    omega
theorem min_ge {zs : List Int} {M b : Int} (h1 : M ∈ zs) (h2 : ∀ a ∈ zs, M ≤ a) : decide (b ≤ M) = zs.all fun z => decide (b ≤ z) := by
  apply Bool.eq_iff_iff.mpr
  rw [decide_eq_true_eq, List.all_eq_true]
  constructor
  · intro h z hz
    have := h2 z hz
    exact decide_eq_true (by omega)
  · intro h
    exact of_decide_eq_true (h M h1)
theorem lawParts_ne (cs : List Nat) : ∀ (xs : List Int) (p : Nat) (s : Int), lawParts cs p xs s ≠ []
  | [], _, _ => by simp [lawParts]
  | x :: xs, p, s => by
    unfold lawParts
    split
    · simp
    · exact lawParts_ne cs xs _ _
def spFullest (C : Addr) : Sp := fun vs H Q _ => ∃ (a : Addr) (ns : List Int) (b : Int), vs = [.ref a, .int b] ∧ H a = some (.lst (ns.map V.int)) ∧ ns.length ≤ 63 ∧ Good ns ∧ 1 ≤ b ∧
  ∀ (x : Addr) (H' : Hp) (cA pA : Addr) (cs pl : List Int), Same H H' → H x = none → MostAt C H' x cA pA cs pl → H cA = none → H pA = none → cA ≠ pA → dueM ns b cs pl = true → Q (.ref x) H'
def spShowsM (K : PySem.W.Frag) (C : Addr) : Sp := fun vs H Q _ => ∃ (x a cA pA : Addr) (ns : List Int) (b : Int) (cs pl : List Int), vs = [.ref x, .ref a, .int b] ∧ SqL K H a (ns.map V.int) ∧ ns.length ≤ 63 ∧ Good ns ∧ 1 ≤ b ∧
  MostAt C H x cA pA cs pl ∧ cs.length ≤ 200 ∧ pl.length ≤ 200 ∧ ∀ H', Same H H' → Q (.bl (dueM ns b cs pl)) H'
def spBetween (K : PySem.W.Frag) : Sp := fun vs H Q _ => ∃ (a p : Addr) (ns : List Int) (ds : List Nat), vs = [.ref a, .ref p] ∧ SqL K H a (ns.map V.int) ∧ H p = some (.lst ((ic ds).map V.int)) ∧ ns.length ≤ 63 ∧ Rising 0 ns.length ds ∧
  ∀ (r : Addr) (H' : Hp), Same H H' → H r = none → H' r = some (.lst ((betw ns 0 ds).map V.int)) → Q (.ref r) H'
def borneM (ns : List Int) (cs : List Nat) : List Int := if ns = [] then [] else partsFrom ns 0 0 cs
theorem borne_law {ns : List Int} {cs : List Nat} (h : Rising 1 ns.length cs) : borneM ns cs = lawBorne ns cs := by
  unfold borneM lawBorne
  split
  · rfl
  · rw [lawParts_cuts h]
theorem seg_succ {row : List Int} {st i : Nat} {z : Int} (hs : st ≤ i) (hz : row[i]? = some z) : ((row.drop st).take (i + 1 - st)).sum = ((row.drop st).take (i - st)).sum + z := by
  have e : i + 1 - st = (i - st) + 1 := by omega
  rw [e, List.take_add_one, List.sum_append, List.getElem?_drop, show st + (i - st) = i by omega, hz]
  simp
theorem seg_one {row : List Int} {i : Nat} {z : Int} (hz : row[i]? = some z) : z = ((row.drop i).take (i + 1 - i)).sum := by
  rw [seg_succ (Nat.le_refl _) hz, Nat.sub_self, List.take_zero]; simp
theorem at_of_drop {row rest : List Int} {i : Nat} {z : Int} (h : row.drop i = z :: rest) : row[i]? = some z ∧ row.drop (i + 1) = rest ∧ i < row.length := by
  have e : row[i]? = some z := by
    have := congrArg (fun l => l[0]?) h
    simpa [List.getElem?_drop] using this
  refine ⟨e, ?_, (List.getElem?_eq_some_iff.mp e).1⟩
  rw [← List.drop_drop, h]; rfl
theorem seg_end {row : List Int} {st i : Nat} (h : row.drop i = []) : ((row.drop st).take (i - st)).sum = (row.drop st).sum := by
  have : row.length ≤ i := by simpa using h
  rw [List.take_of_length_le (by rw [List.length_drop]; omega)]
theorem sum_nonneg {xs : List Int} (h : ∀ x ∈ xs, 0 ≤ x) : 0 ≤ xs.sum := by
  induction xs with
  | nil => simp
  | cons x xs ih =>
    rw [List.sum_cons]
    have := h x (List.mem_cons_self ..)
    have := ih fun y hy => h y (List.mem_cons_of_mem _ hy)
    omega
def needFrom (b : Int) : Nat → Int → List Int → List Nat
  | _, _, [] => []
  | i, acc, z :: r => if b < acc + z then i :: needFrom b (i + 1) z r else needFrom b (i + 1) (acc + z) r
def needed (b : Int) (ns : List Int) : List Nat := needFrom b 0 0 ns
def zipP : Nat → List Nat → List (Int × Int)
  | _, [] => []
  | st, c :: cs => ((st : Int), (c : Int)) :: zipP c cs
theorem zipP_len : ∀ (st : Nat) (cs : List Nat), (zipP st cs).length = cs.length
  | _, [] => rfl
  | st, c :: cs => by simp only [zipP, List.length_cons, zipP_len c cs]
theorem bear_seg {row : List Int} {st i : Nat} : bear row st i = ((row.drop st).take (i + 1 - st)).sum := by
  unfold bear
  rw [show ((i : Int) + 1).toNat = i + 1 by omega, Int.toNat_natCast]
theorem need_good {row : List Int} {b : Int} : ∀ (rest : List Int) (st i : Nat) (acc : Int), row.drop i = rest → st < i → acc = ((row.drop st).take (i - st)).sum → acc ≤ b → (∀ z ∈ rest, z ≤ b) →
    Rising i row.length (needFrom b i acc rest) ∧ (∀ p ∈ partsFrom row st 0 (needFrom b i acc rest), p ≤ b) ∧ ∀ last : Int, last ≤ st → linkedB row (b + 1) last (zipP st (needFrom b i acc rest)) = true
  | [], st, i, acc, hr, hs, ha, hb, _ => by
    refine ⟨trivial, fun p hp => ?_, fun _ _ => rfl⟩
    rw [ha, seg_end hr] at hb
    simp only [needFrom, partsFrom, List.mem_singleton] at hp
    omega
  | z :: r, st, i, acc, hr, hs, ha, hb, hz => by
    obtain ⟨e, hd, il⟩ := at_of_drop hr
    have zb := hz z (List.mem_cons_self ..)
    have rb : ∀ y ∈ r, y ≤ b := fun y hy => hz y (List.mem_cons_of_mem _ hy)
    have sg := seg_succ (Nat.le_of_lt hs) e
    unfold needFrom
    by_cases c : b < acc + z
    · rw [if_pos c]
      obtain ⟨i1, i2, i3⟩ := need_good r i (i + 1) z hd (Nat.lt_succ_self _) (seg_one e) zb rb
      refine ⟨⟨Nat.le_refl _, il, i1⟩, fun p hp => ?_, fun last hl => ?_⟩
      · simp only [partsFrom, List.mem_cons] at hp
        rcases hp with rfl | hp
        · rw [← ha]; omega
        · exact i2 p hp
      · simp only [zipP, linkedB, Bool.and_eq_true, decide_eq_true_eq, Bool.not_eq_true', decide_eq_false_iff_not]
        refine ⟨⟨⟨⟨hl, by omega⟩, by omega⟩, ?_⟩, i3 i (by omega)⟩
        rw [bear_seg, sg, ← ha]
        omega
    · rw [if_neg c]
      obtain ⟨i1, i2, i3⟩ := need_good r st (i + 1) (acc + z) hd (by omega) (by rw [sg, ha]) (by omega) rb
      exact ⟨i1.mono (Nat.le_succ _), i2, i3⟩
theorem needed_good {ns : List Int} {b : Int} (h0 : 0 ≤ b) (h : ∀ z ∈ ns, z ≤ b) :
    Rising 1 ns.length (needed b ns) ∧ (∀ p ∈ borneM ns (needed b ns), p ≤ b) ∧ linkedB ns (b + 1) 0 (zipP 0 (needed b ns)) = true := by
  cases ns with
  | nil => exact ⟨trivial, fun p hp => (by simp [borneM] at hp), rfl⟩
  | cons z r =>
    have zb := h z (List.mem_cons_self ..)
    have e : needed b (z :: r) = needFrom b 1 z r := by
      show (if b < 0 + z then 0 :: needFrom b 1 z r else needFrom b 1 (0 + z) r) = _
      rw [if_neg (by omega), Int.zero_add]
    obtain ⟨i1, i2, i3⟩ := need_good (row := z :: r) (b := b) r 0 1 z rfl (by decide) (by simp) zb fun y hy => h y (List.mem_cons_of_mem _ hy)
    rw [e]
    refine ⟨i1, ?_, i3 0 (by simp)⟩
    unfold borneM
    rw [if_neg (by simp)]
    exact i2
theorem need_count {b M d : Int} (hd : d = b - M + 1) : ∀ (rest : List Int) (i : Nat) (acc : Int), 0 ≤ acc → (∀ z ∈ rest, 0 ≤ z ∧ z ≤ M) → ((needFrom b i acc rest).length : Int) * d ≤ acc + rest.sum
  | [], i, acc, h0, _ => by simp [needFrom]; exact h0
  | z :: r, i, acc, h0, hz => by
    have zb := hz z (List.mem_cons_self ..)
    have rb : ∀ y ∈ r, 0 ≤ y ∧ y ≤ M := fun y hy => hz y (List.mem_cons_of_mem _ hy)
    unfold needFrom
    rw [List.sum_cons]
    by_cases c : b < acc + z
    · rw [if_pos c, List.length_cons]
      have ih := need_count hd r (i + 1) z zb.1 rb
      rw [Int.natCast_add, Int.add_mul]
      simp only [Int.natCast_one, Int.one_mul]
      omega
    · rw [if_neg c]
      have ih := need_count hd r (i + 1) (acc + z) (by omega) rb
      omega
theorem need_sum {b : Int} : ∀ (rest : List Int) (i : Nat) (acc : Int), acc ≤ b → (∀ z ∈ rest, z ≤ b) → acc + rest.sum ≤ (((needFrom b i acc rest).length : Int) + 1) * b
  | [], i, acc, h0, _ => by simp [needFrom]; exact h0
  | z :: r, i, acc, h0, hz => by
    have zb := hz z (List.mem_cons_self ..)
    have rb : ∀ y ∈ r, y ≤ b := fun y hy => hz y (List.mem_cons_of_mem _ hy)
    unfold needFrom
    rw [List.sum_cons]
    by_cases c : b < acc + z
    · rw [if_pos c, List.length_cons]
      have ih := need_sum r (i + 1) z zb rb
      rw [Int.natCast_add, Int.add_mul]
      simp only [Int.natCast_one, Int.one_mul]
      omega
    · rw [if_neg c]
      have ih := need_sum r (i + 1) (acc + z) (by omega) rb
      omega
theorem high_fits {ns : List Int} {M m k : Int} (hz : ∀ z ∈ ns, 0 ≤ z ∧ z ≤ M) (hk : 1 ≤ k) (hm : 0 ≤ m) (hs : ns.sum ≤ k * m) : ((needed (M + m) ns).length : Int) < k := by
  have c := need_count (b := M + m) (M := M) (d := m + 1) (by omega) ns 0 0 (by decide) hz
  have c : ((needed (M + m) ns).length : Int) * (m + 1) ≤ 0 + ns.sum := c
  apply Classical.byContradiction
  intro n
  have le : k * (m + 1) ≤ ((needed (M + m) ns).length : Int) * (m + 1) := Int.mul_le_mul_of_nonneg_right (by omega) (by omega)
  rw [Int.mul_add] at le
  omega
theorem mean_needs {ns : List Int} {m k : Int} (hz : ∀ z ∈ ns, z ≤ m - 1) (hm : 0 ≤ m - 1) (hs : k * (m - 1) < ns.sum) : k ≤ ((needed (m - 1) ns).length : Int) := by
  have c := need_sum (b := m - 1) ns 0 0 hm hz
  have c : 0 + ns.sum ≤ (((needed (m - 1) ns).length : Int) + 1) * (m - 1) := c
  apply Classical.byContradiction
  intro n
  have le : (((needed (m - 1) ns).length : Int) + 1) * (m - 1) ≤ k * (m - 1) := Int.mul_le_mul_of_nonneg_right (by omega) hm
  omega
theorem ceil_facts {s k : Int} (hk : 1 ≤ k) : s ≤ k * (-((-s) / k)) ∧ k * (-((-s) / k) - 1) < s := by
  have h1 := Int.mul_ediv_add_emod (-s) k
  have h2 := Int.emod_nonneg (-s) (show k ≠ 0 by omega)
  have h3 := Int.emod_lt_of_pos (-s) (show 0 < k by omega)
  rw [Int.mul_sub, Int.mul_neg, Int.mul_one]
  omega
theorem ceil_nonneg {s k : Int} (hk : 1 ≤ k) (hs : 0 ≤ s) : 0 ≤ -((-s) / k) := by
  obtain ⟨h1, _⟩ := ceil_facts (s := s) hk
  apply Classical.byContradiction
  intro n
  have : k * (-((-s) / k)) ≤ k * (-1) := Int.mul_le_mul_of_nonneg_left (by omega) (by omega)
  omega
theorem needed_len {ns : List Int} {b : Int} (h0 : 0 ≤ b) (h : ∀ z ∈ ns, z ≤ b) : (needed b ns).length ≤ ns.length := by
  have r := (needed_good h0 h).1
  cases ns with
  | nil => simp [needed, needFrom]
  | cons z r' =>
    have := r.len (by simp)
    omega
theorem linked_take {row : List Int} {least : Int} : ∀ {ps : List (Int × Int)} {last : Int} (n : Nat), linkedB row least last ps = true → linkedB row least last (ps.take n) = true
  | [], _, n, _ => by simp [linkedB]
  | (f, e) :: ps, last, 0, _ => rfl
  | (f, e) :: ps, last, n + 1, h => by
    simp only [List.take_succ_cons, linkedB, Bool.and_eq_true] at h ⊢
    exact ⟨h.1, linked_take n h.2⟩
def fillFrom (b : Int) : Nat → Int → List Int → List Nat
  | _, _, [] => []
  | i, acc, z :: r => if b ≤ acc + z then i :: fillFrom b (i + 1) 0 r else fillFrom b (i + 1) (acc + z) r
def filling (b : Int) (ns : List Int) : List Nat := fillFrom b 0 0 ns
def cutsOf : List Nat → List Nat
  | [] => []
  | [_] => []
  | p :: q :: r => (p + 1) :: cutsOf (q :: r)
theorem cutsOf_eq : ∀ (pl : List Nat), cutsOf pl = pl.dropLast.map (· + 1)
  | [] => rfl
  | [_] => rfl
  | p :: q :: r => by
    rw [cutsOf, cutsOf_eq (q :: r)]; rfl
theorem cutsOf_len : ∀ {pl : List Nat}, pl ≠ [] → (cutsOf pl).length + 1 = pl.length
  | [], h => absurd rfl h
  | [_], _ => rfl
  | p :: q :: r, _ => by
    rw [cutsOf, List.length_cons, cutsOf_len (pl := q :: r) (by simp)]
    rfl
theorem cutsOf_rising {n : Nat} : ∀ {pl : List Nat} {lo : Nat}, Rising lo n pl → Rising (lo + 1) n (cutsOf pl)
  | [], _, _ => trivial
  | [_], _, _ => trivial
  | p :: q :: r, lo, ⟨h1, h2, h3, h4, h5⟩ => by
    unfold cutsOf
    exact ⟨by omega, by omega, cutsOf_rising (pl := q :: r) (lo := p + 1) ⟨h3, h4, h5⟩⟩
theorem fill_good {row : List Int} {b : Int} (hb1 : 1 ≤ b) (hg : ∀ x ∈ row, 0 ≤ x) : ∀ (rest : List Int) (st i : Nat) (acc : Int), row.drop i = rest → st ≤ i → acc = ((row.drop st).take (i - st)).sum → acc < b →
    Rising i row.length (fillFrom b i acc rest) ∧ (∀ p ∈ betw row st (fillFrom b i acc rest), p < b) ∧ (fillFrom b i acc rest ≠ [] → ∀ p ∈ partsFrom row st 0 (cutsOf (fillFrom b i acc rest)), b ≤ p)
  | [], st, i, acc, hr, hs, ha, hb => by
    refine ⟨trivial, fun p hp => ?_, fun z => absurd rfl z⟩
    rw [ha, seg_end hr] at hb
    simp only [fillFrom, betw, List.mem_singleton] at hp
    omega
  | z :: r, st, i, acc, hr, hs, ha, hb => by
    obtain ⟨e, hd, il⟩ := at_of_drop hr
    have sg := seg_succ hs e
    unfold fillFrom
    by_cases c : b ≤ acc + z
    · rw [if_pos c]
      obtain ⟨i1, i2, i3⟩ := fill_good hb1 hg r (i + 1) (i + 1) 0 hd (Nat.le_refl _) (by simp) (by omega)
      refine ⟨⟨Nat.le_refl _, il, i1⟩, fun p hp => ?_, fun _ p hp => ?_⟩
      · simp only [betw, List.mem_cons] at hp
        rcases hp with rfl | hp
        · rw [← ha]; exact hb
        · exact i2 p hp
      · cases q : fillFrom b (i + 1) 0 r with
        | nil =>
          rw [q] at hp
          simp only [cutsOf, partsFrom, List.mem_singleton] at hp
          have split : (row.drop st).sum = ((row.drop st).take (i + 1 - st)).sum + ((row.drop st).drop (i + 1 - st)).sum := by rw [← List.sum_append, List.take_append_drop]
          have nn := sum_nonneg (xs := (row.drop st).drop (i + 1 - st)) fun x hx => hg x (List.mem_of_mem_drop (List.mem_of_mem_drop hx))
          rw [hp, split, sg, ← ha]
          omega
        | cons p0 ps =>
          rw [q] at hp i3
          simp only [cutsOf, partsFrom, List.mem_cons] at hp
          rcases hp with rfl | hp
          · rw [sg, ← ha]; omega
          · exact i3 (by simp) p hp
    · rw [if_neg c]
      obtain ⟨i1, i2, i3⟩ := fill_good hb1 hg r st (i + 1) (acc + z) hd (by omega) (by rw [sg, ha]) (by omega)
      exact ⟨i1.mono (Nat.le_succ _), i2, i3⟩
theorem all_ge {zs : List Int} {b : Int} (h : ∀ p ∈ zs, b ≤ p) : (zs.all fun z => decide (b ≤ z)) = true := List.all_eq_true.mpr fun p hp => decide_eq_true (h p hp)
theorem all_lt {zs : List Int} {b : Int} (h : ∀ p ∈ zs, p < b) : (zs.all fun z => decide (z < b)) = true := List.all_eq_true.mpr fun p hp => decide_eq_true (h p hp)
theorem all_le {zs : List Int} {b : Int} (h : ∀ p ∈ zs, p ≤ b) : (zs.all fun z => decide (z ≤ b)) = true := List.all_eq_true.mpr fun p hp => decide_eq_true (h p hp)
theorem fewest_due {ns : List Int} {b : Int} (h0 : 0 ≤ b) (h : ∀ z ∈ ns, z ≤ b) : dueF ns b (ic (needed b ns)) (zipP 0 (needed b ns)) = true := by
  obtain ⟨g1, g2, g3⟩ := needed_good h0 h
  have r := rising_of g1
  rw [show ((1 : Nat) : Int) - 1 = 0 by decide] at r
  unfold dueF fits
  rw [r, g3, ic_toNat, ← borne_law g1, all_le g2, ic_len, zipP_len, decide_eq_true rfl]
  rfl
theorem fullest_due {ns : List Int} {b : Int} (h1 : 1 ≤ b) (hg : ∀ x ∈ ns, 0 ≤ x) : dueM ns b (ic (cutsOf (filling b ns))) (ic (filling b ns)) = true := by
  obtain ⟨g1, g2, g3⟩ := fill_good (row := ns) h1 hg ns 0 0 0 rfl (Nat.le_refl _) (by simp) (by omega)
  change Rising 0 ns.length (filling b ns) at g1
  change ∀ p ∈ betw ns 0 (filling b ns), p < b at g2
  change filling b ns ≠ [] → ∀ p ∈ partsFrom ns 0 0 (cutsOf (filling b ns)), b ≤ p at g3
  have r1 := rising_of (cutsOf_rising g1)
  rw [show ((0 + 1 : Nat) : Int) - 1 = 0 by decide] at r1
  have r2 := rising_of g1
  rw [show ((0 : Nat) : Int) - 1 = -1 by decide] at r2
  unfold dueM
  rw [r1, r2, ic_toNat, ic_toNat, all_lt g2]
  by_cases e : filling b ns = []
  · rw [if_pos (by rw [e]; rfl), e]; rfl
  · rw [if_neg (fun z => e (by cases q : filling b ns with | nil => rfl | cons a l => rw [q] at z; simp [ic] at z))]
    have nn : ns ≠ [] := fun z => e (by rw [z]; rfl)
    have := borne_law (cutsOf_rising g1)
    unfold borneM at this
    rw [if_neg nn] at this
    rw [← this, all_ge (g3 e), ic_len, ic_len, decide_eq_true (cutsOf_len e)]
    rfl
theorem lowest_due {ns : List Int} {num k : Int} (h0 : 0 ≤ num) (hz : ∀ z ∈ ns, z ≤ num) (hk : ((needed num ns).length : Int) < k) {ps : List (Int × Int)}
    (h : num = 0 ∨ num ∈ ns ∨ ((ps.length : Int) = k ∧ linkedB ns num 0 ps = true)) : dueL ns k (ic (needed num ns)) num ps = true := by
  obtain ⟨g1, g2, _⟩ := needed_good h0 hz
  have r := rising_of g1
  rw [show ((1 : Nat) : Int) - 1 = 0 by decide] at r
  unfold dueL fits
  rw [r, ic_len, decide_eq_true hk, decide_eq_true h0, ic_toNat, ← borne_law g1, all_le g2]
  rcases h with h | h | ⟨h1, h2⟩
  · rw [decide_eq_true h]; rfl
  · rw [decide_eq_true h]; simp
  · rw [decide_eq_true h1, h2]; simp
def chainB (n : Int) : Int → List (Int × Int) → Bool
  | _, [] => true
  | last, (f, e) :: r => decide (last ≤ f) && decide (f < e) && decide (e < n) && chainB n e r
theorem link_split {row : List Int} {least : Int} : ∀ {ps : List (Int × Int)} {last : Int}, linkedB row least last ps = (chainB row.length last ps && ps.all fun p => decide (least ≤ bear row p.1 p.2))
  | [], _ => rfl
  | (f, e) :: ps, last => by
    simp only [linkedB, chainB, List.all_cons, link_split (ps := ps)]
    rw [← decide_not, decide_eq_decide.mpr (Int.not_lt (a := bear row f e) (b := least))]
    cases decide (last ≤ f) <;> cases decide (f < e) <;> cases decide (e < (row.length : Int)) <;> cases decide (least ≤ bear row f e) <;> cases chainB row.length e ps <;> simp
theorem chain_at {n : Int} : ∀ {ps : List (Int × Int)} {last : Int}, 0 ≤ last → chainB n last ps = true → ∀ p ∈ ps, 0 ≤ p.1 ∧ p.1 < p.2 ∧ p.2 < n
  | [], _, _, _, p, hp => by cases hp
  | (f, e) :: ps, last, h0, h, p, hp => by
    simp only [chainB, Bool.and_eq_true, decide_eq_true_eq] at h
    obtain ⟨⟨⟨h1, h2⟩, h3⟩, h4⟩ := h
    rcases List.mem_cons.mp hp with rfl | hp
    · exact ⟨by omega, h2, h3⟩
    · exact chain_at (last := e) (by omega) h4 p hp
def spWhole : Sp := fun vs H Q _ => ∃ i, vs = [.int i] ∧ Q (.bl true) H
def spWholeFrom : Sp := fun vs H Q _ => ∃ i m : Int, vs = [.int i, .int m] ∧ Q (.bl (decide (m ≤ i))) H
def spLoad : Sp := fun vs H Q _ => ∃ i, vs = [.int i] ∧ 0 ≤ i ∧ i ≤ 1000000 ∧ Q (.bl true) H
def spIsRow (K : PySem.W.Frag) : Sp := fun vs H Q _ => ∃ (a : Addr) (ns : List Int), vs = [.ref a] ∧ SqL K H a (ns.map V.int) ∧ ns.length ≤ 63 ∧ Good ns ∧ Q (.bl true) H
def spRisingP (K : PySem.W.Frag) : Sp := fun vs H Q _ => ∃ (b a : Addr) (ns cs : List Int) (m : Int), vs = [.ref b, .ref a, .int m] ∧ SqL K H a (ns.map V.int) ∧ H b = some (.lst (cs.map V.int)) ∧ Q (.bl (risingB ns.length (m - 1) cs)) H
def spAreCuts (K : PySem.W.Frag) : Sp := fun vs H Q _ => ∃ (b a : Addr) (ns cs : List Int), vs = [.ref b, .ref a] ∧ SqL K H a (ns.map V.int) ∧ H b = some (.lst (cs.map V.int)) ∧ Q (.bl (risingB ns.length 0 cs)) H
def spCheckRow : Sp := fun vs H Q _ => ∃ (a : Addr) (ns : List Int), vs = [.ref a] ∧ H a = some (.lst (ns.map V.int)) ∧ ns.length ≤ 63 ∧ Good ns ∧ Q .non H
def spCheckNum : Sp := fun vs H Q _ => ∃ i m : Int, vs = [.int i, .int m] ∧ m ≤ i ∧ Q .non H
def spPartSums (K : PySem.W.Frag) : Sp := fun vs H Q _ => ∃ (a b : Addr) (ns : List Int) (cs : List Nat), vs = [.ref a, .ref b] ∧ SqL K H a (ns.map V.int) ∧ H b = some (.lst ((ic cs).map V.int)) ∧ ns.length ≤ 63 ∧ Rising 1 ns.length cs ∧
  ∀ (r : Addr) (H' : Hp), Same H H' → H r = none → H' r = some (.lst ((borneM ns cs).map V.int)) → Q (.ref r) H'
def spIsPair : Sp := fun vs H Q _ => ∃ (p : Addr) (x y : Int), vs = [.ref p] ∧ H p = some (.tup [.int x, .int y]) ∧ Q (.bl true) H
def spAreLinked (K : PySem.W.Frag) : Sp := fun vs H Q _ => ∃ (b a : Addr) (ns : List Int) (xs : List V) (ps : List (Int × Int)), vs = [.ref b, .ref a] ∧ SqL K H a (ns.map V.int) ∧ H b = some (.lst xs) ∧ PairsT H xs ps ∧ Q (.bl (chainB ns.length 0 ps)) H
def spStretchSums (K : PySem.W.Frag) : Sp := fun vs H Q _ => ∃ (a b : Addr) (ns : List Int) (xs : List V) (ps : List (Int × Int)), vs = [.ref a, .ref b] ∧ SqL K H a (ns.map V.int) ∧ H b = some (.lst xs) ∧ PairsT H xs ps ∧ ps.length ≤ 1000 ∧ chainB ns.length 0 ps = true ∧
  ∀ (r : Addr) (H' : Hp), Same H H' → H r = none → H' r = some (.lst ((ps.map fun p => bear ns p.1 p.2).map V.int)) → Q (.ref r) H'
def spGapSums (K : PySem.W.Frag) : Sp := fun vs H Q _ => ∃ (a b : Addr) (ns : List Int) (ds : List Nat), vs = [.ref a, .ref b] ∧ SqL K H a (ns.map V.int) ∧ H b = some (.lst ((ic ds).map V.int)) ∧ ns.length ≤ 63 ∧ Rising 0 ns.length ds ∧
  ∀ (r : Addr) (H' : Hp), Same H H' → H r = none → H' r = some (.lst ((betw ns 0 ds).map V.int)) → Q (.ref r) H'
def spNoneAbove (K : PySem.W.Frag) : Sp := fun vs H Q _ => ∃ (a : Addr) (zs : List Int) (m : Int), vs = [.ref a, .int m] ∧ SqL K H a (zs.map V.int) ∧ zs.length ≤ 1000 ∧ ∀ H', Same H H' → Q (.bl (zs.all fun z => decide (z ≤ m))) H'
def spNoneBelow (K : PySem.W.Frag) : Sp := fun vs H Q _ => ∃ (a : Addr) (zs : List Int) (m : Int), vs = [.ref a, .int m] ∧ SqL K H a (zs.map V.int) ∧ zs.length ≤ 1000 ∧ ∀ H', Same H H' → Q (.bl (zs.all fun z => decide (m ≤ z))) H'
def spNeeded : Sp := fun vs H Q _ => ∃ (a : Addr) (ns : List Int) (b : Int), vs = [.ref a, .int b] ∧ H a = some (.lst (ns.map V.int)) ∧ ns.length ≤ 63 ∧ ∀ (r : Addr) (H' : Hp), Same H H' → H r = none → H' r = some (.lst ((ic (needed b ns)).map V.int)) → Q (.ref r) H'
def spNeeding : Sp := fun vs H Q _ => ∃ (a : Addr) (cs : List Nat), vs = [.ref a] ∧ H a = some (.lst ((ic cs).map V.int)) ∧ cs.length ≤ 63 ∧ ∀ (r : Addr) (H' : Hp) (xs : List V), Same H H' → H r = none → H' r = some (.lst xs) → PairsT H' xs (zipP 0 cs) → Q (.ref r) H'
def spFirstAbove : Sp := fun vs H Q _ => ∃ (a : Addr) (ns : List Int) (b : Int), vs = [.ref a, .int b] ∧ H a = some (.lst (ns.map V.int)) ∧ ∀ H', Same H H' → (∀ (p : Nat) (z : Int), ns[p]? = some z → b < z → Q (.int p) H') ∧ ((∀ z ∈ ns, z ≤ b) → Q .non H')
def spLeastNum : Sp := fun vs H Q _ => ∃ (a : Addr) (ns : List Int) (k : Int), vs = [.ref a, .int k] ∧ H a = some (.lst (ns.map V.int)) ∧ ns.length ≤ 63 ∧ Good ns ∧ (1 ≤ k ∧ k < 1073741824) ∧ ∀ (H' : Hp) (num : Int), Same H H' → 0 ≤ num → (∀ z ∈ ns, z ≤ num) → ((needed num ns).length : Int) < k →
  (num = 0 ∨ num ∈ ns ∨ (1 ≤ num ∧ (∀ z ∈ ns, z ≤ num - 1) ∧ k ≤ ((needed (num - 1) ns).length : Int))) → Q (.int num) H'
def spFilling : Sp := fun vs H Q _ => ∃ (a : Addr) (ns : List Int) (b : Int), vs = [.ref a, .int b] ∧ H a = some (.lst (ns.map V.int)) ∧ ns.length ≤ 63 ∧ ∀ (r : Addr) (H' : Hp), Same H H' → H r = none → H' r = some (.lst ((ic (filling b ns)).map V.int)) → Q (.ref r) H'
theorem PairsT.at2 {H : Hp} : ∀ {xs : List V} {ps : List (Int × Int)} {i : Nat} {x : V}, PairsT H xs ps → xs[i]? = some x → ∃ p f e, ps[i]? = some (f, e) ∧ x = .ref p ∧ H p = some (.tup [.int f, .int e])
  | [], [], _, _, _, h => by simp at h
  | x :: xs, (f, e) :: ps, 0, y, ⟨⟨p, hp, ht⟩, _⟩, h => by
    have : x = y := by simpa using h
    subst this
    exact ⟨p, f, e, rfl, hp, ht⟩
  | x :: xs, (f, e) :: ps, i + 1, y, ⟨_, hr⟩, h => by
    obtain ⟨p, f', e', h1, h2⟩ := hr.at2 (i := i) (x := y) (by simpa using h)
    exact ⟨p, f', e', by simpa using h1, h2⟩
  | [], _ :: _, _, _, h, _ => h.elim
  | _ :: _, [], _, _, h, _ => h.elim
def bearsB (ns : List Int) (m : Int) (ps : List (Int × Int)) : Bool := (ps.map fun p => bear ns p.1 p.2).all fun z => decide (m ≤ z)
theorem bears_all {ns : List Int} {m : Int} {ps : List (Int × Int)} : (ps.all fun p => decide (m ≤ bear ns p.1 p.2)) = bearsB ns m ps := by
  unfold bearsB; rw [List.all_map]; rfl
theorem rise1 {n : Nat} {cs : List Int} (h : risingB n 0 cs = true) : ∃ ds : List Nat, cs = ic ds ∧ Rising 1 n ds := rising_nat (lo := 1) h
theorem rise0 {n : Nat} {cs : List Int} (h : risingB n (-1) cs = true) : ∃ ds : List Nat, cs = ic ds ∧ Rising 0 n ds := rising_nat (lo := 0) h
theorem dueF_low {ns : List Int} {b : Int} {cs : List Int} {ps : List (Int × Int)} (h : risingB ns.length 0 cs = false) : dueF ns b cs ps = false := by unfold dueF; rw [h]; rfl
theorem dueF_val {ns : List Int} {b : Int} {ds : List Nat} {ps : List (Int × Int)} (hri : Rising 1 ns.length ds) :
    dueF ns b (ic ds) ps = ((borneM ns ds).all (fun z => decide (z ≤ b)) && (chainB ns.length 0 ps && (decide (ps.length = ds.length) && bearsB ns (b + 1) ps))) := by
  have r := rising_of hri
  rw [show ((1 : Nat) : Int) - 1 = 0 by decide] at r
  unfold dueF fits
  rw [r, link_split, bears_all, ic_toNat, ← borne_law hri, ic_len, decide_eq_decide.mpr (eq_comm (a := ds.length) (b := ps.length))]
  cases (borneM ns ds).all (fun z => decide (z ≤ b)) <;> cases chainB ns.length 0 ps <;> cases decide (ps.length = ds.length) <;> cases bearsB ns (b + 1) ps <;> rfl
def needB (ns : List Int) (k num : Int) (ps : List (Int × Int)) : Bool := decide (num = 0) || decide (num ∈ ns) || (chainB ns.length 0 ps && (decide ((ps.length : Int) = k) && bearsB ns num ps))
theorem dueL_low {ns : List Int} {k num : Int} {cs : List Int} {ps : List (Int × Int)} (h : risingB ns.length 0 cs = false) : dueL ns k cs num ps = false := by unfold dueL; rw [h]; rfl
theorem dueL_val {ns : List Int} {k num : Int} {ds : List Nat} {ps : List (Int × Int)} (hg : Good ns) (hk : 1 ≤ k) (hri : Rising 1 ns.length ds) :
    dueL ns k (ic ds) num ps = (decide ((ds.length : Int) < k) && ((borneM ns ds).all (fun z => decide (z ≤ num)) && needB ns k num ps)) := by
  have r := rising_of hri
  rw [show ((1 : Nat) : Int) - 1 = 0 by decide] at r
  have key : num < 0 → ((borneM ns ds).all (fun z => decide (z ≤ num)) && needB ns k num ps) = false := by
    intro neg
    by_cases e : ns = []
    · subst e
      have : needB [] k num ps = false := by
        unfold needB
        rw [decide_eq_false (by omega), decide_eq_false (by simp)]
        cases ps with
        | nil => rw [decide_eq_false (show ¬ ((([] : List (Int × Int)).length : Nat) : Int) = k by simp; omega)]; simp
        | cons p ps =>
          obtain ⟨f, e⟩ := p
          simp only [chainB, List.length_nil]
          by_cases c1 : (0 : Int) ≤ f
          · by_cases c2 : f < e
            · rw [decide_eq_false (show ¬ e < ((0 : Nat) : Int) by omega)]; simp
            · rw [decide_eq_false c2]; simp
          · rw [decide_eq_false c1]; simp
      rw [this, Bool.and_false]
    · have ex : ∃ z ∈ borneM ns ds, 0 ≤ z := by
        unfold borneM
        rw [if_neg e]
        cases ds with
        | nil => exact ⟨_, List.mem_singleton.mpr rfl, by rw [Int.zero_add]; exact sum_nonneg fun x hx => (hg x (List.mem_of_mem_drop hx)).1⟩
        | cons d ds => exact ⟨_, List.mem_cons_self .., by rw [Int.zero_add]; exact sum_nonneg fun x hx => (hg x (List.mem_of_mem_drop (List.mem_of_mem_take hx))).1⟩
      obtain ⟨z, hz, h0⟩ := ex
      have : (borneM ns ds).all (fun z => decide (z ≤ num)) = false := by
        rw [← Bool.not_eq_true, List.all_eq_true]
        intro h
        have := of_decide_eq_true (h z hz)
        omega
      rw [this]; rfl
  unfold dueL fits
  rw [r, ic_len, ic_toNat, ← borne_law hri, link_split, bears_all]
  by_cases c : 0 ≤ num
  · rw [decide_eq_true c]
    unfold needB
    cases decide ((ds.length : Int) < k) <;> cases (borneM ns ds).all (fun z => decide (z ≤ num)) <;> cases decide (num = 0) <;> cases decide (num ∈ ns) <;> cases chainB ns.length 0 ps <;> cases decide ((ps.length : Int) = k) <;> cases bearsB ns num ps <;> rfl
  · rw [key (by omega), decide_eq_false c]
    simp
def fullB (ns : List Int) (b : Int) (ds es : List Nat) : Bool := if es = [] then decide (ds = []) else decide (ds.length + 1 = es.length) && (borneM ns ds).all fun z => decide (b ≤ z)
theorem dueM_low1 {ns : List Int} {b : Int} {cs pl : List Int} (h : risingB ns.length 0 cs = false) : dueM ns b cs pl = false := by unfold dueM; rw [h]; rfl
theorem dueM_low2 {ns : List Int} {b : Int} {cs pl : List Int} (h : risingB ns.length (-1) pl = false) : dueM ns b cs pl = false := by unfold dueM; rw [h]; simp
theorem ic_nil {es : List Nat} : ic es = [] ↔ es = [] := by cases es <;> simp [ic]
theorem ic_zero {ds : List Nat} : ((ic ds).length : Int) = 0 ↔ ds = [] := by
  rw [ic_len]
  constructor
  · intro z
    exact List.eq_nil_of_length_eq_zero (by omega)
  · intro z
    rw [z]; rfl
theorem dueM_val {ns : List Int} {b : Int} {ds es : List Nat} (h1 : Rising 1 ns.length ds) (h0 : Rising 0 ns.length es) :
    dueM ns b (ic ds) (ic es) = ((betw ns 0 es).all (fun z => decide (z ≤ b - 1)) && fullB ns b ds es) := by
  have r := rising_of h1
  rw [show ((1 : Nat) : Int) - 1 = 0 by decide] at r
  have r0 := rising_of h0
  rw [show ((0 : Nat) : Int) - 1 = -1 by decide] at r0
  unfold dueM fullB
  rw [r, r0, ic_toNat, ic_toNat, ← borne_law h1, ic_len, ic_len]
  have e : (fun z : Int => decide (z < b)) = fun z => decide (z ≤ b - 1) := by
    funext z
    exact decide_eq_decide.mpr (by omega)
  rw [e]
  by_cases c : es = []
  · rw [if_pos (ic_nil.mpr c), if_pos c, show decide (ic ds = []) = decide (ds = []) from decide_eq_decide.mpr ic_nil]
    simp
  · rw [if_neg (fun z => c (ic_nil.mp z)), if_neg c]
    simp
theorem borneM_len {ns : List Int} {ds : List Nat} (h : ns.length ≤ 63) (hri : Rising 1 ns.length ds) : (borneM ns ds).length ≤ 1000 := by
  rw [borne_law hri]
  have := lawBorne_len (cs := ds) h
  omega
def spIsNeeded (K : PySem.W.Frag) (C : Addr) : Sp := fun vs H Q _ => ∃ (x a cA sA : Addr) (ns : List Int) (k : Int) (cs : List Int) (num : Int) (xs : List V) (ps : List (Int × Int)), vs = [.ref x, .ref a, .int k] ∧ SqL K H a (ns.map V.int) ∧ LeastAt C H x cA sA cs num xs ps ∧ ps.length ≤ 200 ∧
  ∀ H', Same H H' → Q (.bl (needB ns k num ps)) H'
def spFullParts (K : PySem.W.Frag) (C : Addr) : Sp := fun vs H Q _ => ∃ (x a cA pA : Addr) (ns : List Int) (b : Int) (ds es : List Nat), vs = [.ref x, .ref a, .int b] ∧ SqL K H a (ns.map V.int) ∧ ns.length ≤ 63 ∧ Rising 1 ns.length ds ∧ MostAt C H x cA pA (ic ds) (ic es) ∧
  ∀ H', Same H H' → Q (.bl (fullB ns b ds es)) H'
theorem zipP_pairs {H2 : Hp} : ∀ (cs : List Nat) (st : Nat) (as : List Addr), as.length = cs.length → (∀ (j : Nat) (x y : V), ((V.int st :: (ic cs).map V.int).zip ((ic cs).map V.int))[j]? = some (x, y) → ∃ p, as[j]? = some p ∧ H2 p = some (.tup [x, y])) →
    PairsT H2 (as.map V.ref) (zipP st cs)
  | [], st, [], _, _ => trivial
  | [], st, a :: as, h, _ => by simp at h
  | c :: cs, st, [], h, _ => by simp at h
  | c :: cs, st, a :: as, hl, h => by
    refine ⟨?_, zipP_pairs cs c as (by simpa using hl) fun j x y e => ?_⟩
    · obtain ⟨p, e1, e2⟩ := h 0 (V.int st) (V.int c) rfl
      have e1 : a = p := by simpa using e1
      subst e1
      exact ⟨a, rfl, e2⟩
    · obtain ⟨p, e1, e2⟩ := h (j + 1) x y (by simpa [ic] using e)
      exact ⟨p, by simpa using e1, e2⟩
theorem PairsT.take {H : Hp} : ∀ {xs : List V} {ps : List (Int × Int)} (n : Nat), PairsT H xs ps → PairsT H (xs.take n) (ps.take n)
  | [], [], n, _ => by simp only [List.take_nil]; trivial
  | _ :: _, (_, _) :: _, 0, _ => trivial
  | _ :: _, (_, _) :: _, n + 1, ⟨a, h⟩ => ⟨a, h.take n⟩
  | [], _ :: _, _, h => h.elim
  | _ :: _, [], _, h => h.elim
theorem cut_last (xs : List V) : cutV xs none (some (-1)) = xs.dropLast := by
  unfold cutV HT.sIx
  simp only [List.drop_zero, Nat.sub_zero]
  rw [if_pos (by decide), List.dropLast_eq_take]
  congr 1
  omega
theorem putF_len (f : Str) (v : V) : ∀ fs : List (Str × V), (putF f v fs).length ≤ fs.length + 1
  | [] => Nat.le_refl _
  | (g, x) :: r => by
    rw [show putF f v ((g, x) :: r) = (if g = f then (g, v) :: r else (g, x) :: putF f v r) from rfl]
    have := putF_len f v r
    split <;> simp only [List.length_cons] <;> omega
theorem putF_s1 {f : Str} {v : V} : (putF f v []).length < 1000 := Nat.lt_of_le_of_lt (putF_len _ _ _) (by decide)
theorem putF_s2 {f g : Str} {u v : V} : (putF f u (putF g v [])).length < 1000 := Nat.lt_of_le_of_lt (Nat.le_trans (putF_len _ _ _) (Nat.succ_le_succ (putF_len _ _ _))) (by decide)
def mu2 : St → Nat
  | [_, _, _, _, some (.int lo), some (.int hi), _] => (hi - lo).toNat
  | _ => 0
def plus1 : V → V
  | .int z => .int (z + 1)
  | _ => .non
theorem icCuts (es : List Nat) : ((ic es).map V.int).dropLast.map plus1 = (ic (cutsOf es)).map V.int := by
  rw [cutsOf_eq]
  unfold ic
  rw [← List.map_dropLast, ← List.map_dropLast, List.map_map, List.map_map, List.map_map, List.map_map]
  rfl
section
variable {P : Program} {w : World} {K : PySem.W.Frag} {mg : Str → Option Value} {base : Heap} {f : Addr} {fd : FuncData}
theorem sc_is_whole : FnScope ["value"] ["value"] (defScope (top 7)) := ⟨rfl, rfl, rfl, by decide +kernel, rfl, by decide +kernel, by decide +kernel⟩
theorem ok_is_whole (T : Txt mg)  (F : Fun K "is_whole" "is_whole" (top 7) f fd) : FnOk P w K mg base CX0 1 f fd ["value"] spWhole := by
  have S := sc_is_whole
  refine F.ok S (fun vs H Q E h => ?_) (fun cdv A outer s H vs Q E hr h => ?_)
  · obtain ⟨i, rfl, _⟩ := h
    rfl
  obtain ⟨i, rfl, q⟩ := h
  refine ⟨_, (pss_one (ps_ret (pe_and (pe_callB call_isi' rfl T.b_isinstance boot_isinstance (pa_cons (pv 0) (pa_cons (pe_bltn (v := .ty "int") rfl T.b_int boot_int rfl) pa_nil))) (pe_one (pe_not (pe_callB call_isi' rfl T.b_isinstance boot_isinstance (pa_cons (pv 0) (pa_cons (pe_bltn (v := .ty "bool") rfl T.b_bool boot_bool rfl) pa_nil)))))))), ?_⟩
  try dsimp only [cxOf, Cx.nox, Cx.wish]
  walk_at "rd"
  refine rd_isiInt (kit_int_int K) ?_
  walk_at "rd"
  refine rd_isiInt (kit_int_bool K) ?_
  walk_at "rd"
  exact q
theorem sc_is_whole_from : FnScope ["value", "least"] ["value", "least"] (defScope (top 8)) := ⟨rfl, rfl, rfl, by decide +kernel, rfl, by decide +kernel, by decide +kernel⟩
theorem ok_is_whole_from (T : Txt mg) (C_is_whole : Callee P w K mg base "is_whole" ["value"] 1 spWhole) (F : Fun K "is_whole_from" "is_whole_from" (top 8) f fd) : FnOk P w K mg base CX0 2 f fd ["value", "least"] spWholeFrom := by
  have S := sc_is_whole_from
  refine F.ok S (fun vs H Q E h => ?_) (fun cdv A outer s H vs Q E hr h => ?_)
  · obtain ⟨i, m, rfl, _⟩ := h
    rfl
  obtain ⟨i, m, rfl, q⟩ := h
  refine ⟨_, (pss_one (ps_ret (pe_and (pe_callC C_is_whole (hr.mono (by decide)) rfl (pa_cons (pv 0) pa_nil)) (pe_one (pe_cmpR op_ge (pv 0) (pv 1) (nomark _)))))), ?_⟩
  try dsimp only [cxOf, Cx.nox, Cx.wish]
  walk_at "rd"
  refine ⟨i, rfl, ?_⟩
  walk_at "rd"
  exact q
theorem sc_is_load : FnScope ["value"] ["value"] (defScope (top 9)) := ⟨rfl, rfl, rfl, by decide +kernel, rfl, by decide +kernel, by decide +kernel⟩
theorem ok_is_load (T : Txt mg) (C_is_whole_from : Callee P w K mg base "is_whole_from" ["value", "least"] 2 spWholeFrom) (F : Fun K "is_load" "is_load" (top 9) f fd) : FnOk P w K mg base CX0 3 f fd ["value"] spLoad := by
  have S := sc_is_load
  refine F.ok S (fun vs H Q E h => ?_) (fun cdv A outer s H vs Q E hr h => ?_)
  · obtain ⟨i, rfl, _⟩ := h
    rfl
  obtain ⟨i, rfl, h1, h2, q⟩ := h
  refine ⟨_, (pss_one (ps_ret (pe_and (pe_callC C_is_whole_from (hr.mono (by decide)) rfl (pa_cons (pv 0) (pa_cons pe_int pa_nil))) (pe_one (pe_cmpR op_le (pv 0) (pe_globI T.g_MOST_LOAD rfl) (nomark _)))))), ?_⟩
  try dsimp only [cxOf, Cx.nox, Cx.wish]
  walk_at "rd"
  refine ⟨i, 0, rfl, ?_⟩
  walk_at "rd"
  rw [decide_eq_true h1]
  walk_at "rd"
  rw [decide_eq_true h2]
  exact q
theorem sc_is_row : FnScope ["value", "load"] ["value"] (defScope (top 10)) := ⟨rfl, rfl, rfl, by decide +kernel, rfl, by decide +kernel, by decide +kernel⟩
theorem ok_is_row (T : Txt mg) (C_is_load : Callee P w K mg base "is_load" ["value"] 3 spLoad) (F : Fun K "is_row" "is_row" (top 10) f fd) : FnOk P w K mg base CX0 4 f fd ["value"] (spIsRow K) := by
  have S := sc_is_row
  refine F.ok S (fun vs H Q E h => ?_) (fun cdv A outer s H vs Q E hr h => ?_)
  · obtain ⟨a, ns, rfl, _⟩ := h
    rfl
  obtain ⟨a, ns, rfl, hS, hl, hg, q⟩ := h
  refine ⟨_, (pss_cons (ps_if (PW.pt (pw_or (pt_not (pt_val (pe_callB call_isiL rfl T.b_isinstance boot_isinstance (pa_cons (pv 0) (pa_cons (pe_bltn (v := .ty "list") rfl T.b_list boot_list rfl) pa_nil))))) (pw_or1 (pt_cmpR op_gt (pe_callB call_len' rfl T.b_len PySem.boot_len (pa_cons (pv 0) pa_nil)) (pe_globI T.g_MOST_LOADS rfl) (nomark _)))))
      (pss_one (ps_ret pe_bl))
      pss_nil)
    (pss_cons (ps_for PassesOwn.never rfl (pi_list (pv 0)) (pg_name (i := 1) S.nd rfl (Or.inl rfl))
      (pss_one (ps_if (pt_not (pt_val (pe_callC C_is_load (hr.mono (by decide)) rfl (pa_cons (pv 1) pa_nil))))
        (pss_one (ps_ret pe_bl))
        pss_nil)))
    (pss_one (ps_ret pe_bl)))), ?_⟩
  try dsimp only [cxOf, Cx.nox, Cx.wish]
  walk_at "rd"
  refine rd_isiL hS (kit_list_list K) ?_
  walk_at "rd"
  rw [Bool.not_true]
  walk_at "rd"
  rw [decide_eq_false (by omega)]
  walk_at "rd"
  refine ⟨a, rfl, ⟨_, hS⟩, for_listF (K := K) (a := a) (xs := ns.map V.int) (fun i σ H2 => ∃ v, σ = [some (.ref a), v] ∧ H2 = H) ⟨none, rfl, rfl⟩ (fun i σ H2 _ hh => ?_) ?_ ?_⟩
  · obtain ⟨_, _, rfl⟩ := hh
    exact hS
  · rintro i y σ H2 hi ⟨v, rfl, rfl⟩
    obtain ⟨z, rfl, hz⟩ := at_int hi
    have gz := hg z (mem_of_at hz)
    walk_at "rd"
    refine ⟨z, rfl, gz.1, gz.2, ?_⟩
    walk_at "rd"
    rw [Bool.not_true]
    walk_at "rd"
    exact ⟨_, rfl, rfl⟩
  · rintro σ H2 ⟨v, rfl, rfl⟩
    walk_at "rd"
    exact q
theorem sc_are_rising_places : FnScope ["value", "row", "least", "free", "place"] ["value", "row", "least"] (defScope (top 11)) := ⟨rfl, rfl, rfl, by decide +kernel, rfl, by decide +kernel, by decide +kernel⟩
theorem ok_are_rising_places (T : Txt mg) (C_is_whole_from : Callee P w K mg base "is_whole_from" ["value", "least"] 2 spWholeFrom) (F : Fun K "are_rising_places" "are_rising_places" (top 11) f fd) : FnOk P w K mg base CX0 3 f fd ["value", "row", "least"] (spRisingP K) := by
  have S := sc_are_rising_places
  refine F.ok S (fun vs H Q E h => ?_) (fun cdv A outer s H vs Q E hr h => ?_)
  · obtain ⟨b, a, ns, cs, m, rfl, _⟩ := h
    rfl
  obtain ⟨b, a, ns, cs, m, rfl, hS, hb, q⟩ := h
  refine ⟨_, (pss_cons (ps_if (pt_not (pt_val (pe_callB call_isiL rfl T.b_isinstance boot_isinstance (pa_cons (pv 0) (pa_cons (pe_bltn (v := .ty "list") rfl T.b_list boot_list rfl) pa_nil)))))
      (pss_one (ps_ret pe_bl))
      pss_nil)
    (pss_cons (ps_set (i := 3) S.nd rfl (Or.inl rfl) (pv 2))
    (pss_cons (ps_for PassesOwn.never rfl (pi_list (pv 0)) (pg_name (i := 4) S.nd rfl (Or.inl rfl))
      (pss_cons (ps_if (PW.pt (pw_or (pt_not (pt_val (pe_callC C_is_whole_from (hr.mono (by decide)) rfl (pa_cons (pv 4) (pa_cons (pv 3) pa_nil))))) (pw_or1 (pt_cmpR op_ge (pv 4) (pe_callB call_len' rfl T.b_len PySem.boot_len (pa_cons (pv 1) pa_nil)) (nomark _)))))
        (pss_one (ps_ret pe_bl))
        pss_nil)
      (pss_one (ps_set (i := 3) S.nd rfl (Or.inl rfl) (pe_op op_add (pv 4) pe_int)))))
    (pss_one (ps_ret pe_bl))))), ?_⟩
  try dsimp only [cxOf, Cx.nox, Cx.wish]
  have hB : SqL K H b (cs.map V.int) := SqL.of hb
  walk_at "rd"
  refine rd_isiL hB (kit_list_list K) ?_
  walk_at "rd"
  rw [Bool.not_true]
  walk_at "rd"
  refine ⟨b, rfl, ⟨_, hB⟩, for_listF (K := K) (a := b) (xs := cs.map V.int) (fun i σ H2 => ∃ (g : Int) (v : Option V), σ = [some (.ref b), some (.ref a), some (.int m), some (.int g), v] ∧ H2 = H ∧ risingB ns.length (g - 1) (cs.drop i) = risingB ns.length (m - 1) cs) ⟨m, none, rfl, rfl, rfl⟩ (fun i σ H2 _ hh => ?_) ?_ ?_⟩
  · obtain ⟨_, _, _, rfl, _⟩ := hh
    exact hB
  · rintro i y σ H2 hi ⟨g, v, rfl, rfl, eq⟩
    obtain ⟨z, rfl, hz⟩ := at_int hi
    rw [drop_at hz] at eq
    simp only [risingB] at eq
    walk_at "rd"
    refine ⟨z, g, rfl, ?_⟩
    walk_at "rd"
    by_cases c1 : g ≤ z
    · rw [decide_eq_true c1, Bool.not_true]
      walk_at "rd"
      by_cases c2 : z < ns.length
      · rw [decide_eq_false (by omega)]
        walk_at "rd"
        refine ⟨_, _, rfl, rfl, ?_⟩
        rw [← eq, decide_eq_true (show g - 1 < z by omega), decide_eq_true c2, show z + 1 - 1 = z by omega]
        simp
      · rw [decide_eq_true (by omega)]
        walk_at "rd"
        rw [decide_eq_false c2, Bool.and_false, Bool.false_and] at eq
        rw [← eq] at q
        exact q
    · rw [decide_eq_false c1, Bool.not_false]
      walk_at "rd"
      rw [decide_eq_false (show ¬ g - 1 < z by omega), Bool.false_and, Bool.false_and] at eq
      rw [← eq] at q
      exact q
  · rintro σ H2 ⟨g, v, rfl, rfl, eq⟩
    rw [List.length_map, List.drop_eq_nil_of_le (Nat.le_refl _)] at eq
    walk_at "rd"
    rw [← eq] at q
    exact q
theorem sc_are_cuts : FnScope ["value", "row"] ["value", "row"] (defScope (top 12)) := ⟨rfl, rfl, rfl, by decide +kernel, rfl, by decide +kernel, by decide +kernel⟩
theorem ok_are_cuts (T : Txt mg) (C_are_rising_places : Callee P w K mg base "are_rising_places" ["value", "row", "least"] 3 (spRisingP K)) (F : Fun K "are_cuts" "are_cuts" (top 12) f fd) : FnOk P w K mg base CX0 4 f fd ["value", "row"] (spAreCuts K) := by
  have S := sc_are_cuts
  refine F.ok S (fun vs H Q E h => ?_) (fun cdv A outer s H vs Q E hr h => ?_)
  · obtain ⟨b, a, ns, cs, rfl, _⟩ := h
    rfl
  obtain ⟨b, a, ns, cs, rfl, hS, hb, q⟩ := h
  refine ⟨_, (pss_one (ps_ret (pe_callC C_are_rising_places (hr.mono (by decide)) rfl (pa_cons (pv 0) (pa_cons (pv 1) (pa_cons pe_int pa_nil)))))), ?_⟩
  try dsimp only [cxOf, Cx.nox, Cx.wish]
  walk_at "rd"
  refine ⟨b, a, ns, cs, 1, rfl, hS, hb, ?_⟩
  exact q
theorem sc_check_row : FnScope ["value"] ["value"] (defScope (top 13)) := ⟨rfl, rfl, rfl, by decide +kernel, rfl, by decide +kernel, by decide +kernel⟩
theorem ok_check_row (T : Txt mg) (C_is_row : Callee P w K mg base "is_row" ["value"] 4 (spIsRow K)) (F : Fun K "check_row" "check_row" (top 13) f fd) : FnOk P w K mg base CX0 5 f fd ["value"] spCheckRow := by
  have S := sc_check_row
  refine F.ok S (fun vs H Q E h => ?_) (fun cdv A outer s H vs Q E hr h => ?_)
  · obtain ⟨a, ns, rfl, _⟩ := h
    rfl
  obtain ⟨a, ns, rfl, ha, hl, hg, q⟩ := h
  refine ⟨_, (pss_one (ps_if (pt_not (pt_val (pe_callC C_is_row (hr.mono (by decide)) rfl (pa_cons (pv 0) pa_nil))))
      (pss_one ps_never)
      pss_nil)), ?_⟩
  try dsimp only [cxOf, Cx.nox, Cx.wish]
  walk_at "rd"
  refine ⟨a, ns, rfl, SqL.of ha, hl, hg, ?_⟩
  walk_at "rd"
  rw [Bool.not_true]
  walk_at "rd"
  exact q
theorem sc_part_sums : FnScope ["row", "cuts", "sums", "start", "cut"] ["row", "cuts"] (defScope (top 14)) := ⟨rfl, rfl, rfl, by decide +kernel, rfl, by decide +kernel, by decide +kernel⟩
theorem ok_part_sums (T : Txt mg)  (F : Fun K "part_sums" "part_sums" (top 14) f fd) : FnOk P w K mg base CX0 1 f fd ["row", "cuts"] (spPartSums K) := by
  have S := sc_part_sums
  refine F.ok S (fun vs H Q E h => ?_) (fun cdv A outer s H vs Q E hr h => ?_)
  · obtain ⟨a, b, ns, cs, rfl, _⟩ := h
    rfl
  obtain ⟨a, b, ns, cs, rfl, hS, hb, hl, hri, q⟩ := h
  refine ⟨_, (pss_cons (ps_if (pt_cmpR op_eq (pe_callB call_len' rfl T.b_len PySem.boot_len (pa_cons (pv 0) pa_nil)) pe_int (nomark _))
      (pss_one (ps_ret (pe_lst pa_nil)))
      pss_nil)
    (pss_cons (ps_set (i := 2) S.nd rfl (Or.inl rfl) (pe_lst pa_nil))
    (pss_cons (ps_set (i := 3) S.nd rfl (Or.inl rfl) pe_int)
    (pss_cons (ps_for PassesOwn.never rfl (pi_list (pv 1)) (pg_name (i := 4) S.nd rfl (Or.inl rfl))
      (pss_cons (ps_expr (pe_bm PySem.F.plainAttrs_list PySem.F.slot_list_append PySem.F.type_list_append mt_append (pv 2) (pa_cons (pe_callB (call_sum' rfl) rfl T.b_sum boot_sum (pa_cons (pe_slice sl_list (pv 0) (po_some (pv 3)) (po_some (pv 4))) pa_nil)) pa_nil)))
      (pss_one (ps_set (i := 3) S.nd rfl (Or.inl rfl) (pv 4)))))
    (pss_cons (ps_expr (pe_bm PySem.F.plainAttrs_list PySem.F.slot_list_append PySem.F.type_list_append mt_append (pv 2) (pa_cons (pe_callB (call_sum' rfl) rfl T.b_sum boot_sum (pa_cons (pe_slice sl_list (pv 0) (po_some (pv 3)) po_none) pa_nil)) pa_nil)))
    (pss_one (ps_ret (pv 2)))))))), ?_⟩
  try dsimp only [cxOf, Cx.nox, Cx.wish]
  have hkS : ∀ {H2 : Hp}, Same H H2 → SqL K H2 a (ns.map V.int) := fun s2 => s2.seq hS
  walk_at "rd"
  refine ite2 (fun c => ?_) (fun c => ?_)
  · have c : ns = [] := by
      have := of_decide_eq_true c
      exact List.eq_nil_of_length_eq_zero (by omega)
    walk_at "rd"
    refine ⟨Nat.zero_le _, fun r hr' => ?_⟩
    exact q r _ (same_new hr' _) hr' (by rw [upd_same, borneM, if_pos c]; rfl)
  · have c : ns ≠ [] := fun z => c (by rw [z]; rfl)
    walk_at "rd"
    refine ⟨Nat.zero_le _, fun r hr' => ?_⟩
    walk_at "rd"
    have nrb : r ≠ b := fun z => by rw [z, hb] at hr'; cases hr'
    have cl : cs.length + 1 ≤ 64 := by
      by_cases z : ns.length = 0
      · exact absurd (List.eq_nil_of_length_eq_zero z) c
      · have := hri.len (by omega)
        omega
    refine ⟨b, rfl, ⟨_, SqL.of (by rw [upd_ne nrb.symm]; exact hb)⟩, for_listF (K := K) (a := b) (xs := (ic cs).map V.int)
      (fun i σ H2 => ∃ (st : Nat) (v : Option V) (done : List Int), σ = [some (.ref a), some (.ref b), some (.ref r), some (.int st), v] ∧ Same H H2 ∧ H2 r = some (.lst (done.map V.int)) ∧ done.length = i ∧ done ++ partsFrom ns st 0 (cs.drop i) = partsFrom ns 0 0 cs ∧ st ≤ ns.length) ⟨0, none, [], rfl, same_new hr' _, upd_same, rfl, rfl, Nat.zero_le _⟩ (fun i σ H2 _ hh => ?_) ?_ ?_⟩
    · obtain ⟨_, _, _, _, sm, _⟩ := hh
      exact SqL.of (sm _ _ hb)
    · rintro i y σ H2 hi ⟨st, v, done, rfl, sm, hd, dl, eq, sl⟩
      obtain ⟨z, rfl, hz⟩ := at_int hi
      obtain ⟨c, rfl, hc⟩ := at_ic hz
      obtain ⟨g1, g2, _⟩ := hri.at hc
      have il : i < cs.length := lt_of_at hc
      walk_at "rd"
      refine ⟨tyL (SqL.of hd), ?_⟩
      walk_at "rd"
      refine rd_slL (hkS sm) fun p hp => ?_
      have nrp : r ≠ p := fun z => by rw [← z, hd] at hp; cases hp
      walk_at "rd"
      refine rd_sum (ns := (ns.drop st).take (c - st)) (SqL.of ?_) ?_
      · rw [upd_same, cut_ints, HT.sIx_nat, HT.sIx_nat, Nat.min_eq_left sl, Nat.min_eq_left (Nat.le_of_lt g2)]
      walk_at "rd"
      refine rd_append (xs := done.map V.int) (by rw [upd_ne nrp]; exact hd) (by rw [List.length_map]; exact small1000 (by omega)) ?_
      walk_at "rd"
      refine ⟨c, _, done ++ [((ns.drop st).take (c - st)).sum], rfl, fun d o z => ?_, ?_, ?_, ?_, Nat.le_of_lt g2⟩
      · have z2 := sm d o z
        rw [upd_ne (ne_of_none z hr'), upd_ne (ne_of_none z2 hp)]
        exact z2
      · rw [upd_same, List.map_append]
        rfl
      · rw [List.length_append, dl]
        rfl
      · rw [← eq, drop_at hc, List.append_assoc]
        simp only [partsFrom, Int.zero_add, List.singleton_append]
    · rintro σ H2 ⟨st, v, done, rfl, sm, hd, dl, eq, sl⟩
      rw [List.length_map, ic_len] at dl eq
      walk_at "rd"
      refine ⟨tyL (SqL.of hd), ?_⟩
      walk_at "rd"
      refine rd_slL (hkS sm) fun p hp => ?_
      have nrp : r ≠ p := fun z => by rw [← z, hd] at hp; cases hp
      walk_at "rd"
      refine rd_sum (ns := ns.drop st) (SqL.of ?_) ?_
      · rw [upd_same, cut_ints, HT.sIx_nat, HT.sIx_none, Nat.min_eq_left sl, List.take_of_length_le (by rw [List.length_drop]; omega)]
      walk_at "rd"
      refine rd_append (xs := done.map V.int) (by rw [upd_ne nrp]; exact hd) (by rw [List.length_map]; exact small1000 (by omega)) ?_
      walk_at "rd"
      refine q r _ (fun d o z => ?_) hr' ?_
      · have z2 := sm d o z
        rw [upd_ne (ne_of_none z hr'), upd_ne (ne_of_none z2 hp)]
        exact z2
      · rw [upd_same, borneM, if_neg c, ← eq, List.drop_eq_nil_of_le (Nat.le_refl _), List.map_append]
        simp only [partsFrom, Int.zero_add]
        rfl
end
def spMkF (C : Addr) : Sp := fun vs H Q _ => ∃ (x dx a b : Addr) (cs : List Int) (xs : List V), vs = [.ref x, .ref a, .ref b] ∧ H x = some (.ins C dx []) ∧ H a = some (.lst (cs.map V.int)) ∧ H b = some (.lst xs) ∧ cs.length ≤ 200 ∧ xs.length ≤ 200 ∧
  ∀ (cA sA : Addr) (fs : List (Str × V)) (H' : Hp), H' x = some (.ins C dx fs) → fs.lookup ("cuts" : Str) = some (.ref cA) → fs.lookup ("stretches" : Str) = some (.ref sA) → fs.lookup ("shows" : Str) = none → H cA = none → H sA = none → cA ≠ sA → H' cA = some (.lst (cs.map V.int)) → H' sA = some (.lst xs) → (∀ d o, d ≠ x → H d = some o → H' d = some o) → Q .non H'
def spMkL (C : Addr) : Sp := fun vs H Q _ => ∃ (x dx a b : Addr) (cs : List Int) (num : Int) (xs : List V), vs = [.ref x, .ref a, .int num, .ref b] ∧ H x = some (.ins C dx []) ∧ H a = some (.lst (cs.map V.int)) ∧ H b = some (.lst xs) ∧ cs.length ≤ 200 ∧ xs.length ≤ 200 ∧
  ∀ (cA sA : Addr) (fs : List (Str × V)) (H' : Hp), H' x = some (.ins C dx fs) → fs.lookup ("cuts" : Str) = some (.ref cA) → fs.lookup ("number" : Str) = some (.int num) → fs.lookup ("stretches" : Str) = some (.ref sA) → fs.lookup ("shows" : Str) = none ∧ fs.lookup ("is_needed" : Str) = none → H cA = none → H sA = none → cA ≠ sA → H' cA = some (.lst (cs.map V.int)) → H' sA = some (.lst xs) → (∀ d o, d ≠ x → H d = some o → H' d = some o) → Q .non H'
def spMkM (C : Addr) : Sp := fun vs H Q _ => ∃ (x dx a b : Addr) (cs pl : List Int), vs = [.ref x, .ref a, .ref b] ∧ H x = some (.ins C dx []) ∧ H a = some (.lst (cs.map V.int)) ∧ H b = some (.lst (pl.map V.int)) ∧ cs.length ≤ 200 ∧ pl.length ≤ 200 ∧
  ∀ (cA sA : Addr) (fs : List (Str × V)) (H' : Hp), H' x = some (.ins C dx fs) → fs.lookup ("cuts" : Str) = some (.ref cA) → fs.lookup ("places" : Str) = some (.ref sA) → fs.lookup ("shows" : Str) = none ∧ fs.lookup ("has_full_parts" : Str) = none → H cA = none → H sA = none → cA ≠ sA → H' cA = some (.lst (cs.map V.int)) → H' sA = some (.lst (pl.map V.int)) → (∀ d o, d ≠ x → H d = some o → H' d = some o) → Q .non H'
def spMkG (C : Addr) : Sp := fun vs H Q _ => ∃ (x dx : Addr) (p : Int), vs = [.ref x, .int p] ∧ H x = some (.ins C dx []) ∧
  ∀ (fs : List (Str × V)) (H' : Hp), H' x = some (.ins C dx fs) → fs.lookup ("place" : Str) = some (.int p) → fs.lookup ("shows" : Str) = none → (∀ d o, d ≠ x → H d = some o → H' d = some o) → Q .non H'
section
variable {C : Addr} {H1 : Hp} {x dx a b : Addr} {cs pl : List Int} {xs : List V} {num : Int} {R : Hp → Prop}
theorem mk_same {H2 : Hp} (hx : H1 x = none) (hd : H1 dx = none) (h : ∀ d o, d ≠ x → upd (upd H1 dx (.own x)) x (.ins C dx []) d = some o → H2 d = some o) : Same H1 H2 := fun d o e => by
  have n1 : d ≠ x := ne_of_none e hx
  have n2 : d ≠ dx := ne_of_none e hd
  exact h d o n1 (by rw [upd_ne n1, upd_ne n2]; exact e)
theorem mk_free {o1 o2 : HO} {d : Addr} (h : upd (upd H1 dx o1) x o2 d = none) : H1 d = none := by
  by_cases n1 : d = x
  · rw [n1, upd_same] at h; cases h
  · rw [upd_ne n1] at h
    by_cases n2 : d = dx
    · rw [n2, upd_same] at h; cases h
    · rw [upd_ne n2] at h; exact h
theorem mk_old {o1 o2 o : HO} {d : Addr} (hx : H1 x = none) (hd : H1 dx = none) (h : H1 d = some o) : upd (upd H1 dx o1) x o2 d = some o := by
  rw [upd_ne (ne_of_none h hx), upd_ne (ne_of_none h hd)]; exact h
theorem mkF_use {ps : List (Int × Int)} (hx : H1 x = none) (hd : H1 dx = none) (ha : H1 a = some (.lst (cs.map V.int))) (hb : H1 b = some (.lst xs)) (hp : PairsT H1 xs ps) (l1 : cs.length ≤ 200) (l2 : xs.length ≤ 200)
    (q : ∀ (cA sA : Addr) (H2 : Hp), Same H1 H2 → FewAt C H2 x cA sA cs xs ps → H1 cA = none → H1 sA = none → cA ≠ sA → R H2) :
    spMkF C [.ref x, .ref a, .ref b] (upd (upd H1 dx (.own x)) x (.ins C dx [])) (fun v H2 => v = .non ∧ R H2) E0 :=
  ⟨x, dx, a, b, cs, xs, rfl, upd_same, mk_old hx hd ha, mk_old hx hd hb, l1, l2, fun cA sA fs H' e1 e2 e3 e4 e5 e6 e7 e8 e9 e10 =>
    ⟨rfl, q cA sA H' (mk_same hx hd e10) ⟨⟨dx, fs, e1, e2, e3, e4⟩, e8, e9, hp.same (mk_same hx hd e10)⟩ (mk_free e5) (mk_free e6) e7⟩⟩
theorem mkL_use {ps : List (Int × Int)} (hx : H1 x = none) (hd : H1 dx = none) (ha : H1 a = some (.lst (cs.map V.int))) (hb : H1 b = some (.lst xs)) (hp : PairsT H1 xs ps) (l1 : cs.length ≤ 200) (l2 : xs.length ≤ 200)
    (q : ∀ (cA sA : Addr) (H2 : Hp), Same H1 H2 → LeastAt C H2 x cA sA cs num xs ps → H1 cA = none → H1 sA = none → cA ≠ sA → R H2) :
    spMkL C [.ref x, .ref a, .int num, .ref b] (upd (upd H1 dx (.own x)) x (.ins C dx [])) (fun v H2 => v = .non ∧ R H2) E0 :=
  ⟨x, dx, a, b, cs, num, xs, rfl, upd_same, mk_old hx hd ha, mk_old hx hd hb, l1, l2, fun cA sA fs H' e1 e2 e2' e3 e4 e5 e6 e7 e8 e9 e10 =>
    ⟨rfl, q cA sA H' (mk_same hx hd e10) ⟨⟨dx, fs, e1, e2, e2', e3, e4⟩, e8, e9, hp.same (mk_same hx hd e10)⟩ (mk_free e5) (mk_free e6) e7⟩⟩
theorem mkM_use (hx : H1 x = none) (hd : H1 dx = none) (ha : H1 a = some (.lst (cs.map V.int))) (hb : H1 b = some (.lst (pl.map V.int))) (l1 : cs.length ≤ 200) (l2 : pl.length ≤ 200)
    (q : ∀ (cA sA : Addr) (H2 : Hp), Same H1 H2 → MostAt C H2 x cA sA cs pl → H1 cA = none → H1 sA = none → cA ≠ sA → R H2) :
    spMkM C [.ref x, .ref a, .ref b] (upd (upd H1 dx (.own x)) x (.ins C dx [])) (fun v H2 => v = .non ∧ R H2) E0 :=
  ⟨x, dx, a, b, cs, pl, rfl, upd_same, mk_old hx hd ha, mk_old hx hd hb, l1, l2, fun cA sA fs H' e1 e2 e3 e4 e5 e6 e7 e8 e9 e10 =>
    ⟨rfl, q cA sA H' (mk_same hx hd e10) ⟨⟨dx, fs, e1, e2, e3, e4⟩, e8, e9⟩ (mk_free e5) (mk_free e6) e7⟩⟩
theorem mkG_use {p : Int} (hx : H1 x = none) (hd : H1 dx = none) (q : ∀ (H2 : Hp), Same H1 H2 → GreatAt C H2 x p → R H2) :
    spMkG C [.ref x, .int p] (upd (upd H1 dx (.own x)) x (.ins C dx [])) (fun v H2 => v = .non ∧ R H2) E0 :=
  ⟨x, dx, p, rfl, upd_same, fun fs H' e1 e2 e3 e4 => ⟨rfl, q H' (mk_same hx hd e4) ⟨dx, fs, e1, e2, e3⟩⟩⟩
end
def spSays : Sp := fun vs H Q _ => ∃ b c : Bool, vs = [.bl b, .bl c] ∧ Q (.bl (decide (b = c))) H
def spBent : Sp := fun vs H Q _ => ∃ (a : Addr) (cell : Int) (more : V) (xs : List V), vs = [.ref a, .int cell, more] ∧ H a = some (.lst xs) ∧ xs.length ≤ 150 ∧
  ∀ (r : Addr) (H' : Hp) (ys : List V), Same H H' → H r = none → H' r = some (.lst ys) → ys.length ≤ xs.length + 1 → (∀ y ∈ ys, y ∈ xs ∨ y = more) → Q (.ref r) H'
def spNudged : Sp := fun vs H Q _ => ∃ (a : Addr) (cell : Int) (ns : List Int), vs = [.ref a, .int cell] ∧ H a = some (.lst (ns.map V.int)) ∧ ns.length ≤ 150 ∧
  ∀ (r : Addr) (H' : Hp) (ms : List Int), Same H H' → H r = none → H' r = some (.lst (ms.map V.int)) → ms.length = ns.length → Q (.ref r) H'
theorem ints_of : ∀ {ys : List V}, (∀ y ∈ ys, ∃ z, y = .int z) → ∃ ds : List Int, ys = ds.map V.int
  | [], _ => ⟨[], rfl⟩
  | y :: ys, h => by
    obtain ⟨z, rfl⟩ := h y (List.mem_cons_self ..)
    obtain ⟨ds, rfl⟩ := ints_of (ys := ys) fun y hy => h y (List.mem_cons_of_mem _ hy)
    exact ⟨z :: ds, rfl⟩
theorem pairs_of {H : Hp} : ∀ {ys : List V}, (∀ y ∈ ys, ∃ p f e, y = .ref p ∧ H p = some (.tup [.int f, .int e])) → ∃ ps, PairsT H ys ps
  | [], _ => ⟨[], trivial⟩
  | y :: ys, h => by
    obtain ⟨p, f, e, h1, h2⟩ := h y (List.mem_cons_self ..)
    obtain ⟨ps, hp⟩ := pairs_of (ys := ys) fun y hy => h y (List.mem_cons_of_mem _ hy)
    exact ⟨(f, e) :: ps, ⟨p, h1, h2⟩, hp⟩
theorem PairsT.refs {H : Hp} : ∀ {xs : List V} {ps : List (Int × Int)}, PairsT H xs ps → ∃ as : List Addr, xs = as.map V.ref
  | [], [], _ => ⟨[], rfl⟩
  | _ :: _, (_, _) :: _, ⟨⟨p, h1, _⟩, h⟩ => by
    obtain ⟨as, rfl⟩ := h.refs
    exact ⟨p :: as, by rw [h1]; rfl⟩
  | [], _ :: _, h => h.elim
  | _ :: _, [], h => h.elim
theorem PairsT.mem {H : Hp} {xs : List V} {ps : List (Int × Int)} (h : PairsT H xs ps) {x : V} (hx : x ∈ xs) : ∃ p f e, x = .ref p ∧ H p = some (.tup [.int f, .int e]) := by
  obtain ⟨i, hi⟩ := List.mem_iff_getElem?.mp hx
  exact h.at hi
theorem cut_to (xs : List V) {k : Int} (h0 : 0 ≤ k) (h : k ≤ xs.length) : cutV xs none (some k) = xs.take k.toNat := by
  obtain ⟨n, rfl⟩ := Int.eq_ofNat_of_zero_le h0
  unfold cutV
  rw [HT.sIx_none, HT.sIx_nat, Nat.min_eq_left (by omega), List.drop_zero, Nat.sub_zero]
  rfl
theorem cut_from (xs : List V) {k : Int} (h0 : 0 ≤ k) (h : k ≤ xs.length) : cutV xs (some k) none = xs.drop k.toNat := by
  obtain ⟨n, rfl⟩ := Int.eq_ofNat_of_zero_le h0
  unfold cutV
  rw [HT.sIx_none, HT.sIx_nat, Nat.min_eq_left (by omega), List.take_of_length_le (by rw [List.length_drop]; exact Nat.le_refl _)]
  rfl
theorem cut_one (xs : List V) {k : Int} (h0 : 0 ≤ k) (h : k < xs.length) : cutV xs (some k) (some (k + 1)) = (xs.drop k.toNat).take 1 := by
  obtain ⟨n, rfl⟩ := Int.eq_ofNat_of_zero_le h0
  unfold cutV
  rw [show ((n : Int) + 1) = ((n + 1 : Nat) : Int) from rfl, HT.sIx_nat, HT.sIx_nat, Nat.min_eq_left (by omega), Nat.min_eq_left (by omega), Nat.add_sub_cancel_left]
  rfl
theorem atI_lt {xs : List V} {k : Int} (h0 : 0 ≤ k) (h : k < xs.length) : ∃ y, xs[k.toNat]? = some y ∧ atI xs k = some y := by
  obtain ⟨n, rfl⟩ := Int.eq_ofNat_of_zero_le h0
  have hn : n < xs.length := by omega
  exact ⟨xs[n], by simp [hn], atI_nat (by simp [hn])⟩
section
variable {P : Program} {w : World} {K : PySem.W.Frag} {mg : Str → Option Value} {base : Heap} {f : Addr} {fd : FuncData} {ca : CA}
theorem sc_Fewest_init : FnScope ["self", "cuts", "stretches"] ["self", "cuts", "stretches"] (defScope (inClass (top 23) 0)) := ⟨rfl, rfl, rfl, by decide +kernel, rfl, by decide +kernel, by decide +kernel⟩
theorem ok_Fewest_init (T : Txt mg) (c : Cl K mg ca) (F : Fun K "__init__" "Fewest.__init__" (inClass (top 23) 0) f fd) : FnOk P w K mg base CX0 2 f fd ["self", "cuts", "stretches"] (spMkF ca.Fewest) := by
  have S := sc_Fewest_init
  refine F.ok S (fun vs H Q E h => ?_) (fun cdv A outer s H vs Q E hr h => ?_)
  · obtain ⟨x, dx, a, b, cs, xs, rfl, _⟩ := h
    rfl
  obtain ⟨x, dx, a, b, cs, xs, rfl, hx, ha, hb, l1, l2, q⟩ := h
  refine ⟨_, (pss_cons (ps_fld (pv 0) (pe_callTy call_list' rfl T.b_list boot_list (pa_cons (pv 1) pa_nil)) rfl)
    (pss_one (ps_fld (pv 0) (pe_callTy call_list' rfl T.b_list boot_list (pa_cons (pv 2) pa_nil)) rfl))), ?_⟩
  try dsimp only [cxOf, Cx.nox, Cx.wish]
  walk_at "rd"
  refine rd_listOf (SqL.of ha) fun cA hcA => ?_
  have xc : x ≠ cA := ne_of_none hx hcA
  walk_at "rd"
  refine ⟨x, _, dx, _, rfl, by rw [upd_ne xc]; exact hx, c.y_Fewest.cl, c.n_Fewest_cuts, by decide, ?_⟩
  walk_at "rd"
  have nb1 : b ≠ x := ne_of hb hx (by intro z; cases z)
  refine rd_listOf (SqL.of (by rw [upd_ne nb1, upd_ne (ne_of_none hb hcA)]; exact hb)) fun sA hsA => ?_
  have xs' : sA ≠ x := fun z => by rw [z, upd_same] at hsA; cases hsA
  rw [upd_ne xs'] at hsA
  have sc : sA ≠ cA := fun z => by rw [z, upd_same] at hsA; cases hsA
  rw [upd_ne sc] at hsA
  walk_at "rd"
  refine ⟨x, _, dx, _, rfl, by rw [upd_ne xs'.symm, upd_same], c.y_Fewest.cl, c.n_Fewest_stretches, putF_s1, ?_⟩
  refine q cA sA _ _ upd_same rfl rfl rfl hcA hsA sc.symm ?_ ?_ ?_
  · rw [upd_ne xc.symm, upd_ne sc.symm, upd_ne xc.symm, upd_same]
  · rw [upd_ne xs', upd_same]
  · intro d o nd e
    rw [upd_ne nd, upd_ne (ne_of_none e hsA), upd_ne nd, upd_ne (ne_of_none e hcA)]
    exact e
theorem sc_Great_init : FnScope ["self", "place"] ["self", "place"] (defScope (inClass (top 24) 0)) := ⟨rfl, rfl, rfl, by decide +kernel, rfl, by decide +kernel, by decide +kernel⟩
theorem ok_Great_init (T : Txt mg) (c : Cl K mg ca) (F : Fun K "__init__" "Great.__init__" (inClass (top 24) 0) f fd) : FnOk P w K mg base CX0 2 f fd ["self", "place"] (spMkG ca.Great) := by
  have S := sc_Great_init
  refine F.ok S (fun vs H Q E h => ?_) (fun cdv A outer s H vs Q E hr h => ?_)
  · obtain ⟨x, dx, p, rfl, _⟩ := h
    rfl
  obtain ⟨x, dx, p, rfl, hx, q⟩ := h
  refine ⟨_, (pss_one (ps_fld (pv 0) (pv 1) rfl)), ?_⟩
  try dsimp only [cxOf, Cx.nox, Cx.wish]
  walk_at "rd"
  refine ⟨x, _, dx, _, rfl, hx, c.y_Great.cl, c.n_Great_place, by decide, ?_⟩
  refine q _ _ upd_same rfl rfl ?_
  intro d o nd e
  rw [upd_ne nd]
  exact e
theorem sc_Least_init : FnScope ["self", "cuts", "number", "stretches"] ["self", "cuts", "number", "stretches"] (defScope (inClass (top 25) 0)) := ⟨rfl, rfl, rfl, by decide +kernel, rfl, by decide +kernel, by decide +kernel⟩
theorem ok_Least_init (T : Txt mg) (c : Cl K mg ca) (F : Fun K "__init__" "Least.__init__" (inClass (top 25) 0) f fd) : FnOk P w K mg base CX0 2 f fd ["self", "cuts", "number", "stretches"] (spMkL ca.Least) := by
  have S := sc_Least_init
  refine F.ok S (fun vs H Q E h => ?_) (fun cdv A outer s H vs Q E hr h => ?_)
  · obtain ⟨x, dx, a, b, cs, num, xs, rfl, _⟩ := h
    rfl
  obtain ⟨x, dx, a, b, cs, num, xs, rfl, hx, ha, hb, l1, l2, q⟩ := h
  refine ⟨_, (pss_cons (ps_fld (pv 0) (pe_callTy call_list' rfl T.b_list boot_list (pa_cons (pv 1) pa_nil)) rfl)
    (pss_cons (ps_fld (pv 0) (pv 2) rfl)
    (pss_one (ps_fld (pv 0) (pe_callTy call_list' rfl T.b_list boot_list (pa_cons (pv 3) pa_nil)) rfl)))), ?_⟩
  try dsimp only [cxOf, Cx.nox, Cx.wish]
  walk_at "rd"
  refine rd_listOf (SqL.of ha) fun cA hcA => ?_
  have xc : x ≠ cA := ne_of_none hx hcA
  walk_at "rd"
  refine ⟨x, _, dx, _, rfl, by rw [upd_ne xc]; exact hx, c.y_Least.cl, c.n_Least_cuts, by decide, ?_⟩
  walk_at "rd"
  refine ⟨x, _, dx, _, rfl, upd_same, c.y_Least.cl, c.n_Least_number, putF_s1, ?_⟩
  walk_at "rd"
  have nb1 : b ≠ x := ne_of hb hx (by intro z; cases z)
  refine rd_listOf (SqL.of (by rw [upd_ne nb1, upd_ne nb1, upd_ne (ne_of_none hb hcA)]; exact hb)) fun sA hsA => ?_
  have xs' : sA ≠ x := fun z => by rw [z, upd_same] at hsA; cases hsA
  rw [upd_ne xs', upd_ne xs'] at hsA
  have sc : sA ≠ cA := fun z => by rw [z, upd_same] at hsA; cases hsA
  rw [upd_ne sc] at hsA
  walk_at "rd"
  refine ⟨x, _, dx, _, rfl, by rw [upd_ne xs'.symm, upd_same], c.y_Least.cl, c.n_Least_stretches, putF_s2, ?_⟩
  refine q cA sA _ _ upd_same rfl rfl rfl ⟨rfl, rfl⟩ hcA hsA sc.symm ?_ ?_ ?_
  · rw [upd_ne xc.symm, upd_ne sc.symm, upd_ne xc.symm, upd_ne xc.symm, upd_same]
  · rw [upd_ne xs', upd_same]
  · intro d o nd e
    rw [upd_ne nd, upd_ne (ne_of_none e hsA), upd_ne nd, upd_ne nd, upd_ne (ne_of_none e hcA)]
    exact e
theorem sc_Most_init : FnScope ["self", "cuts", "places"] ["self", "cuts", "places"] (defScope (inClass (top 26) 0)) := ⟨rfl, rfl, rfl, by decide +kernel, rfl, by decide +kernel, by decide +kernel⟩
theorem ok_Most_init (T : Txt mg) (c : Cl K mg ca) (F : Fun K "__init__" "Most.__init__" (inClass (top 26) 0) f fd) : FnOk P w K mg base CX0 2 f fd ["self", "cuts", "places"] (spMkM ca.Most) := by
  have S := sc_Most_init
  refine F.ok S (fun vs H Q E h => ?_) (fun cdv A outer s H vs Q E hr h => ?_)
  · obtain ⟨x, dx, a, b, cs, pl, rfl, _⟩ := h
    rfl
  obtain ⟨x, dx, a, b, cs, pl, rfl, hx, ha, hb, l1, l2, q⟩ := h
  refine ⟨_, (pss_cons (ps_fld (pv 0) (pe_callTy call_list' rfl T.b_list boot_list (pa_cons (pv 1) pa_nil)) rfl)
    (pss_one (ps_fld (pv 0) (pe_callTy call_list' rfl T.b_list boot_list (pa_cons (pv 2) pa_nil)) rfl))), ?_⟩
  try dsimp only [cxOf, Cx.nox, Cx.wish]
  walk_at "rd"
  refine rd_listOf (SqL.of ha) fun cA hcA => ?_
  have xc : x ≠ cA := ne_of_none hx hcA
  walk_at "rd"
  refine ⟨x, _, dx, _, rfl, by rw [upd_ne xc]; exact hx, c.y_Most.cl, c.n_Most_cuts, by decide, ?_⟩
  walk_at "rd"
  have nb1 : b ≠ x := ne_of hb hx (by intro z; cases z)
  refine rd_listOf (SqL.of (by rw [upd_ne nb1, upd_ne (ne_of_none hb hcA)]; exact hb)) fun sA hsA => ?_
  have xs' : sA ≠ x := fun z => by rw [z, upd_same] at hsA; cases hsA
  rw [upd_ne xs'] at hsA
  have sc : sA ≠ cA := fun z => by rw [z, upd_same] at hsA; cases hsA
  rw [upd_ne sc] at hsA
  walk_at "rd"
  refine ⟨x, _, dx, _, rfl, by rw [upd_ne xs'.symm, upd_same], c.y_Most.cl, c.n_Most_places, putF_s1, ?_⟩
  refine q cA sA _ _ upd_same rfl rfl ⟨rfl, rfl⟩ hcA hsA sc.symm ?_ ?_ ?_
  · rw [upd_ne xc.symm, upd_ne sc.symm, upd_ne xc.symm, upd_same]
  · rw [upd_ne xs', upd_same]
  · intro d o nd e
    rw [upd_ne nd, upd_ne (ne_of_none e hsA), upd_ne nd, upd_ne (ne_of_none e hcA)]
    exact e
end
section
variable {P : Program} {w : World} {K : PySem.W.Frag} {mg : Str → Option Value} {base : Heap} {f : Addr} {fd : FuncData}
theorem sc_is_pair : FnScope ["value"] ["value"] (defScope (top 16)) := ⟨rfl, rfl, rfl, by decide +kernel, rfl, by decide +kernel, by decide +kernel⟩
theorem ok_is_pair (T : Txt mg) (C_is_whole : Callee P w K mg base "is_whole" ["value"] 1 spWhole) (F : Fun K "is_pair" "is_pair" (top 16) f fd) : FnOk P w K mg base CX0 2 f fd ["value"] spIsPair := by
  have S := sc_is_pair
  refine F.ok S (fun vs H Q E h => ?_) (fun cdv A outer s H vs Q E hr h => ?_)
  · obtain ⟨p, x, y, rfl, _⟩ := h
    rfl
  obtain ⟨p, x, y, rfl, hp, q⟩ := h
  refine ⟨_, (pss_one (ps_ret (pe_and (pe_callB call_isi' rfl T.b_isinstance boot_isinstance (pa_cons (pv 0) (pa_cons (pe_bltn (v := .ty "tuple") rfl T.b_tuple boot_tuple rfl) pa_nil))) (pe_and (pe_cmpR op_eq (pe_callB call_len' rfl T.b_len PySem.boot_len (pa_cons (pv 0) pa_nil)) pe_int (nomark _)) (pe_and (pe_callC C_is_whole (hr.mono (by decide)) rfl (pa_cons (pe_ix ix_tup (pv 0) pe_int (fun _ _ => rfl)) pa_nil)) (pe_one (pe_callC C_is_whole (hr.mono (by decide)) rfl (pa_cons (pe_ix ix_tup (pv 0) pe_int (fun _ _ => rfl)) pa_nil)))))))), ?_⟩
  try dsimp only [cxOf, Cx.nox, Cx.wish]
  walk_at "rd"
  refine rd_isiTup hp (kit_tup_tup K) ?_
  walk_at "rd"
  refine rd_lenT (SqT.of hp) ?_
  walk_at "rd"
  rw [decide_eq_true (show ((([V.int x, V.int y] : List V).length : Nat) : Int) = 2 from rfl)]
  walk_at "rd"
  refine rd_ixT (SqT.of hp) (show atI [V.int x, V.int y] 0 = some (V.int x) from rfl) ?_
  walk_at "rd"
  refine ⟨x, rfl, ?_⟩
  walk_at "rd"
  refine rd_ixT (SqT.of hp) (show atI [V.int x, V.int y] 1 = some (V.int y) from rfl) ?_
  walk_at "rd"
  exact ⟨y, rfl, q⟩
theorem sc_are_linked : FnScope ["value", "row", "end", "stretch"] ["value", "row"] (defScope (top 17)) := ⟨rfl, rfl, rfl, by decide +kernel, rfl, by decide +kernel, by decide +kernel⟩
theorem ok_are_linked (T : Txt mg) (C_is_pair : Callee P w K mg base "is_pair" ["value"] 2 spIsPair) (F : Fun K "are_linked" "are_linked" (top 17) f fd) : FnOk P w K mg base CX0 3 f fd ["value", "row"] (spAreLinked K) := by
  have S := sc_are_linked
  refine F.ok S (fun vs H Q E h => ?_) (fun cdv A outer s H vs Q E hr h => ?_)
  · obtain ⟨b, a, ns, xs, ps, rfl, _⟩ := h
    rfl
  obtain ⟨b, a, ns, xs, ps, rfl, hS, hb, hp, q⟩ := h
  refine ⟨_, (pss_cons (ps_if (pt_not (pt_val (pe_callB call_isiL rfl T.b_isinstance boot_isinstance (pa_cons (pv 0) (pa_cons (pe_bltn (v := .ty "list") rfl T.b_list boot_list rfl) pa_nil)))))
      (pss_one (ps_ret pe_bl))
      pss_nil)
    (pss_cons (ps_set (i := 2) S.nd rfl (Or.inl rfl) pe_int)
    (pss_cons (ps_for PassesOwn.never rfl (pi_list (pv 0)) (pg_name (i := 3) S.nd rfl (Or.inl rfl))
      (pss_cons (ps_if (pt_not (pt_val (pe_callC C_is_pair (hr.mono (by decide)) rfl (pa_cons (pv 3) pa_nil))))
        (pss_one (ps_ret pe_bl))
        pss_nil)
      (pss_cons (ps_if (PW.pt (pw_or (pt_cmpR op_lt (pe_ix ix_tup (pv 3) pe_int (fun _ _ => rfl)) (pv 2) (nomark _)) (pw_or (pt_cmpR op_le (pe_ix ix_tup (pv 3) pe_int (fun _ _ => rfl)) (pe_ix ix_tup (pv 3) pe_int (fun _ _ => rfl)) (nomark _)) (pw_or1 (pt_cmpR op_ge (pe_ix ix_tup (pv 3) pe_int (fun _ _ => rfl)) (pe_callB call_len' rfl T.b_len PySem.boot_len (pa_cons (pv 1) pa_nil)) (nomark _))))))
        (pss_one (ps_ret pe_bl))
        pss_nil)
      (pss_one (ps_set (i := 2) S.nd rfl (Or.inl rfl) (pe_ix ix_tup (pv 3) pe_int (fun _ _ => rfl)))))))
    (pss_one (ps_ret pe_bl))))), ?_⟩
  try dsimp only [cxOf, Cx.nox, Cx.wish]
  have hB : SqL K H b xs := SqL.of hb
  walk_at "rd"
  refine rd_isiL hB (kit_list_list K) ?_
  walk_at "rd"
  rw [Bool.not_true]
  walk_at "rd"
  refine ⟨b, rfl, ⟨_, hB⟩, for_listF (K := K) (a := b) (xs := xs) (fun i σ H2 => ∃ (g : Int) (v : Option V), σ = [some (.ref b), some (.ref a), some (.int g), v] ∧ H2 = H ∧ chainB ns.length g (ps.drop i) = chainB ns.length 0 ps) ⟨0, none, rfl, rfl, rfl⟩ (fun i σ H2 _ hh => ?_) ?_ ?_⟩
  · obtain ⟨_, _, _, rfl, _⟩ := hh
    exact hB
  · rintro i y σ H2 hi ⟨g, v, rfl, rfl, eq⟩
    obtain ⟨p, x', e', hq2, rfl, ht⟩ := hp.at2 hi
    rw [drop_at hq2] at eq
    simp only [chainB] at eq
    walk_at "rd"
    refine ⟨p, x', e', rfl, ht, ?_⟩
    walk_at "rd"
    rw [Bool.not_true]
    walk_at "rd"
    refine rd_ixT (SqT.of ht) (show atI [V.int x', V.int e'] 0 = some (V.int x') from rfl) ?_
    walk_at "rd"
    by_cases c1 : g ≤ x'
    · rw [decide_eq_false (by omega)]
      walk_at "rd"
      refine rd_ixT (SqT.of ht) (show atI [V.int x', V.int e'] 1 = some (V.int e') from rfl) ?_
      walk_at "rd"
      refine rd_ixT (SqT.of ht) (show atI [V.int x', V.int e'] 0 = some (V.int x') from rfl) ?_
      walk_at "rd"
      by_cases c2 : x' < e'
      · rw [decide_eq_false (by omega)]
        walk_at "rd"
        refine rd_ixT (SqT.of ht) (show atI [V.int x', V.int e'] 1 = some (V.int e') from rfl) ?_
        walk_at "rd"
        by_cases c3 : e' < ns.length
        · rw [decide_eq_false (by omega)]
          walk_at "rd"
          refine rd_ixT (SqT.of ht) (show atI [V.int x', V.int e'] 1 = some (V.int e') from rfl) ?_
          walk_at "rd"
          refine ⟨_, _, rfl, rfl, ?_⟩
          rw [← eq, decide_eq_true c1, decide_eq_true c2, decide_eq_true c3]
          simp
        · rw [decide_eq_true (by omega)]
          walk_at "rd"
          rw [decide_eq_false c3, Bool.and_false, Bool.false_and] at eq
          rw [← eq] at q
          exact q
      · rw [decide_eq_true (by omega)]
        walk_at "rd"
        rw [decide_eq_false c2, Bool.and_false, Bool.false_and, Bool.false_and] at eq
        rw [← eq] at q
        exact q
    · rw [decide_eq_true (by omega)]
      walk_at "rd"
      rw [decide_eq_false c1, Bool.false_and, Bool.false_and, Bool.false_and] at eq
      rw [← eq] at q
      exact q
  · rintro σ H2 ⟨g, v, rfl, rfl, eq⟩
    rw [hp.len, List.drop_eq_nil_of_le (Nat.le_refl _)] at eq
    walk_at "rd"
    rw [← eq] at q
    exact q
theorem sc_stretch_sums : FnScope ["row", "stretches"] ["row", "stretches"] (defScope (top 18)) := ⟨rfl, rfl, rfl, by decide +kernel, rfl, by decide +kernel, by decide +kernel⟩
theorem ok_stretch_sums (T : Txt mg)  (F : Fun K "stretch_sums" "stretch_sums" (top 18) f fd) : FnOk P w K mg base CX0 1 f fd ["row", "stretches"] (spStretchSums K) := by
  have S := sc_stretch_sums
  refine F.ok S (fun vs H Q E h => ?_) (fun cdv A outer s H vs Q E hr h => ?_)
  · obtain ⟨a, b, ns, xs, ps, rfl, _⟩ := h
    rfl
  obtain ⟨a, b, ns, xs, ps, rfl, hS, hb, hp, hl, hc, q⟩ := h
  refine ⟨_, (pss_one (ps_ret (pe_comp rfl rfl (by decide +kernel) (by decide +kernel) rfl (fr := ["row"]) (by decide +kernel) (.cons (i := 0) rfl rfl (.inl rfl) .nil) (by decide +kernel) (pi_list (pv 1)) (fun _ _ _ _ _ => pf_nil) (fun _ _ _ _ _ => (pe_callB (callK (call_sum' rfl) (K := K) rfl) rfl T.b_sum boot_sum (pa_cons (pe_slice (slK sl_list (K := K) rfl) (pv 1) (po_some (pe_ix (ixK ix_tup (K := K) rfl) (pv 0) pe_int (fun _ _ => rfl))) (po_some (pe_op op_add (pe_ix (ixK ix_tup (K := K) rfl) (pv 0) pe_int (fun _ _ => rfl)) pe_int))) pa_nil)))))), ?_⟩
  try dsimp only [cxOf, Cx.nox, Cx.wish]
  have hB : SqL K H b xs := SqL.of hb
  have ca := chain_at (Int.le_refl 0) hc
  walk_at "rd"
  refine ⟨b, rfl, ⟨_, hB⟩, fun D hD => comp_listS (fun i _ => V.int (bear ns (ps.getD i (0, 0)).1 (ps.getD i (0, 0)).2)) hB hD (by rw [hp.len]; exact hl) (fun i y H2 Q' hi sm q' => ?_) (fun H2 sm hd => ?_)⟩
  · obtain ⟨p, x, e, hq, rfl, ht⟩ := hp.at2 hi
    have hm := ca (x, e) (mem_of_at hq)
    have gd : ps.getD i (0, 0) = (x, e) := by rw [List.getD_eq_getElem?_getD, hq]; rfl
    rw [gd] at q'
    have htt := SqT.of (K := K) (sm _ _ ht)
    walk_at "rd"
    refine rd_ixT htt (show atI [V.int x, V.int e] 0 = some (V.int x) from rfl) ?_
    walk_at "rd"
    refine rd_ixT htt (show atI [V.int x, V.int e] 1 = some (V.int e) from rfl) ?_
    walk_at "rd"
    refine rd_slL (sm.seq hS) fun r hr => ?_
    walk_at "rd"
    refine rd_sum (ns := (ns.drop x.toNat).take ((e + 1).toNat - x.toNat)) (SqL.of ?_) ?_
    · rw [upd_same, cut_ints]
      obtain ⟨h0, h1, h2⟩ := hm
      obtain ⟨x', rfl⟩ := Int.eq_ofNat_of_zero_le h0
      obtain ⟨e', rfl⟩ := Int.eq_ofNat_of_zero_le (show 0 ≤ e by omega)
      rw [show ((e' : Nat) : Int) + 1 = ((e' + 1 : Nat) : Int) from rfl, HT.sIx_nat, HT.sIx_nat, Nat.min_eq_left (by omega), Nat.min_eq_left (by omega)]
      rfl
    exact q' _ (same_new hr _)
  · walk_at "rd"
    refine q D H2 sm hD ?_
    rw [hd]
    congr 2
    apply List.ext_getElem
    · simp [hp.len]
    · intro i h1 h2
      have hi : i < ps.length := by simpa using h2
      simp [hi]
theorem sc_gap_sums : FnScope ["row", "places", "sums", "start", "place"] ["row", "places"] (defScope (top 19)) := ⟨rfl, rfl, rfl, by decide +kernel, rfl, by decide +kernel, by decide +kernel⟩
theorem ok_gap_sums (T : Txt mg)  (F : Fun K "gap_sums" "gap_sums" (top 19) f fd) : FnOk P w K mg base CX0 1 f fd ["row", "places"] (spGapSums K) := by
  have S := sc_gap_sums
  refine F.ok S (fun vs H Q E h => ?_) (fun cdv A outer s H vs Q E hr h => ?_)
  · obtain ⟨a, b, ns, ds, rfl, _⟩ := h
    rfl
  obtain ⟨a, b, ns, ds, rfl, hS, hb, hl, hri, q⟩ := h
  refine ⟨_, (pss_cons (ps_set (i := 2) S.nd rfl (Or.inl rfl) (pe_lst pa_nil))
    (pss_cons (ps_set (i := 3) S.nd rfl (Or.inl rfl) pe_int)
    (pss_cons (ps_for PassesOwn.never rfl (pi_list (pv 1)) (pg_name (i := 4) S.nd rfl (Or.inl rfl))
      (pss_cons (ps_expr (pe_bm PySem.F.plainAttrs_list PySem.F.slot_list_append PySem.F.type_list_append mt_append (pv 2) (pa_cons (pe_callB (call_sum' rfl) rfl T.b_sum boot_sum (pa_cons (pe_slice sl_list (pv 0) (po_some (pv 3)) (po_some (pv 4))) pa_nil)) pa_nil)))
      (pss_one (ps_set (i := 3) S.nd rfl (Or.inl rfl) (pe_op op_add (pv 4) pe_int)))))
    (pss_cons (ps_expr (pe_bm PySem.F.plainAttrs_list PySem.F.slot_list_append PySem.F.type_list_append mt_append (pv 2) (pa_cons (pe_callB (call_sum' rfl) rfl T.b_sum boot_sum (pa_cons (pe_slice sl_list (pv 0) (po_some (pv 3)) po_none) pa_nil)) pa_nil)))
    (pss_one (ps_ret (pv 2))))))), ?_⟩
  try dsimp only [cxOf, Cx.nox, Cx.wish]
  have hkS : ∀ {H2 : Hp}, Same H H2 → SqL K H2 a (ns.map V.int) := fun s2 => s2.seq hS
  walk_at "rd"
  refine ⟨Nat.zero_le _, fun r hr' => ?_⟩
  walk_at "rd"
  have nrb : r ≠ b := fun z => by rw [z, hb] at hr'; cases hr'
  have cl : ds.length ≤ 63 := by
    have := hri.len (Nat.zero_le _)
    omega
  refine ⟨b, rfl, ⟨_, SqL.of (by rw [upd_ne nrb.symm]; exact hb)⟩, for_listF (K := K) (a := b) (xs := (ic ds).map V.int)
    (fun i σ H2 => ∃ (st : Nat) (v : Option V) (done : List Int), σ = [some (.ref a), some (.ref b), some (.ref r), some (.int st), v] ∧ Same H H2 ∧ H2 r = some (.lst (done.map V.int)) ∧ done.length = i ∧ done ++ betw ns st (ds.drop i) = betw ns 0 ds ∧ st ≤ ns.length) ⟨0, none, [], rfl, same_new hr' _, upd_same, rfl, rfl, Nat.zero_le _⟩ (fun i σ H2 _ hh => ?_) ?_ ?_⟩
  · obtain ⟨_, _, _, _, sm, _⟩ := hh
    exact SqL.of (sm _ _ hb)
  · rintro i y σ H2 hi ⟨st, v, done, rfl, sm, hd, dl, eq, sl⟩
    obtain ⟨z, rfl, hz⟩ := at_int hi
    obtain ⟨c, rfl, hc⟩ := at_ic hz
    obtain ⟨g1, g2, _⟩ := hri.at hc
    have il : i < ds.length := lt_of_at hc
    walk_at "rd"
    refine ⟨tyL (SqL.of hd), ?_⟩
    walk_at "rd"
    refine rd_slL (hkS sm) fun p hp => ?_
    have nrp : r ≠ p := fun z => by rw [← z, hd] at hp; cases hp
    walk_at "rd"
    refine rd_sum (ns := (ns.drop st).take (c - st)) (SqL.of ?_) ?_
    · rw [upd_same, cut_ints, HT.sIx_nat, HT.sIx_nat, Nat.min_eq_left sl, Nat.min_eq_left (Nat.le_of_lt g2)]
    walk_at "rd"
    refine rd_append (xs := done.map V.int) (by rw [upd_ne nrp]; exact hd) (by rw [List.length_map]; exact small1000 (by omega)) ?_
    walk_at "rd"
    refine ⟨c + 1, _, done ++ [((ns.drop st).take (c - st)).sum], rfl, fun d o z => ?_, ?_, ?_, ?_, g2⟩
    · have z2 := sm d o z
      rw [upd_ne (ne_of_none z hr'), upd_ne (ne_of_none z2 hp)]
      exact z2
    · rw [upd_same, List.map_append]
      rfl
    · rw [List.length_append, dl]
      rfl
    · rw [← eq, drop_at hc, List.append_assoc]
      simp only [betw, List.singleton_append]
  · rintro σ H2 ⟨st, v, done, rfl, sm, hd, dl, eq, sl⟩
    rw [List.length_map, ic_len] at dl eq
    walk_at "rd"
    refine ⟨tyL (SqL.of hd), ?_⟩
    walk_at "rd"
    refine rd_slL (hkS sm) fun p hp => ?_
    have nrp : r ≠ p := fun z => by rw [← z, hd] at hp; cases hp
    walk_at "rd"
    refine rd_sum (ns := ns.drop st) (SqL.of ?_) ?_
    · rw [upd_same, cut_ints, HT.sIx_nat, HT.sIx_none, Nat.min_eq_left sl, List.take_of_length_le (by rw [List.length_drop]; omega)]
    walk_at "rd"
    refine rd_append (xs := done.map V.int) (by rw [upd_ne nrp]; exact hd) (by rw [List.length_map]; exact small1000 (by omega)) ?_
    walk_at "rd"
    refine q r _ (fun d o z => ?_) hr' ?_
    · have z2 := sm d o z
      rw [upd_ne (ne_of_none z hr'), upd_ne (ne_of_none z2 hp)]
      exact z2
    · rw [upd_same, ← eq, List.drop_eq_nil_of_le (Nat.le_refl _), List.map_append]
      rfl
theorem sc_none_above : FnScope ["sums", "most"] ["sums", "most"] (defScope (top 20)) := ⟨rfl, rfl, rfl, by decide +kernel, rfl, by decide +kernel, by decide +kernel⟩
theorem ok_none_above (T : Txt mg)  (F : Fun K "none_above" "none_above" (top 20) f fd) : FnOk P w K mg base CX0 1 f fd ["sums", "most"] (spNoneAbove K) := by
  have S := sc_none_above
  refine F.ok S (fun vs H Q E h => ?_) (fun cdv A outer s H vs Q E hr h => ?_)
  · obtain ⟨a, zs, m, rfl, _⟩ := h
    rfl
  obtain ⟨a, zs, m, rfl, hS, hl, q⟩ := h
  refine ⟨_, (pss_one (ps_ret (pe_callB (call_all' rfl) rfl T.b_all boot_all (pa_cons (pe_comp rfl rfl (by decide +kernel) (by decide +kernel) rfl (fr := ["most"]) (by decide +kernel) (.cons (i := 1) rfl rfl (.inl rfl) .nil) (by decide +kernel) (pi_list (pv 0)) (fun _ _ _ _ _ => pf_nil) (fun _ _ _ _ _ => (pe_cmpR op_le (pv 0) (pv 1) (nomark _)))) pa_nil)))), ?_⟩
  try dsimp only [cxOf, Cx.nox, Cx.wish]
  walk_at "rd"
  refine ⟨a, rfl, ⟨_, hS⟩, fun D hD => comp_list (fun y => match y with | .int z => .bl (decide (z ≤ m)) | _ => .non) hS hD (by rw [List.length_map]; exact hl) (fun i y H2 Q' hi sm q' => ?_) ?_⟩
  · obtain ⟨z, rfl, hz⟩ := at_int hi
    walk_at "rd"
    exact q'
  walk_at "rd"
  refine rd_all (bs := zs.map fun z => decide (z ≤ m)) (SqL.of ?_) ?_
  · rw [upd_same, List.map_map, List.map_map]
    rfl
  have e : (zs.map fun z => decide (z ≤ m)).all id = zs.all fun z => decide (z ≤ m) := by rw [List.all_map]; rfl
  rw [e]
  exact q _ (same_new hD _)
theorem sc_none_below : FnScope ["sums", "least"] ["sums", "least"] (defScope (top 21)) := ⟨rfl, rfl, rfl, by decide +kernel, rfl, by decide +kernel, by decide +kernel⟩
theorem ok_none_below (T : Txt mg)  (F : Fun K "none_below" "none_below" (top 21) f fd) : FnOk P w K mg base CX0 1 f fd ["sums", "least"] (spNoneBelow K) := by
  have S := sc_none_below
  refine F.ok S (fun vs H Q E h => ?_) (fun cdv A outer s H vs Q E hr h => ?_)
  · obtain ⟨a, zs, m, rfl, _⟩ := h
    rfl
  obtain ⟨a, zs, m, rfl, hS, hl, q⟩ := h
  refine ⟨_, (pss_one (ps_ret (pe_callB (call_all' rfl) rfl T.b_all boot_all (pa_cons (pe_comp rfl rfl (by decide +kernel) (by decide +kernel) rfl (fr := ["least"]) (by decide +kernel) (.cons (i := 1) rfl rfl (.inl rfl) .nil) (by decide +kernel) (pi_list (pv 0)) (fun _ _ _ _ _ => pf_nil) (fun _ _ _ _ _ => (pe_cmpR op_ge (pv 0) (pv 1) (nomark _)))) pa_nil)))), ?_⟩
  try dsimp only [cxOf, Cx.nox, Cx.wish]
  walk_at "rd"
  refine ⟨a, rfl, ⟨_, hS⟩, fun D hD => comp_list (fun y => match y with | .int z => .bl (decide (m ≤ z)) | _ => .non) hS hD (by rw [List.length_map]; exact hl) (fun i y H2 Q' hi sm q' => ?_) ?_⟩
  · obtain ⟨z, rfl, hz⟩ := at_int hi
    walk_at "rd"
    exact q'
  walk_at "rd"
  refine rd_all (bs := zs.map fun z => decide (m ≤ z)) (SqL.of ?_) ?_
  · rw [upd_same, List.map_map, List.map_map]
    rfl
  have e : (zs.map fun z => decide (m ≤ z)).all id = zs.all fun z => decide (m ≤ z) := by rw [List.all_map]; rfl
  rw [e]
  exact q _ (same_new hD _)
end
section
variable {P : Program} {w : World} {K : PySem.W.Frag} {mg : Str → Option Value} {base : Heap} {f : Addr} {fd : FuncData} {ca : CA}
theorem sc_Fewest_shows : FnScope ["self", "row", "bound"] ["self", "row", "bound"] (defScope (inClass (top 23) 1)) := ⟨rfl, rfl, rfl, by decide +kernel, rfl, by decide +kernel, by decide +kernel⟩
theorem ok_Fewest_shows (T : Txt mg) (c : Cl K mg ca) (C_is_row : Callee P w K mg base "is_row" ["value"] 4 (spIsRow K)) (C_is_whole_from : Callee P w K mg base "is_whole_from" ["value", "least"] 2 spWholeFrom) (C_are_cuts : Callee P w K mg base "are_cuts" ["value", "row"] 4 (spAreCuts K)) (C_part_sums : Callee P w K mg base "part_sums" ["row", "cuts"] 1 (spPartSums K)) (C_none_above : Callee P w K mg base "none_above" ["sums", "most"] 1 (spNoneAbove K)) (C_are_linked : Callee P w K mg base "are_linked" ["value", "row"] 3 (spAreLinked K)) (C_stretch_sums : Callee P w K mg base "stretch_sums" ["row", "stretches"] 1 (spStretchSums K)) (C_none_below : Callee P w K mg base "none_below" ["sums", "least"] 1 (spNoneBelow K)) (F : Fun K "shows" "Fewest.shows" (inClass (top 23) 1) f fd) : FnOk P w K mg base CX0 8 f fd ["self", "row", "bound"] (spShowsF K ca) := by
  have S := sc_Fewest_shows
  refine F.ok S (fun vs H Q E h => ?_) (fun cdv A outer s H vs Q E hr h => ?_)
  · obtain ⟨x, a, cA, sA, ns, b, cs, xs, ps, rfl, _⟩ := h
    rfl
  obtain ⟨x, a, cA, sA, ns, b, cs, xs, ps, rfl, hS, hl, hg, h0, fa, l1, l2, q⟩ := h
  refine ⟨_, (pss_one (ps_ret (pe_and (pe_callC C_is_row (hr.mono (by decide)) rfl (pa_cons (pv 1) pa_nil)) (pe_and (pe_callC C_is_whole_from (hr.mono (by decide)) rfl (pa_cons (pv 2) (pa_cons pe_int pa_nil))) (pe_and (pe_callC C_are_cuts (hr.mono (by decide)) rfl (pa_cons (pe_fld (pv 0) rfl) (pa_cons (pv 1) pa_nil))) (pe_and (pe_callC C_none_above (hr.mono (by decide)) rfl (pa_cons (pe_callC C_part_sums (hr.mono (by decide)) rfl (pa_cons (pv 1) (pa_cons (pe_fld (pv 0) rfl) pa_nil))) (pa_cons (pv 2) pa_nil))) (pe_and (pe_callC C_are_linked (hr.mono (by decide)) rfl (pa_cons (pe_fld (pv 0) rfl) (pa_cons (pv 1) pa_nil))) (pe_and (pe_cmpR op_eq (pe_callB call_len' rfl T.b_len PySem.boot_len (pa_cons (pe_fld (pv 0) rfl) pa_nil)) (pe_callB call_len' rfl T.b_len PySem.boot_len (pa_cons (pe_fld (pv 0) rfl) pa_nil)) (nomark _)) (pe_one (pe_callC C_none_below (hr.mono (by decide)) rfl (pa_cons (pe_callC C_stretch_sums (hr.mono (by decide)) rfl (pa_cons (pv 1) (pa_cons (pe_fld (pv 0) rfl) pa_nil))) (pa_cons (pe_op op_add (pv 2) pe_int) pa_nil)))))))))))), ?_⟩
  try dsimp only [cxOf, Cx.nox, Cx.wish]
  obtain ⟨⟨dx, fs, hx, e1, e2, e3⟩, hc, hs, hp⟩ := id fa
  walk_at "rd"
  refine ⟨a, ns, rfl, hS, hl, hg, ?_⟩
  walk_at "rd"
  refine ⟨b, 0, rfl, ?_⟩
  rw [decide_eq_true h0]
  walk_at "rd"
  refine rd_fld hx c.y_Fewest.cl c.n_Fewest_cuts e1 ?_
  walk_at "rd"
  refine ⟨cA, a, ns, cs, rfl, hS, hc, ?_⟩
  cases r1 : risingB ns.length 0 cs with
  | false =>
    walk_at "rd"
    rw [dueF_low r1] at q
    exact q H (Same.refl H)
  | true =>
    obtain ⟨ds, rfl, hri⟩ := rise1 r1
    rw [dueF_val hri] at q
    walk_at "rd"
    refine rd_fld hx c.y_Fewest.cl c.n_Fewest_cuts e1 ?_
    walk_at "rd"
    refine ⟨a, cA, ns, ds, rfl, hS, hc, hl, hri, fun r H2 s2 hr2 hd2 => ?_⟩
    walk_at "rd"
    refine ⟨r, _, b, rfl, SqL.of hd2, borneM_len hl hri, fun H3 s3 => ?_⟩
    have s13 := s2.trans s3
    cases r2 : (borneM ns ds).all fun z => decide (z ≤ b) with
    | false =>
      walk_at "rd"
      rw [r2] at q
      exact q H3 s13
    | true =>
      rw [r2, Bool.true_and] at q
      walk_at "rd"
      refine rd_fld (s13 _ _ hx) c.y_Fewest.cl c.n_Fewest_stretches e2 ?_
      walk_at "rd"
      refine ⟨sA, a, ns, xs, ps, rfl, s13.seq hS, s13 _ _ hs, hp.same s13, ?_⟩
      cases r3 : chainB ns.length 0 ps with
      | false =>
        walk_at "rd"
        rw [r3] at q
        exact q H3 s13
      | true =>
        rw [r3, Bool.true_and] at q
        walk_at "rd"
        refine rd_fld (s13 _ _ hx) c.y_Fewest.cl c.n_Fewest_stretches e2 ?_
        walk_at "rd"
        refine rd_len (SqL.of (s13 _ _ hs)) ?_
        walk_at "rd"
        refine rd_fld (s13 _ _ hx) c.y_Fewest.cl c.n_Fewest_cuts e1 ?_
        walk_at "rd"
        refine rd_lenI (SqL.of (s13 _ _ hc)) ?_
        walk_at "rd"
        rw [show decide ((xs.length : Int) = ((ic ds).length : Int)) = decide (ps.length = ds.length) from decide_eq_decide.mpr (by rw [hp.len, ic_len]; omega)]
        cases r4 : decide (ps.length = ds.length) with
        | false =>
          walk_at "rd"
          rw [r4] at q
          exact q H3 s13
        | true =>
          rw [r4, Bool.true_and] at q
          walk_at "rd"
          refine rd_fld (s13 _ _ hx) c.y_Fewest.cl c.n_Fewest_stretches e2 ?_
          walk_at "rd"
          refine ⟨a, sA, ns, xs, ps, rfl, s13.seq hS, s13 _ _ hs, hp.same s13, by omega, r3, fun r' H4 s4 hr4 hd4 => ?_⟩
          walk_at "rd"
          refine ⟨r', _, b + 1, rfl, SqL.of hd4, by rw [List.length_map]; omega, fun H5 s5 => ?_⟩
          exact q H5 (s13.trans (s4.trans s5))
theorem sc_Great_shows : FnScope ["self", "row", "bound"] ["self", "row", "bound"] (defScope (inClass (top 24) 1)) := ⟨rfl, rfl, rfl, by decide +kernel, rfl, by decide +kernel, by decide +kernel⟩
theorem ok_Great_shows (T : Txt mg) (c : Cl K mg ca) (C_is_row : Callee P w K mg base "is_row" ["value"] 4 (spIsRow K)) (C_is_whole_from : Callee P w K mg base "is_whole_from" ["value", "least"] 2 spWholeFrom) (F : Fun K "shows" "Great.shows" (inClass (top 24) 1) f fd) : FnOk P w K mg base CX0 8 f fd ["self", "row", "bound"] (spShowsG K ca) := by
  have S := sc_Great_shows
  refine F.ok S (fun vs H Q E h => ?_) (fun cdv A outer s H vs Q E hr h => ?_)
  · obtain ⟨x, a, ns, b, p, rfl, _⟩ := h
    rfl
  obtain ⟨x, a, ns, b, p, rfl, hS, hl, hg, h0, fa, q⟩ := h
  refine ⟨_, (pss_one (ps_ret (pe_and (pe_callC C_is_row (hr.mono (by decide)) rfl (pa_cons (pv 1) pa_nil)) (pe_and (pe_callC C_is_whole_from (hr.mono (by decide)) rfl (pa_cons (pv 2) (pa_cons pe_int pa_nil))) (pe_and (pe_callC C_is_whole_from (hr.mono (by decide)) rfl (pa_cons (pe_fld (pv 0) rfl) (pa_cons pe_int pa_nil))) (pe_and (pe_cmpR op_lt (pe_fld (pv 0) rfl) (pe_callB call_len' rfl T.b_len PySem.boot_len (pa_cons (pv 1) pa_nil)) (nomark _)) (pe_one (pe_cmpR op_gt (pe_ix ix_list (pv 1) (pe_fld (pv 0) rfl) (fun _ _ => rfl)) (pv 2) (nomark _))))))))), ?_⟩
  try dsimp only [cxOf, Cx.nox, Cx.wish]
  obtain ⟨dx, fs, hx, e1, e2⟩ := fa
  have q := q H (Same.refl H)
  unfold dueG at q
  walk_at "rd"
  refine ⟨a, ns, rfl, hS, hl, hg, ?_⟩
  walk_at "rd"
  refine ⟨b, 0, rfl, ?_⟩
  rw [decide_eq_true h0]
  walk_at "rd"
  refine rd_fld hx c.y_Great.cl c.n_Great_place e1 ?_
  walk_at "rd"
  refine ⟨p, 0, rfl, ?_⟩
  by_cases c1 : 0 ≤ p
  · rw [decide_eq_true c1, Bool.true_and] at q
    rw [decide_eq_true c1]
    walk_at "rd"
    refine rd_fld hx c.y_Great.cl c.n_Great_place e1 ?_
    walk_at "rd"
    by_cases c2 : p < ns.length
    · rw [decide_eq_true c2, Bool.true_and] at q
      rw [decide_eq_true c2]
      walk_at "rd"
      refine rd_fld hx c.y_Great.cl c.n_Great_place e1 ?_
      walk_at "rd"
      obtain ⟨v, ev, ea⟩ := at_place c1 c2
      refine rd_ixL hS ea ?_
      walk_at "rd"
      rw [List.getD_eq_getElem?_getD, ev] at q
      exact q
    · rw [decide_eq_false c2, Bool.false_and] at q
      rw [decide_eq_false c2]
      walk_at "rd"
      exact q
  · rw [decide_eq_false c1, Bool.false_and, Bool.false_and] at q
    rw [decide_eq_false c1]
    walk_at "rd"
    exact q
end
section
variable {P : Program} {w : World} {K : PySem.W.Frag} {mg : Str → Option Value} {base : Heap} {f : Addr} {fd : FuncData} {ca : CA}
theorem sc_Least_is_needed : FnScope ["self", "row", "count"] ["self", "row", "count"] (defScope (inClass (top 25) 2)) := ⟨rfl, rfl, rfl, by decide +kernel, rfl, by decide +kernel, by decide +kernel⟩
theorem ok_Least_is_needed (T : Txt mg) (c : Cl K mg ca) (C_are_linked : Callee P w K mg base "are_linked" ["value", "row"] 3 (spAreLinked K)) (C_stretch_sums : Callee P w K mg base "stretch_sums" ["row", "stretches"] 1 (spStretchSums K)) (C_none_below : Callee P w K mg base "none_below" ["sums", "least"] 1 (spNoneBelow K)) (F : Fun K "is_needed" "Least.is_needed" (inClass (top 25) 2) f fd) : FnOk P w K mg base CX0 8 f fd ["self", "row", "count"] (spIsNeeded K ca.Least) := by
  have S := sc_Least_is_needed
  refine F.ok S (fun vs H Q E h => ?_) (fun cdv A outer s H vs Q E hr h => ?_)
  · obtain ⟨x, a, cA, sA, ns, k, cs, num, xs, ps, rfl, _⟩ := h
    rfl
  obtain ⟨x, a, cA, sA, ns, k, cs, num, xs, ps, rfl, hS, fa, l2, q⟩ := h
  refine ⟨_, (pss_cons (ps_if (PW.pt (pw_or (pt_cmpR op_eq (pe_fld (pv 0) rfl) pe_int (nomark _)) (pw_or1 (pt_cmpR op_in_seq (pe_fld (pv 0) rfl) (pv 1) (by with_unfolding_all rfl)))))
      (pss_one (ps_ret pe_bl))
      pss_nil)
    (pss_one (ps_ret (pe_and (pe_callC C_are_linked (hr.mono (by decide)) rfl (pa_cons (pe_fld (pv 0) rfl) (pa_cons (pv 1) pa_nil))) (pe_and (pe_cmpR op_eq (pe_callB call_len' rfl T.b_len PySem.boot_len (pa_cons (pe_fld (pv 0) rfl) pa_nil)) (pv 2) (nomark _)) (pe_one (pe_callC C_none_below (hr.mono (by decide)) rfl (pa_cons (pe_callC C_stretch_sums (hr.mono (by decide)) rfl (pa_cons (pv 1) (pa_cons (pe_fld (pv 0) rfl) pa_nil))) (pa_cons (pe_fld (pv 0) rfl) pa_nil))))))))), ?_⟩
  try dsimp only [cxOf, Cx.nox, Cx.wish]
  obtain ⟨⟨dx, fs, hx, e1, e2, e3, e4⟩, hc, hs, hp⟩ := id fa
  unfold needB at q
  walk_at "rd"
  refine rd_fld hx c.y_Least.cl c.n_Least_number e2 ?_
  walk_at "rd"
  by_cases c1 : num = 0
  · rw [decide_eq_true c1, Bool.true_or, Bool.true_or] at q
    rw [decide_eq_true c1]
    walk_at "rd"
    exact q H (Same.refl H)
  rw [decide_eq_false c1, Bool.false_or] at q
  rw [decide_eq_false c1]
  walk_at "rd"
  refine rd_fld hx c.y_Least.cl c.n_Least_number e2 ?_
  walk_at "rd"
  refine rd_inI hS ?_
  walk_at "rd"
  by_cases c2 : num ∈ ns
  · rw [decide_eq_true c2, Bool.true_or] at q
    rw [decide_eq_true c2]
    walk_at "rd"
    exact q H (Same.refl H)
  rw [decide_eq_false c2, Bool.false_or] at q
  rw [decide_eq_false c2]
  walk_at "rd"
  refine rd_fld hx c.y_Least.cl c.n_Least_stretches e3 ?_
  walk_at "rd"
  refine ⟨sA, a, ns, xs, ps, rfl, hS, hs, hp, ?_⟩
  cases r3 : chainB ns.length 0 ps with
  | false =>
    walk_at "rd"
    rw [r3] at q
    exact q H (Same.refl H)
  | true =>
    rw [r3, Bool.true_and] at q
    walk_at "rd"
    refine rd_fld hx c.y_Least.cl c.n_Least_stretches e3 ?_
    walk_at "rd"
    refine rd_len (SqL.of hs) ?_
    walk_at "rd"
    rw [hp.len]
    cases r4 : decide ((ps.length : Int) = k) with
    | false =>
      walk_at "rd"
      rw [r4] at q
      exact q H (Same.refl H)
    | true =>
      rw [r4, Bool.true_and] at q
      walk_at "rd"
      refine rd_fld hx c.y_Least.cl c.n_Least_stretches e3 ?_
      walk_at "rd"
      refine ⟨a, sA, ns, xs, ps, rfl, hS, hs, hp, by omega, r3, fun r' H4 s4 hr4 hd4 => ?_⟩
      walk_at "rd"
      refine rd_fld (s4 _ _ hx) c.y_Least.cl c.n_Least_number e2 ?_
      walk_at "rd"
      refine ⟨r', _, num, rfl, SqL.of hd4, by rw [List.length_map]; omega, fun H5 s5 => ?_⟩
      exact q H5 (s4.trans s5)
theorem sc_Least_shows : FnScope ["self", "row", "count"] ["self", "row", "count"] (defScope (inClass (top 25) 1)) := ⟨rfl, rfl, rfl, by decide +kernel, rfl, by decide +kernel, by decide +kernel⟩
theorem ok_Least_shows (T : Txt mg) (c : Cl K mg ca) (C_is_row : Callee P w K mg base "is_row" ["value"] 4 (spIsRow K)) (C_is_whole_from : Callee P w K mg base "is_whole_from" ["value", "least"] 2 spWholeFrom) (C_is_whole : Callee P w K mg base "is_whole" ["value"] 1 spWhole) (C_are_cuts : Callee P w K mg base "are_cuts" ["value", "row"] 4 (spAreCuts K)) (C_part_sums : Callee P w K mg base "part_sums" ["row", "cuts"] 1 (spPartSums K)) (C_none_above : Callee P w K mg base "none_above" ["sums", "most"] 1 (spNoneAbove K)) (M_Least_is_needed : MethC P w K mg base ca.Least "is_needed" ["self", "row", "count"] 8 (spIsNeeded K ca.Least)) (F : Fun K "shows" "Least.shows" (inClass (top 25) 1) f fd) : FnOk P w K mg base CX0 9 f fd ["self", "row", "count"] (spShowsL K ca.Least) := by
  have S := sc_Least_shows
  refine F.ok S (fun vs H Q E h => ?_) (fun cdv A outer s H vs Q E hr h => ?_)
  · obtain ⟨x, a, cA, sA, ns, k, cs, num, xs, ps, rfl, _⟩ := h
    rfl
  obtain ⟨x, a, cA, sA, ns, k, cs, num, xs, ps, rfl, hS, hl, hg, h0, fa, l1, l2, q⟩ := h
  refine ⟨_, (pss_one (ps_ret (pe_and (pe_callC C_is_row (hr.mono (by decide)) rfl (pa_cons (pv 1) pa_nil)) (pe_and (pe_callC C_is_whole_from (hr.mono (by decide)) rfl (pa_cons (pv 2) (pa_cons pe_int pa_nil))) (pe_and (pe_callC C_is_whole (hr.mono (by decide)) rfl (pa_cons (pe_fld (pv 0) rfl) pa_nil)) (pe_and (pe_callC C_are_cuts (hr.mono (by decide)) rfl (pa_cons (pe_fld (pv 0) rfl) (pa_cons (pv 1) pa_nil))) (pe_and (pe_cmpR op_lt (pe_callB call_len' rfl T.b_len PySem.boot_len (pa_cons (pe_fld (pv 0) rfl) pa_nil)) (pv 2) (nomark _)) (pe_and (pe_callC C_none_above (hr.mono (by decide)) rfl (pa_cons (pe_callC C_part_sums (hr.mono (by decide)) rfl (pa_cons (pv 1) (pa_cons (pe_fld (pv 0) rfl) pa_nil))) (pa_cons (pe_fld (pv 0) rfl) pa_nil))) (pe_one (pe_methG (pv 0) (pa_cons (pv 1) (pa_cons (pv 2) pa_nil)))))))))))), ?_⟩
  try dsimp only [cxOf, Cx.nox, Cx.wish]
  obtain ⟨⟨dx, fs, hx, e1, e2, e3, e4⟩, hc, hs, hp⟩ := id fa
  walk_at "rd"
  refine ⟨a, ns, rfl, hS, hl, hg, ?_⟩
  walk_at "rd"
  refine ⟨k, 1, rfl, ?_⟩
  rw [decide_eq_true h0]
  walk_at "rd"
  refine rd_fld hx c.y_Least.cl c.n_Least_number e2 ?_
  walk_at "rd"
  refine ⟨num, rfl, ?_⟩
  walk_at "rd"
  refine rd_fld hx c.y_Least.cl c.n_Least_cuts e1 ?_
  walk_at "rd"
  refine ⟨cA, a, ns, cs, rfl, hS, hc, ?_⟩
  cases r1 : risingB ns.length 0 cs with
  | false =>
    walk_at "rd"
    rw [dueL_low r1] at q
    exact q H (Same.refl H)
  | true =>
    obtain ⟨ds, rfl, hri⟩ := rise1 r1
    rw [dueL_val hg h0 hri] at q
    walk_at "rd"
    refine rd_fld hx c.y_Least.cl c.n_Least_cuts e1 ?_
    walk_at "rd"
    refine rd_lenI (SqL.of hc) ?_
    walk_at "rd"
    rw [ic_len]
    cases r2 : decide ((ds.length : Int) < k) with
    | false =>
      walk_at "rd"
      rw [r2] at q
      exact q H (Same.refl H)
    | true =>
      rw [r2, Bool.true_and] at q
      walk_at "rd"
      refine rd_fld hx c.y_Least.cl c.n_Least_cuts e1 ?_
      walk_at "rd"
      refine ⟨a, cA, ns, ds, rfl, hS, hc, hl, hri, fun r H2 s2 hr2 hd2 => ?_⟩
      walk_at "rd"
      refine rd_fld (s2 _ _ hx) c.y_Least.cl c.n_Least_number e2 ?_
      walk_at "rd"
      refine ⟨r, _, num, rfl, SqL.of hd2, borneM_len hl hri, fun H3 s3 => ?_⟩
      have s13 := s2.trans s3
      cases r3 : (borneM ns ds).all fun z => decide (z ≤ num) with
      | false =>
        walk_at "rd"
        rw [r3] at q
        exact q H3 s13
      | true =>
        rw [r3, Bool.true_and] at q
        walk_at "rd"
        refine rd_meth M_Least_is_needed (hr.mono (by decide)) (s13 _ _ hx) e4.2 ?_
        walk_at "rd"
        exact ⟨x, a, cA, sA, ns, k, ic ds, num, xs, ps, rfl, s13.seq hS, fa.same s13, l2, fun H4 s4 => q H4 (s13.trans s4)⟩
end
section
variable {P : Program} {w : World} {K : PySem.W.Frag} {mg : Str → Option Value} {base : Heap} {f : Addr} {fd : FuncData} {ca : CA}
theorem sc_Most_has_full_parts : FnScope ["self", "row", "bound"] ["self", "row", "bound"] (defScope (inClass (top 26) 2)) := ⟨rfl, rfl, rfl, by decide +kernel, rfl, by decide +kernel, by decide +kernel⟩
theorem ok_Most_has_full_parts (T : Txt mg) (c : Cl K mg ca) (C_part_sums : Callee P w K mg base "part_sums" ["row", "cuts"] 1 (spPartSums K)) (C_none_below : Callee P w K mg base "none_below" ["sums", "least"] 1 (spNoneBelow K)) (F : Fun K "has_full_parts" "Most.has_full_parts" (inClass (top 26) 2) f fd) : FnOk P w K mg base CX0 8 f fd ["self", "row", "bound"] (spFullParts K ca.Most) := by
  have S := sc_Most_has_full_parts
  refine F.ok S (fun vs H Q E h => ?_) (fun cdv A outer s H vs Q E hr h => ?_)
  · obtain ⟨x, a, cA, pA, ns, b, ds, es, rfl, _⟩ := h
    rfl
  obtain ⟨x, a, cA, pA, ns, b, ds, es, rfl, hS, hl, hri, fa, q⟩ := h
  refine ⟨_, (pss_cons (ps_if (pt_cmpR op_eq (pe_callB call_len' rfl T.b_len PySem.boot_len (pa_cons (pe_fld (pv 0) rfl) pa_nil)) pe_int (nomark _))
      (pss_one (ps_ret (pe_cmpR op_eq (pe_callB call_len' rfl T.b_len PySem.boot_len (pa_cons (pe_fld (pv 0) rfl) pa_nil)) pe_int (nomark _))))
      pss_nil)
    (pss_one (ps_ret (pe_and (pe_cmpR op_eq (pe_op op_add (pe_callB call_len' rfl T.b_len PySem.boot_len (pa_cons (pe_fld (pv 0) rfl) pa_nil)) pe_int) (pe_callB call_len' rfl T.b_len PySem.boot_len (pa_cons (pe_fld (pv 0) rfl) pa_nil)) (nomark _)) (pe_one (pe_callC C_none_below (hr.mono (by decide)) rfl (pa_cons (pe_callC C_part_sums (hr.mono (by decide)) rfl (pa_cons (pv 1) (pa_cons (pe_fld (pv 0) rfl) pa_nil))) (pa_cons (pv 2) pa_nil)))))))), ?_⟩
  try dsimp only [cxOf, Cx.nox, Cx.wish]
  obtain ⟨⟨dx, fs, hx, e1, e2, e3⟩, hc, hs⟩ := id fa
  unfold fullB at q
  walk_at "rd"
  refine rd_fld hx c.y_Most.cl c.n_Most_places e2 ?_
  walk_at "rd"
  refine rd_lenI (SqL.of hs) ?_
  walk_at "rd"
  by_cases c1 : es = []
  · rw [if_pos c1] at q
    rw [decide_eq_true (show ((ic es).length : Int) = 0 by rw [c1]; rfl)]
    walk_at "rd"
    refine rd_fld hx c.y_Most.cl c.n_Most_cuts e1 ?_
    walk_at "rd"
    refine rd_lenI (SqL.of hc) ?_
    walk_at "rd"
    rw [show decide (((ic ds).length : Int) = 0) = decide (ds = []) from decide_eq_decide.mpr ic_zero]
    exact q H (Same.refl H)
  rw [if_neg c1] at q
  have nz : ¬ ((ic es).length : Int) = 0 := fun z => c1 (List.eq_nil_of_length_eq_zero (by rw [ic_len] at z; omega))
  rw [decide_eq_false nz]
  walk_at "rd"
  refine rd_fld hx c.y_Most.cl c.n_Most_cuts e1 ?_
  walk_at "rd"
  refine rd_lenI (SqL.of hc) ?_
  walk_at "rd"
  refine rd_fld hx c.y_Most.cl c.n_Most_places e2 ?_
  walk_at "rd"
  refine rd_lenI (SqL.of hs) ?_
  walk_at "rd"
  rw [show decide (((ic ds).length : Int) + 1 = ((ic es).length : Int)) = decide (ds.length + 1 = es.length) from decide_eq_decide.mpr (by rw [ic_len, ic_len]; omega)]
  cases r2 : decide (ds.length + 1 = es.length) with
  | false =>
    walk_at "rd"
    rw [r2] at q
    exact q H (Same.refl H)
  | true =>
    rw [r2, Bool.true_and] at q
    walk_at "rd"
    refine rd_fld hx c.y_Most.cl c.n_Most_cuts e1 ?_
    walk_at "rd"
    refine ⟨a, cA, ns, ds, rfl, hS, hc, hl, hri, fun r H2 s2 hr2 hd2 => ?_⟩
    walk_at "rd"
    refine ⟨r, _, b, rfl, SqL.of hd2, borneM_len hl hri, fun H3 s3 => ?_⟩
    exact q H3 (s2.trans s3)
theorem sc_Most_shows : FnScope ["self", "row", "bound"] ["self", "row", "bound"] (defScope (inClass (top 26) 1)) := ⟨rfl, rfl, rfl, by decide +kernel, rfl, by decide +kernel, by decide +kernel⟩
theorem ok_Most_shows (T : Txt mg) (c : Cl K mg ca) (C_is_row : Callee P w K mg base "is_row" ["value"] 4 (spIsRow K)) (C_is_whole_from : Callee P w K mg base "is_whole_from" ["value", "least"] 2 spWholeFrom) (C_are_cuts : Callee P w K mg base "are_cuts" ["value", "row"] 4 (spAreCuts K)) (C_are_rising_places : Callee P w K mg base "are_rising_places" ["value", "row", "least"] 3 (spRisingP K)) (C_gap_sums : Callee P w K mg base "gap_sums" ["row", "places"] 1 (spGapSums K)) (C_none_above : Callee P w K mg base "none_above" ["sums", "most"] 1 (spNoneAbove K)) (M_Most_has_full_parts : MethC P w K mg base ca.Most "has_full_parts" ["self", "row", "bound"] 8 (spFullParts K ca.Most)) (F : Fun K "shows" "Most.shows" (inClass (top 26) 1) f fd) : FnOk P w K mg base CX0 9 f fd ["self", "row", "bound"] (spShowsM K ca.Most) := by
  have S := sc_Most_shows
  refine F.ok S (fun vs H Q E h => ?_) (fun cdv A outer s H vs Q E hr h => ?_)
  · obtain ⟨x, a, cA, pA, ns, b, cs, pl, rfl, _⟩ := h
    rfl
  obtain ⟨x, a, cA, pA, ns, b, cs, pl, rfl, hS, hl, hg, h0, fa, l1, l2, q⟩ := h
  refine ⟨_, (pss_one (ps_ret (pe_and (pe_callC C_is_row (hr.mono (by decide)) rfl (pa_cons (pv 1) pa_nil)) (pe_and (pe_callC C_is_whole_from (hr.mono (by decide)) rfl (pa_cons (pv 2) (pa_cons pe_int pa_nil))) (pe_and (pe_callC C_are_cuts (hr.mono (by decide)) rfl (pa_cons (pe_fld (pv 0) rfl) (pa_cons (pv 1) pa_nil))) (pe_and (pe_callC C_are_rising_places (hr.mono (by decide)) rfl (pa_cons (pe_fld (pv 0) rfl) (pa_cons (pv 1) (pa_cons pe_int pa_nil)))) (pe_and (pe_callC C_none_above (hr.mono (by decide)) rfl (pa_cons (pe_callC C_gap_sums (hr.mono (by decide)) rfl (pa_cons (pv 1) (pa_cons (pe_fld (pv 0) rfl) pa_nil))) (pa_cons (pe_op op_sub (pv 2) pe_int) pa_nil))) (pe_one (pe_methG (pv 0) (pa_cons (pv 1) (pa_cons (pv 2) pa_nil))))))))))), ?_⟩
  try dsimp only [cxOf, Cx.nox, Cx.wish]
  obtain ⟨⟨dx, fs, hx, e1, e2, e3⟩, hc, hs⟩ := id fa
  walk_at "rd"
  refine ⟨a, ns, rfl, hS, hl, hg, ?_⟩
  walk_at "rd"
  refine ⟨b, 1, rfl, ?_⟩
  rw [decide_eq_true h0]
  walk_at "rd"
  refine rd_fld hx c.y_Most.cl c.n_Most_cuts e1 ?_
  walk_at "rd"
  refine ⟨cA, a, ns, cs, rfl, hS, hc, ?_⟩
  cases r1 : risingB ns.length 0 cs with
  | false =>
    walk_at "rd"
    rw [dueM_low1 r1] at q
    exact q H (Same.refl H)
  | true =>
    obtain ⟨ds, rfl, hri⟩ := rise1 r1
    walk_at "rd"
    refine rd_fld hx c.y_Most.cl c.n_Most_places e2 ?_
    walk_at "rd"
    refine ⟨pA, a, ns, pl, 0, rfl, hS, hs, ?_⟩
    rw [show (0 : Int) - 1 = -1 by decide]
    cases r2 : risingB ns.length (-1) pl with
    | false =>
      walk_at "rd"
      rw [dueM_low2 r2] at q
      exact q H (Same.refl H)
    | true =>
      obtain ⟨es, rfl, hre⟩ := rise0 r2
      rw [dueM_val hri hre] at q
      walk_at "rd"
      refine rd_fld hx c.y_Most.cl c.n_Most_places e2 ?_
      walk_at "rd"
      refine ⟨a, pA, ns, es, rfl, hS, hs, hl, hre, fun r H2 s2 hr2 hd2 => ?_⟩
      walk_at "rd"
      have bl : (betw ns 0 es).length ≤ 1000 := by
        rw [betw_len]
        rw [ic_len] at l2
        omega
      refine ⟨r, _, b - 1, rfl, SqL.of hd2, bl, fun H3 s3 => ?_⟩
      have s13 := s2.trans s3
      cases r3 : (betw ns 0 es).all fun z => decide (z ≤ b - 1) with
      | false =>
        walk_at "rd"
        rw [r3] at q
        exact q H3 s13
      | true =>
        rw [r3, Bool.true_and] at q
        walk_at "rd"
        refine rd_meth M_Most_has_full_parts (hr.mono (by decide)) (s13 _ _ hx) e3.2 ?_
        walk_at "rd"
        exact ⟨x, a, cA, pA, ns, b, ds, es, rfl, s13.seq hS, hl, hri, fa.same s13, fun H4 s4 => q H4 (s13.trans s4)⟩
end
section
variable {P : Program} {w : World} {K : PySem.W.Frag} {mg : Str → Option Value} {base : Heap} {f : Addr} {fd : FuncData} {ca : CA}
theorem sc_check_number : FnScope ["value", "least"] ["value", "least"] (defScope (top 28)) := ⟨rfl, rfl, rfl, by decide +kernel, rfl, by decide +kernel, by decide +kernel⟩
theorem ok_check_number (T : Txt mg) (C_is_whole_from : Callee P w K mg base "is_whole_from" ["value", "least"] 2 spWholeFrom) (F : Fun K "check_number" "check_number" (top 28) f fd) : FnOk P w K mg base CX0 3 f fd ["value", "least"] spCheckNum := by
  have S := sc_check_number
  refine F.ok S (fun vs H Q E h => ?_) (fun cdv A outer s H vs Q E hr h => ?_)
  · obtain ⟨i, m, rfl, _⟩ := h
    rfl
  obtain ⟨i, m, rfl, h1, q⟩ := h
  refine ⟨_, (pss_one (ps_if (pt_not (pt_val (pe_callC C_is_whole_from (hr.mono (by decide)) rfl (pa_cons (pv 0) (pa_cons (pv 1) pa_nil)))))
      (pss_one ps_never)
      pss_nil)), ?_⟩
  try dsimp only [cxOf, Cx.nox, Cx.wish]
  walk_at "rd"
  refine ⟨i, m, rfl, ?_⟩
  rw [decide_eq_true h1]
  walk_at "rd"
  rw [Bool.not_true]
  walk_at "rd"
  exact q
theorem sc_needed_cuts : FnScope ["row", "bound", "cuts", "bears", "place", "load"] ["row", "bound"] (defScope (top 29)) := ⟨rfl, rfl, rfl, by decide +kernel, rfl, by decide +kernel, by decide +kernel⟩
theorem ok_needed_cuts (T : Txt mg)  (F : Fun K "needed_cuts" "needed_cuts" (top 29) f fd) : FnOk P w K mg base CX0 1 f fd ["row", "bound"] spNeeded := by
  have S := sc_needed_cuts
  refine F.ok S (fun vs H Q E h => ?_) (fun cdv A outer s H vs Q E hr h => ?_)
  · obtain ⟨a, ns, b, rfl, _⟩ := h
    rfl
  obtain ⟨a, ns, b, rfl, ha, hl, q⟩ := h
  refine ⟨_, (pss_cons (ps_set (i := 2) S.nd rfl (Or.inl rfl) (pe_lst pa_nil))
    (pss_cons (ps_set (i := 3) S.nd rfl (Or.inl rfl) pe_int)
    (pss_cons (ps_for PassesOwn.never rfl (pi_enum rfl T.b_enumerate (pa_cons (pv 0) pa_nil)) (pg_tup rfl (pgs_cons (pg_name (i := 4) S.nd rfl (Or.inl rfl)) (pgs_cons (pg_name (i := 5) S.nd rfl (Or.inl rfl)) pgs_nil)))
      (pss_cons (ps_set (i := 3) S.nd rfl (Or.inl rfl) (pe_op op_add (pv 3) (pv 5)))
      (pss_one (ps_if (pt_cmpR op_gt (pv 3) (pv 1) (nomark _))
        (pss_cons (ps_expr (pe_bm PySem.F.plainAttrs_list PySem.F.slot_list_append PySem.F.type_list_append mt_append (pv 2) (pa_cons (pv 4) pa_nil)))
        (pss_one (ps_set (i := 3) S.nd rfl (Or.inl rfl) (pv 5))))
        pss_nil))))
    (pss_one (ps_ret (pv 2)))))), ?_⟩
  try dsimp only [cxOf, Cx.nox, Cx.wish]
  walk_at "rd"
  refine ⟨Nat.zero_le _, fun r hr' => ?_⟩
  walk_at "rd"
  have nra : r ≠ a := fun z => by rw [z, ha] at hr'; cases hr'
  refine ⟨a, rfl, ⟨_, SqL.of (by rw [upd_ne nra.symm]; exact ha)⟩, for_enumF (K := K) (a := a) (k := 0) (xs := ns.map V.int)
    (fun i σ H2 => ∃ (acc : Int) (v1 v2 : Option V) (done : List Nat), σ = [some (.ref a), some (.int b), some (.ref r), some (.int acc), v1, v2] ∧ Same H H2 ∧ H2 r = some (.lst ((ic done).map V.int)) ∧ done.length ≤ i ∧ done ++ needFrom b i acc (ns.drop i) = needed b ns)
    ⟨0, none, none, [], rfl, same_new hr' _, upd_same, Nat.le_refl _, rfl⟩ (fun i σ H2 _ hh => ?_) ?_ ?_⟩
  · obtain ⟨_, _, _, _, _, sm, _⟩ := hh
    exact SqL.of (sm _ _ ha)
  · rintro i y p σ H2 hi hp ⟨acc, v1, v2, done, rfl, sm, hd, dl, eq⟩
    obtain ⟨z, rfl, hz⟩ := at_int hi
    have il : i < ns.length := lt_of_at hz
    have nrp : r ≠ p := fun z => by rw [z, hp] at hd; cases hd
    rw [drop_at hz] at eq
    simp only [needFrom] at eq
    refine ⟨_, _, rfl, SqT.of upd_same, rfl, _, _, rfl, _, _, rfl, rfl, ?_⟩
    walk_at "rd"
    refine ite2 (fun c => ?_) (fun c => ?_)
    · have c : b < acc + z := of_decide_eq_true c
      rw [if_pos c] at eq
      walk_at "rd"
      refine ⟨tyL (SqL.of (by rw [upd_ne nrp]; exact hd)), ?_⟩
      walk_at "rd"
      refine rd_append (xs := (ic done).map V.int) (by rw [upd_ne nrp]; exact hd) (by rw [List.length_map, ic_len]; exact small1000 (by omega)) ?_
      walk_at "rd"
      refine ⟨z, _, _, done ++ [i], rfl, fun d o z => ?_, ?_, ?_, ?_⟩
      · have z2 := sm d o z
        rw [upd_ne (ne_of_none z hr'), upd_ne (ne_of_none z2 hp)]
        exact z2
      · rw [upd_same, Int.zero_add]
        unfold ic
        rw [List.map_append, List.map_append]
        rfl
      · rw [List.length_append]
        show done.length + 1 ≤ i + 1
        omega
      · rw [← eq, List.append_assoc]
        rfl
    · have c : ¬ (b < acc + z) := of_decide_eq_false (Bool.eq_false_iff.mpr c)
      rw [if_neg c] at eq
      walk_at "rd"
      exact ⟨_, _, _, done, rfl, sm.trans (same_new hp _), by rw [upd_ne nrp]; exact hd, by omega, eq⟩
  · rintro σ H2 ⟨acc, v1, v2, done, rfl, sm, hd, dl, eq⟩
    rw [List.length_map, List.drop_eq_nil_of_le (Nat.le_refl _)] at eq
    simp only [needFrom, List.append_nil] at eq
    walk_at "rd"
    exact q r H2 sm hr' (by rw [hd, eq])
theorem sc_filling_places : FnScope ["row", "bound", "places", "bears", "place", "load"] ["row", "bound"] (defScope (top 35)) := ⟨rfl, rfl, rfl, by decide +kernel, rfl, by decide +kernel, by decide +kernel⟩
theorem ok_filling_places (T : Txt mg)  (F : Fun K "filling_places" "filling_places" (top 35) f fd) : FnOk P w K mg base CX0 1 f fd ["row", "bound"] spFilling := by
  have S := sc_filling_places
  refine F.ok S (fun vs H Q E h => ?_) (fun cdv A outer s H vs Q E hr h => ?_)
  · obtain ⟨a, ns, b, rfl, _⟩ := h
    rfl
  obtain ⟨a, ns, b, rfl, ha, hl, q⟩ := h
  refine ⟨_, (pss_cons (ps_set (i := 2) S.nd rfl (Or.inl rfl) (pe_lst pa_nil))
    (pss_cons (ps_set (i := 3) S.nd rfl (Or.inl rfl) pe_int)
    (pss_cons (ps_for PassesOwn.never rfl (pi_enum rfl T.b_enumerate (pa_cons (pv 0) pa_nil)) (pg_tup rfl (pgs_cons (pg_name (i := 4) S.nd rfl (Or.inl rfl)) (pgs_cons (pg_name (i := 5) S.nd rfl (Or.inl rfl)) pgs_nil)))
      (pss_cons (ps_set (i := 3) S.nd rfl (Or.inl rfl) (pe_op op_add (pv 3) (pv 5)))
      (pss_one (ps_if (pt_cmpR op_ge (pv 3) (pv 1) (nomark _))
        (pss_cons (ps_expr (pe_bm PySem.F.plainAttrs_list PySem.F.slot_list_append PySem.F.type_list_append mt_append (pv 2) (pa_cons (pv 4) pa_nil)))
        (pss_one (ps_set (i := 3) S.nd rfl (Or.inl rfl) pe_int)))
        pss_nil))))
    (pss_one (ps_ret (pv 2)))))), ?_⟩
  try dsimp only [cxOf, Cx.nox, Cx.wish]
  walk_at "rd"
  refine ⟨Nat.zero_le _, fun r hr' => ?_⟩
  walk_at "rd"
  have nra : r ≠ a := fun z => by rw [z, ha] at hr'; cases hr'
  refine ⟨a, rfl, ⟨_, SqL.of (by rw [upd_ne nra.symm]; exact ha)⟩, for_enumF (K := K) (a := a) (k := 0) (xs := ns.map V.int)
    (fun i σ H2 => ∃ (acc : Int) (v1 v2 : Option V) (done : List Nat), σ = [some (.ref a), some (.int b), some (.ref r), some (.int acc), v1, v2] ∧ Same H H2 ∧ H2 r = some (.lst ((ic done).map V.int)) ∧ done.length ≤ i ∧ done ++ fillFrom b i acc (ns.drop i) = filling b ns)
    ⟨0, none, none, [], rfl, same_new hr' _, upd_same, Nat.le_refl _, rfl⟩ (fun i σ H2 _ hh => ?_) ?_ ?_⟩
  · obtain ⟨_, _, _, _, _, sm, _⟩ := hh
    exact SqL.of (sm _ _ ha)
  · rintro i y p σ H2 hi hp ⟨acc, v1, v2, done, rfl, sm, hd, dl, eq⟩
    obtain ⟨z, rfl, hz⟩ := at_int hi
    have il : i < ns.length := lt_of_at hz
    have nrp : r ≠ p := fun z => by rw [z, hp] at hd; cases hd
    rw [drop_at hz] at eq
    simp only [fillFrom] at eq
    refine ⟨_, _, rfl, SqT.of upd_same, rfl, _, _, rfl, _, _, rfl, rfl, ?_⟩
    walk_at "rd"
    refine ite2 (fun c => ?_) (fun c => ?_)
    · have c : b ≤ acc + z := of_decide_eq_true c
      rw [if_pos c] at eq
      walk_at "rd"
      refine ⟨tyL (SqL.of (by rw [upd_ne nrp]; exact hd)), ?_⟩
      walk_at "rd"
      refine rd_append (xs := (ic done).map V.int) (by rw [upd_ne nrp]; exact hd) (by rw [List.length_map, ic_len]; exact small1000 (by omega)) ?_
      walk_at "rd"
      refine ⟨0, _, _, done ++ [i], rfl, fun d o z => ?_, ?_, ?_, ?_⟩
      · have z2 := sm d o z
        rw [upd_ne (ne_of_none z hr'), upd_ne (ne_of_none z2 hp)]
        exact z2
      · rw [upd_same, Int.zero_add]
        unfold ic
        rw [List.map_append, List.map_append]
        rfl
      · rw [List.length_append]
        show done.length + 1 ≤ i + 1
        omega
      · rw [← eq, List.append_assoc]
        rfl
    · have c : ¬ (b ≤ acc + z) := of_decide_eq_false (Bool.eq_false_iff.mpr c)
      rw [if_neg c] at eq
      walk_at "rd"
      exact ⟨_, _, _, done, rfl, sm.trans (same_new hp _), by rw [upd_ne nrp]; exact hd, by omega, eq⟩
  · rintro σ H2 ⟨acc, v1, v2, done, rfl, sm, hd, dl, eq⟩
    rw [List.length_map, List.drop_eq_nil_of_le (Nat.le_refl _)] at eq
    simp only [fillFrom, List.append_nil] at eq
    walk_at "rd"
    exact q r H2 sm hr' (by rw [hd, eq])
theorem sc_needing_stretches : FnScope ["cuts"] ["cuts"] (defScope (top 30)) := ⟨rfl, rfl, rfl, by decide +kernel, rfl, by decide +kernel, by decide +kernel⟩
theorem ok_needing_stretches (T : Txt mg)  (F : Fun K "needing_stretches" "needing_stretches" (top 30) f fd) : FnOk P w K mg base CX0 1 f fd ["cuts"] spNeeding := by
  have S := sc_needing_stretches
  refine F.ok S (fun vs H Q E h => ?_) (fun cdv A outer s H vs Q E hr h => ?_)
  · obtain ⟨a, cs, rfl, _⟩ := h
    rfl
  obtain ⟨a, cs, rfl, ha, hl, q⟩ := h
  refine ⟨_, (pss_one (ps_ret (pe_listZip rfl rfl T.b_list rfl T.b_zip (pa_cons (pe_op op_cat (pe_lst (pa_cons pe_int pa_nil)) (pv 0)) (pa_cons (pv 0) pa_nil))))), ?_⟩
  try dsimp only [cxOf, Cx.nox, Cx.wish]
  walk_at "rd"
  refine ⟨by show 1 ≤ sizeLine; decide, fun p hp => ?_⟩
  walk_at "rd"
  have npa : a ≠ p := ne_of_none ha hp
  refine rd_cat (xs := [.int 0]) (zs := (ic cs).map V.int) upd_same (by rw [upd_ne npa]; exact ha) (by rw [List.length_map, ic_len]; exact small (by simp; omega)) fun r hr => ?_
  have s1 : Same H (upd (upd H p (.lst [.int 0])) r (.lst ([.int 0] ++ (ic cs).map V.int))) := (same_new hp _).trans (same_new hr _)
  walk_at "rd"
  refine ⟨r, a, _, (ic cs).map V.int, rfl, SqL.of upd_same, SqL.of (s1 _ _ ha), fun l as H2 out fl hl' ln at_ => ?_⟩
  refine q l H2 (as.map V.ref) (s1.trans out) (s1.free fl) hl' (zipP_pairs cs 0 as ?_ fun j x y e => ?_)
  · rw [ln]
    simp [ic]
  · obtain ⟨p', e1, _, _, e2⟩ := at_ j x y e
    exact ⟨p', e1, e2⟩
theorem sc_first_above : FnScope ["row", "bound", "place", "load"] ["row", "bound"] (defScope (top 31)) := ⟨rfl, rfl, rfl, by decide +kernel, rfl, by decide +kernel, by decide +kernel⟩
theorem ok_first_above (T : Txt mg)  (F : Fun K "first_above" "first_above" (top 31) f fd) : FnOk P w K mg base CX0 1 f fd ["row", "bound"] spFirstAbove := by
  have S := sc_first_above
  refine F.ok S (fun vs H Q E h => ?_) (fun cdv A outer s H vs Q E hr h => ?_)
  · obtain ⟨a, ns, b, rfl, _⟩ := h
    rfl
  obtain ⟨a, ns, b, rfl, ha, q⟩ := h
  refine ⟨_, (pss_cons (ps_for PassesOwn.never rfl (pi_enum rfl T.b_enumerate (pa_cons (pv 0) pa_nil)) (pg_tup rfl (pgs_cons (pg_name (i := 2) S.nd rfl (Or.inl rfl)) (pgs_cons (pg_name (i := 3) S.nd rfl (Or.inl rfl)) pgs_nil)))
      (pss_one (ps_if (pt_cmpR op_gt (pv 3) (pv 1) (nomark _))
        (pss_one (ps_ret (pv 2)))
        pss_nil)))
    (pss_one (ps_ret pe_non))), ?_⟩
  try dsimp only [cxOf, Cx.nox, Cx.wish]
  have hS : SqL K H a (ns.map V.int) := SqL.of ha
  walk_at "rd"
  refine ⟨a, rfl, ⟨_, hS⟩, for_enumF (K := K) (a := a) (k := 0) (xs := ns.map V.int)
    (fun i σ H2 => ∃ (v1 v2 : Option V), σ = [some (.ref a), some (.int b), v1, v2] ∧ Same H H2 ∧ ∀ z ∈ ns.take i, z ≤ b)
    ⟨none, none, rfl, Same.refl H, fun z hz => (by simp at hz)⟩ (fun i σ H2 _ hh => ?_) ?_ ?_⟩
  · obtain ⟨_, _, _, sm, _⟩ := hh
    exact sm.seq hS
  · rintro i y p σ H2 hi hp ⟨v1, v2, rfl, sm, al⟩
    obtain ⟨z, rfl, hz⟩ := at_int hi
    refine ⟨_, _, rfl, SqT.of upd_same, rfl, _, _, rfl, _, _, rfl, rfl, ?_⟩
    walk_at "rd"
    refine ite2 (fun c => ?_) (fun c => ?_)
    · have c : b < z := of_decide_eq_true c
      walk_at "rd"
      rw [Int.zero_add]
      exact (q _ (sm.trans (same_new hp _))).1 i z hz c
    · have c : ¬ b < z := of_decide_eq_false (Bool.eq_false_iff.mpr c)
      walk_at "rd"
      refine ⟨_, _, rfl, sm.trans (same_new hp _), fun y hy => ?_⟩
      rw [List.take_add_one, hz] at hy
      rcases List.mem_append.mp hy with hy | hy
      · exact al y hy
      · have : y = z := by simpa using hy
        omega
  · rintro σ H2 ⟨v1, v2, rfl, sm, al⟩
    walk_at "rd"
    refine (q H2 sm).2 fun z hz => al z ?_
    rw [List.length_map, List.take_length]
    exact hz
theorem sc_fewest : FnScope ["row", "bound", "place", "cuts"] ["row", "bound"] (defScope (top 32)) := ⟨rfl, rfl, rfl, by decide +kernel, rfl, by decide +kernel, by decide +kernel⟩
theorem ok_fewest (T : Txt mg) (c : Cl K mg ca) (C_check_row : Callee P w K mg base "check_row" ["value"] 5 spCheckRow) (C_check_number : Callee P w K mg base "check_number" ["value", "least"] 3 spCheckNum) (C_first_above : Callee P w K mg base "first_above" ["row", "bound"] 1 spFirstAbove) (C_needed_cuts : Callee P w K mg base "needed_cuts" ["row", "bound"] 1 spNeeded) (C_needing_stretches : Callee P w K mg base "needing_stretches" ["cuts"] 1 spNeeding) (M_Fewest : MakeC P w K mg base "Fewest" ca.Fewest ["self", "cuts", "stretches"] 2 (spMkF ca.Fewest)) (M_Great : MakeC P w K mg base "Great" ca.Great ["self", "place"] 2 (spMkG ca.Great)) (F : Fun K "fewest" "fewest" (top 32) f fd) : FnOk P w K mg base CX0 8 f fd ["row", "bound"] (spFewest ca) := by
  have S := sc_fewest
  refine F.ok S (fun vs H Q E h => ?_) (fun cdv A outer s H vs Q E hr h => ?_)
  · obtain ⟨a, ns, b, rfl, _⟩ := h
    rfl
  obtain ⟨a, ns, b, rfl, ha, hl, hg, h0, q⟩ := h
  refine ⟨_, (pss_cons (ps_expr (pe_callC C_check_row (hr.mono (by decide)) rfl (pa_cons (pv 0) pa_nil)))
    (pss_cons (ps_expr (pe_callC C_check_number (hr.mono (by decide)) rfl (pa_cons (pv 1) (pa_cons pe_int pa_nil))))
    (pss_cons (ps_set (i := 2) S.nd rfl (Or.inl rfl) (pe_callC C_first_above (hr.mono (by decide)) rfl (pa_cons (pv 0) (pa_cons (pv 1) pa_nil))))
    (pss_cons (ps_if (pt_cmpR op_notN (pv 2) pe_non (nomark _))
      (pss_one (ps_ret (pe_makeC M_Great (hr.mono (by decide)) rfl (pa_cons (pv 2) pa_nil))))
      pss_nil)
    (pss_cons (ps_set (i := 3) S.nd rfl (Or.inl rfl) (pe_callC C_needed_cuts (hr.mono (by decide)) rfl (pa_cons (pv 0) (pa_cons (pv 1) pa_nil))))
    (pss_one (ps_ret (pe_makeC M_Fewest (hr.mono (by decide)) rfl (pa_cons (pv 3) (pa_cons (pe_callC C_needing_stretches (hr.mono (by decide)) rfl (pa_cons (pv 3) pa_nil)) pa_nil)))))))))), ?_⟩
  try dsimp only [cxOf, Cx.nox, Cx.wish]
  walk_at "rd"
  refine ⟨a, ns, rfl, ha, hl, hg, ?_⟩
  walk_at "rd"
  refine ⟨b, 0, rfl, h0, ?_⟩
  walk_at "rd"
  refine ⟨a, ns, b, rfl, ha, fun H1 s1 => ⟨fun p z hp hz => ?_, fun hall => ?_⟩⟩
  · walk_at "rd"
    refine ⟨rfl, ?_⟩
    rw [decide_eq_false (by intro z; cases z)]
    walk_at "rr"
    intro x dx hx hdx ne
    refine mkG_use hx hdx fun H2 s2 ga => ?_
    refine q x H2 (s1.trans s2) (s1.free hx) (.inr ⟨p, ga, ?_⟩)
    have pl := lt_of_at hp
    unfold dueG
    rw [decide_eq_true (by omega), decide_eq_true (by omega), Int.toNat_natCast, List.getD_eq_getElem?_getD, hp]
    exact decide_eq_true hz
  · walk_at "rd"
    refine ⟨rfl, ?_⟩
    rw [decide_eq_true rfl]
    walk_at "rr"
    refine ⟨a, ns, b, rfl, s1 _ _ ha, hl, fun r H2 s2 hr2 hd2 => ?_⟩
    have nl := needed_len h0 hall
    walk_at "rd"
    refine ⟨r, needed b ns, rfl, hd2, by omega, fun r2 H3 xs s3 hr3 hd3 hp3 => ?_⟩
    walk_at "rd"
    intro x dx hx hdx ne
    have xl := hp3.len
    rw [zipP_len] at xl
    refine mkF_use hx hdx (s3 _ _ hd2) hd3 hp3 (by rw [ic_len]; omega) (by omega) fun cA sA H4 s4 fa n1 n2 n3 => ?_
    have s13 := s1.trans (s2.trans s3)
    exact q x H4 (s13.trans s4) (s13.free hx) (.inl ⟨cA, sA, _, xs, _, fa, s13.free n1, s13.free n2, n3, fewest_due h0 hall⟩)
theorem sc_least_number : FnScope ["row", "count", "greatest", "mean", "low", "high", "middle"] ["row", "count"] (defScope (top 33)) := ⟨rfl, rfl, rfl, by decide +kernel, rfl, by decide +kernel, by decide +kernel⟩
theorem ok_least_number (T : Txt mg) (C_needed_cuts : Callee P w K mg base "needed_cuts" ["row", "bound"] 1 spNeeded) (F : Fun K "least_number" "least_number" (top 33) f fd) : FnOk P w K mg base CX0 7 f fd ["row", "count"] spLeastNum := by
  have S := sc_least_number
  refine F.ok S (fun vs H Q E h => ?_) (fun cdv A outer s H vs Q E hr h => ?_)
  · obtain ⟨a, ns, k, rfl, _⟩ := h
    rfl
  obtain ⟨a, ns, k, rfl, ha, hl, hg, h1, q⟩ := h
  refine ⟨_, (pss_cons (ps_join (ps_set (i := 2) S.nd rfl (Or.inl rfl) (pe_maxD rfl rfl T.b_max (pa_cons (pv 0) pa_nil) pe_int)))
    (pss_cons (ps_set (i := 3) S.nd rfl (Or.inl rfl) (pe_un un_neg (pe_op op_fdiv (pe_un un_neg (pe_callB (call_sum' rfl) rfl T.b_sum boot_sum (pa_cons (pv 0) pa_nil))) (pv 1))))
    (pss_cons (ps_set (i := 4) S.nd rfl (Or.inl rfl) (pe_callB (call_max2' rfl) rfl T.b_max boot_max (pa_cons (pv 2) (pa_cons (pv 3) pa_nil))))
    (pss_cons (ps_set (i := 5) S.nd rfl (Or.inl rfl) (pe_op op_add (pv 2) (pv 3)))
    (pss_cons (ps_while PassesOwn.never (pt_cmpR op_lt (pv 4) (pv 5) (nomark _))
      (pss_cons (ps_set (i := 6) S.nd rfl (Or.inl rfl) (pe_op op_fdiv (pe_op op_add (pv 4) (pv 5)) pe_int))
      (pss_one (ps_if (pt_cmpR op_lt (pe_callB call_len' rfl T.b_len PySem.boot_len (pa_cons (pe_callC C_needed_cuts (hr.mono (by decide)) rfl (pa_cons (pv 0) (pa_cons (pv 6) pa_nil))) pa_nil)) (pv 1) (nomark _))
        (pss_one (ps_set (i := 5) S.nd rfl (Or.inl rfl) (pv 6)))
        (pss_one (ps_set (i := 4) S.nd rfl (Or.inl rfl) (pe_op op_add (pv 6) pe_int)))))))
    (pss_one (ps_ret (pv 4)))))))), ?_⟩
  try dsimp only [cxOf, Cx.nox, Cx.wish]
  have hS : SqL K H a (ns.map V.int) := SqL.of ha
  have sb := good_sum hg hl
  walk_at "rd"
  refine rd_joinF (fun σ H2 => ∃ M : Int, σ = [some (.ref a), some (.int k), some (.int M), none, none, none, none] ∧ H2 = H ∧ 0 ≤ M ∧ (∀ z ∈ ns, 0 ≤ z ∧ z ≤ M) ∧ (M = 0 ∨ M ∈ ns)) ?_ ?_
  · walk_at "rd"
    refine ⟨a, ns, 0, rfl, rfl, hS, fun e => ?_, fun ne M hM hle => ?_⟩
    · walk_at "rd"
      exact ⟨0, rfl, rfl, Int.le_refl _, fun z hz => (by rw [e] at hz; cases hz), .inl rfl⟩
    · walk_at "rd"
      exact ⟨M, rfl, rfl, (hg M hM).1, fun z hz => ⟨(hg z hz).1, hle z hz⟩, .inr hM⟩
  rintro σ' H' ⟨M, rfl, rfl, M0, hM, hMn⟩
  walk_at "rd"
  refine rd_I ⟨by omega, h1.2⟩ ?_
  walk_at "rd"
  generalize hm : -(-ns.sum / k) = m
  obtain ⟨f1, f2⟩ := ceil_facts (s := ns.sum) h1.1
  have m0 := ceil_nonneg h1.1 sb.1
  rw [hm] at f1 f2 m0
  generalize hlo : (if m > M then m else M) = lo0
  have lM : M ≤ lo0 ∧ m ≤ lo0 ∧ (lo0 = M ∨ (lo0 = m ∧ M < m)) := by
    rw [← hlo]
    split <;> omega
  refine while_byF (fun σ H2 => ∃ (lo hi : Int) (v : Option V), σ = [some (.ref a), some (.int k), some (.int M), some (.int m), some (.int lo), some (.int hi), v] ∧ Same H' H2 ∧ lo0 ≤ lo ∧ lo ≤ hi ∧ ((needed hi ns).length : Int) < k ∧ (lo = lo0 ∨ k ≤ ((needed (lo - 1) ns).length : Int))) mu2
    ⟨lo0, M + m, none, rfl, Same.refl _, Int.le_refl _, by omega, high_fits hM h1.1 m0 f1, .inl rfl⟩ ?_ ?_
  · rintro σ H2 ⟨lo, hi, v, rfl, sm, g1, g2, g3, g4⟩
    walk_at "rd"
    refine ite2 (fun c => ?_) (fun c => ?_)
    · have c : lo < hi := of_decide_eq_true c
      walk_at "rd"
      refine rd_I ⟨by decide, by decide⟩ ?_
      walk_at "rd"
      refine ⟨a, ns, _, rfl, sm _ _ ha, hl, fun r H3 s3 hr3 hd3 => ?_⟩
      walk_at "rd"
      refine rd_lenI (SqL.of hd3) ?_
      walk_at "rd"
      rw [ic_len]
      refine ite2 (fun c2 => ?_) (fun c2 => ?_)
      · have c2 := of_decide_eq_true c2
        walk_at "rd"
        refine ⟨⟨lo, _, _, rfl, sm.trans s3, g1, by omega, c2, g4⟩, ?_⟩
        show ((lo + hi) / 2 - lo).toNat < (hi - lo).toNat
        omega
      · have c2 := of_decide_eq_false (Bool.eq_false_iff.mpr c2)
        walk_at "rd"
        refine ⟨⟨_, hi, _, rfl, sm.trans s3, by omega, by omega, g3, .inr ?_⟩, ?_⟩
        · rw [show (lo + hi) / 2 + 1 - 1 = (lo + hi) / 2 by omega]
          omega
        · show (hi - ((lo + hi) / 2 + 1)).toNat < (hi - lo).toNat
          omega
    · have c : ¬ lo < hi := of_decide_eq_false (Bool.eq_false_iff.mpr c)
      have e : hi = lo := by omega
      subst e
      walk_at "rd"
      refine q H2 hi sm (by omega) (fun z hz => by have := hM z hz; omega) g3 ?_
      by_cases e1 : hi = M
      · rw [e1]
        rcases hMn with z | z
        · exact .inl z
        · exact .inr (.inl z)
      · refine .inr (.inr ⟨by omega, fun z hz => by have := hM z hz; omega, ?_⟩)
        rcases g4 with z | z
        · have e2 : hi = m := by omega
          rw [e2]
          exact mean_needs (fun z hz => by have := hM z hz; omega) (by omega) f2
        · exact z
  · rintro σ H2 Q1 Q2 hq ⟨v1, e1, v2, e2, i, j, e3, e4, b', e5, t⟩
    exact ⟨v1, e1, v2, e2, i, j, e3, e4, b', e5, hq _ _ t⟩
theorem sc_lowest : FnScope ["row", "count", "number", "stretches"] ["row", "count"] (defScope (top 34)) := ⟨rfl, rfl, rfl, by decide +kernel, rfl, by decide +kernel, by decide +kernel⟩
theorem ok_lowest (T : Txt mg) (c : Cl K mg ca) (C_check_row : Callee P w K mg base "check_row" ["value"] 5 spCheckRow) (C_check_number : Callee P w K mg base "check_number" ["value", "least"] 3 spCheckNum) (C_least_number : Callee P w K mg base "least_number" ["row", "count"] 7 spLeastNum) (C_needed_cuts : Callee P w K mg base "needed_cuts" ["row", "bound"] 1 spNeeded) (C_needing_stretches : Callee P w K mg base "needing_stretches" ["cuts"] 1 spNeeding) (M_Least : MakeC P w K mg base "Least" ca.Least ["self", "cuts", "number", "stretches"] 2 (spMkL ca.Least)) (F : Fun K "lowest" "lowest" (top 34) f fd) : FnOk P w K mg base CX0 9 f fd ["row", "count"] (spLowest ca.Least) := by
  have S := sc_lowest
  refine F.ok S (fun vs H Q E h => ?_) (fun cdv A outer s H vs Q E hr h => ?_)
  · obtain ⟨a, ns, k, rfl, _⟩ := h
    rfl
  obtain ⟨a, ns, k, rfl, ha, hl, hg, h1, q⟩ := h
  refine ⟨_, (pss_cons (ps_expr (pe_callC C_check_row (hr.mono (by decide)) rfl (pa_cons (pv 0) pa_nil)))
    (pss_cons (ps_expr (pe_callC C_check_number (hr.mono (by decide)) rfl (pa_cons (pv 1) (pa_cons pe_int pa_nil))))
    (pss_cons (ps_set (i := 2) S.nd rfl (Or.inl rfl) (pe_callC C_least_number (hr.mono (by decide)) rfl (pa_cons (pv 0) (pa_cons (pv 1) pa_nil))))
    (pss_cons (ps_set (i := 3) S.nd rfl (Or.inl rfl) (pe_lst pa_nil))
    (pss_cons (ps_join (ps_if (PW.pt (pw_and (pt_cmpR op_gt (pv 2) pe_int (nomark _)) (pw_and1 (pt_cmpR op_notIn_seq (pv 2) (pv 0) (by with_unfolding_all rfl)))))
      (pss_one (ps_set (i := 3) S.nd rfl (Or.inl rfl) (pe_slice sl_list (pe_callC C_needing_stretches (hr.mono (by decide)) rfl (pa_cons (pe_callC C_needed_cuts (hr.mono (by decide)) rfl (pa_cons (pv 0) (pa_cons (pe_op op_sub (pv 2) pe_int) pa_nil))) pa_nil)) po_none (po_some (pv 1)))))
      pss_nil))
    (pss_one (ps_ret (pe_makeC M_Least (hr.mono (by decide)) rfl (pa_cons (pe_callC C_needed_cuts (hr.mono (by decide)) rfl (pa_cons (pv 0) (pa_cons (pv 2) pa_nil))) (pa_cons (pv 2) (pa_cons (pv 3) pa_nil))))))))))), ?_⟩
  try dsimp only [cxOf, Cx.nox, Cx.wish]
  walk_at "rd"
  refine ⟨a, ns, rfl, ha, hl, hg, ?_⟩
  walk_at "rd"
  refine ⟨k, 1, rfl, h1.1, ?_⟩
  walk_at "rd"
  refine ⟨a, ns, k, rfl, ha, hl, hg, h1, fun H1 num s1 n0 hz hk hn => ?_⟩
  walk_at "rd"
  refine ⟨Nat.zero_le _, fun sA0 hs0 => ?_⟩
  have s2 : Same H (upd H1 sA0 (.lst [])) := s1.trans (same_new hs0 _)
  walk_at "rd"
  refine rd_joinF (fun σ H2 => ∃ (sA : Addr) (xs : List V) (ps : List (Int × Int)), σ = [some (.ref a), some (.int k), some (.int num), some (.ref sA)] ∧ Same H H2 ∧ H2 sA = some (.lst xs) ∧ PairsT H2 xs ps ∧ ps.length ≤ 100 ∧ (num = 0 ∨ num ∈ ns ∨ ((ps.length : Int) = k ∧ linkedB ns num 0 ps = true))) ?_ ?_
  · walk_at "rd"
    by_cases c1 : 0 < num
    · rw [decide_eq_true (show num > 0 from c1)]
      walk_at "rd"
      refine rd_notInI (SqL.of (s2 _ _ ha)) ?_
      walk_at "rd"
      by_cases c2 : num ∈ ns
      · rw [decide_eq_true c2]
        walk_at "rr"
        exact ⟨sA0, [], [], rfl, s2, upd_same, trivial, by decide, .inr (.inl c2)⟩
      · rw [decide_eq_false c2]
        have hn : 1 ≤ num ∧ (∀ z ∈ ns, z ≤ num - 1) ∧ k ≤ ((needed (num - 1) ns).length : Int) := by
          rcases hn with z | z | z
          · omega
          · exact absurd z c2
          · exact z
        walk_at "rr"
        refine ⟨a, ns, _, rfl, s2 _ _ ha, hl, fun r H3 s3 hr3 hd3 => ?_⟩
        have nl := needed_len (show 0 ≤ num - 1 by omega) hn.2.1
        walk_at "rd"
        refine ⟨r, _, rfl, hd3, by omega, fun r2 H4 xs s4 hr4 hd4 hp4 => ?_⟩
        have xl := hp4.len
        rw [zipP_len] at xl
        walk_at "rd"
        refine rd_slL (SqL.of hd4) fun p hp => ?_
        walk_at "rd"
        have s14 := s2.trans (s3.trans (s4.trans (same_new hp (.lst (cutV xs none (some k))))))
        refine ⟨p, xs.take k.toNat, (zipP 0 (needed (num - 1) ns)).take k.toNat, rfl, s14, ?_, (hp4.same (same_new hp _)).take _, ?_, .inr (.inr ⟨?_, ?_⟩)⟩
        · rw [upd_same, cut_to xs (by omega) (by omega)]
        · rw [List.length_take, zipP_len]
          omega
        · rw [List.length_take, zipP_len]
          omega
        · have := (needed_good (show 0 ≤ num - 1 by omega) hn.2.1).2.2
          rw [show num - 1 + 1 = num by omega] at this
          exact linked_take _ this
    · rw [decide_eq_false (show ¬ num > 0 from c1)]
      walk_at "rr"
      exact ⟨sA0, [], [], rfl, s2, upd_same, trivial, by decide, .inl (by omega)⟩
  rintro σ' H2 ⟨sA, xs, ps, rfl, s3, hs, hp, lp, hn'⟩
  walk_at "rd"
  refine ⟨a, ns, num, rfl, s3 _ _ ha, hl, fun r H4 s4 hr4 hd4 => ?_⟩
  have nl := needed_len n0 hz
  walk_at "rd"
  intro x dx hx hdx ne
  have xl := hp.len
  have s14 := s3.trans s4
  refine mkL_use hx hdx hd4 (s4 _ _ hs) (hp.same s4) (by rw [ic_len]; omega) (by omega) fun cA sA' H5 s5 fa n1 n2 n3 => ?_
  exact q x H5 cA sA' _ num xs ps (s14.trans s5) (s14.free hx) fa (s14.free n1) (s14.free n2) n3 lp (lowest_due n0 hz hk hn')
theorem sc_fullest : FnScope ["row", "bound", "places"] ["row", "bound"] (defScope (top 36)) := ⟨rfl, rfl, rfl, by decide +kernel, rfl, by decide +kernel, by decide +kernel⟩
theorem ok_fullest (T : Txt mg) (c : Cl K mg ca) (C_check_row : Callee P w K mg base "check_row" ["value"] 5 spCheckRow) (C_check_number : Callee P w K mg base "check_number" ["value", "least"] 3 spCheckNum) (C_filling_places : Callee P w K mg base "filling_places" ["row", "bound"] 1 spFilling) (M_Most : MakeC P w K mg base "Most" ca.Most ["self", "cuts", "places"] 2 (spMkM ca.Most)) (F : Fun K "fullest" "fullest" (top 36) f fd) : FnOk P w K mg base CX0 9 f fd ["row", "bound"] (spFullest ca.Most) := by
  have S := sc_fullest
  refine F.ok S (fun vs H Q E h => ?_) (fun cdv A outer s H vs Q E hr h => ?_)
  · obtain ⟨a, ns, b, rfl, _⟩ := h
    rfl
  obtain ⟨a, ns, b, rfl, ha, hl, hg, h1, q⟩ := h
  refine ⟨_, (pss_cons (ps_expr (pe_callC C_check_row (hr.mono (by decide)) rfl (pa_cons (pv 0) pa_nil)))
    (pss_cons (ps_expr (pe_callC C_check_number (hr.mono (by decide)) rfl (pa_cons (pv 1) (pa_cons pe_int pa_nil))))
    (pss_cons (ps_set (i := 2) S.nd rfl (Or.inl rfl) (pe_callC C_filling_places (hr.mono (by decide)) rfl (pa_cons (pv 0) (pa_cons (pv 1) pa_nil))))
    (pss_one (ps_ret (pe_makeC M_Most (hr.mono (by decide)) rfl (pa_cons (pe_comp rfl rfl (by decide +kernel) (by decide +kernel) rfl (fr := []) (by decide +kernel) .nil (by decide +kernel) (pi_list (pe_slice sl_list (pv 2) po_none (po_some (pe_un un_neg pe_int)))) (fun _ _ _ _ _ => pf_nil) (fun _ _ _ _ _ => (pe_op op_add (pv 0) pe_int))) (pa_cons (pv 2) pa_nil)))))))), ?_⟩
  try dsimp only [cxOf, Cx.nox, Cx.wish]
  walk_at "rd"
  refine ⟨a, ns, rfl, ha, hl, hg, ?_⟩
  walk_at "rd"
  refine ⟨b, 1, rfl, h1, ?_⟩
  walk_at "rd"
  refine ⟨a, ns, b, rfl, ha, hl, fun r H1 s1 hr1 hd1 => ?_⟩
  walk_at "rd"
  refine rd_slL (SqL.of hd1) fun p hp => ?_
  rw [cut_last]
  have fl : (filling b ns).length ≤ 63 := by
    have := (fill_good (row := ns) h1 (fun x hx => (hg x hx).1) ns 0 0 0 rfl (Nat.le_refl _) (by simp) (by omega)).1.len (Nat.zero_le _)
    have : (filling b ns).length ≤ ns.length := this
    omega
  have s2 := s1.trans (same_new hp (.lst ((ic (filling b ns)).map V.int).dropLast))
  refine ⟨p, rfl, ⟨_, SqL.of upd_same⟩, fun D hD => comp_list plus1 (SqL.of upd_same) hD (by rw [List.length_dropLast, List.length_map, ic_len]; omega) (fun i y H2 Q' hi sm q' => ?_) ?_⟩
  · have hy := (List.dropLast_sublist _).subset (List.mem_of_getElem? hi)
    obtain ⟨z, _, rfl⟩ := List.mem_map.mp hy
    walk_at "rd"
    exact q'
  rw [icCuts]
  have s3 := s2.trans (same_new hD (.lst ((ic (cutsOf (filling b ns))).map V.int)))
  walk_at "rd"
  intro x dx hx hdx ne
  have cl : (cutsOf (filling b ns)).length ≤ 63 := by
    by_cases z : filling b ns = []
    · rw [z]; decide
    · have := cutsOf_len z
      omega
  refine mkM_use hx hdx (cs := ic (cutsOf (filling b ns))) (pl := ic (filling b ns)) upd_same ?_ (by rw [ic_len]; omega) (by rw [ic_len]; omega) fun cA sA H5 s5 fa n1 n2 n3 => ?_
  · exact (same_new hD _) _ _ ((same_new hp _) _ _ hd1)
  exact q x H5 cA sA _ _ (s3.trans s5) (s3.free hx) fa (s3.free n1) (s3.free n2) n3 (fullest_due h1 fun x hx => (hg x hx).1)
end
theorem kit_bool_bool (K : PySem.W.Frag) : PySem.W.kitOne K (.type "bool") (.type "bool") = some true := by unfold PySem.W.kitOne; rfl
theorem ixN_nat {n : Nat} {k : Int} (h0 : 0 ≤ k) (h : k < n) : ixN n k = some k.toNat := by
  unfold ixN
  rw [if_pos h0, if_pos h]
theorem sIdx_nat {n : Nat} {k : Int} (h0 : 0 ≤ k) (h : k < n) : seqIndex? k n = some k.toNat := (ixN_seq (ixN_nat h0 h)).1
section
variable {P : Program} {w : World} {K : PySem.W.Frag} {mg : Str → Option Value} {base : Heap} {f : Addr} {fd : FuncData} {ca : CA}
theorem sc_says : FnScope ["_law_told", "_law_due"] ["_law_told", "_law_due"] (defScope (top 46)) := ⟨rfl, rfl, rfl, by decide +kernel, rfl, by decide +kernel, by decide +kernel⟩
theorem ok_says (T : Txt mg) (F : Fun K "_law_says" "_law_says" (top 46) f fd) : FnOk P w K mg base CX0 1 f fd ["_law_told", "_law_due"] spSays := by
  have S := sc_says
  refine F.ok S (fun vs H Q E h => ?_) (fun cdv A outer s H vs Q E hr h => ?_)
  · obtain ⟨b, c, rfl, _⟩ := h
    rfl
  obtain ⟨b, c, rfl, q⟩ := h
  refine ⟨_, (pss_one (ps_ret (pe_and (pe_callB call_isi' rfl T.b_isinstance boot_isinstance (pa_cons (pv 0) (pa_cons (pe_bltn (v := .ty "bool") rfl T.b_bool boot_bool rfl) pa_nil))) (pe_one (pe_cmpR op_eq (pv 0) (pv 1) (nomark _)))))), ?_⟩
  try dsimp only [cxOf, Cx.nox, Cx.wish]
  walk_at "rr"
  refine ⟨_, _, _, true, rfl, .bl b, kit_bool_bool K, ?_⟩
  walk_at "rr"
  exact q
theorem sc_bent : FnScope ["_law_some", "_law_cell", "_law_more", "_law_kind", "_law_many", "_law_at", "_law_found"] ["_law_some", "_law_cell", "_law_more"] (defScope (top 47)) := ⟨rfl, rfl, rfl, by decide +kernel, rfl, by decide +kernel, by decide +kernel⟩
theorem ok_bent (T : Txt mg) (C_law_draw : Callee P w K mg base "_law_draw" ["_law_cell", "_law_k", "_law_many"] 1 spDraw) (F : Fun K "_law_bent" "_law_bent" (top 47) f fd) : FnOk P w K mg base CX0 2 f fd ["_law_some", "_law_cell", "_law_more"] spBent := by
  have S := sc_bent
  refine F.ok S (fun vs H Q E h => ?_) (fun cdv A outer s H vs Q E hr h => ?_)
  · obtain ⟨a, cell, more, xs, rfl, _⟩ := h
    rfl
  obtain ⟨a, cell, more, xs, rfl, ha, hl, q⟩ := h
  refine ⟨_, (pss_cons (ps_par (i := 3) (j := 4) rfl S.nd rfl rfl (by decide) rfl rfl (pa_cons (pe_callC C_law_draw (hr.mono (by decide)) rfl (pa_cons (pv 1) (pa_cons pe_int (pa_cons pe_int pa_nil)))) (pa_cons (pe_callB call_len' rfl T.b_len PySem.boot_len (pa_cons (pv 0) pa_nil)) pa_nil)) rfl)
    (pss_cons (ps_if (pt_cmpR op_eq (pv 4) pe_int (nomark _))
      (pss_one (ps_ret (pe_ifExp (pt_cmpR op_eq (pv 3) pe_int (nomark _)) (pe_lst (pa_cons (pv 2) pa_nil)) (pe_lst pa_nil))))
      pss_nil)
    (pss_cons (ps_par (i := 5) (j := 6) rfl S.nd rfl rfl (by decide) rfl rfl (pa_cons (pe_callC C_law_draw (hr.mono (by decide)) rfl (pa_cons (pv 1) (pa_cons pe_int (pa_cons (pv 4) pa_nil)))) (pa_cons (pe_callTy call_list' rfl T.b_list boot_list (pa_cons (pv 0) pa_nil)) pa_nil)) rfl)
    (pss_cons (ps_if (pt_cmpR op_eq (pv 3) pe_int (nomark _))
      (pss_one (ps_ret (pe_op op_cat (pe_op op_cat (pe_slice sl_list (pv 0) po_none (po_some (pv 5))) (pe_lst (pa_cons (pv 2) pa_nil))) (pe_slice sl_list (pv 0) (po_some (pv 5)) po_none))))
      pss_nil)
    (pss_cons (ps_join (ps_if (pt_cmpR op_eq (pv 3) pe_int (nomark _))
      (pss_one (ps_expr (pe_bm PySem.F.plainAttrs_list PySem.F.slot_list_pop PySem.F.type_list_pop mt_popAt (pv 6) (pa_cons (pv 5) pa_nil))))
      pss_nil))
    (pss_cons (ps_if (pt_cmpR op_eq (pv 3) pe_int (nomark _))
      (pss_one (ps_ret (pe_op op_cat (pe_op op_cat (pe_slice sl_list (pv 0) po_none (po_some (pv 5))) (pe_slice sl_list (pv 0) (po_some (pv 5)) (po_some (pe_op op_add (pv 5) pe_int)))) (pe_slice sl_list (pv 0) (po_some (pv 5)) po_none))))
      pss_nil)
    (pss_cons (ps_join (ps_if (pt_cmpR op_eq (pv 3) pe_int (nomark _))
      (pss_one (ps_asg (pv 2) (pg_sub (pv 6) (pv 5) set_list)))
      pss_nil))
    (pss_cons (ps_if (pt_cmpR op_eq (pv 3) pe_int (nomark _))
      (pss_one (ps_ret (pe_rev (pv 0) (pe_un un_neg pe_int))))
      pss_nil)
    (pss_one (ps_ret (pv 6))))))))))), ?_⟩
  try dsimp only [cxOf, Cx.nox, Cx.wish]
  walk_at "rr"
  refine ⟨cell, 1, 8, rfl, by decide, by decide, fun kd H1 _ _ s1 => ?_⟩
  have ha1 := s1 _ _ ha
  walk_at "rr"
  refine rd_len (SqL.of ha1) ?_
  walk_at "rr"
  refine ite2 (fun c => ?_) (fun c => ?_)
  · have c := of_decide_eq_true c
    walk_at "rr"
    refine ite2 (fun c2 => ?_) (fun c2 => ?_)
    · walk_at "rr"
      refine ⟨small (by simp), fun r hr' => ?_⟩
      exact q r _ [more] (s1.trans (same_new hr' _)) (s1.free hr') upd_same (by simp) (fun y hy => .inr (List.mem_singleton.mp hy))
    · walk_at "rr"
      refine ⟨Nat.zero_le _, fun r hr' => ?_⟩
      exact q r _ [] (s1.trans (same_new hr' _)) (s1.free hr') upd_same (by simp) (fun y hy => by cases hy)
  have c : ¬ (xs.length : Int) = 0 := fun z => c (decide_eq_true z)
  walk_at "rr"
  refine ⟨cell, 2, _, rfl, by decide, by omega, fun at_ H2 a0 a1 s2 => ?_⟩
  have ha2 := s2 _ _ ha1
  walk_at "rr"
  refine rd_listOf (SqL.of ha2) (fun r hr2 => ?_)
  have s3 := (s1.trans s2).trans (same_new hr2 (.lst xs))
  have fr := (s1.trans s2).free hr2
  have ha3 := (same_new hr2 (.lst xs)) _ _ ha2
  obtain ⟨y0, hy0, _⟩ := atI_lt a0 a1
  walk_at "rr"
  refine ite2 (fun k1 => ?_) (fun k1 => ?_)
  · walk_at "rr"
    refine rd_slL (SqL.of ha3) fun p1 h1 => ?_
    rw [cut_to xs a0 (by omega)]
    have u1 := same_new h1 (.lst (xs.take at_.toNat))
    walk_at "rr"
    refine ⟨small (by simp), fun p2 h2 => ?_⟩
    have u2 := same_new h2 (.lst [more])
    walk_at "rr"
    refine rd_cat (u2 _ _ upd_same) upd_same (small (by rw [List.length_take]; simp only [List.length_cons, List.length_nil]; omega)) fun p3 h3 => ?_
    have u3 := same_new h3 (.lst (xs.take at_.toNat ++ [more]))
    have u13 := (u1.trans u2).trans u3
    walk_at "rr"
    refine rd_slL (SqL.of (u13 _ _ ha3)) fun p4 h4 => ?_
    rw [cut_from xs a0 (by omega)]
    have u4 := same_new h4 (.lst (xs.drop at_.toNat))
    refine rd_cat (u4 _ _ upd_same) upd_same (small (by rw [List.length_append, List.length_take, List.length_drop]; simp only [List.length_cons, List.length_nil]; omega)) fun p5 h5 => ?_
    have u5 := same_new h5 (.lst ((xs.take at_.toNat ++ [more]) ++ xs.drop at_.toNat))
    refine q p5 _ _ (s3.trans ((u13.trans u4).trans u5)) ((s3.trans (u13.trans u4)).free h5) upd_same ?_ (fun y hy => ?_)
    · simp only [List.length_append, List.length_take, List.length_drop, List.length_cons, List.length_nil]; omega
    · rcases List.mem_append.mp hy with z | z
      · rcases List.mem_append.mp z with z | z
        · exact .inl (List.mem_of_mem_take z)
        · exact .inr (List.mem_singleton.mp z)
      · exact .inl (List.mem_of_mem_drop z)
  walk_at "rr"
  refine rd_joinF (fun σ' H4 => σ' = [some (.ref a), some (.int cell), some more, some (.int kd), some (.int xs.length), some (.int at_), some (.ref r)] ∧ Same H H4 ∧ ∃ ys, H4 r = some (.lst ys) ∧ ys.length ≤ xs.length ∧ (∀ y ∈ ys, y ∈ xs) ∧ (kd ≠ 2 → ys = xs)) ?_ ?_
  · walk_at "rr"
    refine ite2 (fun k2 => ?_) (fun k2 => ?_)
    · walk_at "rr"
      refine ⟨tyL (SqL.of upd_same), ?_⟩
      walk_at "rr"
      refine ⟨r, xs, at_, at_.toNat, y0, rfl, rfl, upd_same, by omega, by omega, sIdx_nat a0 a1, hy0, ?_⟩
      walk_at "rr"
      refine ⟨rfl, same_upd s3 fr _, _, upd_same, by rw [List.length_eraseIdx]; split <;> omega, fun y hy => List.mem_of_mem_eraseIdx hy, fun z => absurd (of_decide_eq_true k2) z⟩
    · walk_at "rr"
      exact ⟨rfl, s3, xs, upd_same, Nat.le_refl _, fun _ h => h, fun _ => rfl⟩
  rintro σ' H4 ⟨rfl, s4, ys, hr4, yl, ym, yk⟩
  have ha4 := s4 _ _ ha
  walk_at "rr"
  refine ite2 (fun k3 => ?_) (fun k3 => ?_)
  · walk_at "rr"
    refine rd_slL (SqL.of ha4) fun p1 h1 => ?_
    rw [cut_to xs a0 (by omega)]
    have u1 := same_new h1 (.lst (xs.take at_.toNat))
    walk_at "rr"
    refine rd_slL (SqL.of (u1 _ _ ha4)) fun p2 h2 => ?_
    rw [cut_one xs a0 a1]
    have u2 := same_new h2 (.lst ((xs.drop at_.toNat).take 1))
    refine rd_cat (u2 _ _ upd_same) upd_same (small (by simp only [List.length_take, List.length_drop]; omega)) fun p3 h3 => ?_
    have u3 := same_new h3 (.lst (xs.take at_.toNat ++ (xs.drop at_.toNat).take 1))
    have u13 := (u1.trans u2).trans u3
    walk_at "rr"
    refine rd_slL (SqL.of (u13 _ _ ha4)) fun p4 h4 => ?_
    rw [cut_from xs a0 (by omega)]
    have u4 := same_new h4 (.lst (xs.drop at_.toNat))
    refine rd_cat (u4 _ _ upd_same) upd_same (small (by simp only [List.length_append, List.length_take, List.length_drop]; omega)) fun p5 h5 => ?_
    have u5 := same_new h5 (.lst ((xs.take at_.toNat ++ (xs.drop at_.toNat).take 1) ++ xs.drop at_.toNat))
    refine q p5 _ _ (s4.trans ((u13.trans u4).trans u5)) ((s4.trans (u13.trans u4)).free h5) upd_same ?_ (fun y hy => .inl ?_)
    · simp only [List.length_append, List.length_take, List.length_drop]; omega
    · rcases List.mem_append.mp hy with z | z
      · rcases List.mem_append.mp z with z | z
        · exact List.mem_of_mem_take z
        · exact List.mem_of_mem_drop (List.mem_of_mem_take z)
      · exact List.mem_of_mem_drop z
  walk_at "rr"
  refine rd_joinF (fun σ' H5 => σ' = [some (.ref a), some (.int cell), some more, some (.int kd), some (.int xs.length), some (.int at_), some (.ref r)] ∧ Same H H5 ∧ ∃ ys, H5 r = some (.lst ys) ∧ ys.length ≤ xs.length ∧ (∀ y ∈ ys, y ∈ xs ∨ y = more)) ?_ ?_
  · walk_at "rr"
    refine ite2 (fun k4 => ?_) (fun k4 => ?_)
    · have k4 := of_decide_eq_true k4
      have := yk (by omega)
      subst this
      walk_at "rr"
      refine rd_setL hr4 (ixN_nat a0 a1) ?_
      walk_at "rr"
      refine ⟨rfl, same_upd s4 fr _, _, upd_same, by rw [List.length_set]; exact Nat.le_refl _, fun y hy => ?_⟩
      rcases List.mem_or_eq_of_mem_set hy with z | z
      · exact .inl z
      · exact .inr z
    · walk_at "rr"
      exact ⟨rfl, s4, ys, hr4, yl, fun y hy => .inl (ym y hy)⟩
  rintro σ' H5 ⟨rfl, s5, zs, hr5, zl, zm⟩
  have ha5 := s5 _ _ ha
  walk_at "rr"
  refine ite2 (fun k5 => ?_) (fun k5 => ?_)
  · walk_at "rr"
    refine ⟨rfl, a, xs, rfl, SqL.of ha5, fun p hp => ?_⟩
    exact q p _ _ (s5.trans (same_new hp _)) (s5.free hp) upd_same (by rw [List.length_reverse]; omega) (fun y hy => .inl (List.mem_reverse.mp hy))
  · walk_at "rr"
    exact q r _ zs s5 fr hr5 (by omega) zm
theorem sc_nudged : FnScope ["_law_numbers_here", "_law_cell", "_law_at"] ["_law_numbers_here", "_law_cell"] (defScope (top 48)) := ⟨rfl, rfl, rfl, by decide +kernel, rfl, by decide +kernel, by decide +kernel⟩
theorem ok_nudged (T : Txt mg) (C_law_draw : Callee P w K mg base "_law_draw" ["_law_cell", "_law_k", "_law_many"] 1 spDraw) (F : Fun K "_law_nudged" "_law_nudged" (top 48) f fd) : FnOk P w K mg base CX0 2 f fd ["_law_numbers_here", "_law_cell"] spNudged := by
  have S := sc_nudged
  refine F.ok S (fun vs H Q E h => ?_) (fun cdv A outer s H vs Q E hr h => ?_)
  · obtain ⟨a, cell, ns, rfl, _⟩ := h
    rfl
  obtain ⟨a, cell, ns, rfl, ha, hl, q⟩ := h
  refine ⟨_, (pss_cons (ps_if (PW.pt (pw_or (pt_cmpR (op_eqL' (hr.units0)) (pv 0) (pe_lst pa_nil) (nomark _)) (pw_or1 (pt_cmpR op_eq (pe_callC C_law_draw (hr.mono (by decide)) rfl (pa_cons (pv 1) (pa_cons pe_int (pa_cons pe_int pa_nil)))) pe_int (nomark _)))))
      (pss_one (ps_ret (pe_callTy call_list' rfl T.b_list boot_list (pa_cons (pv 0) pa_nil))))
      pss_nil)
    (pss_cons (ps_set (i := 2) S.nd rfl (Or.inl rfl) (pe_callC C_law_draw (hr.mono (by decide)) rfl (pa_cons (pv 1) (pa_cons pe_int (pa_cons (pe_callB call_len' rfl T.b_len PySem.boot_len (pa_cons (pv 0) pa_nil)) pa_nil)))))
    (pss_one (ps_ret (pe_op op_cat (pe_op op_cat (pe_slice sl_list (pv 0) po_none (po_some (pv 2))) (pe_lst (pa_cons (pe_op op_sub (pe_op op_add (pe_ix ix_list (pv 0) (pv 2) (fun _ _ => rfl)) (pe_callC C_law_draw (hr.mono (by decide)) rfl (pa_cons (pv 1) (pa_cons pe_int (pa_cons pe_int pa_nil))))) pe_int) pa_nil))) (pe_slice sl_list (pv 0) (po_some (pe_op op_add (pv 2) pe_int)) po_none)))))), ?_⟩
  try dsimp only [cxOf, Cx.nox, Cx.wish]
  walk_at "rr"
  refine ⟨Nat.zero_le _, fun z hz => ?_⟩
  have s1 := same_new hz (.lst [])
  walk_at "rr"
  refine rd_eqL (ms := []) (SqL.of (s1 _ _ ha)) (SqL.of upd_same) ?_
  walk_at "rr"
  have copy : ∀ {H1 : Hp}, Same H H1 → ∀ r, H1 r = none → Q (.ref r) (upd H1 r (.lst (ns.map V.int))) := fun s r hr' => q r _ ns (s.trans (same_new hr' _)) (s.free hr') upd_same rfl
  refine ite2 (fun c1 => ?_) (fun c1 => ?_)
  · walk_at "rr"
    exact rd_listOf (SqL.of (s1 _ _ ha)) (copy s1)
  have c1 : ns ≠ [] := fun z => c1 (decide_eq_true z)
  have c0 : 0 < ns.length := List.length_pos_iff.mpr c1
  walk_at "rr"
  refine ⟨cell, 4, 3, rfl, by decide, by decide, fun d H1 _ _ s2 => ?_⟩
  have s2 := s1.trans s2
  walk_at "rr"
  refine ite2 (fun c2 => ?_) (fun c2 => ?_)
  · walk_at "rr"
    exact rd_listOf (SqL.of (s2 _ _ ha)) (copy s2)
  walk_at "rr"
  refine rd_lenI (SqL.of (s2 _ _ ha)) ?_
  walk_at "rr"
  refine ⟨cell, 5, _, rfl, by decide, by omega, fun at_ H2 a0 a1 s3 => ?_⟩
  have s3 := s2.trans s3
  have ha3 := s3 _ _ ha
  have a1' : at_ < ((ns.map V.int).length : Nat) := by rw [List.length_map]; exact a1
  obtain ⟨v, _, hv⟩ := at_place a0 a1
  walk_at "rr"
  refine rd_slL (SqL.of ha3) fun p1 h1 => ?_
  rw [cut_to _ a0 (by omega)]
  have u1 := same_new h1 (.lst ((ns.map V.int).take at_.toNat))
  walk_at "rr"
  refine rd_ixL (SqL.of (u1 _ _ ha3)) hv ?_
  walk_at "rr"
  refine ⟨cell, 6, 3, rfl, by decide, by decide, fun d3 H3 _ _ s4 => ?_⟩
  have u2 := u1.trans s4
  walk_at "rr"
  refine ⟨small (by simp), fun p2 h2 => ?_⟩
  have u3 := same_new h2 (.lst [.int (v + d3 - 1)])
  walk_at "rr"
  refine rd_cat ((s4.trans u3) _ _ upd_same) upd_same (small (by simp only [List.length_take, List.length_map, List.length_cons, List.length_nil]; omega)) fun p3 h3 => ?_
  have u4 := same_new h3 (.lst ((ns.map V.int).take at_.toNat ++ [.int (v + d3 - 1)]))
  have u14 := (u2.trans u3).trans u4
  walk_at "rr"
  refine rd_slL (SqL.of (u14 _ _ ha3)) fun p4 h4 => ?_
  rw [cut_from _ (show 0 ≤ at_ + 1 by omega) (by omega)]
  have u5 := same_new h4 (.lst ((ns.map V.int).drop (at_ + 1).toNat))
  refine rd_cat (u5 _ _ upd_same) upd_same (small (by simp only [List.length_append, List.length_take, List.length_drop, List.length_map, List.length_cons, List.length_nil]; omega)) fun p5 h5 => ?_
  have u6 := same_new h5 (.lst (((ns.map V.int).take at_.toNat ++ [.int (v + d3 - 1)]) ++ (ns.map V.int).drop (at_ + 1).toNat))
  refine q p5 _ (ns.take at_.toNat ++ [v + d3 - 1] ++ ns.drop (at_ + 1).toNat) (s3.trans ((u14.trans u5).trans u6)) ((s3.trans (u14.trans u5)).free h5) ?_ ?_
  · rw [upd_same, List.map_append, List.map_append, List.map_take, List.map_drop]; rfl
  · simp only [List.length_append, List.length_take, List.length_drop, List.length_cons, List.length_nil]; omega
end
section
variable {P : Program} {w : World} {K : PySem.W.Frag} {mg : Str → Option Value} {base : Heap} {f : Addr} {fd : FuncData} {ca : CA}
theorem sc_between : FnScope ["_law_row_here", "_law_places", "_law_found", "_law_last", "_law_place"] ["_law_row_here", "_law_places"] (defScope (top 49)) := ⟨rfl, rfl, rfl, by decide +kernel, rfl, by decide +kernel, by decide +kernel⟩
theorem ok_between (T : Txt mg) (F : Fun K "_law_between" "_law_between" (top 49) f fd) : FnOk P w K mg base CX0 1 f fd ["_law_row_here", "_law_places"] (spBetween K) := by
  have S := sc_between
  refine F.ok S (fun vs H Q E h => ?_) (fun cdv A outer s H vs Q E hr h => ?_)
  · obtain ⟨a, p, ns, ds, rfl, _⟩ := h
    rfl
  obtain ⟨a, p, ns, ds, rfl, hS, hp, hl, hri, q⟩ := h
  have ld := hri.len (Nat.zero_le _)
  refine ⟨_, (pss_cons (ps_par (i := 2) (j := 3) rfl S.nd rfl rfl (by decide) rfl rfl (pa_cons (pe_lst pa_nil) (pa_cons (pe_un un_neg pe_int) pa_nil)) rfl)
    (pss_cons (ps_for PassesOwn.never rfl (pi_list (pe_op op_cat (pv 1) (pe_lst (pa_cons (pe_callB call_len' rfl T.b_len PySem.boot_len (pa_cons (pv 0) pa_nil)) pa_nil)))) (pg_name (i := 4) S.nd rfl (Or.inl rfl))
      (pss_cons (ps_expr (pe_bm PySem.F.plainAttrs_list PySem.F.slot_list_append PySem.F.type_list_append mt_append (pv 2) (pa_cons (pe_callB (call_sum' rfl) rfl T.b_sum boot_sum (pa_cons (pe_slice sl_list (pv 0) (po_some (pe_op op_add (pv 3) pe_int)) (po_some (pv 4))) pa_nil)) pa_nil)))
      (pss_one (ps_set (i := 3) S.nd rfl (Or.inl rfl) (pv 4)))))
    (pss_one (ps_ret (pv 2))))), ?_⟩
  try dsimp only [cxOf, Cx.nox, Cx.wish]
  walk_at "rr"
  refine ⟨Nat.zero_le _, fun r hr' => ?_⟩
  have s1 := same_new hr' (.lst [])
  walk_at "rr"
  refine rd_lenI (s1.seq hS) ?_
  walk_at "rr"
  refine ⟨small1 (by simp), fun u hu => ?_⟩
  have s2 := same_new hu (.lst [.int ns.length])
  walk_at "rr"
  refine rd_cat (s2 _ _ (s1 _ _ hp)) upd_same (small1 (by rw [List.length_map, ic_len]; simp only [List.length_cons, List.length_nil]; omega)) (fun t ht => ?_)
  have s3 := s2.trans (same_new ht (.lst ((ic ds).map V.int ++ [.int ns.length])))
  have eT : (ic ds).map V.int ++ [.int ns.length] = (ic (ds ++ [ns.length])).map V.int := by unfold ic; simp
  have hrt : r ≠ t := fun z => by
    have := s2 _ _ (upd_same (H := H) (a := r) (o := .lst []))
    rw [← z] at ht
    rw [ht] at this; cases this
  generalize hHt : upd _ t _ = Ht at s3 ⊢
  have hT : Ht t = some (.lst ((ic (ds ++ [ns.length])).map V.int)) := by rw [← hHt, upd_same, eT]
  have hR0 : Ht r = some (.lst ([] : List V)) := s3 _ _ upd_same
  have sH : Same H Ht := s1.trans s3
  refine ⟨t, rfl, ⟨_, SqL.of hT⟩, for_listF (K := K) (a := t) (xs := (ic (ds ++ [ns.length])).map V.int)
    (fun i σ H7 => ∃ (st : Nat) (v : Option V) (acc : List Int), σ = [some (.ref a), some (.ref p), some (.ref r), some (.int ((st : Int) - 1)), v] ∧ Same H H7 ∧ H7 t = Ht t ∧ H7 r = some (.lst (acc.map V.int)) ∧ acc.length = i ∧
      ((i ≤ ds.length ∧ st ≤ ns.length ∧ Rising st ns.length (ds.drop i) ∧ acc ++ betw ns st (ds.drop i) = betw ns 0 ds) ∨ (i = ds.length + 1 ∧ acc = betw ns 0 ds)))
    ⟨0, none, [], rfl, sH, rfl, hR0, rfl, .inl ⟨Nat.zero_le _, Nat.zero_le _, hri, rfl⟩⟩ (fun i σ H7 _ hh => ?_) ?_ ?_⟩
  · obtain ⟨_, _, _, _, _, e, _⟩ := hh
    exact SqL.of (e.trans hT)
  · rintro i y σ H7 hi ⟨st, v, acc, rfl, s7, eT7, hr7, al, hh⟩
    obtain ⟨z, rfl, hz⟩ := at_int hi
    obtain ⟨cc, rfl, hc⟩ := at_ic hz
    have hil := lt_of_at hc
    rw [List.length_append] at hil
    simp only [List.length_cons, List.length_nil] at hil
    rcases hh with ⟨h1, h2, h3, h4⟩ | ⟨h1, _⟩
    · walk_at "rr"
      refine ⟨tyL (SqL.of hr7), ?_⟩
      walk_at "rr"
      rw [show (↑st - 1 + 1 : Int) = (st : Int) by omega]
      have hcn : cc ≤ ns.length := by
        by_cases hid : i < ds.length
        · rw [List.getElem?_append_left hid] at hc
          rw [drop_at hc] at h3
          exact Nat.le_of_lt h3.2.1
        · rw [List.getElem?_append_right (by omega), show i - ds.length = 0 by omega] at hc
          have : ns.length = cc := by simpa using hc
          omega
      refine rd_slL (s7.seq hS) fun p' hp' => ?_
      have s8 := s7.trans (same_new hp' (.lst (cutV (ns.map V.int) (some ↑st) (some ↑cc))))
      walk_at "rr"
      refine rd_sum (ns := (ns.drop st).take (cc - st)) (SqL.of ?_) ?_
      · rw [upd_same, cut_ints, HT.sIx_nat, HT.sIx_nat, Nat.min_eq_left h2, Nat.min_eq_left hcn]
      walk_at "rr"
      have nrp : r ≠ p' := fun z => by rw [z] at hr7; rw [hr7] at hp'; cases hp'
      have ntp : t ≠ p' := fun z => by rw [z, hp'] at eT7; rw [← z, hT] at eT7; cases eT7
      have ntr : t ≠ r := fun z => hrt z.symm
      refine rd_append (xs := acc.map V.int) (by rw [upd_ne nrp]; exact hr7) (by rw [List.length_map]; exact small1000 (by omega)) ?_
      walk_at "rr"
      refine ⟨cc + 1, some (.int cc), acc ++ [((ns.drop st).take (cc - st)).sum], ?_, same_upd s8 hr' _, ?_, ?_, by rw [List.length_append]; simp only [List.length_cons, List.length_nil]; omega, ?_⟩
      · rw [show (((cc + 1 : Nat) : Int) - 1) = (cc : Int) by omega]; rfl
      · rw [upd_ne ntr, upd_ne ntp]; exact eT7
      · rw [upd_same, List.map_append]; rfl
      · by_cases hid : i < ds.length
        · rw [List.getElem?_append_left hid] at hc
          rw [drop_at hc] at h3 h4
          refine .inl ⟨hid, h3.2.1, h3.2.2, ?_⟩
          rw [List.append_assoc, ← h4]
          rfl
        · have hi' : i = ds.length := by omega
          rw [List.getElem?_append_right (by omega), show i - ds.length = 0 by omega] at hc
          have : ns.length = cc := by simpa using hc
          subst this
          refine .inr ⟨by omega, ?_⟩
          rw [List.drop_eq_nil_of_le (by omega)] at h4
          rw [← h4, List.take_of_length_le (by rw [List.length_drop]; omega)]
          rfl
    · omega
  · rintro σ H7 ⟨st, v, acc, rfl, s7, eT7, hr7, al, hh⟩
    walk_at "rr"
    rw [List.length_map, ic_len, List.length_append] at al hh
    simp only [List.length_cons, List.length_nil] at al hh
    rcases hh with ⟨h1, _⟩ | ⟨_, h1⟩
    · omega
    · subst h1
      exact q r _ s7 hr' hr7
end
def spPart : Sp := fun vs H Q _ => ∃ (a : Addr) (cell : Int) (ns : List Int), vs = [.ref a, .int cell] ∧ H a = some (.lst (ns.map V.int)) ∧ ns.length ≤ 63 ∧ Good ns ∧ ∀ H', Same H H' → Q (.bl true) H'
theorem FewAt.keep {C : Addr} {H H' : Hp} {x cA sA : Addr} {cs : List Int} {xs : List V} {ps : List (Int × Int)} (h : FewAt C H x cA sA cs xs ps) (hx : H' x = H x) (hc : H' cA = H cA) (hs : H' sA = H sA) (hp : PairsT H' xs ps) : FewAt C H' x cA sA cs xs ps := by
  obtain ⟨⟨dx, fs, h1, h2⟩, h3, h4, _⟩ := h
  exact ⟨⟨dx, fs, hx.trans h1, h2⟩, hc.trans h3, hs.trans h4, hp⟩
theorem LeastAt.keep {C : Addr} {H H' : Hp} {x cA sA : Addr} {cs : List Int} {num : Int} {xs : List V} {ps : List (Int × Int)} (h : LeastAt C H x cA sA cs num xs ps) (hx : H' x = H x) (hc : H' cA = H cA) (hs : H' sA = H sA) (hp : PairsT H' xs ps) : LeastAt C H' x cA sA cs num xs ps := by
  obtain ⟨⟨dx, fs, h1, h2⟩, h3, h4, _⟩ := h
  exact ⟨⟨dx, fs, hx.trans h1, h2⟩, hc.trans h3, hs.trans h4, hp⟩
theorem MostAt.keep {C : Addr} {H H' : Hp} {x cA pA : Addr} {cs pl : List Int} (h : MostAt C H x cA pA cs pl) (hx : H' x = H x) (hc : H' cA = H cA) (hs : H' pA = H pA) : MostAt C H' x cA pA cs pl := by
  obtain ⟨⟨dx, fs, h1, h2⟩, h3, h4⟩ := h
  exact ⟨⟨dx, fs, hx.trans h1, h2⟩, hc.trans h3, hs.trans h4⟩
theorem ints_more {cs : List Int} {ys : List V} {m : Int} (h : ∀ y ∈ ys, y ∈ cs.map V.int ∨ y = .int m) : ∃ ds : List Int, ys = ds.map V.int :=
  ints_of fun y hy => by
    rcases h y hy with z | z
    · obtain ⟨b, _, rfl⟩ := List.mem_map.mp z
      exact ⟨b, rfl⟩
    · exact ⟨m, z⟩
theorem ne_old {H : Hp} {p x : Addr} {o : HO} (h : H p = some o) (hx : H x = none) : x ≠ p := fun z => by rw [z, h] at hx; cases hx
section
variable {P : Program} {w : World} {K : PySem.W.Frag} {mg : Str → Option Value} {base : Heap} {f : Addr} {fd : FuncData} {ca : CA}
theorem sc_fright : FnScope ["_law_row_here", "_law_cell", "_law_many", "_law_bound", "_law_told", "_law_cuts", "_law_drawn", "_law_stretches", "_law_handed", "_law_answer", "_law_number", "_law_due", "_law_place"] ["_law_row_here", "_law_cell"] (defScope (top 50)) := ⟨rfl, rfl, rfl, by decide +kernel, rfl, by decide +kernel, by decide +kernel⟩
theorem ok_fright (T : Txt mg) (c : Cl K mg ca) (C_law_draw : Callee P w K mg base "_law_draw" ["_law_cell", "_law_k", "_law_many"] 1 spDraw) (C_fewest : Callee P w K mg base "fewest" ["row", "bound"] 8 (spFewest ca)) (C_law_bent : Callee P w K mg base "_law_bent" ["_law_some", "_law_cell", "_law_more"] 2 spBent) (C_law_nudged : Callee P w K mg base "_law_nudged" ["_law_numbers_here", "_law_cell"] 2 spNudged)
    (M_Fewest : MakeC P w K mg base "Fewest" ca.Fewest ["self", "cuts", "stretches"] 2 (spMkF ca.Fewest)) (M_Great : MakeC P w K mg base "Great" ca.Great ["self", "place"] 2 (spMkG ca.Great)) (MF : MethC P w K mg base ca.Fewest "shows" ["self", "row", "bound"] 8 (spShowsF K ca)) (MG : MethC P w K mg base ca.Great "shows" ["self", "row", "bound"] 8 (spShowsG K ca))
    (C_law_rising : Callee P w K mg base "_law_rising" ["_law_places", "_law_least", "_law_many"] 1 (spRising K)) (C_law_linked : Callee P w K mg base "_law_linked" ["_law_row_here", "_law_stretches", "_law_least"] 1 (spLinked K)) (C_law_borne : Callee P w K mg base "_law_borne" ["_law_row_here", "_law_cuts"] 1 (spLawBorne K)) (C_law_says : Callee P w K mg base "_law_says" ["_law_told", "_law_due"] 1 spSays)
    (F : Fun K "_law_fewest_right" "_law_fewest_right" (top 50) f fd) : FnOk P w K mg base CX0 10 f fd ["_law_row_here", "_law_cell"] spPart := by
  have S := sc_fright
  refine F.ok S (fun vs H Q E h => ?_) (fun cdv A outer s H vs Q E hr h => ?_)
  · obtain ⟨a, cell, ns, rfl, _⟩ := h
    rfl
  obtain ⟨a, cell, ns, rfl, ha, hl, hg, q⟩ := h
  have gs := good_sum hg hl
  refine ⟨_, (pss_cons (ps_par (i := 2) (j := 3) rfl S.nd rfl rfl (by decide) rfl rfl (pa_cons (pe_callB call_len' rfl T.b_len PySem.boot_len (pa_cons (pv 0) pa_nil)) (pa_cons (pe_op op_add (pe_callB (call_maxL rfl) rfl T.b_max boot_max (pa_cons (pe_op op_cat (pe_lst (pa_cons pe_int pa_nil)) (pv 0)) pa_nil)) (pe_op op_fdiv (pe_op op_mul (pe_callC C_law_draw (hr.mono (by decide)) rfl (pa_cons (pv 1) (pa_cons pe_int (pa_cons pe_int pa_nil)))) (pe_callB (call_sum' rfl) rfl T.b_sum boot_sum (pa_cons (pv 0) pa_nil))) pe_int)) pa_nil)) rfl)
    (pss_cons (ps_set (i := 4) S.nd rfl (Or.inl rfl) (pe_callC C_fewest (hr.mono (by decide)) rfl (pa_cons (pv 0) (pa_cons (pv 3) pa_nil))))
    (pss_cons (ps_set (i := 5) S.nd rfl (Or.inl rfl) (pe_callC C_law_nudged (hr.mono (by decide)) rfl (pa_cons (pe_callC C_law_bent (hr.mono (by decide)) rfl (pa_cons (pe_fld (pv 4) rfl) (pa_cons (pv 1) (pa_cons (pe_op op_sub (pe_callC C_law_draw (hr.mono (by decide)) rfl (pa_cons (pv 1) (pa_cons pe_int (pa_cons (pe_op op_add (pv 2) pe_int) pa_nil)))) pe_int) pa_nil)))) (pa_cons (pe_op op_fdiv (pv 1) pe_int) pa_nil))))
    (pss_cons (ps_set (i := 6) S.nd rfl (Or.inl rfl) (pe_tup (pa_cons (pe_op op_sub (pe_callC C_law_draw (hr.mono (by decide)) rfl (pa_cons (pv 1) (pa_cons pe_int (pa_cons (pe_op op_add (pv 2) pe_int) pa_nil)))) pe_int) (pa_cons (pe_op op_sub (pe_callC C_law_draw (hr.mono (by decide)) rfl (pa_cons (pv 1) (pa_cons pe_int (pa_cons (pe_op op_add (pv 2) pe_int) pa_nil)))) pe_int) pa_nil))))
    (pss_cons (ps_set (i := 7) S.nd rfl (Or.inl rfl) (pe_callC C_law_bent (hr.mono (by decide)) rfl (pa_cons (pe_fld (pv 4) rfl) (pa_cons (pe_op op_fdiv (pv 1) pe_int) (pa_cons (pv 6) pa_nil)))))
    (pss_cons (ps_set (i := 8) S.nd rfl (Or.inl rfl) (pe_lst (pa_cons (pe_callTy call_list' rfl T.b_list boot_list (pa_cons (pv 5) pa_nil)) (pa_cons (pe_callTy call_list' rfl T.b_list boot_list (pa_cons (pv 7) pa_nil)) pa_nil))))
    (pss_cons (ps_set (i := 9) S.nd rfl (Or.inl rfl) (pe_makeC M_Fewest (hr.mono (by decide)) rfl (pa_cons (pe_ix ix_list (pv 8) pe_int (fun _ _ => rfl)) (pa_cons (pe_ix ix_list (pv 8) pe_int (fun _ _ => rfl)) pa_nil))))
    (pss_cons (ps_expr (pe_bm PySem.F.plainAttrs_list PySem.F.slot_list_append PySem.F.type_list_append mt_append (pe_ix ix_list (pv 8) pe_int (fun _ _ => rfl)) (pa_cons pe_int pa_nil)))
    (pss_cons (ps_expr (pe_bm0 PySem.F.plainAttrs_list PySem.F.slot_list_clear PySem.F.type_list_clear mt_clear (pe_ix ix_list (pv 8) pe_int (fun _ _ => rfl))))
    (pss_cons (ps_if (PW.pt (pw_or (pt_cmpR (op_neL' (hr.units0)) (pe_fld (pv 9) rfl) (pv 5) (nomark _)) (pw_or1 (pt_cmpR (op_neSame (hr.units0)) (pe_fld (pv 9) rfl) (pv 7) (nomark _)))))
      (pss_one (ps_ret pe_bl))
      pss_nil)
    (pss_cons (ps_for PassesOwn.never rfl (pi_tup (pe_tup (pa_cons (pv 3) (pa_cons (pe_op op_add (pv 3) pe_int) (pa_cons (pe_callB (call_max2' rfl) rfl T.b_max boot_max (pa_cons pe_int (pa_cons (pe_op op_sub (pv 3) pe_int) pa_nil))) pa_nil))))) (pg_name (i := 10) S.nd rfl (Or.inl rfl))
      (pss_cons (ps_set (i := 11) S.nd rfl (Or.inl rfl) (pe_and (pe_callC C_law_rising (hr.mono (by decide)) rfl (pa_cons (pv 5) (pa_cons pe_int (pa_cons (pv 2) pa_nil)))) (pe_one (pe_cmpR op_eq (pe_callB call_len' rfl T.b_len PySem.boot_len (pa_cons (pv 5) pa_nil)) (pe_callB call_len' rfl T.b_len PySem.boot_len (pa_cons (pv 7) pa_nil)) (nomark _)))))
      (pss_cons (ps_set (i := 11) S.nd rfl (Or.inl rfl) (pe_and (pv 11) (pe_and (pe_callC C_law_linked (hr.mono (by decide)) rfl (pa_cons (pv 0) (pa_cons (pv 7) (pa_cons (pe_op op_add (pv 10) pe_int) pa_nil)))) (pe_one (pe_cmpR op_le (pe_callB (call_maxL rfl) rfl T.b_max boot_max (pa_cons (pe_op op_cat (pe_lst (pa_cons pe_int pa_nil)) (pe_callC C_law_borne (hr.mono (by decide)) rfl (pa_cons (pv 0) (pa_cons (pv 5) pa_nil)))) pa_nil)) (pv 10) (nomark _))))))
      (pss_one (ps_if (pt_not (pt_val (pe_callC C_law_says (hr.mono (by decide)) rfl (pa_cons (pe_methG (pv 9) (pa_cons (pv 0) (pa_cons (pv 10) pa_nil))) (pa_cons (pv 11) pa_nil)))))
        (pss_one (ps_ret pe_bl))
        pss_nil)))))
    (pss_cons (ps_for PassesOwn.never rfl (pi_tup (pe_tup (pa_cons (pe_un un_neg pe_int) (pa_cons pe_int (pa_cons (pv 2) (pa_cons (pe_callC C_law_draw (hr.mono (by decide)) rfl (pa_cons (pv 1) (pa_cons pe_int (pa_cons (pe_op op_add (pv 2) pe_int) pa_nil)))) pa_nil)))))) (pg_name (i := 12) S.nd rfl (Or.inl rfl))
      (pss_cons (ps_join (ps_set (i := 11) S.nd rfl (Or.inl rfl) (pe_ifExp (pt_chain op_le op_lt pe_int (pv 12) (pv 2)) (pe_and (pe_chain op_le op_lt pe_int (pv 12) (pv 2)) (pe_one (pe_cmpR op_gt (pe_ix ix_list (pv 0) (pv 12) (fun _ _ => rfl)) (pe_op op_fdiv (pv 3) pe_int) (nomark _)))) pe_bl)))
      (pss_one (ps_if (PW.pt (pw_or (pt_cmpR op_ne (pe_fld (pe_makeC M_Great (hr.mono (by decide)) rfl (pa_cons (pv 12) pa_nil)) rfl) (pv 12) (nomark _)) (pw_or1 (pt_not (pt_val (pe_callC C_law_says (hr.mono (by decide)) rfl (pa_cons (pe_methG (pe_makeC M_Great (hr.mono (by decide)) rfl (pa_cons (pv 12) pa_nil)) (pa_cons (pv 0) (pa_cons (pe_op op_fdiv (pv 3) pe_int) pa_nil))) (pa_cons (pv 11) pa_nil))))))))
        (pss_one (ps_ret pe_bl))
        pss_nil))))
    (pss_one (ps_ret pe_bl)))))))))))))), ?_⟩
  try dsimp only [cxOf, Cx.nox, Cx.wish]
  walk_at "rr"
  refine rd_lenI (SqL.of ha) ?_
  walk_at "rr"
  refine ⟨small (by simp), fun z hz => ?_⟩
  have s1 := same_new hz (.lst [.int 0])
  walk_at "rr"
  refine rd_cat upd_same (s1 _ _ ha) (small (by simp only [List.length_map, List.length_cons, List.length_nil]; omega)) fun m hm => ?_
  have s2 := s1.trans (same_new hm (.lst ([.int 0] ++ ns.map V.int)))
  walk_at "rr"
  refine ⟨m, 0 :: ns, rfl, SqL.of upd_same, by simp, fun M _ h5 => ?_⟩
  walk_at "rr"
  refine ⟨cell, 7, 3, rfl, by decide, by decide, fun d7 H3 g0 g1 s3 => ?_⟩
  have s3 := s2.trans s3
  walk_at "rr"
  refine rd_sum (SqL.of (s3 _ _ ha)) ?_
  walk_at "rr"
  refine rd_I (.inl ⟨by omega, by omega⟩) ?_
  walk_at "rr"
  refine rd_I ⟨by decide, by decide⟩ ?_
  walk_at "rr"
  have hM : 0 ≤ M := h5 0 (List.mem_cons_self ..)
  have hq : 0 ≤ d7 * ns.sum / 7 := Int.ediv_nonneg (Int.mul_nonneg g0 gs.1) (by decide)
  obtain ⟨bd, hbd⟩ : ∃ bd, bd = M + d7 * ns.sum / 7 := ⟨_, rfl⟩
  rw [← hbd]
  have hb : 0 ≤ bd := by omega
  have hmax : ∀ x ∈ ns, x ≤ bd := fun x hx => by have := h5 x (List.mem_cons_of_mem _ hx); omega
  refine ⟨a, ns, bd, rfl, s3 _ _ ha, hl, hg, hb, fun x H4 s4 fx told => ?_⟩
  have s4 := s3.trans s4
  rcases told with ⟨cA, sA, cs, xs, ps, fw, fc, fs', ncs, due⟩ | ⟨p, _, due⟩
  case inr =>
    exfalso
    unfold dueG at due
    simp only [Bool.and_eq_true, decide_eq_true_eq] at due
    obtain ⟨⟨h1, h2⟩, h3⟩ := due
    have hp : p.toNat < ns.length := by omega
    have := hmax ns[p.toNat] (List.getElem_mem hp)
    rw [List.getD_eq_getElem?_getD, List.getElem?_eq_getElem hp] at h3
    simp only [Option.getD_some] at h3
    omega
  obtain ⟨⟨dx, fs, hx2, l1, l2, l3⟩, hc, hs, hp⟩ := id fw
  have lc := dueF_len due
  have lp := dueF_short due hl
  have lx := hp.len
  walk_at "rr"
  refine rd_fld hx2 c.y_Fewest.cl c.n_Fewest_cuts l1 ?_
  walk_at "rr"
  refine ⟨cell, 8, _, rfl, by decide, by omega, fun d8 H5 _ _ s5 => ?_⟩
  walk_at "rr"
  refine ⟨cA, cell, _, cs.map V.int, rfl, s5 _ _ hc, by rw [List.length_map]; omega, fun r1 H6 ys s6 f6 h6 l6 m6 => ?_⟩
  obtain ⟨ds, rfl⟩ := ints_more m6
  rw [List.length_map, List.length_map] at l6
  have s6 := s5.trans s6
  walk_at "rr"
  refine rd_I ⟨by decide, by decide⟩ ?_
  walk_at "rr"
  refine ⟨r1, _, ds, rfl, h6, by omega, fun r2 H7 ms s7 f7 h7 l7 => ?_⟩
  have s7 := s6.trans s7
  walk_at "rr"
  refine ⟨cell, 9, _, rfl, by decide, by omega, fun d9 H8 _ _ s8 => ?_⟩
  walk_at "rr"
  refine ⟨cell, 10, _, rfl, by decide, by omega, fun d10 H9 _ _ s9 => ?_⟩
  have s9 := s8.trans s9
  walk_at "rr"
  refine ⟨small (by simp), fun tp htp => ?_⟩
  have s10 := s9.trans (same_new htp (.tup [.int (d9 - 1), .int (d10 - 1)]))
  have s10' := s7.trans s10
  walk_at "rr"
  refine rd_fld (s10' _ _ hx2) c.y_Fewest.cl c.n_Fewest_stretches l2 ?_
  walk_at "rr"
  refine rd_I ⟨by decide, by decide⟩ ?_
  walk_at "rr"
  refine ⟨sA, _, .ref tp, xs, rfl, s10' _ _ hs, by omega, fun r3 H11 zs s11 f11 h11 l11 m11 => ?_⟩
  have pz : ∃ ps', PairsT H11 zs ps' := pairs_of fun y hy => by
    rcases m11 y hy with z | z
    · obtain ⟨p, f', e', h1, h2⟩ := hp.mem z
      exact ⟨p, f', e', h1, s11 _ _ (s10' _ _ h2)⟩
    · exact ⟨tp, _, _, z, s11 _ _ upd_same⟩
  obtain ⟨ps', pz⟩ := pz
  have lz := pz.len
  obtain ⟨as, has⟩ := pz.refs
  have s12 := s4.trans (s10'.trans s11)
  have hr2 : H11 r2 = some (.lst (ms.map V.int)) := s11 _ _ (s10 _ _ h7)
  have haZ := s12 _ _ ha
  walk_at "rr"
  refine rd_listOf (SqL.of hr2) fun p1 h1 => ?_
  have u1 := same_new h1 (.lst (ms.map V.int))
  walk_at "rr"
  refine rd_listOf (SqL.of (u1 _ _ h11)) fun p2 h2 => ?_
  have u2 := same_new h2 (.lst zs)
  walk_at "rr"
  refine ⟨small (by simp), fun hd hhd => ?_⟩
  have u3 := same_new hhd (.lst [.ref p1, .ref p2])
  have hp1 := u3 _ _ (u2 _ _ (upd_same (H := H11) (a := p1) (o := .lst (ms.map V.int))))
  have hp2 := u3 _ _ (upd_same (H := upd H11 p1 (.lst (ms.map V.int))) (a := p2) (o := .lst zs))
  have u13 := (u1.trans u2).trans u3
  walk_at "rr"
  refine rd_ixL (SqL.of upd_same) rfl ?_
  walk_at "rr"
  refine rd_ixL (SqL.of upd_same) rfl ?_
  walk_at "rr"
  intro y dy hy hdy _
  refine mkF_use hy hdy hp1 hp2 (pz.same u13) (by omega) (by omega) fun cB sB H12 s13 fa fcB fsB nB => ?_
  have hhd12 := s13 _ _ (upd_same (a := hd) (o := .lst [.ref p1, .ref p2]))
  walk_at "rr"
  refine rd_ixL (SqL.of hhd12) rfl ?_
  walk_at "rr"
  refine ⟨tyL (SqL.of (s13 _ _ hp1)), ?_⟩
  walk_at "rr"
  refine rd_append (s13 _ _ hp1) (by rw [List.length_map]; exact small1000 (by omega)) ?_
  have npd : hd ≠ p1 := ne_old (u2 _ _ upd_same) hhd
  have np2 : p2 ≠ p1 := ne_old upd_same h2
  have hhd13 : upd H12 p1 (.lst (ms.map V.int ++ [.int 0])) hd = some (.lst [.ref p1, .ref p2]) := by rw [upd_ne npd]; exact hhd12
  walk_at "rr"
  refine rd_ixL (SqL.of hhd13) rfl ?_
  walk_at "rr"
  have hp213 : upd H12 p1 (.lst (ms.map V.int ++ [.int 0])) p2 = some (.lst zs) := by rw [upd_ne np2]; exact s13 _ _ hp2
  refine ⟨tyL (SqL.of hp213), ?_⟩
  walk_at "rr"
  refine rd_clear hp213 ?_
  -- the heap from here on: what stood ahead of the copies stays, and the answer
  have f1 : H11 p1 = none := h1
  have f2 : H11 p2 = none := u1.free h2
  obtain ⟨H13, hH13⟩ : ∃ H13, H13 = upd (upd H12 p1 (.lst (ms.map V.int ++ [.int 0]))) p2 (.lst []) := ⟨_, rfl⟩
  have s14 : Same H11 H13 := by rw [hH13]; exact same_upd (same_upd (u13.trans s13) f1 _) f2 _
  have keep : ∀ b, b ≠ p1 → b ≠ p2 → H13 b = H12 b := fun b n1 n2 => by rw [hH13, upd_ne n2, upd_ne n1]
  have fa13 : FewAt ca.Fewest H13 y cB sB ms zs ps' := fa.keep (keep _ (ne_old hp1 hy) (ne_old hp2 hy)) (keep _ (ne_old hp1 fcB) (ne_old hp2 fcB)) (keep _ (ne_old hp1 fsB) (ne_old hp2 fsB)) (pz.same s14)
  rw [← hH13]
  clear keep
  obtain ⟨⟨dy', fs2, hy13, m1, m2, m3⟩, hcB, hsB, _⟩ := id fa13
  walk_at "rr"
  refine rd_fld hy13 c.y_Fewest.cl c.n_Fewest_cuts m1 ?_
  walk_at "rr"
  refine rd_neL (SqL.of hcB) (SqL.of (s14 _ _ hr2)) ?_
  rw [decide_eq_true rfl]
  walk_at "rr"
  refine rd_fld hy13 c.y_Fewest.cl c.n_Fewest_stretches m2 ?_
  walk_at "rr"
  refine rd_neSame (as := as) (SqL.of (by rw [← has]; exact hsB)) (SqL.of (by rw [← has]; exact s14 _ _ h11)) ?_
  walk_at "rr"
  refine ⟨small (by simp), fun t ht => ?_⟩
  have su := same_new ht (.tup [.int bd, .int (bd + 1), .int (if bd - 1 > 0 then bd - 1 else 0)])
  refine ⟨t, rfl, ⟨_, .inl (.inl upd_same)⟩, for_tupF (K := K) (a := t) (xs := [.int bd, .int (bd + 1), .int (if bd - 1 > 0 then bd - 1 else 0)]) (fun i σ H14 => ∃ v1 v2, σ = [some (.ref a), some (.int cell), some (.int ns.length), some (.int bd), some (.ref x), some (.ref r2), some (.ref tp), some (.ref r3), some (.ref hd), some (.ref y), v1, v2, none] ∧ Same (upd H13 t (.tup [.int bd, .int (bd + 1), .int (if bd - 1 > 0 then bd - 1 else 0)])) H14) ⟨none, none, rfl, Same.refl _⟩ (fun i σ H14 _ hh => ?_) ?_ ?_⟩
  · obtain ⟨_, _, _, ss⟩ := hh
    exact .inl (.inl (ss _ _ upd_same))
  · rintro i v σ H14 hi ⟨v1, v2, rfl, s15⟩
    have hv : ∃ o, v = .int o ∧ 0 ≤ o := by
      match i, hi with
      | 0, hi => exact ⟨_, (Option.some.inj hi).symm, by omega⟩
      | 1, hi => exact ⟨_, (Option.some.inj hi).symm, by omega⟩
      | 2, hi => exact ⟨_, (Option.some.inj hi).symm, by split <;> omega⟩
      | i + 3, hi => simp at hi
    obtain ⟨o, rfl, ho⟩ := hv
    have s16 := su.trans s15
    have s17 := s14.trans s16
    have hR : SqL K H14 a (ns.map V.int) := SqL.of (s17 _ _ haZ)
    walk_at "rr"
    refine ⟨r2, 1, ns.length, ms, rfl, SqL.of (s17 _ _ hr2), ?_⟩
    rw [show (1 : Int) - 1 = 0 from rfl]
    walk_at "rr"
    cases e1 : risingB (↑ns.length) 0 ms with
    | false =>
      walk_at "rr"
      refine rd_meth MF (hr.mono (by decide)) (s16 _ _ hy13) m3 ?_
      walk_at "rr"
      refine ⟨y, a, cB, sB, ns, o, ms, zs, ps', rfl, hR, hl, hg, ho, fa13.same s16, by omega, by omega, fun H15 s18 => ?_⟩
      rw [show dueF ns o ms ps' = false by unfold dueF; rw [e1]; rfl]
      walk_at "rr"
      refine ⟨_, _, rfl, ?_⟩
      rw [decide_eq_true rfl]
      walk_at "rr"
      exact ⟨_, _, rfl, s15.trans s18⟩
    | true =>
      walk_at "rr"
      refine rd_lenI (SqL.of (s17 _ _ hr2)) ?_
      walk_at "rr"
      refine rd_len (SqL.of (s17 _ _ h11)) ?_
      walk_at "rr"
      refine ite2 (fun e2 => ?_) (fun e2 => ?_)
      · have e2 : ms.length = zs.length := by have := of_decide_eq_true e2; omega
        walk_at "rr"
        refine ⟨a, r3, o + 1, ns, zs, ps', rfl, hR, SqL.of (s17 _ _ h11), (pz.same s17).pairs, fun H15 s18 => ?_⟩
        walk_at "rr"
        cases e3 : linkedB ns (o + 1) 0 ps' with
        | false =>
          walk_at "rr"
          refine rd_meth MF (hr.mono (by decide)) ((s16.trans s18) _ _ hy13) m3 ?_
          walk_at "rr"
          refine ⟨y, a, cB, sB, ns, o, ms, zs, ps', rfl, s18.seq hR, hl, hg, ho, fa13.same (s16.trans s18), by omega, by omega, fun H20 s20 => ?_⟩
          rw [show dueF ns o ms ps' = false from by unfold dueF; rw [e3, Bool.and_false, Bool.false_and]]
          walk_at "rr"
          refine ⟨_, _, rfl, ?_⟩
          rw [decide_eq_true rfl]
          walk_at "rr"
          exact ⟨_, _, rfl, s15.trans (s18.trans s20)⟩
        | true =>
          obtain ⟨es, rfl, hri⟩ := rising_nat (lo := 1) e1
          walk_at "rr"
          refine ⟨small (by simp), fun z1 hz1 => ?_⟩
          have s19 := s18.trans (same_new hz1 (.lst [.int 0]))
          walk_at "rr"
          refine ⟨a, r2, ns, es, rfl, s19.seq hR, SqL.of ((s17.trans s19) _ _ hr2), hl, fun rb H16 sb fb hb16 => ?_⟩
          walk_at "rr"
          have lb := lawBorne_len (cs := es) hl
          refine rd_cat (sb _ _ upd_same) hb16 (small (by rw [List.length_map]; simp only [List.length_cons, List.length_nil]; omega)) fun m1 hm1 => ?_
          have s21 := (s19.trans sb).trans (same_new hm1 (.lst ([.int 0] ++ (lawBorne ns es).map V.int)))
          walk_at "rr"
          refine ⟨m1, 0 :: lawBorne ns es, rfl, SqL.of upd_same, by simp, fun M1 g4 g5 => ?_⟩
          walk_at "rr"
          rw [max_le ho g4 g5]
          have edue : dueF ns o (ic es) ps' = (lawBorne ns es).all fun z => decide (z ≤ o) := by
            unfold dueF fits
            rw [e1, e3, decide_eq_true (show (ic es).length = ps'.length by omega), ic_toNat]
            rfl
          refine rd_meth MF (hr.mono (by decide)) ((s16.trans s21) _ _ hy13) m3 ?_
          walk_at "rr"
          refine ⟨y, a, cB, sB, ns, o, (ic es), zs, ps', rfl, s21.seq hR, hl, hg, ho, fa13.same (s16.trans s21), by omega, by omega, fun H20 s20 => ?_⟩
          rw [show dueF ns o (ic es) ps' = (lawBorne ns es).all fun z => decide (z ≤ o) from edue]
          walk_at "rr"
          refine ⟨_, _, rfl, ?_⟩
          rw [decide_eq_true rfl]
          walk_at "rr"
          exact ⟨_, _, rfl, s15.trans (s21.trans s20)⟩
      · have e2 : ¬ ms.length = ps'.length := fun z => e2 (decide_eq_true (by omega))
        walk_at "rr"
        refine rd_meth MF (hr.mono (by decide)) (s16 _ _ hy13) m3 ?_
        walk_at "rr"
        refine ⟨y, a, cB, sB, ns, o, ms, zs, ps', rfl, hR, hl, hg, ho, fa13.same s16, by omega, by omega, fun H20 s20 => ?_⟩
        rw [show dueF ns o ms ps' = false from dueF_not e2]
        walk_at "rr"
        refine ⟨_, _, rfl, ?_⟩
        rw [decide_eq_true rfl]
        walk_at "rr"
        exact ⟨_, _, rfl, s15.trans s20⟩
  · rintro σ H14 ⟨v1, v2, rfl, s15⟩
    have s16 := su.trans s15
    have s17 := s14.trans s16
    have hR : SqL K H14 a (ns.map V.int) := SqL.of (s17 _ _ haZ)
    have hb2 : 0 ≤ bd / 2 := Int.ediv_nonneg hb (by decide)
    walk_at "rr"
    refine ⟨cell, 11, _, rfl, by decide, by omega, fun d11 H15 _ _ s18 => ?_⟩
    walk_at "rr"
    refine ⟨small (by simp), fun t2 ht2 => ?_⟩
    have su2 := s18.trans (same_new ht2 (.tup [.int (-1), .int 0, .int ns.length, .int d11]))
    refine ⟨t2, rfl, ⟨_, .inl (.inl upd_same)⟩, for_tupF (K := K) (a := t2) (xs := [.int (-1), .int 0, .int ns.length, .int d11]) (fun i σ H16 => ∃ v2 v3, σ = [some (.ref a), some (.int cell), some (.int ns.length), some (.int bd), some (.ref x), some (.ref r2), some (.ref tp), some (.ref r3), some (.ref hd), some (.ref y), v1, v2, v3] ∧ Same (upd H15 t2 (.tup [.int (-1), .int 0, .int ns.length, .int d11])) H16) ⟨_, _, rfl, Same.refl _⟩ (fun i σ H16 _ hh => ?_) ?_ ?_⟩
    · obtain ⟨_, _, _, ss⟩ := hh
      exact .inl (.inl (ss _ _ upd_same))
    · rintro i v σ H16 hi ⟨v2', v3, rfl, s19⟩
      have hv : ∃ p : Int, v = .int p := by
        match i, hi with
        | 0, hi => exact ⟨_, (Option.some.inj hi).symm⟩
        | 1, hi => exact ⟨_, (Option.some.inj hi).symm⟩
        | 2, hi => exact ⟨_, (Option.some.inj hi).symm⟩
        | 3, hi => exact ⟨_, (Option.some.inj hi).symm⟩
        | i + 4, hi => simp at hi
      obtain ⟨p, rfl⟩ := hv
      have hR2 : SqL K H16 a (ns.map V.int) := (su2.trans s19).seq hR
      walk_at "rr"
      refine rd_joinF (fun σ' H17 => σ' = [some (.ref a), some (.int cell), some (.int ns.length), some (.int bd), some (.ref x), some (.ref r2), some (.ref tp), some (.ref r3), some (.ref hd), some (.ref y), v1, some (.bl (dueG ns (bd / 2) p)), some (.int p)] ∧ H17 = H16) ?_ ?_
      · walk_at "rr"
        refine ite2 (fun c1 => ?_) (fun c1 => ?_)
        · walk_at "rr"
          refine ite2 (fun c2 => ?_) (fun c2 => ?_)
          · walk_at "rr"
            rw [c1]
            walk_at "rr"
            rw [c2]
            walk_at "rr"
            have c1 := of_decide_eq_true c1
            have c2 := of_decide_eq_true c2
            obtain ⟨vp, hvp, evp⟩ := at_place c1 c2
            refine rd_ixL hR2 evp ?_
            walk_at "rr"
            refine rd_I ⟨by decide, by decide⟩ ?_
            walk_at "rr"
            refine ⟨?_, rfl⟩
            rw [show dueG ns (bd / 2) p = decide (bd / 2 < vp) by
              unfold dueG
              rw [decide_eq_true c1, decide_eq_true c2, List.getD_eq_getElem?_getD, hvp]
              rfl]
            rfl
          · walk_at "rr"
            refine ⟨?_, rfl⟩
            rw [show dueG ns (bd / 2) p = false by
              unfold dueG
              rw [decide_eq_false (fun z => c2 (decide_eq_true z))]
              simp]
            rfl
        · walk_at "rr"
          refine ⟨?_, rfl⟩
          rw [show dueG ns (bd / 2) p = false by
            unfold dueG
            rw [decide_eq_false (fun z => c1 (decide_eq_true z))]
            simp]
          rfl
      rintro σ' H17 ⟨rfl, rfl⟩
      walk_at "rr"
      intro y2 dy2 hy2 hdy2 _
      refine mkG_use hy2 hdy2 fun H18 s20 gr => ?_
      obtain ⟨dg, fg, hg2, lg1, lg2⟩ := gr
      walk_at "rr"
      refine rd_fld hg2 c.y_Great.cl c.n_Great_place lg1 ?_
      walk_at "rr"
      rw [decide_eq_true rfl]
      walk_at "rr"
      intro y3 dy3 hy3 hdy3 _
      refine mkG_use hy3 hdy3 fun H19 s21 gr3 => ?_
      obtain ⟨dg3, fg3, hg3, lg3, lg4⟩ := id gr3
      have s22 := s20.trans s21
      walk_at "rr"
      refine rd_meth MG (hr.mono (by decide)) hg3 lg4 ?_
      walk_at "rr"
      refine rd_I ⟨by decide, by decide⟩ ?_
      walk_at "rr"
      refine ⟨y3, a, ns, bd / 2, p, rfl, s22.seq hR2, hl, hg, hb2, gr3, fun H20 s23 => ?_⟩
      walk_at "rr"
      refine ⟨_, _, rfl, ?_⟩
      rw [decide_eq_true rfl]
      walk_at "rr"
      exact ⟨_, _, rfl, (s19.trans s22).trans s23⟩
    · rintro σ H16 ⟨v2', v3, rfl, s19⟩
      walk_at "rr"
      exact q _ (s12.trans (s17.trans (su2.trans s19)))
end
theorem rd_notInI {K : PySem.W.Frag} {H : Hp} {Q : VK} {p : Addr} {ns : List Int} {i : Int} (e : SqL K H p (ns.map V.int)) (h : Q (.bl (!decide (i ∈ ns))) H) : rIn K true (.int i) (.ref p) H Q := ⟨p, _, rfl, .inl e, rfl, flat_ints ns, by rw [if_pos rfl, in_ints]; exact h⟩
theorem nudge_at {k : Int} (h0 : 0 ≤ k) (h : k < 5) : ∃ p, atI ([0, 0, 0, 1, -1].map V.int) k = some (.int p) := by
  obtain ⟨v, _, e2⟩ := at_place (ns := [0, 0, 0, 1, -1]) h0 (by simpa using h)
  exact ⟨v, e2⟩
section
variable {P : Program} {w : World} {K : PySem.W.Frag} {mg : Str → Option Value} {base : Heap} {f : Addr} {fd : FuncData} {ca : CA}
theorem sc_lright : FnScope ["_law_row_here", "_law_cell", "_law_many", "_law_count", "_law_told", "_law_cuts", "_law_drawn", "_law_stretches", "_law_number", "_law_handed", "_law_answer", "_law_parts", "_law_due"] ["_law_row_here", "_law_cell"] (defScope (top 51)) := ⟨rfl, rfl, rfl, by decide +kernel, rfl, by decide +kernel, by decide +kernel⟩
theorem ok_lright (T : Txt mg) (c : Cl K mg ca) (C_law_draw : Callee P w K mg base "_law_draw" ["_law_cell", "_law_k", "_law_many"] 1 spDraw) (C_lowest : Callee P w K mg base "lowest" ["row", "count"] 9 (spLowest ca.Least)) (C_law_bent : Callee P w K mg base "_law_bent" ["_law_some", "_law_cell", "_law_more"] 2 spBent) (C_law_nudged : Callee P w K mg base "_law_nudged" ["_law_numbers_here", "_law_cell"] 2 spNudged)
    (M_Least : MakeC P w K mg base "Least" ca.Least ["self", "cuts", "number", "stretches"] 2 (spMkL ca.Least)) (ML : MethC P w K mg base ca.Least "shows" ["self", "row", "count"] 9 (spShowsL K ca.Least))
    (C_law_rising : Callee P w K mg base "_law_rising" ["_law_places", "_law_least", "_law_many"] 1 (spRising K)) (C_law_linked : Callee P w K mg base "_law_linked" ["_law_row_here", "_law_stretches", "_law_least"] 1 (spLinked K)) (C_law_borne : Callee P w K mg base "_law_borne" ["_law_row_here", "_law_cuts"] 1 (spLawBorne K)) (C_law_says : Callee P w K mg base "_law_says" ["_law_told", "_law_due"] 1 spSays)
    (F : Fun K "_law_least_right" "_law_least_right" (top 51) f fd) : FnOk P w K mg base CX0 11 f fd ["_law_row_here", "_law_cell"] spPart := by
  have S := sc_lright
  refine F.ok S (fun vs H Q E h => ?_) (fun cdv A outer s H vs Q E hr h => ?_)
  · obtain ⟨a, cell, ns, rfl, _⟩ := h
    rfl
  obtain ⟨a, cell, ns, rfl, ha, hl, hg, q⟩ := h
  refine ⟨_, (pss_cons (ps_par (i := 2) (j := 3) rfl S.nd rfl rfl (by decide) rfl rfl (pa_cons (pe_callB call_len' rfl T.b_len PySem.boot_len (pa_cons (pv 0) pa_nil)) (pa_cons (pe_op op_add pe_int (pe_callC C_law_draw (hr.mono (by decide)) rfl (pa_cons (pv 1) (pa_cons pe_int (pa_cons pe_int pa_nil))))) pa_nil)) rfl)
    (pss_cons (ps_set (i := 4) S.nd rfl (Or.inl rfl) (pe_callC C_lowest (hr.mono (by decide)) rfl (pa_cons (pv 0) (pa_cons (pv 3) pa_nil))))
    (pss_cons (ps_set (i := 5) S.nd rfl (Or.inl rfl) (pe_callC C_law_nudged (hr.mono (by decide)) rfl (pa_cons (pe_callC C_law_bent (hr.mono (by decide)) rfl (pa_cons (pe_fld (pv 4) rfl) (pa_cons (pe_op op_fdiv (pv 1) pe_int) (pa_cons (pe_op op_sub (pe_callC C_law_draw (hr.mono (by decide)) rfl (pa_cons (pv 1) (pa_cons pe_int (pa_cons (pe_op op_add (pv 2) pe_int) pa_nil)))) pe_int) pa_nil)))) (pa_cons (pe_op op_fdiv (pv 1) pe_int) pa_nil))))
    (pss_cons (ps_set (i := 6) S.nd rfl (Or.inl rfl) (pe_tup (pa_cons (pe_op op_sub (pe_callC C_law_draw (hr.mono (by decide)) rfl (pa_cons (pv 1) (pa_cons pe_int (pa_cons (pe_op op_add (pv 2) pe_int) pa_nil)))) pe_int) (pa_cons (pe_op op_sub (pe_callC C_law_draw (hr.mono (by decide)) rfl (pa_cons (pv 1) (pa_cons pe_int (pa_cons (pe_op op_add (pv 2) pe_int) pa_nil)))) pe_int) pa_nil))))
    (pss_cons (ps_set (i := 7) S.nd rfl (Or.inl rfl) (pe_callC C_law_bent (hr.mono (by decide)) rfl (pa_cons (pe_fld (pv 4) rfl) (pa_cons (pe_op op_fdiv (pv 1) pe_int) (pa_cons (pv 6) pa_nil)))))
    (pss_cons (ps_set (i := 8) S.nd rfl (Or.inl rfl) (pe_op op_add (pe_fld (pv 4) rfl) (pe_ix ix_tup (pe_tup (pa_cons pe_int (pa_cons pe_int (pa_cons pe_int (pa_cons pe_int (pa_cons (pe_un un_neg pe_int) pa_nil)))))) (pe_callC C_law_draw (hr.mono (by decide)) rfl (pa_cons (pv 1) (pa_cons pe_int (pa_cons pe_int pa_nil)))) (fun _ _ => rfl))))
    (pss_cons (ps_set (i := 9) S.nd rfl (Or.inl rfl) (pe_lst (pa_cons (pe_callTy call_list' rfl T.b_list boot_list (pa_cons (pv 5) pa_nil)) (pa_cons (pe_callTy call_list' rfl T.b_list boot_list (pa_cons (pv 7) pa_nil)) pa_nil))))
    (pss_cons (ps_set (i := 10) S.nd rfl (Or.inl rfl) (pe_makeC M_Least (hr.mono (by decide)) rfl (pa_cons (pe_ix ix_list (pv 9) pe_int (fun _ _ => rfl)) (pa_cons (pv 8) (pa_cons (pe_ix ix_list (pv 9) pe_int (fun _ _ => rfl)) pa_nil)))))
    (pss_cons (ps_expr (pe_bm PySem.F.plainAttrs_list PySem.F.slot_list_append PySem.F.type_list_append mt_append (pe_ix ix_list (pv 9) pe_int (fun _ _ => rfl)) (pa_cons pe_int pa_nil)))
    (pss_cons (ps_expr (pe_bm0 PySem.F.plainAttrs_list PySem.F.slot_list_clear PySem.F.type_list_clear mt_clear (pe_ix ix_list (pv 9) pe_int (fun _ _ => rfl))))
    (pss_cons (ps_if (PW.pt (pw_or (pt_cmpR (op_neL' (hr.units0)) (pe_fld (pv 10) rfl) (pv 5) (nomark _)) (pw_or (pt_cmpR (op_neSame (hr.units0)) (pe_fld (pv 10) rfl) (pv 7) (nomark _)) (pw_or1 (pt_cmpR op_ne (pe_fld (pv 10) rfl) (pv 8) (nomark _))))))
      (pss_one (ps_ret pe_bl))
      pss_nil)
    (pss_cons (ps_for PassesOwn.never rfl (pi_tup (pe_tup (pa_cons (pv 3) (pa_cons (pe_op op_add (pv 3) pe_int) (pa_cons (pe_callB (call_max2' rfl) rfl T.b_max boot_max (pa_cons pe_int (pa_cons (pe_op op_sub (pv 3) pe_int) pa_nil))) pa_nil))))) (pg_name (i := 11) S.nd rfl (Or.inl rfl))
      (pss_cons (ps_join (ps_set (i := 12) S.nd rfl (Or.inl rfl) (pe_and (pe_cmpR op_ge (pv 8) pe_int (nomark _)) (pe_and (pe_callC C_law_rising (hr.mono (by decide)) rfl (pa_cons (pv 5) (pa_cons pe_int (pa_cons (pv 2) pa_nil)))) (pe_one (pe_cmpR op_lt (pe_callB call_len' rfl T.b_len PySem.boot_len (pa_cons (pv 5) pa_nil)) (pv 11) (nomark _)))))))
      (pss_cons (ps_join (ps_set (i := 12) S.nd rfl (Or.inl rfl) (pe_and (pv 12) (pe_one (pe_cmpR op_le (pe_callB (call_maxL rfl) rfl T.b_max boot_max (pa_cons (pe_op op_cat (pe_lst (pa_cons pe_int pa_nil)) (pe_callC C_law_borne (hr.mono (by decide)) rfl (pa_cons (pv 0) (pa_cons (pv 5) pa_nil)))) pa_nil)) (pv 8) (nomark _))))))
      (pss_cons (ps_join (ps_if (PW.pt (pw_and (pt_val (pv 12)) (pw_and (pt_cmpR op_gt (pv 8) pe_int (nomark _)) (pw_and1 (pt_cmpR op_notIn_seq (pv 8) (pv 0) (by with_unfolding_all rfl))))))
        (pss_one (ps_set (i := 12) S.nd rfl (Or.inl rfl) (pe_and (pe_cmpR op_eq (pe_callB call_len' rfl T.b_len PySem.boot_len (pa_cons (pv 7) pa_nil)) (pv 11) (nomark _)) (pe_one (pe_callC C_law_linked (hr.mono (by decide)) rfl (pa_cons (pv 0) (pa_cons (pv 7) (pa_cons (pv 8) pa_nil))))))))
        pss_nil))
      (pss_one (ps_if (pt_not (pt_val (pe_callC C_law_says (hr.mono (by decide)) rfl (pa_cons (pe_methG (pv 10) (pa_cons (pv 0) (pa_cons (pv 11) pa_nil))) (pa_cons (pv 12) pa_nil)))))
        (pss_one (ps_ret pe_bl))
        pss_nil))))))
    (pss_one (ps_ret pe_bl)))))))))))))), ?_⟩
  try dsimp only [cxOf, Cx.nox, Cx.wish]
  walk_at "rr"
  refine rd_lenI (SqL.of ha) ?_
  walk_at "rr"
  refine ⟨cell, 7, 5, rfl, by decide, by decide, fun d7 H3 g0 g1 s3 => ?_⟩
  walk_at "rr"
  obtain ⟨ct, hct⟩ : ∃ ct, ct = 1 + d7 := ⟨_, rfl⟩
  rw [← hct]
  have hc1 : 1 ≤ ct := by omega
  refine ⟨a, ns, ct, rfl, s3 _ _ ha, hl, hg, ⟨hc1, by omega⟩, fun x H4 cA sA cs num0 xs ps s4 fx fw fc fs' ncs lp due => ?_⟩
  have s4 := s3.trans s4
  obtain ⟨⟨dx, fs, hx2, l1, l2, l3, l4⟩, hc, hs, hp⟩ := id fw
  have hd' := due
  unfold dueL at hd'
  simp only [Bool.and_eq_true] at hd'
  have lc := rising_len0 hd'.1.1.1.1
  have lx := hp.len
  walk_at "rr"
  refine rd_fld hx2 c.y_Least.cl c.n_Least_cuts l1 ?_
  walk_at "rr"
  refine rd_I ⟨by decide, by decide⟩ ?_
  walk_at "rr"
  refine ⟨cell, 8, _, rfl, by decide, by omega, fun d8 H5 _ _ s5 => ?_⟩
  walk_at "rr"
  refine ⟨cA, _, _, cs.map V.int, rfl, s5 _ _ hc, by rw [List.length_map]; omega, fun r1 H6 ys s6 f6 h6 l6 m6 => ?_⟩
  obtain ⟨ds, rfl⟩ := ints_more m6
  rw [List.length_map, List.length_map] at l6
  have s6 := s5.trans s6
  walk_at "rr"
  refine rd_I ⟨by decide, by decide⟩ ?_
  walk_at "rr"
  refine ⟨r1, _, ds, rfl, h6, by omega, fun r2 H7 ms s7 f7 h7 l7 => ?_⟩
  have s7 := s6.trans s7
  walk_at "rr"
  refine ⟨cell, 9, _, rfl, by decide, by omega, fun d9 H8 _ _ s8 => ?_⟩
  walk_at "rr"
  refine ⟨cell, 10, _, rfl, by decide, by omega, fun d10 H9 _ _ s9 => ?_⟩
  have s9 := s8.trans s9
  walk_at "rr"
  refine ⟨small (by simp), fun tp htp => ?_⟩
  have s10 := s9.trans (same_new htp (.tup [.int (d9 - 1), .int (d10 - 1)]))
  have s10' := s7.trans s10
  walk_at "rr"
  refine rd_fld (s10' _ _ hx2) c.y_Least.cl c.n_Least_stretches l3 ?_
  walk_at "rr"
  refine rd_I ⟨by decide, by decide⟩ ?_
  walk_at "rr"
  refine ⟨sA, _, .ref tp, xs, rfl, s10' _ _ hs, by omega, fun r3 H11 zs s11 f11 h11 l11 m11 => ?_⟩
  have pz : ∃ ps', PairsT H11 zs ps' := pairs_of fun y hy => by
    rcases m11 y hy with z | z
    · obtain ⟨p, f', e', h1, h2⟩ := hp.mem z
      exact ⟨p, f', e', h1, s11 _ _ (s10' _ _ h2)⟩
    · exact ⟨tp, _, _, z, s11 _ _ upd_same⟩
  obtain ⟨ps', pz⟩ := pz
  have lz := pz.len
  obtain ⟨as, has⟩ := pz.refs
  have s12 := s4.trans (s10'.trans s11)
  have hr2 : H11 r2 = some (.lst (ms.map V.int)) := s11 _ _ (s10 _ _ h7)
  have haZ := s12 _ _ ha
  walk_at "rr"
  refine rd_fld ((s10'.trans s11) _ _ hx2) c.y_Least.cl c.n_Least_number l2 ?_
  walk_at "rr"
  refine ⟨small (by simp), fun tq htq => ?_⟩
  have sq1 := same_new htq (.tup ([0, 0, 0, 1, -1].map V.int))
  walk_at "rr"
  refine ⟨cell, 12, 5, rfl, by decide, by decide, fun d12 Hq i0 i1 sq2 => ?_⟩
  obtain ⟨nu, hnu⟩ := nudge_at i0 i1
  walk_at "rr"
  refine rd_ixT (SqT.of (sq2 _ _ upd_same)) hnu ?_
  walk_at "rr"
  have sq := sq1.trans sq2
  have s12 := s12.trans sq
  have hr2 := sq _ _ hr2
  have haZ := sq _ _ haZ
  have h11 := sq _ _ h11
  have pz := pz.same sq
  generalize num0 + nu = num
  walk_at "rr"
  refine rd_listOf (SqL.of hr2) fun p1 h1 => ?_
  have u1 := same_new h1 (.lst (ms.map V.int))
  walk_at "rr"
  refine rd_listOf (SqL.of (u1 _ _ h11)) fun p2 h2 => ?_
  have u2 := same_new h2 (.lst zs)
  walk_at "rr"
  refine ⟨small (by simp), fun hd hhd => ?_⟩
  have u3 := same_new hhd (.lst [.ref p1, .ref p2])
  have hp1 := u3 _ _ (u2 _ _ (upd_same (H := Hq) (a := p1) (o := .lst (ms.map V.int))))
  have hp2 := u3 _ _ (upd_same (H := upd Hq p1 (.lst (ms.map V.int))) (a := p2) (o := .lst zs))
  have u13 := (u1.trans u2).trans u3
  walk_at "rr"
  refine rd_ixL (SqL.of upd_same) rfl ?_
  walk_at "rr"
  refine rd_ixL (SqL.of upd_same) rfl ?_
  walk_at "rr"
  intro y dy hy hdy _
  refine mkL_use hy hdy hp1 hp2 (pz.same u13) (by omega) (by omega) fun cB sB H12 s13 fa fcB fsB nB => ?_
  have hhd12 := s13 _ _ (upd_same (a := hd) (o := .lst [.ref p1, .ref p2]))
  walk_at "rr"
  refine rd_ixL (SqL.of hhd12) rfl ?_
  walk_at "rr"
  refine ⟨tyL (SqL.of (s13 _ _ hp1)), ?_⟩
  walk_at "rr"
  refine rd_append (s13 _ _ hp1) (by rw [List.length_map]; exact small1000 (by omega)) ?_
  have npd : hd ≠ p1 := ne_old (u2 _ _ upd_same) hhd
  have np2 : p2 ≠ p1 := ne_old upd_same h2
  have hhd13 : upd H12 p1 (.lst (ms.map V.int ++ [.int 0])) hd = some (.lst [.ref p1, .ref p2]) := by rw [upd_ne npd]; exact hhd12
  walk_at "rr"
  refine rd_ixL (SqL.of hhd13) rfl ?_
  walk_at "rr"
  have hp213 : upd H12 p1 (.lst (ms.map V.int ++ [.int 0])) p2 = some (.lst zs) := by rw [upd_ne np2]; exact s13 _ _ hp2
  refine ⟨tyL (SqL.of hp213), ?_⟩
  walk_at "rr"
  refine rd_clear hp213 ?_
  -- the heap from here on: what stood ahead of the copies stays, and the answer
  have f1 : Hq p1 = none := h1
  have f2 : Hq p2 = none := u1.free h2
  obtain ⟨H13, hH13⟩ : ∃ H13, H13 = upd (upd H12 p1 (.lst (ms.map V.int ++ [.int 0]))) p2 (.lst []) := ⟨_, rfl⟩
  have s14 : Same Hq H13 := by rw [hH13]; exact same_upd (same_upd (u13.trans s13) f1 _) f2 _
  have keep : ∀ b, b ≠ p1 → b ≠ p2 → H13 b = H12 b := fun b n1 n2 => by rw [hH13, upd_ne n2, upd_ne n1]
  have fa13 : LeastAt ca.Least H13 y cB sB ms num zs ps' := fa.keep (keep _ (ne_old hp1 hy) (ne_old hp2 hy)) (keep _ (ne_old hp1 fcB) (ne_old hp2 fcB)) (keep _ (ne_old hp1 fsB) (ne_old hp2 fsB)) (pz.same s14)
  rw [← hH13]
  clear keep
  obtain ⟨⟨dy', fs2, hy13, m1, m4, m2, m3⟩, hcB, hsB, _⟩ := id fa13
  walk_at "rr"
  refine rd_fld hy13 c.y_Least.cl c.n_Least_cuts m1 ?_
  walk_at "rr"
  refine rd_neL (SqL.of hcB) (SqL.of (s14 _ _ hr2)) ?_
  rw [decide_eq_true rfl]
  walk_at "rr"
  refine rd_fld hy13 c.y_Least.cl c.n_Least_stretches m2 ?_
  walk_at "rr"
  refine rd_neSame (as := as) (SqL.of (by rw [← has]; exact hsB)) (SqL.of (by rw [← has]; exact s14 _ _ h11)) ?_
  walk_at "rr"
  refine rd_fld hy13 c.y_Least.cl c.n_Least_number m4 ?_
  walk_at "rr"
  rw [decide_eq_true rfl]
  walk_at "rr"
  refine ⟨small (by simp), fun t ht => ?_⟩
  have su := same_new ht (.tup [.int ct, .int (ct + 1), .int (if ct - 1 > 1 then ct - 1 else 1)])
  refine ⟨t, rfl, ⟨_, .inl (.inl upd_same)⟩, for_tupF (K := K) (a := t) (xs := [.int ct, .int (ct + 1), .int (if ct - 1 > 1 then ct - 1 else 1)]) (fun i σ H14 => ∃ v1 v2, σ = [some (.ref a), some (.int cell), some (.int ns.length), some (.int ct), some (.ref x), some (.ref r2), some (.ref tp), some (.ref r3), some (.int num), some (.ref hd), some (.ref y), v1, v2] ∧ Same (upd H13 t (.tup [.int ct, .int (ct + 1), .int (if ct - 1 > 1 then ct - 1 else 1)])) H14) ⟨none, none, rfl, Same.refl _⟩ (fun i σ H14 _ hh => ?_) ?_ ?_⟩
  · obtain ⟨_, _, _, ss⟩ := hh
    exact .inl (.inl (ss _ _ upd_same))
  · rintro i v σ H14 hi ⟨v1, v2, rfl, s15⟩
    have hv : ∃ o, v = .int o ∧ 1 ≤ o := by
      match i, hi with
      | 0, hi => exact ⟨_, (Option.some.inj hi).symm, by omega⟩
      | 1, hi => exact ⟨_, (Option.some.inj hi).symm, by omega⟩
      | 2, hi => exact ⟨_, (Option.some.inj hi).symm, by split <;> omega⟩
      | i + 3, hi => simp at hi
    obtain ⟨o, rfl, ho⟩ := hv
    have s16 := su.trans s15
    have s17 := s14.trans s16
    have hR : SqL K H14 a (ns.map V.int) := SqL.of (s17 _ _ haZ)
    walk_at "rr"
    refine rd_joinF (fun σ' H15 => σ' = [some (.ref a), some (.int cell), some (.int ns.length), some (.int ct), some (.ref x), some (.ref r2), some (.ref tp), some (.ref r3), some (.int num), some (.ref hd), some (.ref y), some (.int o), some (.bl (risingB ns.length 0 ms && decide ((ms.length : Int) < o) && decide (0 ≤ num)))] ∧ H14 = H15) ?_ ?_
    · walk_at "rr"
      refine ite2 (fun c0 => ?_) (fun c0 => ?_)
      · have c0 : 0 ≤ num := of_decide_eq_true c0
        walk_at "rr"
        refine ⟨r2, 1, ns.length, ms, rfl, SqL.of (s17 _ _ hr2), ?_⟩
        rw [show (1 : Int) - 1 = 0 from rfl]
        walk_at "rr"
        cases e1 : risingB (↑ns.length) 0 ms with
        | false =>
          walk_at "rr"
          exact ⟨rfl, rfl⟩
        | true =>
          walk_at "rr"
          refine rd_lenI (SqL.of (s17 _ _ hr2)) ?_
          walk_at "rr"
          refine ⟨?_, rfl⟩
          rw [decide_eq_true c0, Bool.true_and, Bool.and_true]
          rfl
      · walk_at "rr"
        refine ⟨?_, rfl⟩
        rw [show decide (0 ≤ num) = false from decide_eq_false (fun z => c0 (decide_eq_true z)), Bool.and_false]
        rfl
    rintro σ' H15 ⟨rfl, rfl⟩
    walk_at "rr"
    refine rd_joinF (fun σ' H15 => σ' = [some (.ref a), some (.int cell), some (.int ns.length), some (.int ct), some (.ref x), some (.ref r2), some (.ref tp), some (.ref r3), some (.int num), some (.ref hd), some (.ref y), some (.int o), some (.bl (risingB ns.length 0 ms && decide ((ms.length : Int) < o) && decide (0 ≤ num) && fits ns num ms))] ∧ Same H14 H15) ?_ ?_
    · walk_at "rr"
      refine ite2 (fun c0 => ?_) (fun c0 => ?_)
      · rw [c0]
        simp only [Bool.and_eq_true, decide_eq_true_eq] at c0
        obtain ⟨⟨e1, e2⟩, c1⟩ := c0
        obtain ⟨es, rfl, hri⟩ := rising_nat (lo := 1) e1
        walk_at "rr"
        refine ⟨small (by simp), fun z1 hz1 => ?_⟩
        have s19 := same_new hz1 (.lst [.int 0])
        walk_at "rr"
        refine ⟨a, r2, ns, es, rfl, s19.seq hR, SqL.of ((s17.trans s19) _ _ hr2), hl, fun rb H16 sb fb hb16 => ?_⟩
        walk_at "rr"
        have lb := lawBorne_len (cs := es) hl
        refine rd_cat (sb _ _ upd_same) hb16 (small (by rw [List.length_map]; simp only [List.length_cons, List.length_nil]; omega)) fun m1 hm1 => ?_
        have s21 := (s19.trans sb).trans (same_new hm1 (.lst ([.int 0] ++ (lawBorne ns es).map V.int)))
        walk_at "rr"
        refine ⟨m1, 0 :: lawBorne ns es, rfl, SqL.of upd_same, by simp, fun M1 g4 g5 => ?_⟩
        walk_at "rr"
        refine ⟨?_, s21⟩
        unfold fits
        rw [ic_toNat, ← max_le c1 g4 g5, Bool.true_and]
        rfl
      · have c0 := Bool.eq_false_iff.mpr c0
        rw [c0]
        walk_at "rr"
        exact ⟨rfl, Same.refl _⟩
    rintro σ' H15 ⟨rfl, s18⟩
    walk_at "rr"
    refine rd_joinF (fun σ' H16 => σ' = [some (.ref a), some (.int cell), some (.int ns.length), some (.int ct), some (.ref x), some (.ref r2), some (.ref tp), some (.ref r3), some (.int num), some (.ref hd), some (.ref y), some (.int o), some (.bl (dueL ns o ms num ps'))] ∧ Same H14 H16) ?_ ?_
    · walk_at "rr"
      refine ite2 (fun c0 => ?_) (fun c0 => ?_)
      · have edue : dueL ns o ms num ps' = (decide (num = 0) || decide (num ∈ ns) || (decide ((ps'.length : Int) = o) && linkedB ns num 0 ps')) := by
          unfold dueL
          rw [c0, Bool.true_and]
        have c1 : 0 ≤ num := by
          simp only [Bool.and_eq_true, decide_eq_true_eq] at c0
          exact c0.1.2
        rw [c0]
        walk_at "rr"
        refine ite2 (fun c2 => ?_) (fun c2 => ?_)
        · have c2 : 0 < num := of_decide_eq_true c2
          walk_at "rr"
          refine rd_notInI (s18.seq hR) ?_
          walk_at "rr"
          cases c3 : decide (num ∈ ns) with
          | true =>
            walk_at "rr"
            refine ⟨?_, s18⟩
            rw [edue, c3, Bool.or_true, Bool.true_or]
            try rfl
          | false =>
            rw [c3, decide_eq_false (show ¬ num = 0 by omega), Bool.false_or, Bool.false_or] at edue
            walk_at "rr"
            refine rd_len (SqL.of ((s17.trans s18) _ _ h11)) ?_
            walk_at "rr"
            refine ite2 (fun c4 => ?_) (fun c4 => ?_)
            · have c4 := of_decide_eq_true c4
              walk_at "rr"
              refine ⟨a, r3, num, ns, zs, ps', rfl, s18.seq hR, SqL.of ((s17.trans s18) _ _ h11), (pz.same (s17.trans s18)).pairs, fun H17 s19 => ?_⟩
              walk_at "rr"
              refine ⟨?_, s18.trans s19⟩
              rw [edue, decide_eq_true (show (ps'.length : Int) = o by omega), Bool.true_and]
              try rfl
            · walk_at "rr"
              refine ⟨?_, s18⟩
              rw [edue, decide_eq_false (show ¬ (ps'.length : Int) = o from fun z => c4 (decide_eq_true (by omega))), Bool.false_and]
              try rfl
        · have c2 : num = 0 := by
            have : ¬ 0 < num := fun z => c2 (decide_eq_true z)
            omega
          walk_at "rr"
          refine ⟨?_, s18⟩
          rw [edue, decide_eq_true c2]
          try rfl
      · have c0 := Bool.eq_false_iff.mpr c0
        have edue : dueL ns o ms num ps' = false := by
          unfold dueL
          rw [c0, Bool.false_and]
        rw [c0]
        walk_at "rr"
        exact ⟨by rw [edue]; try rfl, s18⟩
    rintro σ' H16 ⟨rfl, s18⟩
    walk_at "rr"
    refine rd_meth ML (hr.mono (by decide)) ((s16.trans s18) _ _ hy13) m3.1 ?_
    walk_at "rr"
    refine ⟨y, a, cB, sB, ns, o, ms, num, zs, ps', rfl, s18.seq hR, hl, hg, ho, fa13.same (s16.trans s18), by omega, by omega, fun H20 s20 => ?_⟩
    walk_at "rr"
    refine ⟨_, _, rfl, ?_⟩
    rw [decide_eq_true rfl]
    walk_at "rr"
    exact ⟨_, _, rfl, s15.trans (s18.trans s20)⟩
  · rintro σ H14 ⟨v1, v2, rfl, s15⟩
    walk_at "rr"
    exact q _ (s12.trans (s14.trans (su.trans s15)))
end
theorem max_lt' {zs : List Int} {M b : Int} (h1 : M ∈ zs) (h2 : ∀ a ∈ zs, a ≤ M) : decide (M < b) = zs.all fun z => decide (z < b) := by
  have := max_lt (b := b) h1 h2
  by_cases h : b ≤ M
  · rw [decide_eq_true h] at this
    rw [decide_eq_false (show ¬ M < b by omega)]
    exact ((Bool.not_eq_true' _).mp this.symm).symm
  · rw [decide_eq_false h] at this
    rw [decide_eq_true (show M < b by omega)]
    exact ((Bool.not_eq_false' _).mp this.symm).symm
section
variable {P : Program} {w : World} {K : PySem.W.Frag} {mg : Str → Option Value} {base : Heap} {f : Addr} {fd : FuncData} {ca : CA}
theorem sc_mright : FnScope ["_law_row_here", "_law_cell", "_law_many", "_law_bound", "_law_told", "_law_cuts", "_law_places", "_law_handed", "_law_answer", "_law_number", "_law_due"] ["_law_row_here", "_law_cell"] (defScope (top 52)) := ⟨rfl, rfl, rfl, by decide +kernel, rfl, by decide +kernel, by decide +kernel⟩
theorem ok_mright (T : Txt mg) (c : Cl K mg ca) (C_law_draw : Callee P w K mg base "_law_draw" ["_law_cell", "_law_k", "_law_many"] 1 spDraw) (C_fullest : Callee P w K mg base "fullest" ["row", "bound"] 9 (spFullest ca.Most)) (C_law_bent : Callee P w K mg base "_law_bent" ["_law_some", "_law_cell", "_law_more"] 2 spBent) (C_law_nudged : Callee P w K mg base "_law_nudged" ["_law_numbers_here", "_law_cell"] 2 spNudged)
    (M_Most : MakeC P w K mg base "Most" ca.Most ["self", "cuts", "places"] 2 (spMkM ca.Most)) (MM : MethC P w K mg base ca.Most "shows" ["self", "row", "bound"] 9 (spShowsM K ca.Most))
    (C_law_rising : Callee P w K mg base "_law_rising" ["_law_places", "_law_least", "_law_many"] 1 (spRising K)) (C_law_between : Callee P w K mg base "_law_between" ["_law_row_here", "_law_places"] 1 (spBetween K)) (C_law_borne : Callee P w K mg base "_law_borne" ["_law_row_here", "_law_cuts"] 1 (spLawBorne K)) (C_law_says : Callee P w K mg base "_law_says" ["_law_told", "_law_due"] 1 spSays)
    (F : Fun K "_law_most_right" "_law_most_right" (top 52) f fd) : FnOk P w K mg base CX0 11 f fd ["_law_row_here", "_law_cell"] spPart := by
  have S := sc_mright
  refine F.ok S (fun vs H Q E h => ?_) (fun cdv A outer s H vs Q E hr h => ?_)
  · obtain ⟨a, cell, ns, rfl, _⟩ := h
    rfl
  obtain ⟨a, cell, ns, rfl, ha, hl, hg, q⟩ := h
  have gs := good_sum hg hl
  refine ⟨_, (pss_cons (ps_par (i := 2) (j := 3) rfl S.nd rfl rfl (by decide) rfl rfl (pa_cons (pe_callB call_len' rfl T.b_len PySem.boot_len (pa_cons (pv 0) pa_nil)) (pa_cons (pe_op op_add pe_int (pe_op op_fdiv (pe_callB (call_sum' rfl) rfl T.b_sum boot_sum (pa_cons (pv 0) pa_nil)) (pe_op op_add pe_int (pe_callC C_law_draw (hr.mono (by decide)) rfl (pa_cons (pv 1) (pa_cons pe_int (pa_cons pe_int pa_nil))))))) pa_nil)) rfl)
    (pss_cons (ps_set (i := 4) S.nd rfl (Or.inl rfl) (pe_callC C_fullest (hr.mono (by decide)) rfl (pa_cons (pv 0) (pa_cons (pv 3) pa_nil))))
    (pss_cons (ps_set (i := 5) S.nd rfl (Or.inl rfl) (pe_callC C_law_nudged (hr.mono (by decide)) rfl (pa_cons (pe_callC C_law_bent (hr.mono (by decide)) rfl (pa_cons (pe_fld (pv 4) rfl) (pa_cons (pe_op op_fdiv (pv 1) pe_int) (pa_cons (pe_op op_sub (pe_callC C_law_draw (hr.mono (by decide)) rfl (pa_cons (pv 1) (pa_cons pe_int (pa_cons (pe_op op_add (pv 2) pe_int) pa_nil)))) pe_int) pa_nil)))) (pa_cons (pe_op op_fdiv (pv 1) pe_int) pa_nil))))
    (pss_cons (ps_set (i := 6) S.nd rfl (Or.inl rfl) (pe_callC C_law_nudged (hr.mono (by decide)) rfl (pa_cons (pe_callC C_law_bent (hr.mono (by decide)) rfl (pa_cons (pe_fld (pv 4) rfl) (pa_cons (pe_op op_fdiv (pv 1) pe_int) (pa_cons (pe_op op_sub (pe_callC C_law_draw (hr.mono (by decide)) rfl (pa_cons (pv 1) (pa_cons pe_int (pa_cons (pe_op op_add (pv 2) pe_int) pa_nil)))) pe_int) pa_nil)))) (pa_cons (pe_op op_fdiv (pv 1) pe_int) pa_nil))))
    (pss_cons (ps_set (i := 7) S.nd rfl (Or.inl rfl) (pe_lst (pa_cons (pe_callTy call_list' rfl T.b_list boot_list (pa_cons (pv 5) pa_nil)) (pa_cons (pe_callTy call_list' rfl T.b_list boot_list (pa_cons (pv 6) pa_nil)) pa_nil))))
    (pss_cons (ps_set (i := 8) S.nd rfl (Or.inl rfl) (pe_makeC M_Most (hr.mono (by decide)) rfl (pa_cons (pe_ix ix_list (pv 7) pe_int (fun _ _ => rfl)) (pa_cons (pe_ix ix_list (pv 7) pe_int (fun _ _ => rfl)) pa_nil))))
    (pss_cons (ps_expr (pe_bm PySem.F.plainAttrs_list PySem.F.slot_list_append PySem.F.type_list_append mt_append (pe_ix ix_list (pv 7) pe_int (fun _ _ => rfl)) (pa_cons pe_int pa_nil)))
    (pss_cons (ps_expr (pe_bm0 PySem.F.plainAttrs_list PySem.F.slot_list_clear PySem.F.type_list_clear mt_clear (pe_ix ix_list (pv 7) pe_int (fun _ _ => rfl))))
    (pss_cons (ps_if (PW.pt (pw_or (pt_cmpR (op_neL' (hr.units0)) (pe_fld (pv 8) rfl) (pv 5) (nomark _)) (pw_or1 (pt_cmpR (op_neL' (hr.units0)) (pe_fld (pv 8) rfl) (pv 6) (nomark _)))))
      (pss_one (ps_ret pe_bl))
      pss_nil)
    (pss_cons (ps_for PassesOwn.never rfl (pi_tup (pe_tup (pa_cons (pv 3) (pa_cons (pe_op op_add (pv 3) pe_int) (pa_cons (pe_callB (call_max2' rfl) rfl T.b_max boot_max (pa_cons pe_int (pa_cons (pe_op op_sub (pv 3) pe_int) pa_nil))) pa_nil))))) (pg_name (i := 9) S.nd rfl (Or.inl rfl))
      (pss_cons (ps_join (ps_set (i := 10) S.nd rfl (Or.inl rfl) (pe_and (pe_callC C_law_rising (hr.mono (by decide)) rfl (pa_cons (pv 5) (pa_cons pe_int (pa_cons (pv 2) pa_nil)))) (pe_one (pe_callC C_law_rising (hr.mono (by decide)) rfl (pa_cons (pv 6) (pa_cons pe_int (pa_cons (pv 2) pa_nil))))))))
      (pss_cons (ps_join (ps_set (i := 10) S.nd rfl (Or.inl rfl) (pe_and (pv 10) (pe_one (pe_cmpR op_lt (pe_callB (call_maxL rfl) rfl T.b_max boot_max (pa_cons (pe_callC C_law_between (hr.mono (by decide)) rfl (pa_cons (pv 0) (pa_cons (pv 6) pa_nil))) pa_nil)) (pv 9) (nomark _))))))
      (pss_cons (ps_join (ps_if (PW.pt (pw_and (pt_val (pv 10)) (pw_and1 (pt_cmpR (op_eqL' (hr.units0)) (pv 6) (pe_lst pa_nil) (nomark _)))))
        (pss_one (ps_set (i := 10) S.nd rfl (Or.inl rfl) (pe_cmpR (op_eqL' (hr.units0)) (pv 5) (pe_lst pa_nil) (nomark _))))
        (pss_one (ps_if (pt_val (pv 10))
          (pss_one (ps_set (i := 10) S.nd rfl (Or.inl rfl) (pe_and (pe_cmpR op_eq (pe_op op_add (pe_callB call_len' rfl T.b_len PySem.boot_len (pa_cons (pv 5) pa_nil)) pe_int) (pe_callB call_len' rfl T.b_len PySem.boot_len (pa_cons (pv 6) pa_nil)) (nomark _)) (pe_one (pe_cmpR op_ge (pe_callB (call_minL rfl) rfl T.b_min boot_min (pa_cons (pe_callC C_law_borne (hr.mono (by decide)) rfl (pa_cons (pv 0) (pa_cons (pv 5) pa_nil))) pa_nil)) (pv 9) (nomark _))))))
          pss_nil))))
      (pss_one (ps_if (pt_not (pt_val (pe_callC C_law_says (hr.mono (by decide)) rfl (pa_cons (pe_methG (pv 8) (pa_cons (pv 0) (pa_cons (pv 9) pa_nil))) (pa_cons (pv 10) pa_nil)))))
        (pss_one (ps_ret pe_bl))
        pss_nil))))))
    (pss_one (ps_ret pe_bl)))))))))))), ?_⟩
  try dsimp only [cxOf, Cx.nox, Cx.wish]
  walk_at "rr"
  refine rd_lenI (SqL.of ha) ?_
  walk_at "rr"
  refine rd_sum (SqL.of ha) ?_
  walk_at "rr"
  refine ⟨cell, 7, 9, rfl, by decide, by decide, fun d7 H3 g0 g1 s3 => ?_⟩
  walk_at "rr"
  refine rd_I ⟨by omega, by omega⟩ ?_
  walk_at "rr"
  have hq : 0 ≤ ns.sum / (1 + d7) := Int.ediv_nonneg gs.1 (by omega)
  obtain ⟨bd, hbd⟩ : ∃ bd, bd = 1 + ns.sum / (1 + d7) := ⟨_, rfl⟩
  rw [← hbd]
  have hb : 1 ≤ bd := by omega
  refine ⟨a, ns, bd, rfl, s3 _ _ ha, hl, hg, hb, fun x H4 cA pA cs pl s4 fx fw fc fp ncs due => ?_⟩
  have s4 := s3.trans s4
  obtain ⟨⟨dx, fs, hx2, l1, l2, l3⟩, hc, hs⟩ := id fw
  obtain ⟨lc, lp⟩ := dueM_len due
  walk_at "rr"
  refine rd_fld hx2 c.y_Most.cl c.n_Most_cuts l1 ?_
  walk_at "rr"
  refine rd_I ⟨by decide, by decide⟩ ?_
  walk_at "rr"
  refine ⟨cell, 8, _, rfl, by decide, by omega, fun d8 H5 _ _ s5 => ?_⟩
  walk_at "rr"
  refine ⟨cA, _, _, cs.map V.int, rfl, s5 _ _ hc, by rw [List.length_map]; omega, fun r1 H6 ys s6 f6 h6 l6 m6 => ?_⟩
  obtain ⟨ds, rfl⟩ := ints_more m6
  rw [List.length_map, List.length_map] at l6
  have s6 := s5.trans s6
  walk_at "rr"
  refine rd_I ⟨by decide, by decide⟩ ?_
  walk_at "rr"
  refine ⟨r1, _, ds, rfl, h6, by omega, fun r2 H7 ms s7 f7 h7 l7 => ?_⟩
  have s7 := s6.trans s7
  walk_at "rr"
  refine rd_fld (s7 _ _ hx2) c.y_Most.cl c.n_Most_places l2 ?_
  walk_at "rr"
  refine rd_I ⟨by decide, by decide⟩ ?_
  walk_at "rr"
  refine ⟨cell, 9, _, rfl, by decide, by omega, fun d9 H8 _ _ s8 => ?_⟩
  walk_at "rr"
  refine ⟨pA, _, _, pl.map V.int, rfl, (s7.trans s8) _ _ hs, by rw [List.length_map]; omega, fun r3 H9 zs s9 f9 h9 l9 m9 => ?_⟩
  obtain ⟨es0, rfl⟩ := ints_more m9
  rw [List.length_map, List.length_map] at l9
  have s9 := s8.trans s9
  walk_at "rr"
  refine rd_I ⟨by decide, by decide⟩ ?_
  walk_at "rr"
  refine ⟨r3, _, es0, rfl, h9, by omega, fun r4 H11 qs s11 f11 h11 l11 => ?_⟩
  have s11 := s9.trans s11
  have s12 := s4.trans (s7.trans s11)
  have hr2 : H11 r2 = some (.lst (ms.map V.int)) := s11 _ _ h7
  have haZ := s12 _ _ ha
  walk_at "rr"
  refine rd_listOf (SqL.of hr2) fun p1 h1 => ?_
  have u1 := same_new h1 (.lst (ms.map V.int))
  walk_at "rr"
  refine rd_listOf (SqL.of (u1 _ _ h11)) fun p2 h2 => ?_
  have u2 := same_new h2 (.lst (qs.map V.int))
  walk_at "rr"
  refine ⟨small (by simp), fun hd hhd => ?_⟩
  have u3 := same_new hhd (.lst [.ref p1, .ref p2])
  have hp1 := u3 _ _ (u2 _ _ (upd_same (H := H11) (a := p1) (o := .lst (ms.map V.int))))
  have hp2 := u3 _ _ (upd_same (H := upd H11 p1 (.lst (ms.map V.int))) (a := p2) (o := .lst (qs.map V.int)))
  have u13 := (u1.trans u2).trans u3
  walk_at "rr"
  refine rd_ixL (SqL.of upd_same) rfl ?_
  walk_at "rr"
  refine rd_ixL (SqL.of upd_same) rfl ?_
  walk_at "rr"
  intro y dy hy hdy _
  refine mkM_use hy hdy hp1 hp2 (by omega) (by omega) fun cB sB H12 s13 fa fcB fsB nB => ?_
  have hhd12 := s13 _ _ (upd_same (a := hd) (o := .lst [.ref p1, .ref p2]))
  walk_at "rr"
  refine rd_ixL (SqL.of hhd12) rfl ?_
  walk_at "rr"
  refine ⟨tyL (SqL.of (s13 _ _ hp1)), ?_⟩
  walk_at "rr"
  refine rd_append (s13 _ _ hp1) (by rw [List.length_map]; exact small1000 (by omega)) ?_
  have npd : hd ≠ p1 := ne_old (u2 _ _ upd_same) hhd
  have np2 : p2 ≠ p1 := ne_old upd_same h2
  have hhd13 : upd H12 p1 (.lst (ms.map V.int ++ [.int 0])) hd = some (.lst [.ref p1, .ref p2]) := by rw [upd_ne npd]; exact hhd12
  walk_at "rr"
  refine rd_ixL (SqL.of hhd13) rfl ?_
  walk_at "rr"
  have hp213 : upd H12 p1 (.lst (ms.map V.int ++ [.int 0])) p2 = some (.lst (qs.map V.int)) := by rw [upd_ne np2]; exact s13 _ _ hp2
  refine ⟨tyL (SqL.of hp213), ?_⟩
  walk_at "rr"
  refine rd_clear hp213 ?_
  have f1 : H11 p1 = none := h1
  have f2 : H11 p2 = none := u1.free h2
  obtain ⟨H13, hH13⟩ : ∃ H13, H13 = upd (upd H12 p1 (.lst (ms.map V.int ++ [.int 0]))) p2 (.lst []) := ⟨_, rfl⟩
  have s14 : Same H11 H13 := by rw [hH13]; exact same_upd (same_upd (u13.trans s13) f1 _) f2 _
  have keep : ∀ b, b ≠ p1 → b ≠ p2 → H13 b = H12 b := fun b n1 n2 => by rw [hH13, upd_ne n2, upd_ne n1]
  have fa13 : MostAt ca.Most H13 y cB sB ms qs := fa.keep (keep _ (ne_old hp1 hy) (ne_old hp2 hy)) (keep _ (ne_old hp1 fcB) (ne_old hp2 fcB)) (keep _ (ne_old hp1 fsB) (ne_old hp2 fsB))
  rw [← hH13]
  clear keep
  obtain ⟨⟨dy', fs2, hy13, m1, m2, m3⟩, hcB, hsB⟩ := id fa13
  walk_at "rr"
  refine rd_fld hy13 c.y_Most.cl c.n_Most_cuts m1 ?_
  walk_at "rr"
  refine rd_neL (SqL.of hcB) (SqL.of (s14 _ _ hr2)) ?_
  rw [decide_eq_true rfl]
  walk_at "rr"
  refine rd_fld hy13 c.y_Most.cl c.n_Most_places m2 ?_
  walk_at "rr"
  refine rd_neL (SqL.of hsB) (SqL.of (s14 _ _ h11)) ?_
  rw [decide_eq_true rfl]
  walk_at "rr"
  refine ⟨small (by simp), fun t ht => ?_⟩
  have su := same_new ht (.tup [.int bd, .int (bd + 1), .int (if bd - 1 > 1 then bd - 1 else 1)])
  refine ⟨t, rfl, ⟨_, .inl (.inl upd_same)⟩, for_tupF (K := K) (a := t) (xs := [.int bd, .int (bd + 1), .int (if bd - 1 > 1 then bd - 1 else 1)]) (fun i σ H14 => ∃ v1 v2, σ = [some (.ref a), some (.int cell), some (.int ns.length), some (.int bd), some (.ref x), some (.ref r2), some (.ref r4), some (.ref hd), some (.ref y), v1, v2] ∧ Same (upd H13 t (.tup [.int bd, .int (bd + 1), .int (if bd - 1 > 1 then bd - 1 else 1)])) H14) ⟨none, none, rfl, Same.refl _⟩ (fun i σ H14 _ hh => ?_) ?_ ?_⟩
  · obtain ⟨_, _, _, ss⟩ := hh
    exact .inl (.inl (ss _ _ upd_same))
  · rintro i v σ H14 hi ⟨v1, v2, rfl, s15⟩
    have hv : ∃ o, v = .int o ∧ 1 ≤ o := by
      match i, hi with
      | 0, hi => exact ⟨_, (Option.some.inj hi).symm, by omega⟩
      | 1, hi => exact ⟨_, (Option.some.inj hi).symm, by omega⟩
      | 2, hi => exact ⟨_, (Option.some.inj hi).symm, by split <;> omega⟩
      | i + 3, hi => simp at hi
    obtain ⟨o, rfl, ho⟩ := hv
    have s16 := su.trans s15
    have s17 := s14.trans s16
    have hR : SqL K H14 a (ns.map V.int) := SqL.of (s17 _ _ haZ)
    walk_at "rr"
    refine rd_joinF (fun σ' H15 => σ' = [some (.ref a), some (.int cell), some (.int ns.length), some (.int bd), some (.ref x), some (.ref r2), some (.ref r4), some (.ref hd), some (.ref y), some (.int o), some (.bl (risingB ns.length 0 ms && risingB ns.length (-1) qs))] ∧ H14 = H15) ?_ ?_
    · walk_at "rr"
      refine ⟨r2, 1, ns.length, ms, rfl, SqL.of (s17 _ _ hr2), ?_⟩
      rw [show (1 : Int) - 1 = 0 from rfl]
      walk_at "rr"
      cases e1 : risingB (↑ns.length) 0 ms with
      | false =>
        walk_at "rr"
        exact ⟨rfl, rfl⟩
      | true =>
        walk_at "rr"
        refine ⟨r4, 0, ns.length, qs, rfl, SqL.of (s17 _ _ h11), ?_⟩
        rw [show (0 : Int) - 1 = -1 from rfl]
        walk_at "rr"
        exact ⟨rfl, rfl⟩
    rintro σ' H15 ⟨rfl, rfl⟩
    walk_at "rr"
    refine rd_joinF (fun σ' H15 => σ' = [some (.ref a), some (.int cell), some (.int ns.length), some (.int bd), some (.ref x), some (.ref r2), some (.ref r4), some (.ref hd), some (.ref y), some (.int o), some (.bl (risingB ns.length 0 ms && risingB ns.length (-1) qs && (betw ns 0 (qs.map Int.toNat)).all fun z => decide (z < o)))] ∧ Same H14 H15) ?_ ?_
    · walk_at "rr"
      refine ite2 (fun c0 => ?_) (fun c0 => ?_)
      · rw [c0]
        simp only [Bool.and_eq_true] at c0
        obtain ⟨e1, e2⟩ := c0
        obtain ⟨es, rfl, hre⟩ := rising_nat (lo := 0) e2
        walk_at "rr"
        refine ⟨a, r4, ns, es, rfl, hR, s17 _ _ h11, hl, hre, fun rb H16 sb fb hb16 => ?_⟩
        walk_at "rr"
        refine ⟨rb, betw ns 0 es, rfl, SqL.of hb16, (fun z => by have := betw_len ns es 0; rw [z] at this; simp at this), fun M1 g4 g5 => ?_⟩
        walk_at "rr"
        refine ⟨?_, sb⟩
        rw [ic_toNat, ← max_lt' g4 g5, Bool.true_and]
        try rfl
      · have c0 := Bool.eq_false_iff.mpr c0
        rw [c0]
        walk_at "rr"
        exact ⟨rfl, Same.refl _⟩
    rintro σ' H15 ⟨rfl, s18⟩
    walk_at "rr"
    refine rd_joinF (fun σ' H16 => σ' = [some (.ref a), some (.int cell), some (.int ns.length), some (.int bd), some (.ref x), some (.ref r2), some (.ref r4), some (.ref hd), some (.ref y), some (.int o), some (.bl (dueM ns o ms qs))] ∧ Same H14 H16) ?_ ?_
    · walk_at "rr"
      refine ite2 (fun c0 => ?_) (fun c0 => ?_)
      · have edue : dueM ns o ms qs = (if qs = [] then decide (ms = []) else decide (ms.length + 1 = qs.length) && (lawBorne ns (ms.map Int.toNat)).all fun z => decide (o ≤ z)) := by
          unfold dueM
          rw [c0, Bool.true_and]
        have c1 := c0
        simp only [Bool.and_eq_true] at c1
        obtain ⟨⟨e1, e2⟩, _⟩ := c1
        obtain ⟨es, rfl, hri⟩ := rising_nat (lo := 1) e1
        rw [ic_toNat] at edue
        rw [c0]
        walk_at "rr"
        refine ⟨Nat.zero_le _, fun u hu => ?_⟩
        have s19 := s18.trans (same_new hu (.lst []))
        walk_at "rr"
        refine rd_eqL (ns := qs) (ms := []) (SqL.of ((s17.trans s19) _ _ h11)) (SqL.of upd_same) ?_
        walk_at "rr"
        refine ite2 (fun c2 => ?_) (fun c2 => ?_)
        · have c2 := of_decide_eq_true c2
          rw [if_pos c2] at edue
          walk_at "rr"
          refine ⟨Nat.zero_le _, fun u2 hu2 => ?_⟩
          have s20 := s19.trans (same_new hu2 (.lst []))
          walk_at "rr"
          refine rd_eqL (ns := ic es) (ms := []) (SqL.of ((s17.trans s20) _ _ hr2)) (SqL.of upd_same) ?_
          walk_at "rr"
          refine ⟨?_, s20⟩
          rw [edue]
          try rfl
        · have c2 : ¬ qs = [] := fun z => c2 (decide_eq_true z)
          rw [if_neg c2] at edue
          walk_at "rr"
          refine rd_lenI (SqL.of ((s17.trans s19) _ _ hr2)) ?_
          walk_at "rr"
          refine rd_lenI (SqL.of ((s17.trans s19) _ _ h11)) ?_
          walk_at "rr"
          refine ite2 (fun c3 => ?_) (fun c3 => ?_)
          · have c3 : (ic es).length + 1 = qs.length := by have := of_decide_eq_true c3; omega
            rw [decide_eq_true c3, Bool.true_and] at edue
            have nn : ns ≠ [] := fun z => by
              have := rising_len1 e2
              rw [z] at this
              simp only [List.length_nil] at this
              exact c2 (List.eq_nil_of_length_eq_zero (by omega))
            walk_at "rr"
            refine ⟨a, r2, ns, es, rfl, s19.seq hR, SqL.of ((s17.trans s19) _ _ hr2), hl, fun rb H17 sb fb hb17 => ?_⟩
            walk_at "rr"
            refine ⟨rb, lawBorne ns es, rfl, SqL.of hb17, (fun z => by unfold lawBorne at z; rw [if_neg nn] at z; exact lawParts_ne _ _ _ _ z), fun M2 g4 g5 => ?_⟩
            walk_at "rr"
            refine ⟨?_, s19.trans sb⟩
            rw [edue, ← min_ge (b := o) g4 g5]
            try rfl
          · walk_at "rr"
            refine ⟨?_, s19⟩
            rw [edue, decide_eq_false (show ¬ (ic es).length + 1 = qs.length from fun z => c3 (decide_eq_true (by omega))), Bool.false_and]
            try rfl
      · have c0 := Bool.eq_false_iff.mpr c0
        have edue : dueM ns o ms qs = false := by
          unfold dueM
          rw [c0, Bool.false_and]
        rw [c0]
        walk_at "rr"
        exact ⟨by rw [edue]; try rfl, s18⟩
    rintro σ' H16 ⟨rfl, s18⟩
    walk_at "rr"
    refine rd_meth MM (hr.mono (by decide)) ((s16.trans s18) _ _ hy13) m3.1 ?_
    walk_at "rr"
    refine ⟨y, a, cB, sB, ns, o, ms, qs, rfl, s18.seq hR, hl, hg, ho, fa13.same (s16.trans s18), by omega, by omega, fun H20 s20 => ?_⟩
    walk_at "rr"
    refine ⟨_, _, rfl, ?_⟩
    rw [decide_eq_true rfl]
    walk_at "rr"
    exact ⟨_, _, rfl, s15.trans (s18.trans s20)⟩
  · rintro σ H14 ⟨v1, v2, rfl, s15⟩
    walk_at "rr"
    exact q _ (s12.trans (s14.trans (su.trans s15)))
end
theorem fresh_of5 {H : Hp} {p : Addr} {o : HO} (_ : Same H (upd H p o)) : upd H p o p = some o := upd_same
def FewItem (H : Hp) (v : V) : Prop := ∃ (t l : Addr) (xs : List V) (ps : List (Int × Int)) (b : Bool), v = .ref t ∧ H t = some (.tup [.ref l, .bl b]) ∧ H l = some (.lst xs) ∧ PairsT H xs ps ∧ xs.length ≤ 10 ∧ dueF [5, 5, 5] 6 [1, 2] ps = b
def LeastItem (H : Hp) (v : V) : Prop := ∃ (t l : Addr) (n : Int) (xs : List V) (ps : List (Int × Int)) (b : Bool), v = .ref t ∧ H t = some (.tup [.int n, .ref l, .bl b]) ∧ H l = some (.lst xs) ∧ PairsT H xs ps ∧ xs.length ≤ 10 ∧ dueL [5, 5, 5] 2 [1] n ps = b
def MostItem (H : Hp) (v : V) : Prop := ∃ (t l m : Addr) (cs pl : List Int) (b : Bool), v = .ref t ∧ H t = some (.tup [.ref l, .ref m, .bl b]) ∧ H l = some (.lst (cs.map V.int)) ∧ H m = some (.lst (pl.map V.int)) ∧ cs.length ≤ 10 ∧ pl.length ≤ 10 ∧ dueM [3, 3, 2] 3 cs pl = b
theorem FewItem.same {H H' : Hp} {v : V} (h : FewItem H v) (s : Same H H') : FewItem H' v := by
  obtain ⟨t, l, xs, ps, b, h1, h2, h3, h4, h5⟩ := h
  exact ⟨t, l, xs, ps, b, h1, s _ _ h2, s _ _ h3, h4.same s, h5⟩
theorem LeastItem.same {H H' : Hp} {v : V} (h : LeastItem H v) (s : Same H H') : LeastItem H' v := by
  obtain ⟨t, l, n, xs, ps, b, h1, h2, h3, h4, h5⟩ := h
  exact ⟨t, l, n, xs, ps, b, h1, s _ _ h2, s _ _ h3, h4.same s, h5⟩
theorem MostItem.same {H H' : Hp} {v : V} (h : MostItem H v) (s : Same H H') : MostItem H' v := by
  obtain ⟨t, l, m, cs, pl, b, h1, h2, h3, h4, h5⟩ := h
  exact ⟨t, l, m, cs, pl, b, h1, s _ _ h2, s _ _ h3, s _ _ h4, h5⟩
theorem good555 : Good [5, 5, 5] := by
  intro x hx
  simp only [List.mem_cons, List.not_mem_nil, or_false] at hx
  omega
theorem good332 : Good [3, 3, 2] := by
  intro x hx
  simp only [List.mem_cons, List.not_mem_nil, or_false] at hx
  omega
theorem good00 : Good [0, 0] := by
  intro x hx
  simp only [List.mem_cons, List.not_mem_nil, or_false] at hx
  omega
def spFew : Sp := fun vs H Q _ => vs = [] ∧ ∀ H', Same H H' → Q (.bl true) H'
section
variable {P : Program} {w : World} {K : PySem.W.Frag} {mg : Str → Option Value} {base : Heap} {f : Addr} {fd : FuncData} {ca : CA}
theorem sc_few : FnScope ["_law_some", "_law_stretches", "_law_due", "_law_number", "_law_cuts", "_law_places"] [] (defScope (top 53)) := ⟨rfl, rfl, rfl, by decide +kernel, rfl, by decide +kernel, by decide +kernel⟩
theorem ok_few (T : Txt mg) (c : Cl K mg ca)
    (M_Fewest : MakeC P w K mg base "Fewest" ca.Fewest ["self", "cuts", "stretches"] 2 (spMkF ca.Fewest)) (M_Least : MakeC P w K mg base "Least" ca.Least ["self", "cuts", "number", "stretches"] 2 (spMkL ca.Least)) (M_Most : MakeC P w K mg base "Most" ca.Most ["self", "cuts", "places"] 2 (spMkM ca.Most))
    (MF : MethC P w K mg base ca.Fewest "shows" ["self", "row", "bound"] 8 (spShowsF K ca)) (ML : MethC P w K mg base ca.Least "shows" ["self", "row", "count"] 9 (spShowsL K ca.Least)) (MM : MethC P w K mg base ca.Most "shows" ["self", "row", "bound"] 9 (spShowsM K ca.Most))
    (C_law_says : Callee P w K mg base "_law_says" ["_law_told", "_law_due"] 1 spSays)
    (F : Fun K "_law_few_right" "_law_few_right" (top 53) f fd) : FnOk P w K mg base CX0 11 f fd [] spFew := by
  have S := sc_few
  refine F.ok S (fun vs H Q E h => ?_) (fun cdv A outer s H vs Q E hr h => ?_)
  · obtain ⟨rfl, _⟩ := h
    rfl
  obtain ⟨rfl, q⟩ := h
  refine ⟨_, (pss_cons (ps_join (ps_set (i := 0) S.nd rfl (Or.inl rfl) (pe_lst (pa_cons (pe_tup (pa_cons (pe_lst (pa_cons (pe_tup (pa_cons pe_int (pa_cons pe_int pa_nil))) (pa_cons (pe_tup (pa_cons pe_int (pa_cons pe_int pa_nil))) pa_nil))) (pa_cons pe_bl pa_nil))) (pa_cons (pe_tup (pa_cons (pe_lst (pa_cons (pe_tup (pa_cons pe_int (pa_cons pe_int pa_nil))) (pa_cons (pe_tup (pa_cons pe_int (pa_cons pe_int pa_nil))) pa_nil))) (pa_cons pe_bl pa_nil))) (pa_cons (pe_tup (pa_cons (pe_lst (pa_cons (pe_tup (pa_cons pe_int (pa_cons pe_int pa_nil))) (pa_cons (pe_tup (pa_cons pe_int (pa_cons pe_int pa_nil))) pa_nil))) (pa_cons pe_bl pa_nil))) (pa_cons (pe_tup (pa_cons (pe_lst (pa_cons (pe_tup (pa_cons pe_int (pa_cons pe_int pa_nil))) (pa_cons (pe_tup (pa_cons pe_int (pa_cons pe_int pa_nil))) pa_nil))) (pa_cons pe_bl pa_nil))) pa_nil)))))))
    (pss_cons (ps_join (ps_for PassesOwn.never rfl (pi_list (pv 0)) (pg_tup rfl (pgs_cons (pg_name (i := 1) S.nd rfl (Or.inl rfl)) (pgs_cons (pg_name (i := 2) S.nd rfl (Or.inl rfl)) pgs_nil)))
      (pss_one (ps_if (pt_not (pt_val (pe_callC C_law_says (hr.mono (by decide)) rfl (pa_cons (pe_methG (pe_makeC M_Fewest (hr.mono (by decide)) rfl (pa_cons (pe_lst (pa_cons pe_int (pa_cons pe_int pa_nil))) (pa_cons (pv 1) pa_nil))) (pa_cons (pe_lst (pa_cons pe_int (pa_cons pe_int (pa_cons pe_int pa_nil)))) (pa_cons pe_int pa_nil))) (pa_cons (pv 2) pa_nil)))))
        (pss_one (ps_ret pe_bl))
        pss_nil))))
    (pss_cons (ps_join (ps_for PassesOwn.never rfl (pi_list (pe_lst (pa_cons (pe_tup (pa_cons pe_int (pa_cons (pe_lst (pa_cons (pe_tup (pa_cons pe_int (pa_cons pe_int pa_nil))) (pa_cons (pe_tup (pa_cons pe_int (pa_cons pe_int pa_nil))) pa_nil))) (pa_cons pe_bl pa_nil)))) (pa_cons (pe_tup (pa_cons pe_int (pa_cons (pe_lst (pa_cons (pe_tup (pa_cons pe_int (pa_cons pe_int pa_nil))) pa_nil)) (pa_cons pe_bl pa_nil)))) (pa_cons (pe_tup (pa_cons pe_int (pa_cons (pe_lst (pa_cons (pe_tup (pa_cons pe_int (pa_cons pe_int pa_nil))) (pa_cons (pe_tup (pa_cons pe_int (pa_cons pe_int pa_nil))) pa_nil))) (pa_cons pe_bl pa_nil)))) pa_nil))))) (pg_tup rfl (pgs_cons (pg_name (i := 3) S.nd rfl (Or.inl rfl)) (pgs_cons (pg_name (i := 1) S.nd rfl (Or.inl rfl)) (pgs_cons (pg_name (i := 2) S.nd rfl (Or.inl rfl)) pgs_nil))))
      (pss_one (ps_if (pt_not (pt_val (pe_callC C_law_says (hr.mono (by decide)) rfl (pa_cons (pe_methG (pe_makeC M_Least (hr.mono (by decide)) rfl (pa_cons (pe_lst (pa_cons pe_int pa_nil)) (pa_cons (pv 3) (pa_cons (pv 1) pa_nil)))) (pa_cons (pe_lst (pa_cons pe_int (pa_cons pe_int (pa_cons pe_int pa_nil)))) (pa_cons pe_int pa_nil))) (pa_cons (pv 2) pa_nil)))))
        (pss_one (ps_ret pe_bl))
        pss_nil))))
    (pss_cons (ps_join (ps_set (i := 0) S.nd rfl (Or.inl rfl) (pe_lst (pa_cons (pe_tup (pa_cons (pe_lst (pa_cons pe_int pa_nil)) (pa_cons (pe_lst (pa_cons pe_int (pa_cons pe_int pa_nil))) (pa_cons pe_bl pa_nil)))) (pa_cons (pe_tup (pa_cons (pe_lst (pa_cons pe_int pa_nil)) (pa_cons (pe_lst (pa_cons pe_int (pa_cons pe_int pa_nil))) (pa_cons pe_bl pa_nil)))) (pa_cons (pe_tup (pa_cons (pe_lst pa_nil) (pa_cons (pe_lst (pa_cons pe_int pa_nil)) (pa_cons pe_bl pa_nil)))) (pa_cons (pe_tup (pa_cons (pe_lst (pa_cons pe_int pa_nil)) (pa_cons (pe_lst (pa_cons pe_int (pa_cons pe_int pa_nil))) (pa_cons pe_bl pa_nil)))) pa_nil)))))))
    (pss_cons (ps_join (ps_expr (pe_bm PySem.F.plainAttrs_list PySem.F.slot_list_append PySem.F.type_list_append mt_append (pv 0) (pa_cons (pe_tup (pa_cons (pe_lst (pa_cons pe_int (pa_cons pe_int pa_nil))) (pa_cons (pe_lst (pa_cons pe_int (pa_cons pe_int (pa_cons pe_int pa_nil)))) (pa_cons pe_bl pa_nil)))) pa_nil))))
    (pss_cons (ps_join (ps_for PassesOwn.never rfl (pi_list (pv 0)) (pg_tup rfl (pgs_cons (pg_name (i := 4) S.nd rfl (Or.inl rfl)) (pgs_cons (pg_name (i := 5) S.nd rfl (Or.inl rfl)) (pgs_cons (pg_name (i := 2) S.nd rfl (Or.inl rfl)) pgs_nil))))
      (pss_one (ps_if (pt_not (pt_val (pe_callC C_law_says (hr.mono (by decide)) rfl (pa_cons (pe_methG (pe_makeC M_Most (hr.mono (by decide)) rfl (pa_cons (pv 4) (pa_cons (pv 5) pa_nil))) (pa_cons (pe_lst (pa_cons pe_int (pa_cons pe_int (pa_cons pe_int pa_nil)))) (pa_cons pe_int pa_nil))) (pa_cons (pv 2) pa_nil)))))
        (pss_one (ps_ret pe_bl))
        pss_nil))))
    (pss_one (ps_ret (pe_and (pe_callC C_law_says (hr.mono (by decide)) rfl (pa_cons (pe_methG (pe_makeC M_Least (hr.mono (by decide)) rfl (pa_cons (pe_lst pa_nil) (pa_cons pe_int (pa_cons (pe_lst pa_nil) pa_nil)))) (pa_cons (pe_lst (pa_cons pe_int (pa_cons pe_int pa_nil))) (pa_cons pe_int pa_nil))) (pa_cons pe_bl pa_nil))) (pe_one (pe_callC C_law_says (hr.mono (by decide)) rfl (pa_cons (pe_methG (pe_makeC M_Least (hr.mono (by decide)) rfl (pa_cons (pe_lst pa_nil) (pa_cons pe_int (pa_cons (pe_lst pa_nil) pa_nil)))) (pa_cons (pe_lst (pa_cons pe_int (pa_cons pe_int pa_nil))) (pa_cons pe_int pa_nil))) (pa_cons pe_bl pa_nil))))))))))))), ?_⟩
  try dsimp only [cxOf, Cx.nox, Cx.wish]
  walk_at "rr"
  refine rd_joinF (fun σ H1 => ∃ (sm : Addr) (ys : List V), σ = [some (.ref sm), none, none, none, none, none] ∧ Same H H1 ∧ H1 sm = some (.lst ys) ∧ ∀ y ∈ ys, FewItem H1 y) ?_ ?_
  · walk_at "rr"
    walk_at "rr"
    refine ⟨small (by simp), fun xp1 xh1 => ?_⟩
    have xu1 := same_new xh1 (.tup [.int 0, .int 1])
    have xf1 := fresh_of5 xu1
    generalize upd H xp1 (.tup [.int 0, .int 1]) = xH1 at xu1 xf1 ⊢
    walk_at "rr"
    refine ⟨small (by simp), fun xp2 xh2 => ?_⟩
    have xu2 := same_new xh2 (.tup [.int 1, .int 2])
    have xf2 := fresh_of5 xu2
    generalize upd xH1 xp2 (.tup [.int 1, .int 2]) = xH2 at xu2 xf2 ⊢
    walk_at "rr"
    refine ⟨small (by simp), fun xp3 xh3 => ?_⟩
    have xu3 := same_new xh3 (.lst [.ref xp1, .ref xp2])
    have xf3 := fresh_of5 xu3
    generalize upd xH2 xp3 (.lst [.ref xp1, .ref xp2]) = xH3 at xu3 xf3 ⊢
    walk_at "rr"
    refine ⟨small (by simp), fun xp4 xh4 => ?_⟩
    have xu4 := same_new xh4 (.tup [.ref xp3, .bl true])
    have xf4 := fresh_of5 xu4
    generalize upd xH3 xp4 (.tup [.ref xp3, .bl true]) = xH4 at xu4 xf4 ⊢
    walk_at "rr"
    refine ⟨small (by simp), fun xp5 xh5 => ?_⟩
    have xu5 := same_new xh5 (.tup [.int 0, .int 1])
    have xf5 := fresh_of5 xu5
    generalize upd xH4 xp5 (.tup [.int 0, .int 1]) = xH5 at xu5 xf5 ⊢
    walk_at "rr"
    refine ⟨small (by simp), fun xp6 xh6 => ?_⟩
    have xu6 := same_new xh6 (.tup [.int 0, .int 2])
    have xf6 := fresh_of5 xu6
    generalize upd xH5 xp6 (.tup [.int 0, .int 2]) = xH6 at xu6 xf6 ⊢
    walk_at "rr"
    refine ⟨small (by simp), fun xp7 xh7 => ?_⟩
    have xu7 := same_new xh7 (.lst [.ref xp5, .ref xp6])
    have xf7 := fresh_of5 xu7
    generalize upd xH6 xp7 (.lst [.ref xp5, .ref xp6]) = xH7 at xu7 xf7 ⊢
    walk_at "rr"
    refine ⟨small (by simp), fun xp8 xh8 => ?_⟩
    have xu8 := same_new xh8 (.tup [.ref xp7, .bl false])
    have xf8 := fresh_of5 xu8
    generalize upd xH7 xp8 (.tup [.ref xp7, .bl false]) = xH8 at xu8 xf8 ⊢
    walk_at "rr"
    refine ⟨small (by simp), fun xp9 xh9 => ?_⟩
    have xu9 := same_new xh9 (.tup [.int 0, .int 2])
    have xf9 := fresh_of5 xu9
    generalize upd xH8 xp9 (.tup [.int 0, .int 2]) = xH9 at xu9 xf9 ⊢
    walk_at "rr"
    refine ⟨small (by simp), fun xp10 xh10 => ?_⟩
    have xu10 := same_new xh10 (.tup [.int 1, .int 2])
    have xf10 := fresh_of5 xu10
    generalize upd xH9 xp10 (.tup [.int 1, .int 2]) = xH10 at xu10 xf10 ⊢
    walk_at "rr"
    refine ⟨small (by simp), fun xp11 xh11 => ?_⟩
    have xu11 := same_new xh11 (.lst [.ref xp9, .ref xp10])
    have xf11 := fresh_of5 xu11
    generalize upd xH10 xp11 (.lst [.ref xp9, .ref xp10]) = xH11 at xu11 xf11 ⊢
    walk_at "rr"
    refine ⟨small (by simp), fun xp12 xh12 => ?_⟩
    have xu12 := same_new xh12 (.tup [.ref xp11, .bl false])
    have xf12 := fresh_of5 xu12
    generalize upd xH11 xp12 (.tup [.ref xp11, .bl false]) = xH12 at xu12 xf12 ⊢
    walk_at "rr"
    refine ⟨small (by simp), fun xp13 xh13 => ?_⟩
    have xu13 := same_new xh13 (.tup [.int 0, .int 0])
    have xf13 := fresh_of5 xu13
    generalize upd xH12 xp13 (.tup [.int 0, .int 0]) = xH13 at xu13 xf13 ⊢
    walk_at "rr"
    refine ⟨small (by simp), fun xp14 xh14 => ?_⟩
    have xu14 := same_new xh14 (.tup [.int 1, .int 2])
    have xf14 := fresh_of5 xu14
    generalize upd xH13 xp14 (.tup [.int 1, .int 2]) = xH14 at xu14 xf14 ⊢
    walk_at "rr"
    refine ⟨small (by simp), fun xp15 xh15 => ?_⟩
    have xu15 := same_new xh15 (.lst [.ref xp13, .ref xp14])
    have xf15 := fresh_of5 xu15
    generalize upd xH14 xp15 (.lst [.ref xp13, .ref xp14]) = xH15 at xu15 xf15 ⊢
    walk_at "rr"
    refine ⟨small (by simp), fun xp16 xh16 => ?_⟩
    have xu16 := same_new xh16 (.tup [.ref xp15, .bl false])
    have xf16 := fresh_of5 xu16
    generalize upd xH15 xp16 (.tup [.ref xp15, .bl false]) = xH16 at xu16 xf16 ⊢
    walk_at "rr"
    refine ⟨small (by simp), fun xp17 xh17 => ?_⟩
    have xu17 := same_new xh17 (.lst [.ref xp4, .ref xp8, .ref xp12, .ref xp16])
    have xf17 := fresh_of5 xu17
    generalize upd xH16 xp17 (.lst [.ref xp4, .ref xp8, .ref xp12, .ref xp16]) = xH17 at xu17 xf17 ⊢
    have xw16 := xu17
    have xw15 := xu16.trans xw16
    have xw14 := xu15.trans xw15
    have xw13 := xu14.trans xw14
    have xw12 := xu13.trans xw13
    have xw11 := xu12.trans xw12
    have xw10 := xu11.trans xw11
    have xw9 := xu10.trans xw10
    have xw8 := xu9.trans xw9
    have xw7 := xu8.trans xw8
    have xw6 := xu7.trans xw7
    have xw5 := xu6.trans xw6
    have xw4 := xu5.trans xw5
    have xw3 := xu4.trans xw4
    have xw2 := xu3.trans xw3
    have xw1 := xu2.trans xw2
    have xg1 := xw1 _ _ xf1
    have xg2 := xw2 _ _ xf2
    have xg3 := xw3 _ _ xf3
    have xg4 := xw4 _ _ xf4
    have xg5 := xw5 _ _ xf5
    have xg6 := xw6 _ _ xf6
    have xg7 := xw7 _ _ xf7
    have xg8 := xw8 _ _ xf8
    have xg9 := xw9 _ _ xf9
    have xg10 := xw10 _ _ xf10
    have xg11 := xw11 _ _ xf11
    have xg12 := xw12 _ _ xf12
    have xg13 := xw13 _ _ xf13
    have xg14 := xw14 _ _ xf14
    have xg15 := xw15 _ _ xf15
    have xg16 := xw16 _ _ xf16
    have xg17 := xf17
    have xt := xu1.trans xw1
    walk_at "rr"
    refine ⟨_, _, rfl, xt, xg17, fun y hy => ?_⟩
    simp only [List.mem_cons, List.not_mem_nil, or_false] at hy
    rcases hy with rfl | rfl | rfl | rfl
    · exact ⟨_, _, _, [(0, 1), (1, 2)], _, rfl, xg4, xg3, ⟨⟨xp1, rfl, xg1⟩, ⟨xp2, rfl, xg2⟩, trivial⟩, by simp, by decide⟩
    · exact ⟨_, _, _, [(0, 1), (0, 2)], _, rfl, xg8, xg7, ⟨⟨xp5, rfl, xg5⟩, ⟨xp6, rfl, xg6⟩, trivial⟩, by simp, by decide⟩
    · exact ⟨_, _, _, [(0, 2), (1, 2)], _, rfl, xg12, xg11, ⟨⟨xp9, rfl, xg9⟩, ⟨xp10, rfl, xg10⟩, trivial⟩, by simp, by decide⟩
    · exact ⟨_, _, _, [(0, 0), (1, 2)], _, rfl, xg16, xg15, ⟨⟨xp13, rfl, xg13⟩, ⟨xp14, rfl, xg14⟩, trivial⟩, by simp, by decide⟩
  rintro σ H1 ⟨sm, ys, rfl, s1, hsm, hys⟩
  walk_at "rr"
  refine rd_joinF (fun σ H2 => ∃ v1 v2, σ = [some (.ref sm), v1, v2, none, none, none] ∧ Same H1 H2) ?_ ?_
  · walk_at "rr"
    refine ⟨sm, rfl, ⟨_, SqL.of hsm⟩, for_listF (K := K) (a := sm) (xs := ys) (fun i σ H2 => ∃ v1 v2, σ = [some (.ref sm), v1, v2, none, none, none] ∧ Same H1 H2) ⟨none, none, rfl, Same.refl _⟩ (fun i σ H2 _ hh => ?_) ?_ ?_⟩
    · obtain ⟨_, _, _, ss⟩ := hh
      exact SqL.of (ss _ _ hsm)
    · rintro i y σ H2 hi ⟨v1, v2, rfl, s2⟩
      obtain ⟨t, l, xs, ps, b, rfl, ht, hl, hp, len, due⟩ := (hys y (List.mem_of_getElem? hi)).same s2
      refine ⟨_, _, rfl, SqT.of ht, rfl, _, _, rfl, _, _, rfl, rfl, ?_⟩
      walk_at "rr"
      refine ⟨small (by simp), fun p1 h1 => ?_⟩
      have u1 := same_new h1 (.lst ([1, 2].map V.int))
      walk_at "rr"
      intro z dz hz hdz _
      refine mkF_use (cs := [1, 2]) hz hdz upd_same (u1 _ _ hl) (hp.same u1) (by simp) (by omega) fun cB sB H3 s3 fa _ _ _ => ?_
      obtain ⟨⟨dz', fz, hz3, m1, m2, m3⟩, _, _, _⟩ := id fa
      walk_at "rr"
      refine rd_meth MF (hr.mono (by decide)) hz3 m3 ?_
      walk_at "rr"
      refine ⟨small (by simp), fun p2 h2 => ?_⟩
      have u2 := same_new h2 (.lst ([5, 5, 5].map V.int))
      walk_at "rr"
      have lp := hp.len
      refine ⟨z, p2, cB, sB, [5, 5, 5], 6, [1, 2], xs, ps, rfl, SqL.of upd_same, by simp, good555, by decide, fa.same u2, by simp, by omega, fun H4 s4 => ?_⟩
      walk_at "rr"
      refine ⟨_, _, rfl, ?_⟩
      rw [due, decide_eq_true rfl]
      walk_at "rr"
      exact ⟨_, _, rfl, s2.trans (u1.trans (s3.trans (u2.trans s4)))⟩
    · rintro σ H2 ⟨v1, v2, rfl, s2⟩
      exact ⟨v1, v2, rfl, s2⟩
  rintro σ H2 ⟨v1, v2, rfl, s2⟩
  have s2 := s1.trans s2
  clear hys hsm s1
  walk_at "rr"
  refine rd_joinF (fun σ H3 => ∃ v1 v2 v3, σ = [some (.ref sm), v1, v2, v3, none, none] ∧ Same H2 H3) ?_ ?_
  · walk_at "rr"
    walk_at "rr"
    refine ⟨small (by simp), fun yp1 yh1 => ?_⟩
    have yu1 := same_new yh1 (.tup [.int 0, .int 1])
    have yf1 := fresh_of5 yu1
    generalize upd H2 yp1 (.tup [.int 0, .int 1]) = yH1 at yu1 yf1 ⊢
    walk_at "rr"
    refine ⟨small (by simp), fun yp2 yh2 => ?_⟩
    have yu2 := same_new yh2 (.tup [.int 1, .int 2])
    have yf2 := fresh_of5 yu2
    generalize upd yH1 yp2 (.tup [.int 1, .int 2]) = yH2 at yu2 yf2 ⊢
    walk_at "rr"
    refine ⟨small (by simp), fun yp3 yh3 => ?_⟩
    have yu3 := same_new yh3 (.lst [.ref yp1, .ref yp2])
    have yf3 := fresh_of5 yu3
    generalize upd yH2 yp3 (.lst [.ref yp1, .ref yp2]) = yH3 at yu3 yf3 ⊢
    walk_at "rr"
    refine ⟨small (by simp), fun yp4 yh4 => ?_⟩
    have yu4 := same_new yh4 (.tup [.int 10, .ref yp3, .bl true])
    have yf4 := fresh_of5 yu4
    generalize upd yH3 yp4 (.tup [.int 10, .ref yp3, .bl true]) = yH4 at yu4 yf4 ⊢
    walk_at "rr"
    refine ⟨small (by simp), fun yp5 yh5 => ?_⟩
    have yu5 := same_new yh5 (.tup [.int 0, .int 1])
    have yf5 := fresh_of5 yu5
    generalize upd yH4 yp5 (.tup [.int 0, .int 1]) = yH5 at yu5 yf5 ⊢
    walk_at "rr"
    refine ⟨small (by simp), fun yp6 yh6 => ?_⟩
    have yu6 := same_new yh6 (.lst [.ref yp5])
    have yf6 := fresh_of5 yu6
    generalize upd yH5 yp6 (.lst [.ref yp5]) = yH6 at yu6 yf6 ⊢
    walk_at "rr"
    refine ⟨small (by simp), fun yp7 yh7 => ?_⟩
    have yu7 := same_new yh7 (.tup [.int 10, .ref yp6, .bl false])
    have yf7 := fresh_of5 yu7
    generalize upd yH6 yp7 (.tup [.int 10, .ref yp6, .bl false]) = yH7 at yu7 yf7 ⊢
    walk_at "rr"
    refine ⟨small (by simp), fun yp8 yh8 => ?_⟩
    have yu8 := same_new yh8 (.tup [.int 0, .int 1])
    have yf8 := fresh_of5 yu8
    generalize upd yH7 yp8 (.tup [.int 0, .int 1]) = yH8 at yu8 yf8 ⊢
    walk_at "rr"
    refine ⟨small (by simp), fun yp9 yh9 => ?_⟩
    have yu9 := same_new yh9 (.tup [.int 1, .int 2])
    have yf9 := fresh_of5 yu9
    generalize upd yH8 yp9 (.tup [.int 1, .int 2]) = yH9 at yu9 yf9 ⊢
    walk_at "rr"
    refine ⟨small (by simp), fun yp10 yh10 => ?_⟩
    have yu10 := same_new yh10 (.lst [.ref yp8, .ref yp9])
    have yf10 := fresh_of5 yu10
    generalize upd yH9 yp10 (.lst [.ref yp8, .ref yp9]) = yH10 at yu10 yf10 ⊢
    walk_at "rr"
    refine ⟨small (by simp), fun yp11 yh11 => ?_⟩
    have yu11 := same_new yh11 (.tup [.int 9, .ref yp10, .bl false])
    have yf11 := fresh_of5 yu11
    generalize upd yH10 yp11 (.tup [.int 9, .ref yp10, .bl false]) = yH11 at yu11 yf11 ⊢
    walk_at "rr"
    refine ⟨small (by simp), fun yp12 yh12 => ?_⟩
    have yu12 := same_new yh12 (.lst [.ref yp4, .ref yp7, .ref yp11])
    have yf12 := fresh_of5 yu12
    generalize upd yH11 yp12 (.lst [.ref yp4, .ref yp7, .ref yp11]) = yH12 at yu12 yf12 ⊢
    have yw11 := yu12
    have yw10 := yu11.trans yw11
    have yw9 := yu10.trans yw10
    have yw8 := yu9.trans yw9
    have yw7 := yu8.trans yw8
    have yw6 := yu7.trans yw7
    have yw5 := yu6.trans yw6
    have yw4 := yu5.trans yw5
    have yw3 := yu4.trans yw4
    have yw2 := yu3.trans yw3
    have yw1 := yu2.trans yw2
    have yg1 := yw1 _ _ yf1
    have yg2 := yw2 _ _ yf2
    have yg3 := yw3 _ _ yf3
    have yg4 := yw4 _ _ yf4
    have yg5 := yw5 _ _ yf5
    have yg6 := yw6 _ _ yf6
    have yg7 := yw7 _ _ yf7
    have yg8 := yw8 _ _ yf8
    have yg9 := yw9 _ _ yf9
    have yg10 := yw10 _ _ yf10
    have yg11 := yw11 _ _ yf11
    have yg12 := yf12
    have yt := yu1.trans yw1
    have hys : ∀ y ∈ ([.ref yp4, .ref yp7, .ref yp11] : List V), LeastItem yH12 y := by
      intro y hy
      simp only [List.mem_cons, List.not_mem_nil, or_false] at hy
      rcases hy with rfl | rfl | rfl
      · exact ⟨_, _, 10, _, [(0, 1), (1, 2)], _, rfl, yg4, yg3, ⟨⟨yp1, rfl, yg1⟩, ⟨yp2, rfl, yg2⟩, trivial⟩, by simp, by decide⟩
      · exact ⟨_, _, 10, _, [(0, 1)], _, rfl, yg7, yg6, ⟨⟨yp5, rfl, yg5⟩, trivial⟩, by simp, by decide⟩
      · exact ⟨_, _, 9, _, [(0, 1), (1, 2)], _, rfl, yg11, yg10, ⟨⟨yp8, rfl, yg8⟩, ⟨yp9, rfl, yg9⟩, trivial⟩, by simp, by decide⟩
    have hsm := yg12
    generalize ([.ref yp4, .ref yp7, .ref yp11] : List V) = ys at hys hsm
    clear yg1 yg2 yg3 yg4 yg5 yg6 yg7 yg8 yg9 yg10 yg11 yg12 yu1 yf1 yh1 yu2 yf2 yh2 yu3 yf3 yh3 yu4 yf4 yh4 yu5 yf5 yh5 yu6 yf6 yh6 yu7 yf7 yh7 yu8 yf8 yh8 yu9 yf9 yh9 yu10 yf10 yh10 yu11 yf11 yh11 yu12 yf12 yh12 yw1 yw2 yw3 yw4 yw5 yw6 yw7 yw8 yw9 yw10 yw11
    refine ⟨yp12, rfl, ⟨_, SqL.of hsm⟩, for_listF (K := K) (a := yp12) (xs := ys) (fun i σ H3 => ∃ v1 v2 v3, σ = [some (.ref sm), v1, v2, v3, none, none] ∧ Same yH12 H3) ⟨_, _, _, rfl, Same.refl _⟩ (fun i σ H3 _ hh => ?_) ?_ ?_⟩
    · obtain ⟨_, _, _, _, ss⟩ := hh
      exact SqL.of (ss _ _ hsm)
    · rintro i y σ H3 hi ⟨v1, v2, v3, rfl, s3⟩
      obtain ⟨t, l, n, xs, ps, b, rfl, ht, hl, hp, len, due⟩ := (hys y (List.mem_of_getElem? hi)).same s3
      refine ⟨_, _, rfl, SqT.of ht, rfl, _, _, rfl, _, _, rfl, _, _, rfl, rfl, ?_⟩
      walk_at "rr"
      refine ⟨small (by simp), fun p1 h1 => ?_⟩
      have u1 := same_new h1 (.lst ([1].map V.int))
      walk_at "rr"
      intro z dz hz hdz _
      refine mkL_use (cs := [1]) hz hdz upd_same (u1 _ _ hl) (hp.same u1) (by simp) (by omega) fun cB sB H4 s4 fa _ _ _ => ?_
      obtain ⟨⟨dz', fz, hz3, m1, m2, m3, m4⟩, _, _, _⟩ := id fa
      walk_at "rr"
      refine rd_meth ML (hr.mono (by decide)) hz3 m4.1 ?_
      walk_at "rr"
      refine ⟨small (by simp), fun p2 h2 => ?_⟩
      have u2 := same_new h2 (.lst ([5, 5, 5].map V.int))
      walk_at "rr"
      have lp := hp.len
      refine ⟨z, p2, cB, sB, [5, 5, 5], 2, [1], n, xs, ps, rfl, SqL.of upd_same, by simp, good555, by decide, fa.same u2, by simp, by omega, fun H5 s5 => ?_⟩
      walk_at "rr"
      refine ⟨_, _, rfl, ?_⟩
      rw [due, decide_eq_true rfl]
      walk_at "rr"
      exact ⟨_, _, _, rfl, s3.trans (u1.trans (s4.trans (u2.trans s5)))⟩
    · rintro σ H3 ⟨v1, v2, v3, rfl, s3⟩
      exact ⟨v1, v2, v3, rfl, yt.trans s3⟩
  rintro σ H3 ⟨v1, v2, v3, rfl, s3⟩
  have s3 := s2.trans s3
  clear s2
  walk_at "rr"
  refine rd_joinF (fun σ H4 => ∃ (sm : Addr) (ys : List V), σ = [some (.ref sm), v1, v2, v3, none, none] ∧ Same H3 H4 ∧ H3 sm = none ∧ H4 sm = some (.lst ys) ∧ ys.length = 4 ∧ ∃ H5, Same H3 H5 ∧ H5 sm = none ∧ Same H5 H4 ∧ ∀ y ∈ ys, MostItem H5 y) ?_ ?_
  · walk_at "rr"
    walk_at "rr"
    refine ⟨small (by simp), fun zp1 zh1 => ?_⟩
    have zu1 := same_new zh1 (.lst [.int 1])
    have zf1 := fresh_of5 zu1
    generalize upd H3 zp1 (.lst [.int 1]) = zH1 at zu1 zf1 ⊢
    walk_at "rr"
    refine ⟨small (by simp), fun zp2 zh2 => ?_⟩
    have zu2 := same_new zh2 (.lst [.int 0, .int 1])
    have zf2 := fresh_of5 zu2
    generalize upd zH1 zp2 (.lst [.int 0, .int 1]) = zH2 at zu2 zf2 ⊢
    walk_at "rr"
    refine ⟨small (by simp), fun zp3 zh3 => ?_⟩
    have zu3 := same_new zh3 (.tup [.ref zp1, .ref zp2, .bl true])
    have zf3 := fresh_of5 zu3
    generalize upd zH2 zp3 (.tup [.ref zp1, .ref zp2, .bl true]) = zH3 at zu3 zf3 ⊢
    walk_at "rr"
    refine ⟨small (by simp), fun zp4 zh4 => ?_⟩
    have zu4 := same_new zh4 (.lst [.int 1])
    have zf4 := fresh_of5 zu4
    generalize upd zH3 zp4 (.lst [.int 1]) = zH4 at zu4 zf4 ⊢
    walk_at "rr"
    refine ⟨small (by simp), fun zp5 zh5 => ?_⟩
    have zu5 := same_new zh5 (.lst [.int 0, .int 2])
    have zf5 := fresh_of5 zu5
    generalize upd zH4 zp5 (.lst [.int 0, .int 2]) = zH5 at zu5 zf5 ⊢
    walk_at "rr"
    refine ⟨small (by simp), fun zp6 zh6 => ?_⟩
    have zu6 := same_new zh6 (.tup [.ref zp4, .ref zp5, .bl false])
    have zf6 := fresh_of5 zu6
    generalize upd zH5 zp6 (.tup [.ref zp4, .ref zp5, .bl false]) = zH6 at zu6 zf6 ⊢
    walk_at "rr"
    refine ⟨small (by simp), fun zp7 zh7 => ?_⟩
    have zu7 := same_new zh7 (.lst [])
    have zf7 := fresh_of5 zu7
    generalize upd zH6 zp7 (.lst []) = zH7 at zu7 zf7 ⊢
    walk_at "rr"
    refine ⟨small (by simp), fun zp8 zh8 => ?_⟩
    have zu8 := same_new zh8 (.lst [.int 1])
    have zf8 := fresh_of5 zu8
    generalize upd zH7 zp8 (.lst [.int 1]) = zH8 at zu8 zf8 ⊢
    walk_at "rr"
    refine ⟨small (by simp), fun zp9 zh9 => ?_⟩
    have zu9 := same_new zh9 (.tup [.ref zp7, .ref zp8, .bl false])
    have zf9 := fresh_of5 zu9
    generalize upd zH8 zp9 (.tup [.ref zp7, .ref zp8, .bl false]) = zH9 at zu9 zf9 ⊢
    walk_at "rr"
    refine ⟨small (by simp), fun zp10 zh10 => ?_⟩
    have zu10 := same_new zh10 (.lst [.int 2])
    have zf10 := fresh_of5 zu10
    generalize upd zH9 zp10 (.lst [.int 2]) = zH10 at zu10 zf10 ⊢
    walk_at "rr"
    refine ⟨small (by simp), fun zp11 zh11 => ?_⟩
    have zu11 := same_new zh11 (.lst [.int 0, .int 1])
    have zf11 := fresh_of5 zu11
    generalize upd zH10 zp11 (.lst [.int 0, .int 1]) = zH11 at zu11 zf11 ⊢
    walk_at "rr"
    refine ⟨small (by simp), fun zp12 zh12 => ?_⟩
    have zu12 := same_new zh12 (.tup [.ref zp10, .ref zp11, .bl false])
    have zf12 := fresh_of5 zu12
    generalize upd zH11 zp12 (.tup [.ref zp10, .ref zp11, .bl false]) = zH12 at zu12 zf12 ⊢
    have zw11 := zu12
    have zw10 := zu11.trans zw11
    have zw9 := zu10.trans zw10
    have zw8 := zu9.trans zw9
    have zw7 := zu8.trans zw8
    have zw6 := zu7.trans zw7
    have zw5 := zu6.trans zw6
    have zw4 := zu5.trans zw5
    have zw3 := zu4.trans zw4
    have zw2 := zu3.trans zw3
    have zw1 := zu2.trans zw2
    have zg1 := zw1 _ _ zf1
    have zg2 := zw2 _ _ zf2
    have zg3 := zw3 _ _ zf3
    have zg4 := zw4 _ _ zf4
    have zg5 := zw5 _ _ zf5
    have zg6 := zw6 _ _ zf6
    have zg7 := zw7 _ _ zf7
    have zg8 := zw8 _ _ zf8
    have zg9 := zw9 _ _ zf9
    have zg10 := zw10 _ _ zf10
    have zg11 := zw11 _ _ zf11
    have zg12 := zf12
    have zt := zu1.trans zw1
    walk_at "rr"
    refine ⟨small (by simp), fun sm' hsm => ?_⟩
    have u := same_new hsm (.lst [.ref zp3, .ref zp6, .ref zp9, .ref zp12])
    walk_at "rr"
    refine ⟨sm', _, rfl, zt.trans u, zt.free hsm, upd_same, rfl, zH12, zt, hsm, u, fun y hy => ?_⟩
    simp only [List.mem_cons, List.not_mem_nil, or_false] at hy
    rcases hy with rfl | rfl | rfl | rfl
    · exact ⟨_, _, _, [1], [0, 1], _, rfl, zg3, zg1, zg2, by simp, by simp, by decide⟩
    · exact ⟨_, _, _, [1], [0, 2], _, rfl, zg6, zg4, zg5, by simp, by simp, by decide⟩
    · exact ⟨_, _, _, [], [1], _, rfl, zg9, zg7, zg8, by simp, by simp, by decide⟩
    · exact ⟨_, _, _, [2], [0, 1], _, rfl, zg12, zg10, zg11, by simp, by simp, by decide⟩
  rintro σ H4 ⟨sm', ys, rfl, s4, fsm, hsm, yl, H5, s5, fsm5, s54, hys⟩
  walk_at "rr"
  refine rd_joinF (fun σ H6 => ∃ (ys : List V), σ = [some (.ref sm'), v1, v2, v3, none, none] ∧ Same H3 H6 ∧ H6 sm' = some (.lst ys) ∧ ∀ y ∈ ys, MostItem H6 y) ?_ ?_
  · walk_at "rr"
    refine ⟨tyL (SqL.of hsm), ?_⟩
    walk_at "rr"
    refine ⟨small (by simp), fun qp1 qh1 => ?_⟩
    have qu1 := same_new qh1 (.lst [.int 1, .int 2])
    have qf1 := fresh_of5 qu1
    generalize upd H4 qp1 (.lst [.int 1, .int 2]) = qH1 at qu1 qf1 ⊢
    walk_at "rr"
    refine ⟨small (by simp), fun qp2 qh2 => ?_⟩
    have qu2 := same_new qh2 (.lst [.int 0, .int 1, .int 2])
    have qf2 := fresh_of5 qu2
    generalize upd qH1 qp2 (.lst [.int 0, .int 1, .int 2]) = qH2 at qu2 qf2 ⊢
    walk_at "rr"
    refine ⟨small (by simp), fun qp3 qh3 => ?_⟩
    have qu3 := same_new qh3 (.tup [.ref qp1, .ref qp2, .bl false])
    have qf3 := fresh_of5 qu3
    generalize upd qH2 qp3 (.tup [.ref qp1, .ref qp2, .bl false]) = qH3 at qu3 qf3 ⊢
    have qw2 := qu3
    have qw1 := qu2.trans qw2
    have qg1 := qw1 _ _ qf1
    have qg2 := qw2 _ _ qf2
    have qg3 := qf3
    have qt := qu1.trans qw1
    walk_at "rr"
    have n1 : qp1 ≠ sm' := ne_old hsm qh1
    have n2 : qp2 ≠ sm' := ne_old (qu1 _ _ hsm) qh2
    have n3 : qp3 ≠ sm' := ne_old ((qu1.trans qu2) _ _ hsm) qh3
    refine rd_append (qt _ _ hsm) (small1000 (by omega)) ?_
    walk_at "rr"
    have s7 : Same H5 (upd qH3 sm' (.lst (ys ++ [.ref qp3]))) := same_upd (s54.trans qt) fsm5 _
    refine ⟨_, rfl, s5.trans s7, upd_same, fun y hy => ?_⟩
    rcases List.mem_append.mp hy with z | z
    · exact (hys y z).same s7
    · rw [List.mem_singleton.mp z]
      exact ⟨_, _, _, [1, 2], [0, 1, 2], _, rfl, by rw [upd_ne n3]; exact qg3, by rw [upd_ne n1]; exact qg1, by rw [upd_ne n2]; exact qg2, by simp, by simp, by decide⟩
  clear hys s54 fsm5 s5 hsm fsm s4 yl
  rintro σ H6 ⟨ys, rfl, s6, hsm, hys⟩
  have s6 := s3.trans s6
  walk_at "rr"
  refine rd_joinF (fun σ H7 => ∃ v2 v4 v5, σ = [some (.ref sm'), v1, v2, v3, v4, v5] ∧ Same H6 H7) ?_ ?_
  · walk_at "rr"
    refine ⟨sm', rfl, ⟨_, SqL.of hsm⟩, for_listF (K := K) (a := sm') (xs := ys) (fun i σ H7 => ∃ v2 v4 v5, σ = [some (.ref sm'), v1, v2, v3, v4, v5] ∧ Same H6 H7) ⟨_, none, none, rfl, Same.refl _⟩ (fun i σ H7 _ hh => ?_) ?_ ?_⟩
    · obtain ⟨_, _, _, _, ss⟩ := hh
      exact SqL.of (ss _ _ hsm)
    · rintro i y σ H7 hi ⟨v2, v4, v5, rfl, s7⟩
      obtain ⟨t, l, m, cs, pl, b, rfl, ht, hl, hm, len, len2, due⟩ := (hys y (List.mem_of_getElem? hi)).same s7
      refine ⟨_, _, rfl, SqT.of ht, rfl, _, _, rfl, _, _, rfl, _, _, rfl, rfl, ?_⟩
      walk_at "rr"
      intro z dz hz hdz _
      refine mkM_use hz hdz hl hm (by omega) (by omega) fun cB sB H8 s8 fa _ _ _ => ?_
      obtain ⟨⟨dz', fz, hz3, m1, m2, m3⟩, _, _⟩ := id fa
      walk_at "rr"
      refine rd_meth MM (hr.mono (by decide)) hz3 m3.1 ?_
      walk_at "rr"
      refine ⟨small (by simp), fun p2 h2 => ?_⟩
      have u2 := same_new h2 (.lst ([3, 3, 2].map V.int))
      walk_at "rr"
      refine ⟨z, p2, cB, sB, [3, 3, 2], 3, cs, pl, rfl, SqL.of upd_same, by simp, good332, by decide, fa.same u2, by omega, by omega, fun H9 s9 => ?_⟩
      walk_at "rr"
      refine ⟨_, _, rfl, ?_⟩
      rw [due, decide_eq_true rfl]
      walk_at "rr"
      exact ⟨_, _, _, rfl, s7.trans (s8.trans (u2.trans s9))⟩
    · rintro σ H7 ⟨v2, v4, v5, rfl, s7⟩
      exact ⟨v2, v4, v5, rfl, s7⟩
  rintro σ H7 ⟨v2, v4, v5, rfl, s7⟩
  have s7 := s6.trans s7
  clear hys hsm s6
  walk_at "rr"
  refine ⟨Nat.zero_le _, fun p1 h1 => ?_⟩
  have u1 := same_new h1 (.lst [])
  walk_at "rr"
  refine ⟨Nat.zero_le _, fun p2 h2 => ?_⟩
  have u2 := same_new h2 (.lst [])
  walk_at "rr"
  intro z dz hz hdz _
  refine mkL_use (cs := []) (xs := []) (ps := []) hz hdz (u2 _ _ upd_same) upd_same trivial (by simp) (by simp) fun cB sB H8 s8 fa _ _ _ => ?_
  obtain ⟨⟨dz', fz, hz3, m1, m2, m3, m4⟩, _, _, _⟩ := id fa
  walk_at "rr"
  refine rd_meth ML (hr.mono (by decide)) hz3 m4.1 ?_
  walk_at "rr"
  refine ⟨small (by simp), fun p3 h3 => ?_⟩
  have u3 := same_new h3 (.lst ([0, 0].map V.int))
  walk_at "rr"
  refine ⟨z, p3, cB, sB, [0, 0], 1, [], 0, [], [], rfl, SqL.of upd_same, by simp, good00, by decide, fa.same u3, by simp, by simp, fun H9 s9 => ?_⟩
  rw [show dueL [0, 0] 1 [] 0 [] = true by decide]
  walk_at "rr"
  refine ⟨_, _, rfl, ?_⟩
  rw [decide_eq_true rfl]
  walk_at "rr"
  have s10 := s7.trans (u1.trans (u2.trans (s8.trans (u3.trans s9))))
  refine ⟨Nat.zero_le _, fun p1 h1 => ?_⟩
  have u1 := same_new h1 (.lst [])
  walk_at "rr"
  refine ⟨Nat.zero_le _, fun p2 h2 => ?_⟩
  have u2 := same_new h2 (.lst [])
  walk_at "rr"
  intro z dz hz hdz _
  refine mkL_use (cs := []) (xs := []) (ps := []) hz hdz (u2 _ _ upd_same) upd_same trivial (by simp) (by simp) fun cB sB H8 s8 fa _ _ _ => ?_
  obtain ⟨⟨dz', fz, hz3, m1, m2, m3, m4⟩, _, _, _⟩ := id fa
  walk_at "rr"
  refine rd_meth ML (hr.mono (by decide)) hz3 m4.1 ?_
  walk_at "rr"
  refine ⟨small (by simp), fun p3 h3 => ?_⟩
  have u3 := same_new h3 (.lst ([0, 0].map V.int))
  walk_at "rr"
  refine ⟨z, p3, cB, sB, [0, 0], 1, [], 7, [], [], rfl, SqL.of upd_same, by simp, good00, by decide, fa.same u3, by simp, by simp, fun H9 s9 => ?_⟩
  rw [show dueL [0, 0] 1 [] 7 [] = false by decide]
  walk_at "rr"
  refine ⟨_, _, rfl, ?_⟩
  rw [decide_eq_true rfl]
  exact q _ (s10.trans (u1.trans (u2.trans (s8.trans (u3.trans s9)))))
end
section
variable {P : Program} {w : World} {K : PySem.W.Frag} {mg : Str → Option Value} {base : Heap} {f : Addr} {fd : FuncData} {ca : CA}
theorem sc_law : FnScope ["_law_script", "_law_row_here", "_law_k", "_law_cell"] ["_law_script"] (defScope (top 54)) := ⟨rfl, rfl, rfl, by decide +kernel, rfl, by decide +kernel, by decide +kernel⟩
theorem ok_law (T : Txt mg) (C_law_cell_at : Callee P w K mg base "_law_cell_at" ["_law_script", "_law_k"] 1 (spCell K)) (C_law_row : Callee P w K mg base "_law_row" ["_law_script"] 2 (spRow K))
    (C_law_few_right : Callee P w K mg base "_law_few_right" [] 11 spFew) (C_law_fewest_right : Callee P w K mg base "_law_fewest_right" ["_law_row_here", "_law_cell"] 10 spPart) (C_law_least_right : Callee P w K mg base "_law_least_right" ["_law_row_here", "_law_cell"] 11 spPart) (C_law_most_right : Callee P w K mg base "_law_most_right" ["_law_row_here", "_law_cell"] 11 spPart)
    (F : Fun K "law" "law" (top 54) f fd) : FnOk P w K mg base CX0 12 f fd ["_law_script"] (spLaw K) := by
  have S := sc_law
  refine F.ok S (fun vs H Q E h => ?_) (fun cdv A outer s H vs Q E hr h => ?_)
  · obtain ⟨a, ns, rfl, _⟩ := h
    rfl
  obtain ⟨a, ns, rfl, hS, hl, q⟩ := h
  refine ⟨_, (pss_cons (ps_set (i := 1) S.nd rfl (Or.inl rfl) (pe_callC C_law_row (hr.mono (by decide)) rfl (pa_cons (pv 0) pa_nil)))
    (pss_cons (ps_if (pt_not (pt_val (pe_callC0 C_law_few_right (hr.mono (by decide)) rfl)))
      (pss_one (ps_ret pe_bl))
      pss_nil)
    (pss_cons (ps_for PassesOwn.never rfl (pi_range1 rfl T.b_range (pa_cons pe_int pa_nil)) (pg_name (i := 2) S.nd rfl (Or.inl rfl))
      (pss_cons (ps_set (i := 3) S.nd rfl (Or.inl rfl) (pe_op op_add (pe_op op_add (pe_callC C_law_cell_at (hr.mono (by decide)) rfl (pa_cons (pv 0) (pa_cons (pv 2) pa_nil))) (pe_op op_mul pe_int (pv 2))) (pe_op op_mul pe_int (pe_callC C_law_cell_at (hr.mono (by decide)) rfl (pa_cons (pv 0) (pa_cons (pe_op op_add (pv 2) pe_int) pa_nil))))))
      (pss_one (ps_if (PW.pt (pw_or (pt_not (pt_val (pe_callC C_law_fewest_right (hr.mono (by decide)) rfl (pa_cons (pv 1) (pa_cons (pv 3) pa_nil))))) (pw_or (pt_not (pt_val (pe_callC C_law_least_right (hr.mono (by decide)) rfl (pa_cons (pv 1) (pa_cons (pv 3) pa_nil))))) (pw_or1 (pt_not (pt_val (pe_callC C_law_most_right (hr.mono (by decide)) rfl (pa_cons (pv 1) (pa_cons (pv 3) pa_nil)))))))))
        (pss_one (ps_ret pe_bl))
        pss_nil))))
    (pss_one (ps_ret pe_bl))))), ?_⟩
  try dsimp only [cxOf, Cx.nox, Cx.wish]
  walk_at "rr"
  refine ⟨a, ns, rfl, hS, hl, fun rw' H1 ms ml gm s1 n1 hrr => ?_⟩
  walk_at "rr"
  refine ⟨rfl, fun H2 s2 => ?_⟩
  have s12 := s1.trans s2
  have hr2 := s2 _ _ hrr
  walk_at "rr"
  refine ⟨_, rfl, by decide, by decide, for_rangeF (lo := 0) (k := 4) (fun i σ H3 => ∃ v1 v2, σ = [some (.ref a), some (.ref rw'), v1, v2] ∧ Same H2 H3) ⟨none, none, rfl, Same.refl _⟩ ?_ ?_⟩
  · rintro i σ H3 hi ⟨v1, v2, rfl, s3⟩
    have hS3 := (s12.trans s3).seq hS
    walk_at "rr"
    refine ⟨a, ns, _, rfl, hS3, by omega, fun c1 => ?_⟩
    walk_at "rr"
    refine rd_I (.inl ⟨by decide, by decide⟩) ?_
    walk_at "rr"
    refine ⟨a, ns, _, rfl, hS3, by omega, fun c2 => ?_⟩
    walk_at "rr"
    refine rd_I (.inl ⟨by decide, by decide⟩) ?_
    walk_at "rr"
    refine ⟨rw', _, ms, rfl, s3 _ _ hr2, by omega, gm, fun H4 s4 => ?_⟩
    walk_at "rr"
    refine ⟨rw', _, ms, rfl, (s3.trans s4) _ _ hr2, by omega, gm, fun H5 s5 => ?_⟩
    walk_at "rr"
    refine ⟨rw', _, ms, rfl, ((s3.trans s4).trans s5) _ _ hr2, by omega, gm, fun H6 s6 => ?_⟩
    walk_at "rr"
    exact ⟨_, _, rfl, ((s3.trans s4).trans s5).trans s6⟩
  · rintro σ H3 ⟨v1, v2, rfl, s3⟩
    walk_at "rr"
    exact q _
end
theorem callee_mk {P : Program} {w : World} {K : PySem.W.Frag} {mg : Str → Option Value} {base : Heap} {x qual : Str} {st : Stmt} {ps : List Str} {k : Nat} {sp : Sp} {f : Addr} {fd : FuncData} (F : Fun K x qual st f fd) (hm : mg x = some (.ref f)) (hb : Binds K fd ps []) (G : FnOk P w K mg base CX0 k f fd ps sp) : Callee P w K mg base x ps k sp := ⟨f, fd, G, hm, F.kp, hb⟩
theorem all_mk {l : PySem.W.OpenLaw} {w : World} {K : PySem.W.Frag} {h : Heap} {mg : Str → Option Value} {fa f0 f1 f2 f3 f4 f5 f6 f7 f8 f9 f10 f11 f12 f13 f14 f15 f16 f17 f18 f19 f20 f21 f22 f23 f24 f25 f26 f27 f28 f29 f30 f31 f32 f33 f34 f35 f36 f37 f38 f39 f40 f41 f42 f43 f44 f45 f46 f47 C_Fewest C_Great C_Least C_Most : Addr} (X : K.In h) (G : h.Ns mainGlobals mg) (hfa : mg "law" = some (.ref fa))
    {od0 an0 od1 an1 od2 an2 od3 an3 od4 an4 od5 an5 od6 an6 od7 an7 od8 an8 od9 an9 od10 an10 od11 an11 od12 an12 od13 an13 od14 an14 od15 an15 od16 an16 od17 an17 od18 an18 od19 an19 od20 an20 od21 an21 od22 an22 od23 an23 od24 an24 od25 an25 od26 an26 od27 an27 od28 an28 od29 an29 od30 an30 od31 an31 od32 an32 od33 an33 od34 an34 od35 an35 od36 an36 od37 an37 od38 an38 od39 an39 od40 an40 od41 an41 od42 an42 od43 an43 od44 an44 od45 an45 od46 an46 od47 an47 : Option Addr} {sl0 sl1 sl2 sl3 sl4 sl5 sl6 sl7 sl8 sl9 sl10 sl11 sl12 sl13 sl14 sl15 sl16 sl17 sl18 sl19 sl20 sl21 sl22 sl23 sl24 sl25 sl26 sl27 sl28 sl29 sl30 sl31 sl32 sl33 sl34 sl35 sl36 sl37 sl38 sl39 sl40 sl41 sl42 sl43 sl44 sl45 sl46 sl47 : Array (Option Value)} {oc0 kV0 dc0 pm0 cd0 ct0 oc1 kV1 dc1 pm1 cd1 ct1 oc2 kV2 dc2 pm2 cd2 ct2 oc3 kV3 dc3 pm3 cd3 ct3 oc4 kV4 dc4 pm4 cd4 ct4 oc5 kV5 dc5 pm5 cd5 ct5 oc6 kV6 dc6 pm6 cd6 ct6 oc7 kV7 dc7 pm7 cd7 ct7 oc8 kV8 dc8 pm8 cd8 ct8 oc9 kV9 dc9 pm9 cd9 ct9 oc10 kV10 dc10 pm10 cd10 ct10 oc11 kV11 dc11 pm11 cd11 ct11 oc12 kV12 dc12 pm12 cd12 ct12 oc13 kV13 dc13 pm13 cd13 ct13 oc14 kV14 dc14 pm14 cd14 ct14 oc15 kV15 dc15 pm15 cd15 ct15 oc16 kV16 dc16 pm16 cd16 ct16 oc17 kV17 dc17 pm17 cd17 ct17 oc18 kV18 dc18 pm18 cd18 ct18 oc19 kV19 dc19 pm19 cd19 ct19 oc20 kV20 dc20 pm20 cd20 ct20 oc21 kV21 dc21 pm21 cd21 ct21 oc22 kV22 dc22 pm22 cd22 ct22 oc23 kV23 dc23 pm23 cd23 ct23 oc24 kV24 dc24 pm24 cd24 ct24 oc25 kV25 dc25 pm25 cd25 ct25 oc26 kV26 dc26 pm26 cd26 ct26 oc27 kV27 dc27 pm27 cd27 ct27 oc28 kV28 dc28 pm28 cd28 ct28 oc29 kV29 dc29 pm29 cd29 ct29 oc30 kV30 dc30 pm30 cd30 ct30 oc31 kV31 dc31 pm31 cd31 ct31 oc32 kV32 dc32 pm32 cd32 ct32 oc33 kV33 dc33 pm33 cd33 ct33 oc34 kV34 dc34 pm34 cd34 ct34 oc35 kV35 dc35 pm35 cd35 ct35 oc36 kV36 dc36 pm36 cd36 ct36 oc37 kV37 dc37 pm37 cd37 ct37 oc38 kV38 dc38 pm38 cd38 ct38 oc39 kV39 dc39 pm39 cd39 ct39 oc40 kV40 dc40 pm40 cd40 ct40 oc41 kV41 dc41 pm41 cd41 ct41 oc42 kV42 dc42 pm42 cd42 ct42 oc43 kV43 dc43 pm43 cd43 ct43 oc44 kV44 dc44 pm44 cd44 ct44 oc45 kV45 dc45 pm45 cd45 ct45 oc46 kV46 dc46 pm46 cd46 ct46 oc47 kV47 dc47 pm47 cd47 ct47 : Value} {t_MOST_LOAD t_MOST_LOADS : Tok}
    (aC_Fewest : PySem.W.nsIn K mainGlobals "Fewest" = some (some (.ref C_Fewest)))
    (aC_Great : PySem.W.nsIn K mainGlobals "Great" = some (some (.ref C_Great)))
    (aC_Least : PySem.W.nsIn K mainGlobals "Least" = some (some (.ref C_Least)))
    (aC_Most : PySem.W.nsIn K mainGlobals "Most" = some (some (.ref C_Most)))
    (a0 : PySem.W.nsIn K mainGlobals "is_whole" = some (some (.ref f0)))
    (l0 : K.lookup f0 = some ⟨oc0, od0, .func (PySem.W.fnOf "is_whole" "is_whole" (defArgs (top 7)) (defBody (top 7)) (defScope (top 7)) .none kV0 dc0 pm0 an0 cd0 ct0), sl0⟩)
    (c0 : PySem.W.codeIn K cd0 "is_whole" = true)
    (k0 : PySem.W.keepIn K (.ref f0) = true)
    (a1 : PySem.W.nsIn K mainGlobals "is_whole_from" = some (some (.ref f1)))
    (l1 : K.lookup f1 = some ⟨oc1, od1, .func (PySem.W.fnOf "is_whole_from" "is_whole_from" (defArgs (top 8)) (defBody (top 8)) (defScope (top 8)) .none kV1 dc1 pm1 an1 cd1 ct1), sl1⟩)
    (c1 : PySem.W.codeIn K cd1 "is_whole_from" = true)
    (k1 : PySem.W.keepIn K (.ref f1) = true)
    (a2 : PySem.W.nsIn K mainGlobals "is_load" = some (some (.ref f2)))
    (l2 : K.lookup f2 = some ⟨oc2, od2, .func (PySem.W.fnOf "is_load" "is_load" (defArgs (top 9)) (defBody (top 9)) (defScope (top 9)) .none kV2 dc2 pm2 an2 cd2 ct2), sl2⟩)
    (c2 : PySem.W.codeIn K cd2 "is_load" = true)
    (k2 : PySem.W.keepIn K (.ref f2) = true)
    (a3 : PySem.W.nsIn K mainGlobals "is_row" = some (some (.ref f3)))
    (l3 : K.lookup f3 = some ⟨oc3, od3, .func (PySem.W.fnOf "is_row" "is_row" (defArgs (top 10)) (defBody (top 10)) (defScope (top 10)) .none kV3 dc3 pm3 an3 cd3 ct3), sl3⟩)
    (c3 : PySem.W.codeIn K cd3 "is_row" = true)
    (k3 : PySem.W.keepIn K (.ref f3) = true)
    (a4 : PySem.W.nsIn K mainGlobals "check_row" = some (some (.ref f4)))
    (l4 : K.lookup f4 = some ⟨oc4, od4, .func (PySem.W.fnOf "check_row" "check_row" (defArgs (top 13)) (defBody (top 13)) (defScope (top 13)) .none kV4 dc4 pm4 an4 cd4 ct4), sl4⟩)
    (c4 : PySem.W.codeIn K cd4 "check_row" = true)
    (k4 : PySem.W.keepIn K (.ref f4) = true)
    (a5 : PySem.W.nsIn K mainGlobals "check_number" = some (some (.ref f5)))
    (l5 : K.lookup f5 = some ⟨oc5, od5, .func (PySem.W.fnOf "check_number" "check_number" (defArgs (top 28)) (defBody (top 28)) (defScope (top 28)) .none kV5 dc5 pm5 an5 cd5 ct5), sl5⟩)
    (c5 : PySem.W.codeIn K cd5 "check_number" = true)
    (k5 : PySem.W.keepIn K (.ref f5) = true)
    (a6 : PySem.W.nsIn K mainGlobals "first_above" = some (some (.ref f6)))
    (l6 : K.lookup f6 = some ⟨oc6, od6, .func (PySem.W.fnOf "first_above" "first_above" (defArgs (top 31)) (defBody (top 31)) (defScope (top 31)) .none kV6 dc6 pm6 an6 cd6 ct6), sl6⟩)
    (c6 : PySem.W.codeIn K cd6 "first_above" = true)
    (k6 : PySem.W.keepIn K (.ref f6) = true)
    (a7 : PySem.W.nsIn K mainGlobals "needed_cuts" = some (some (.ref f7)))
    (l7 : K.lookup f7 = some ⟨oc7, od7, .func (PySem.W.fnOf "needed_cuts" "needed_cuts" (defArgs (top 29)) (defBody (top 29)) (defScope (top 29)) .none kV7 dc7 pm7 an7 cd7 ct7), sl7⟩)
    (c7 : PySem.W.codeIn K cd7 "needed_cuts" = true)
    (k7 : PySem.W.keepIn K (.ref f7) = true)
    (a8 : PySem.W.nsIn K mainGlobals "needing_stretches" = some (some (.ref f8)))
    (l8 : K.lookup f8 = some ⟨oc8, od8, .func (PySem.W.fnOf "needing_stretches" "needing_stretches" (defArgs (top 30)) (defBody (top 30)) (defScope (top 30)) .none kV8 dc8 pm8 an8 cd8 ct8), sl8⟩)
    (c8 : PySem.W.codeIn K cd8 "needing_stretches" = true)
    (k8 : PySem.W.keepIn K (.ref f8) = true)
    (a9 : PySem.W.findIn K (.ref C_Fewest) "__init__" = some (some (.ref f9)))
    (i9 : PySem.W.isFn K (.ref f9) = true)
    (l9 : K.lookup f9 = some ⟨oc9, od9, .func (PySem.W.fnOf "__init__" "Fewest.__init__" (defArgs (inClass (top 23) 0)) (defBody (inClass (top 23) 0)) (defScope (inClass (top 23) 0)) .none kV9 dc9 pm9 an9 cd9 ct9), sl9⟩)
    (c9 : PySem.W.codeIn K cd9 "Fewest.__init__" = true)
    (k9 : PySem.W.keepIn K (.ref f9) = true)
    (a10 : PySem.W.findIn K (.ref C_Great) "__init__" = some (some (.ref f10)))
    (i10 : PySem.W.isFn K (.ref f10) = true)
    (l10 : K.lookup f10 = some ⟨oc10, od10, .func (PySem.W.fnOf "__init__" "Great.__init__" (defArgs (inClass (top 24) 0)) (defBody (inClass (top 24) 0)) (defScope (inClass (top 24) 0)) .none kV10 dc10 pm10 an10 cd10 ct10), sl10⟩)
    (c10 : PySem.W.codeIn K cd10 "Great.__init__" = true)
    (k10 : PySem.W.keepIn K (.ref f10) = true)
    (a11 : PySem.W.nsIn K mainGlobals "fewest" = some (some (.ref f11)))
    (l11 : K.lookup f11 = some ⟨oc11, od11, .func (PySem.W.fnOf "fewest" "fewest" (defArgs (top 32)) (defBody (top 32)) (defScope (top 32)) .none kV11 dc11 pm11 an11 cd11 ct11), sl11⟩)
    (c11 : PySem.W.codeIn K cd11 "fewest" = true)
    (k11 : PySem.W.keepIn K (.ref f11) = true)
    (a12 : PySem.W.nsIn K mainGlobals "least_number" = some (some (.ref f12)))
    (l12 : K.lookup f12 = some ⟨oc12, od12, .func (PySem.W.fnOf "least_number" "least_number" (defArgs (top 33)) (defBody (top 33)) (defScope (top 33)) .none kV12 dc12 pm12 an12 cd12 ct12), sl12⟩)
    (c12 : PySem.W.codeIn K cd12 "least_number" = true)
    (k12 : PySem.W.keepIn K (.ref f12) = true)
    (a13 : PySem.W.findIn K (.ref C_Least) "__init__" = some (some (.ref f13)))
    (i13 : PySem.W.isFn K (.ref f13) = true)
    (l13 : K.lookup f13 = some ⟨oc13, od13, .func (PySem.W.fnOf "__init__" "Least.__init__" (defArgs (inClass (top 25) 0)) (defBody (inClass (top 25) 0)) (defScope (inClass (top 25) 0)) .none kV13 dc13 pm13 an13 cd13 ct13), sl13⟩)
    (c13 : PySem.W.codeIn K cd13 "Least.__init__" = true)
    (k13 : PySem.W.keepIn K (.ref f13) = true)
    (a14 : PySem.W.nsIn K mainGlobals "lowest" = some (some (.ref f14)))
    (l14 : K.lookup f14 = some ⟨oc14, od14, .func (PySem.W.fnOf "lowest" "lowest" (defArgs (top 34)) (defBody (top 34)) (defScope (top 34)) .none kV14 dc14 pm14 an14 cd14 ct14), sl14⟩)
    (c14 : PySem.W.codeIn K cd14 "lowest" = true)
    (k14 : PySem.W.keepIn K (.ref f14) = true)
    (a15 : PySem.W.nsIn K mainGlobals "filling_places" = some (some (.ref f15)))
    (l15 : K.lookup f15 = some ⟨oc15, od15, .func (PySem.W.fnOf "filling_places" "filling_places" (defArgs (top 35)) (defBody (top 35)) (defScope (top 35)) .none kV15 dc15 pm15 an15 cd15 ct15), sl15⟩)
    (c15 : PySem.W.codeIn K cd15 "filling_places" = true)
    (k15 : PySem.W.keepIn K (.ref f15) = true)
    (a16 : PySem.W.findIn K (.ref C_Most) "__init__" = some (some (.ref f16)))
    (i16 : PySem.W.isFn K (.ref f16) = true)
    (l16 : K.lookup f16 = some ⟨oc16, od16, .func (PySem.W.fnOf "__init__" "Most.__init__" (defArgs (inClass (top 26) 0)) (defBody (inClass (top 26) 0)) (defScope (inClass (top 26) 0)) .none kV16 dc16 pm16 an16 cd16 ct16), sl16⟩)
    (c16 : PySem.W.codeIn K cd16 "Most.__init__" = true)
    (k16 : PySem.W.keepIn K (.ref f16) = true)
    (a17 : PySem.W.nsIn K mainGlobals "fullest" = some (some (.ref f17)))
    (l17 : K.lookup f17 = some ⟨oc17, od17, .func (PySem.W.fnOf "fullest" "fullest" (defArgs (top 36)) (defBody (top 36)) (defScope (top 36)) .none kV17 dc17 pm17 an17 cd17 ct17), sl17⟩)
    (c17 : PySem.W.codeIn K cd17 "fullest" = true)
    (k17 : PySem.W.keepIn K (.ref f17) = true)
    (a18 : PySem.W.nsIn K mainGlobals "are_rising_places" = some (some (.ref f18)))
    (l18 : K.lookup f18 = some ⟨oc18, od18, .func (PySem.W.fnOf "are_rising_places" "are_rising_places" (defArgs (top 11)) (defBody (top 11)) (defScope (top 11)) .none kV18 dc18 pm18 an18 cd18 ct18), sl18⟩)
    (c18 : PySem.W.codeIn K cd18 "are_rising_places" = true)
    (k18 : PySem.W.keepIn K (.ref f18) = true)
    (a19 : PySem.W.nsIn K mainGlobals "are_cuts" = some (some (.ref f19)))
    (l19 : K.lookup f19 = some ⟨oc19, od19, .func (PySem.W.fnOf "are_cuts" "are_cuts" (defArgs (top 12)) (defBody (top 12)) (defScope (top 12)) .none kV19 dc19 pm19 an19 cd19 ct19), sl19⟩)
    (c19 : PySem.W.codeIn K cd19 "are_cuts" = true)
    (k19 : PySem.W.keepIn K (.ref f19) = true)
    (a20 : PySem.W.nsIn K mainGlobals "part_sums" = some (some (.ref f20)))
    (l20 : K.lookup f20 = some ⟨oc20, od20, .func (PySem.W.fnOf "part_sums" "part_sums" (defArgs (top 14)) (defBody (top 14)) (defScope (top 14)) .none kV20 dc20 pm20 an20 cd20 ct20), sl20⟩)
    (c20 : PySem.W.codeIn K cd20 "part_sums" = true)
    (k20 : PySem.W.keepIn K (.ref f20) = true)
    (a21 : PySem.W.nsIn K mainGlobals "none_above" = some (some (.ref f21)))
    (l21 : K.lookup f21 = some ⟨oc21, od21, .func (PySem.W.fnOf "none_above" "none_above" (defArgs (top 20)) (defBody (top 20)) (defScope (top 20)) .none kV21 dc21 pm21 an21 cd21 ct21), sl21⟩)
    (c21 : PySem.W.codeIn K cd21 "none_above" = true)
    (k21 : PySem.W.keepIn K (.ref f21) = true)
    (a22 : PySem.W.nsIn K mainGlobals "is_pair" = some (some (.ref f22)))
    (l22 : K.lookup f22 = some ⟨oc22, od22, .func (PySem.W.fnOf "is_pair" "is_pair" (defArgs (top 16)) (defBody (top 16)) (defScope (top 16)) .none kV22 dc22 pm22 an22 cd22 ct22), sl22⟩)
    (c22 : PySem.W.codeIn K cd22 "is_pair" = true)
    (k22 : PySem.W.keepIn K (.ref f22) = true)
    (a23 : PySem.W.nsIn K mainGlobals "are_linked" = some (some (.ref f23)))
    (l23 : K.lookup f23 = some ⟨oc23, od23, .func (PySem.W.fnOf "are_linked" "are_linked" (defArgs (top 17)) (defBody (top 17)) (defScope (top 17)) .none kV23 dc23 pm23 an23 cd23 ct23), sl23⟩)
    (c23 : PySem.W.codeIn K cd23 "are_linked" = true)
    (k23 : PySem.W.keepIn K (.ref f23) = true)
    (a24 : PySem.W.nsIn K mainGlobals "stretch_sums" = some (some (.ref f24)))
    (l24 : K.lookup f24 = some ⟨oc24, od24, .func (PySem.W.fnOf "stretch_sums" "stretch_sums" (defArgs (top 18)) (defBody (top 18)) (defScope (top 18)) .none kV24 dc24 pm24 an24 cd24 ct24), sl24⟩)
    (c24 : PySem.W.codeIn K cd24 "stretch_sums" = true)
    (k24 : PySem.W.keepIn K (.ref f24) = true)
    (a25 : PySem.W.nsIn K mainGlobals "none_below" = some (some (.ref f25)))
    (l25 : K.lookup f25 = some ⟨oc25, od25, .func (PySem.W.fnOf "none_below" "none_below" (defArgs (top 21)) (defBody (top 21)) (defScope (top 21)) .none kV25 dc25 pm25 an25 cd25 ct25), sl25⟩)
    (c25 : PySem.W.codeIn K cd25 "none_below" = true)
    (k25 : PySem.W.keepIn K (.ref f25) = true)
    (a26 : PySem.W.findIn K (.ref C_Fewest) "shows" = some (some (.ref f26)))
    (i26 : PySem.W.isFn K (.ref f26) = true)
    (l26 : K.lookup f26 = some ⟨oc26, od26, .func (PySem.W.fnOf "shows" "Fewest.shows" (defArgs (inClass (top 23) 1)) (defBody (inClass (top 23) 1)) (defScope (inClass (top 23) 1)) .none kV26 dc26 pm26 an26 cd26 ct26), sl26⟩)
    (c26 : PySem.W.codeIn K cd26 "Fewest.shows" = true)
    (k26 : PySem.W.keepIn K (.ref f26) = true)
    (a27 : PySem.W.findIn K (.ref C_Great) "shows" = some (some (.ref f27)))
    (i27 : PySem.W.isFn K (.ref f27) = true)
    (l27 : K.lookup f27 = some ⟨oc27, od27, .func (PySem.W.fnOf "shows" "Great.shows" (defArgs (inClass (top 24) 1)) (defBody (inClass (top 24) 1)) (defScope (inClass (top 24) 1)) .none kV27 dc27 pm27 an27 cd27 ct27), sl27⟩)
    (c27 : PySem.W.codeIn K cd27 "Great.shows" = true)
    (k27 : PySem.W.keepIn K (.ref f27) = true)
    (a28 : PySem.W.findIn K (.ref C_Least) "is_needed" = some (some (.ref f28)))
    (i28 : PySem.W.isFn K (.ref f28) = true)
    (l28 : K.lookup f28 = some ⟨oc28, od28, .func (PySem.W.fnOf "is_needed" "Least.is_needed" (defArgs (inClass (top 25) 2)) (defBody (inClass (top 25) 2)) (defScope (inClass (top 25) 2)) .none kV28 dc28 pm28 an28 cd28 ct28), sl28⟩)
    (c28 : PySem.W.codeIn K cd28 "Least.is_needed" = true)
    (k28 : PySem.W.keepIn K (.ref f28) = true)
    (a29 : PySem.W.findIn K (.ref C_Least) "shows" = some (some (.ref f29)))
    (i29 : PySem.W.isFn K (.ref f29) = true)
    (l29 : K.lookup f29 = some ⟨oc29, od29, .func (PySem.W.fnOf "shows" "Least.shows" (defArgs (inClass (top 25) 1)) (defBody (inClass (top 25) 1)) (defScope (inClass (top 25) 1)) .none kV29 dc29 pm29 an29 cd29 ct29), sl29⟩)
    (c29 : PySem.W.codeIn K cd29 "Least.shows" = true)
    (k29 : PySem.W.keepIn K (.ref f29) = true)
    (a30 : PySem.W.nsIn K mainGlobals "gap_sums" = some (some (.ref f30)))
    (l30 : K.lookup f30 = some ⟨oc30, od30, .func (PySem.W.fnOf "gap_sums" "gap_sums" (defArgs (top 19)) (defBody (top 19)) (defScope (top 19)) .none kV30 dc30 pm30 an30 cd30 ct30), sl30⟩)
    (c30 : PySem.W.codeIn K cd30 "gap_sums" = true)
    (k30 : PySem.W.keepIn K (.ref f30) = true)
    (a31 : PySem.W.findIn K (.ref C_Most) "has_full_parts" = some (some (.ref f31)))
    (i31 : PySem.W.isFn K (.ref f31) = true)
    (l31 : K.lookup f31 = some ⟨oc31, od31, .func (PySem.W.fnOf "has_full_parts" "Most.has_full_parts" (defArgs (inClass (top 26) 2)) (defBody (inClass (top 26) 2)) (defScope (inClass (top 26) 2)) .none kV31 dc31 pm31 an31 cd31 ct31), sl31⟩)
    (c31 : PySem.W.codeIn K cd31 "Most.has_full_parts" = true)
    (k31 : PySem.W.keepIn K (.ref f31) = true)
    (a32 : PySem.W.findIn K (.ref C_Most) "shows" = some (some (.ref f32)))
    (i32 : PySem.W.isFn K (.ref f32) = true)
    (l32 : K.lookup f32 = some ⟨oc32, od32, .func (PySem.W.fnOf "shows" "Most.shows" (defArgs (inClass (top 26) 1)) (defBody (inClass (top 26) 1)) (defScope (inClass (top 26) 1)) .none kV32 dc32 pm32 an32 cd32 ct32), sl32⟩)
    (c32 : PySem.W.codeIn K cd32 "Most.shows" = true)
    (k32 : PySem.W.keepIn K (.ref f32) = true)
    (a33 : PySem.W.nsIn K mainGlobals "_law_cell_at" = some (some (.ref f33)))
    (l33 : K.lookup f33 = some ⟨oc33, od33, .func (PySem.W.fnOf "_law_cell_at" "_law_cell_at" (defArgs (top 38)) (defBody (top 38)) (defScope (top 38)) .none kV33 dc33 pm33 an33 cd33 ct33), sl33⟩)
    (c33 : PySem.W.codeIn K cd33 "_law_cell_at" = true)
    (k33 : PySem.W.keepIn K (.ref f33) = true)
    (a34 : PySem.W.nsIn K mainGlobals "_law_draw" = some (some (.ref f34)))
    (l34 : K.lookup f34 = some ⟨oc34, od34, .func (PySem.W.fnOf "_law_draw" "_law_draw" (defArgs (top 39)) (defBody (top 39)) (defScope (top 39)) .none kV34 dc34 pm34 an34 cd34 ct34), sl34⟩)
    (c34 : PySem.W.codeIn K cd34 "_law_draw" = true)
    (k34 : PySem.W.keepIn K (.ref f34) = true)
    (a35 : PySem.W.nsIn K mainGlobals "_law_row" = some (some (.ref f35)))
    (l35 : K.lookup f35 = some ⟨oc35, od35, .func (PySem.W.fnOf "_law_row" "_law_row" (defArgs (top 40)) (defBody (top 40)) (defScope (top 40)) .none kV35 dc35 pm35 an35 cd35 ct35), sl35⟩)
    (c35 : PySem.W.codeIn K cd35 "_law_row" = true)
    (k35 : PySem.W.keepIn K (.ref f35) = true)
    (a36 : PySem.W.nsIn K mainGlobals "_law_rising" = some (some (.ref f36)))
    (l36 : K.lookup f36 = some ⟨oc36, od36, .func (PySem.W.fnOf "_law_rising" "_law_rising" (defArgs (top 42)) (defBody (top 42)) (defScope (top 42)) .none kV36 dc36 pm36 an36 cd36 ct36), sl36⟩)
    (c36 : PySem.W.codeIn K cd36 "_law_rising" = true)
    (k36 : PySem.W.keepIn K (.ref f36) = true)
    (a37 : PySem.W.nsIn K mainGlobals "_law_borne" = some (some (.ref f37)))
    (l37 : K.lookup f37 = some ⟨oc37, od37, .func (PySem.W.fnOf "_law_borne" "_law_borne" (defArgs (top 43)) (defBody (top 43)) (defScope (top 43)) .none kV37 dc37 pm37 an37 cd37 ct37), sl37⟩)
    (c37 : PySem.W.codeIn K cd37 "_law_borne" = true)
    (k37 : PySem.W.keepIn K (.ref f37) = true)
    (a38 : PySem.W.nsIn K mainGlobals "_law_linked" = some (some (.ref f38)))
    (l38 : K.lookup f38 = some ⟨oc38, od38, .func (PySem.W.fnOf "_law_linked" "_law_linked" (defArgs (top 44)) (defBody (top 44)) (defScope (top 44)) .none kV38 dc38 pm38 an38 cd38 ct38), sl38⟩)
    (c38 : PySem.W.codeIn K cd38 "_law_linked" = true)
    (k38 : PySem.W.keepIn K (.ref f38) = true)
    (a39 : PySem.W.nsIn K mainGlobals "_law_between" = some (some (.ref f39)))
    (l39 : K.lookup f39 = some ⟨oc39, od39, .func (PySem.W.fnOf "_law_between" "_law_between" (defArgs (top 49)) (defBody (top 49)) (defScope (top 49)) .none kV39 dc39 pm39 an39 cd39 ct39), sl39⟩)
    (c39 : PySem.W.codeIn K cd39 "_law_between" = true)
    (k39 : PySem.W.keepIn K (.ref f39) = true)
    (a40 : PySem.W.nsIn K mainGlobals "_law_says" = some (some (.ref f40)))
    (l40 : K.lookup f40 = some ⟨oc40, od40, .func (PySem.W.fnOf "_law_says" "_law_says" (defArgs (top 46)) (defBody (top 46)) (defScope (top 46)) .none kV40 dc40 pm40 an40 cd40 ct40), sl40⟩)
    (c40 : PySem.W.codeIn K cd40 "_law_says" = true)
    (k40 : PySem.W.keepIn K (.ref f40) = true)
    (a41 : PySem.W.nsIn K mainGlobals "_law_bent" = some (some (.ref f41)))
    (l41 : K.lookup f41 = some ⟨oc41, od41, .func (PySem.W.fnOf "_law_bent" "_law_bent" (defArgs (top 47)) (defBody (top 47)) (defScope (top 47)) .none kV41 dc41 pm41 an41 cd41 ct41), sl41⟩)
    (c41 : PySem.W.codeIn K cd41 "_law_bent" = true)
    (k41 : PySem.W.keepIn K (.ref f41) = true)
    (a42 : PySem.W.nsIn K mainGlobals "_law_nudged" = some (some (.ref f42)))
    (l42 : K.lookup f42 = some ⟨oc42, od42, .func (PySem.W.fnOf "_law_nudged" "_law_nudged" (defArgs (top 48)) (defBody (top 48)) (defScope (top 48)) .none kV42 dc42 pm42 an42 cd42 ct42), sl42⟩)
    (c42 : PySem.W.codeIn K cd42 "_law_nudged" = true)
    (k42 : PySem.W.keepIn K (.ref f42) = true)
    (a43 : PySem.W.nsIn K mainGlobals "_law_fewest_right" = some (some (.ref f43)))
    (l43 : K.lookup f43 = some ⟨oc43, od43, .func (PySem.W.fnOf "_law_fewest_right" "_law_fewest_right" (defArgs (top 50)) (defBody (top 50)) (defScope (top 50)) .none kV43 dc43 pm43 an43 cd43 ct43), sl43⟩)
    (c43 : PySem.W.codeIn K cd43 "_law_fewest_right" = true)
    (k43 : PySem.W.keepIn K (.ref f43) = true)
    (a44 : PySem.W.nsIn K mainGlobals "_law_least_right" = some (some (.ref f44)))
    (l44 : K.lookup f44 = some ⟨oc44, od44, .func (PySem.W.fnOf "_law_least_right" "_law_least_right" (defArgs (top 51)) (defBody (top 51)) (defScope (top 51)) .none kV44 dc44 pm44 an44 cd44 ct44), sl44⟩)
    (c44 : PySem.W.codeIn K cd44 "_law_least_right" = true)
    (k44 : PySem.W.keepIn K (.ref f44) = true)
    (a45 : PySem.W.nsIn K mainGlobals "_law_most_right" = some (some (.ref f45)))
    (l45 : K.lookup f45 = some ⟨oc45, od45, .func (PySem.W.fnOf "_law_most_right" "_law_most_right" (defArgs (top 52)) (defBody (top 52)) (defScope (top 52)) .none kV45 dc45 pm45 an45 cd45 ct45), sl45⟩)
    (c45 : PySem.W.codeIn K cd45 "_law_most_right" = true)
    (k45 : PySem.W.keepIn K (.ref f45) = true)
    (a46 : PySem.W.nsIn K mainGlobals "_law_few_right" = some (some (.ref f46)))
    (l46 : K.lookup f46 = some ⟨oc46, od46, .func (PySem.W.fnOf "_law_few_right" "_law_few_right" (defArgs (top 53)) (defBody (top 53)) (defScope (top 53)) .none kV46 dc46 pm46 an46 cd46 ct46), sl46⟩)
    (c46 : PySem.W.codeIn K cd46 "_law_few_right" = true)
    (k46 : PySem.W.keepIn K (.ref f46) = true)
    (a47 : PySem.W.nsIn K mainGlobals "law" = some (some (.ref f47)))
    (l47 : K.lookup f47 = some ⟨oc47, od47, .func (PySem.W.fnOf "law" "law" (defArgs (top 54)) (defBody (top 54)) (defScope (top 54)) .none kV47 dc47 pm47 an47 cd47 ct47), sl47⟩)
    (c47 : PySem.W.codeIn K cd47 "law" = true)
    (k47 : PySem.W.keepIn K (.ref f47) = true)
    (z_len : PySem.W.nsIn K mainGlobals "len" = some none)
    (z_sum : PySem.W.nsIn K mainGlobals "sum" = some none)
    (z_any : PySem.W.nsIn K mainGlobals "any" = some none)
    (z_all : PySem.W.nsIn K mainGlobals "all" = some none)
    (z_isinstance : PySem.W.nsIn K mainGlobals "isinstance" = some none)
    (z_max : PySem.W.nsIn K mainGlobals "max" = some none)
    (z_min : PySem.W.nsIn K mainGlobals "min" = some none)
    (z_int : PySem.W.nsIn K mainGlobals "int" = some none)
    (z_bool : PySem.W.nsIn K mainGlobals "bool" = some none)
    (z_list : PySem.W.nsIn K mainGlobals "list" = some none)
    (z_tuple : PySem.W.nsIn K mainGlobals "tuple" = some none)
    (z_range : PySem.W.nsIn K mainGlobals "range" = some none)
    (z_enumerate : PySem.W.nsIn K mainGlobals "enumerate" = some none)
    (z_zip : PySem.W.nsIn K mainGlobals "zip" = some none)
    (y_MOST_LOAD : PySem.W.nsIn K mainGlobals "MOST_LOAD" = some (some (.int 1000000 t_MOST_LOAD)))
    (y_MOST_LOADS : PySem.W.nsIn K mainGlobals "MOST_LOADS" = some (some (.int 1000000 t_MOST_LOADS)))
    (hn : PySem.W.specialIn K (.builtin "object.__class__") "__get__" = some (some (.builtin "getset_descriptor.__get__")))
    (htk : PySem.W.takesIn K (.builtin "object.__class__") = some true)
    (pg_Fewest : PySem.W.plainGet K C_Fewest Str.empty = true)
    (hd_Fewest : PySem.W.hasDictIn K C_Fewest = true)
    (po_Fewest : PySem.W.plainOver K C_Fewest = true)
    (sa_Fewest : PySem.W.findIn K (.ref C_Fewest) "__setattr__" = some (some (.builtin "object.__setattr__")))
    (ha_Fewest : PySem.W.findIn K (.ref C_Fewest) "__class__" = some (some (.builtin "object.__class__")))
    (hm_Fewest : PySem.W.mroIn K C_Fewest (.type "object") = some true)
    (mk_Fewest : PySem.W.makesIn K C_Fewest = true)
    (kc_Fewest : PySem.W.keepIn K (.ref C_Fewest) = true)
    (nn_Fewest_cuts : PySem.W.findIn K (.ref C_Fewest) "cuts" = some none)
    (nn_Fewest_stretches : PySem.W.findIn K (.ref C_Fewest) "stretches" = some none)
    (pg_Great : PySem.W.plainGet K C_Great Str.empty = true)
    (hd_Great : PySem.W.hasDictIn K C_Great = true)
    (po_Great : PySem.W.plainOver K C_Great = true)
    (sa_Great : PySem.W.findIn K (.ref C_Great) "__setattr__" = some (some (.builtin "object.__setattr__")))
    (ha_Great : PySem.W.findIn K (.ref C_Great) "__class__" = some (some (.builtin "object.__class__")))
    (hm_Great : PySem.W.mroIn K C_Great (.type "object") = some true)
    (mk_Great : PySem.W.makesIn K C_Great = true)
    (kc_Great : PySem.W.keepIn K (.ref C_Great) = true)
    (nn_Great_place : PySem.W.findIn K (.ref C_Great) "place" = some none)
    (pg_Least : PySem.W.plainGet K C_Least Str.empty = true)
    (hd_Least : PySem.W.hasDictIn K C_Least = true)
    (po_Least : PySem.W.plainOver K C_Least = true)
    (sa_Least : PySem.W.findIn K (.ref C_Least) "__setattr__" = some (some (.builtin "object.__setattr__")))
    (ha_Least : PySem.W.findIn K (.ref C_Least) "__class__" = some (some (.builtin "object.__class__")))
    (hm_Least : PySem.W.mroIn K C_Least (.type "object") = some true)
    (mk_Least : PySem.W.makesIn K C_Least = true)
    (kc_Least : PySem.W.keepIn K (.ref C_Least) = true)
    (nn_Least_cuts : PySem.W.findIn K (.ref C_Least) "cuts" = some none)
    (nn_Least_number : PySem.W.findIn K (.ref C_Least) "number" = some none)
    (nn_Least_stretches : PySem.W.findIn K (.ref C_Least) "stretches" = some none)
    (pg_Most : PySem.W.plainGet K C_Most Str.empty = true)
    (hd_Most : PySem.W.hasDictIn K C_Most = true)
    (po_Most : PySem.W.plainOver K C_Most = true)
    (sa_Most : PySem.W.findIn K (.ref C_Most) "__setattr__" = some (some (.builtin "object.__setattr__")))
    (ha_Most : PySem.W.findIn K (.ref C_Most) "__class__" = some (some (.builtin "object.__class__")))
    (hm_Most : PySem.W.mroIn K C_Most (.type "object") = some true)
    (mk_Most : PySem.W.makesIn K C_Most = true)
    (kc_Most : PySem.W.keepIn K (.ref C_Most) = true)
    (nn_Most_cuts : PySem.W.findIn K (.ref C_Most) "cuts" = some none)
    (nn_Most_places : PySem.W.findIn K (.ref C_Most) "places" = some none)
    : ∃ fd : FuncData, (∀ (s : Shared) (v : Value), BindsTo s fd ⟨[v], []⟩ [("_law_script", v)]) ∧ ∀ base : Heap, K.In base → base.Ns mainGlobals mg → FnOk l.prog w K mg base CX0 12 fa fd ["_law_script"] (spLaw K) := by
  have e := hfa.symm.trans (PySem.W.mg_of X G a47)
  cases e
  have T : Txt mg := ⟨PySem.W.mg_none_of X G z_len, PySem.W.mg_none_of X G z_sum, PySem.W.mg_none_of X G z_any, PySem.W.mg_none_of X G z_all, PySem.W.mg_none_of X G z_isinstance, PySem.W.mg_none_of X G z_max, PySem.W.mg_none_of X G z_min, PySem.W.mg_none_of X G z_int, PySem.W.mg_none_of X G z_bool, PySem.W.mg_none_of X G z_list, PySem.W.mg_none_of X G z_tuple, PySem.W.mg_none_of X G z_range, PySem.W.mg_none_of X G z_enumerate, PySem.W.mg_none_of X G z_zip, ⟨_, PySem.W.mg_of X G y_MOST_LOAD⟩, ⟨_, PySem.W.mg_of X G y_MOST_LOADS⟩⟩
  have c : Cl K mg ⟨C_Fewest, C_Great, C_Least, C_Most⟩ := ⟨PySem.W.mg_of X G aC_Fewest, ⟨⟨pg_Fewest, hd_Fewest, po_Fewest, sa_Fewest⟩, ha_Fewest, hn, htk, hm_Fewest⟩, PySem.W.mg_of X G aC_Great, ⟨⟨pg_Great, hd_Great, po_Great, sa_Great⟩, ha_Great, hn, htk, hm_Great⟩, PySem.W.mg_of X G aC_Least, ⟨⟨pg_Least, hd_Least, po_Least, sa_Least⟩, ha_Least, hn, htk, hm_Least⟩, PySem.W.mg_of X G aC_Most, ⟨⟨pg_Most, hd_Most, po_Most, sa_Most⟩, ha_Most, hn, htk, hm_Most⟩, nn_Fewest_cuts, nn_Fewest_stretches, nn_Great_place, nn_Least_cuts, nn_Least_number, nn_Least_stretches, nn_Most_cuts, nn_Most_places⟩
  generalize hca : (⟨C_Fewest, C_Great, C_Least, C_Most⟩ : CA) = ca at c
  have q_Fewest : C_Fewest = ca.Fewest := by rw [← hca]
  have q_Great : C_Great = ca.Great := by rw [← hca]
  have q_Least : C_Least = ca.Least := by rw [← hca]
  have q_Most : C_Most = ca.Most := by rw [← hca]
  have F0 := fun_mk (st := (top 7)) l0 c0 k0
  have b0 := F0.binds (ps := ["value"]) fun _ _ _ _ _ _ us hl => match us, hl with | [_], _ => rfl
  have F1 := fun_mk (st := (top 8)) l1 c1 k1
  have b1 := F1.binds (ps := ["value", "least"]) fun _ _ _ _ _ _ us hl => match us, hl with | [_, _], _ => rfl
  have F2 := fun_mk (st := (top 9)) l2 c2 k2
  have b2 := F2.binds (ps := ["value"]) fun _ _ _ _ _ _ us hl => match us, hl with | [_], _ => rfl
  have F3 := fun_mk (st := (top 10)) l3 c3 k3
  have b3 := F3.binds (ps := ["value"]) fun _ _ _ _ _ _ us hl => match us, hl with | [_], _ => rfl
  have F4 := fun_mk (st := (top 13)) l4 c4 k4
  have b4 := F4.binds (ps := ["value"]) fun _ _ _ _ _ _ us hl => match us, hl with | [_], _ => rfl
  have F5 := fun_mk (st := (top 28)) l5 c5 k5
  have b5 := F5.binds (ps := ["value", "least"]) fun _ _ _ _ _ _ us hl => match us, hl with | [_, _], _ => rfl
  have F6 := fun_mk (st := (top 31)) l6 c6 k6
  have b6 := F6.binds (ps := ["row", "bound"]) fun _ _ _ _ _ _ us hl => match us, hl with | [_, _], _ => rfl
  have F7 := fun_mk (st := (top 29)) l7 c7 k7
  have b7 := F7.binds (ps := ["row", "bound"]) fun _ _ _ _ _ _ us hl => match us, hl with | [_, _], _ => rfl
  have F8 := fun_mk (st := (top 30)) l8 c8 k8
  have b8 := F8.binds (ps := ["cuts"]) fun _ _ _ _ _ _ us hl => match us, hl with | [_], _ => rfl
  have F9 := fun_mk (st := (inClass (top 23) 0)) l9 c9 k9
  have b9 := F9.binds (ps := ["self", "cuts", "stretches"]) fun _ _ _ _ _ _ us hl => match us, hl with | [_, _, _], _ => rfl
  have F10 := fun_mk (st := (inClass (top 24) 0)) l10 c10 k10
  have b10 := F10.binds (ps := ["self", "place"]) fun _ _ _ _ _ _ us hl => match us, hl with | [_, _], _ => rfl
  have F11 := fun_mk (st := (top 32)) l11 c11 k11
  have b11 := F11.binds (ps := ["row", "bound"]) fun _ _ _ _ _ _ us hl => match us, hl with | [_, _], _ => rfl
  have F12 := fun_mk (st := (top 33)) l12 c12 k12
  have b12 := F12.binds (ps := ["row", "count"]) fun _ _ _ _ _ _ us hl => match us, hl with | [_, _], _ => rfl
  have F13 := fun_mk (st := (inClass (top 25) 0)) l13 c13 k13
  have b13 := F13.binds (ps := ["self", "cuts", "number", "stretches"]) fun _ _ _ _ _ _ us hl => match us, hl with | [_, _, _, _], _ => rfl
  have F14 := fun_mk (st := (top 34)) l14 c14 k14
  have b14 := F14.binds (ps := ["row", "count"]) fun _ _ _ _ _ _ us hl => match us, hl with | [_, _], _ => rfl
  have F15 := fun_mk (st := (top 35)) l15 c15 k15
  have b15 := F15.binds (ps := ["row", "bound"]) fun _ _ _ _ _ _ us hl => match us, hl with | [_, _], _ => rfl
  have F16 := fun_mk (st := (inClass (top 26) 0)) l16 c16 k16
  have b16 := F16.binds (ps := ["self", "cuts", "places"]) fun _ _ _ _ _ _ us hl => match us, hl with | [_, _, _], _ => rfl
  have F17 := fun_mk (st := (top 36)) l17 c17 k17
  have b17 := F17.binds (ps := ["row", "bound"]) fun _ _ _ _ _ _ us hl => match us, hl with | [_, _], _ => rfl
  have F18 := fun_mk (st := (top 11)) l18 c18 k18
  have b18 := F18.binds (ps := ["value", "row", "least"]) fun _ _ _ _ _ _ us hl => match us, hl with | [_, _, _], _ => rfl
  have F19 := fun_mk (st := (top 12)) l19 c19 k19
  have b19 := F19.binds (ps := ["value", "row"]) fun _ _ _ _ _ _ us hl => match us, hl with | [_, _], _ => rfl
  have F20 := fun_mk (st := (top 14)) l20 c20 k20
  have b20 := F20.binds (ps := ["row", "cuts"]) fun _ _ _ _ _ _ us hl => match us, hl with | [_, _], _ => rfl
  have F21 := fun_mk (st := (top 20)) l21 c21 k21
  have b21 := F21.binds (ps := ["sums", "most"]) fun _ _ _ _ _ _ us hl => match us, hl with | [_, _], _ => rfl
  have F22 := fun_mk (st := (top 16)) l22 c22 k22
  have b22 := F22.binds (ps := ["value"]) fun _ _ _ _ _ _ us hl => match us, hl with | [_], _ => rfl
  have F23 := fun_mk (st := (top 17)) l23 c23 k23
  have b23 := F23.binds (ps := ["value", "row"]) fun _ _ _ _ _ _ us hl => match us, hl with | [_, _], _ => rfl
  have F24 := fun_mk (st := (top 18)) l24 c24 k24
  have b24 := F24.binds (ps := ["row", "stretches"]) fun _ _ _ _ _ _ us hl => match us, hl with | [_, _], _ => rfl
  have F25 := fun_mk (st := (top 21)) l25 c25 k25
  have b25 := F25.binds (ps := ["sums", "least"]) fun _ _ _ _ _ _ us hl => match us, hl with | [_, _], _ => rfl
  have F26 := fun_mk (st := (inClass (top 23) 1)) l26 c26 k26
  have b26 := F26.binds (ps := ["self", "row", "bound"]) fun _ _ _ _ _ _ us hl => match us, hl with | [_, _, _], _ => rfl
  have F27 := fun_mk (st := (inClass (top 24) 1)) l27 c27 k27
  have b27 := F27.binds (ps := ["self", "row", "bound"]) fun _ _ _ _ _ _ us hl => match us, hl with | [_, _, _], _ => rfl
  have F28 := fun_mk (st := (inClass (top 25) 2)) l28 c28 k28
  have b28 := F28.binds (ps := ["self", "row", "count"]) fun _ _ _ _ _ _ us hl => match us, hl with | [_, _, _], _ => rfl
  have F29 := fun_mk (st := (inClass (top 25) 1)) l29 c29 k29
  have b29 := F29.binds (ps := ["self", "row", "count"]) fun _ _ _ _ _ _ us hl => match us, hl with | [_, _, _], _ => rfl
  have F30 := fun_mk (st := (top 19)) l30 c30 k30
  have b30 := F30.binds (ps := ["row", "places"]) fun _ _ _ _ _ _ us hl => match us, hl with | [_, _], _ => rfl
  have F31 := fun_mk (st := (inClass (top 26) 2)) l31 c31 k31
  have b31 := F31.binds (ps := ["self", "row", "bound"]) fun _ _ _ _ _ _ us hl => match us, hl with | [_, _, _], _ => rfl
  have F32 := fun_mk (st := (inClass (top 26) 1)) l32 c32 k32
  have b32 := F32.binds (ps := ["self", "row", "bound"]) fun _ _ _ _ _ _ us hl => match us, hl with | [_, _, _], _ => rfl
  have F33 := fun_mk (st := (top 38)) l33 c33 k33
  have b33 := F33.binds (ps := ["_law_script", "_law_k"]) fun _ _ _ _ _ _ us hl => match us, hl with | [_, _], _ => rfl
  have F34 := fun_mk (st := (top 39)) l34 c34 k34
  have b34 := F34.binds (ps := ["_law_cell", "_law_k", "_law_many"]) fun _ _ _ _ _ _ us hl => match us, hl with | [_, _, _], _ => rfl
  have F35 := fun_mk (st := (top 40)) l35 c35 k35
  have b35 := F35.binds (ps := ["_law_script"]) fun _ _ _ _ _ _ us hl => match us, hl with | [_], _ => rfl
  have F36 := fun_mk (st := (top 42)) l36 c36 k36
  have b36 := F36.binds (ps := ["_law_places", "_law_least", "_law_many"]) fun _ _ _ _ _ _ us hl => match us, hl with | [_, _, _], _ => rfl
  have F37 := fun_mk (st := (top 43)) l37 c37 k37
  have b37 := F37.binds (ps := ["_law_row_here", "_law_cuts"]) fun _ _ _ _ _ _ us hl => match us, hl with | [_, _], _ => rfl
  have F38 := fun_mk (st := (top 44)) l38 c38 k38
  have b38 := F38.binds (ps := ["_law_row_here", "_law_stretches", "_law_least"]) fun _ _ _ _ _ _ us hl => match us, hl with | [_, _, _], _ => rfl
  have F39 := fun_mk (st := (top 49)) l39 c39 k39
  have b39 := F39.binds (ps := ["_law_row_here", "_law_places"]) fun _ _ _ _ _ _ us hl => match us, hl with | [_, _], _ => rfl
  have F40 := fun_mk (st := (top 46)) l40 c40 k40
  have b40 := F40.binds (ps := ["_law_told", "_law_due"]) fun _ _ _ _ _ _ us hl => match us, hl with | [_, _], _ => rfl
  have F41 := fun_mk (st := (top 47)) l41 c41 k41
  have b41 := F41.binds (ps := ["_law_some", "_law_cell", "_law_more"]) fun _ _ _ _ _ _ us hl => match us, hl with | [_, _, _], _ => rfl
  have F42 := fun_mk (st := (top 48)) l42 c42 k42
  have b42 := F42.binds (ps := ["_law_numbers_here", "_law_cell"]) fun _ _ _ _ _ _ us hl => match us, hl with | [_, _], _ => rfl
  have F43 := fun_mk (st := (top 50)) l43 c43 k43
  have b43 := F43.binds (ps := ["_law_row_here", "_law_cell"]) fun _ _ _ _ _ _ us hl => match us, hl with | [_, _], _ => rfl
  have F44 := fun_mk (st := (top 51)) l44 c44 k44
  have b44 := F44.binds (ps := ["_law_row_here", "_law_cell"]) fun _ _ _ _ _ _ us hl => match us, hl with | [_, _], _ => rfl
  have F45 := fun_mk (st := (top 52)) l45 c45 k45
  have b45 := F45.binds (ps := ["_law_row_here", "_law_cell"]) fun _ _ _ _ _ _ us hl => match us, hl with | [_, _], _ => rfl
  have F46 := fun_mk (st := (top 53)) l46 c46 k46
  have b46 := F46.binds (ps := []) fun _ _ _ _ _ _ us hl => match us, hl with | [], _ => rfl
  have F47 := fun_mk (st := (top 54)) l47 c47 k47
  have b47 := F47.binds (ps := ["_law_script"]) fun _ _ _ _ _ _ us hl => match us, hl with | [_], _ => rfl
  refine ⟨PySem.W.fnOf "law" "law" (defArgs (top 54)) (defBody (top 54)) (defScope (top 54)) .none kV47 dc47 pm47 an47 cd47 ct47, fun s v => .of_eq rfl, fun base _ _ => ?_⟩
  have X0 : Callee l.prog w K mg base "is_whole" ["value"] 1 spWhole := callee_mk F0 (PySem.W.mg_of X G a0) b0 (ok_is_whole T  F0)
  have X1 : Callee l.prog w K mg base "is_whole_from" ["value", "least"] 2 spWholeFrom := callee_mk F1 (PySem.W.mg_of X G a1) b1 (ok_is_whole_from T X0 F1)
  have X2 : Callee l.prog w K mg base "is_load" ["value"] 3 spLoad := callee_mk F2 (PySem.W.mg_of X G a2) b2 (ok_is_load T X1 F2)
  have X3 : Callee l.prog w K mg base "is_row" ["value"] 4 (spIsRow K) := callee_mk F3 (PySem.W.mg_of X G a3) b3 (ok_is_row T X2 F3)
  have X4 : Callee l.prog w K mg base "check_row" ["value"] 5 spCheckRow := callee_mk F4 (PySem.W.mg_of X G a4) b4 (ok_check_row T X3 F4)
  have X5 : Callee l.prog w K mg base "check_number" ["value", "least"] 3 spCheckNum := callee_mk F5 (PySem.W.mg_of X G a5) b5 (ok_check_number T X1 F5)
  have X6 : Callee l.prog w K mg base "first_above" ["row", "bound"] 1 spFirstAbove := callee_mk F6 (PySem.W.mg_of X G a6) b6 (ok_first_above T  F6)
  have X7 : Callee l.prog w K mg base "needed_cuts" ["row", "bound"] 1 spNeeded := callee_mk F7 (PySem.W.mg_of X G a7) b7 (ok_needed_cuts T  F7)
  have X8 : Callee l.prog w K mg base "needing_stretches" ["cuts"] 1 spNeeding := callee_mk F8 (PySem.W.mg_of X G a8) b8 (ok_needing_stretches T  F8)
  have X9 : MakeC l.prog w K mg base "Fewest" ca.Fewest ["self", "cuts", "stretches"] 2 (spMkF ca.Fewest) := ⟨⟨_, _, ⟨q_Fewest ▸ mk_Fewest, q_Fewest ▸ a9, i9, q_Fewest ▸ kc_Fewest⟩, (ok_Fewest_init T c F9), b9⟩, c.m_Fewest⟩
  have X10 : MakeC l.prog w K mg base "Great" ca.Great ["self", "place"] 2 (spMkG ca.Great) := ⟨⟨_, _, ⟨q_Great ▸ mk_Great, q_Great ▸ a10, i10, q_Great ▸ kc_Great⟩, (ok_Great_init T c F10), b10⟩, c.m_Great⟩
  have X11 : Callee l.prog w K mg base "fewest" ["row", "bound"] 8 (spFewest ca) := callee_mk F11 (PySem.W.mg_of X G a11) b11 (ok_fewest T c X4 X5 X6 X7 X8 X9 X10 F11)
  have X12 : Callee l.prog w K mg base "least_number" ["row", "count"] 7 spLeastNum := callee_mk F12 (PySem.W.mg_of X G a12) b12 (ok_least_number T X7 F12)
  have X13 : MakeC l.prog w K mg base "Least" ca.Least ["self", "cuts", "number", "stretches"] 2 (spMkL ca.Least) := ⟨⟨_, _, ⟨q_Least ▸ mk_Least, q_Least ▸ a13, i13, q_Least ▸ kc_Least⟩, (ok_Least_init T c F13), b13⟩, c.m_Least⟩
  have X14 : Callee l.prog w K mg base "lowest" ["row", "count"] 9 (spLowest ca.Least) := callee_mk F14 (PySem.W.mg_of X G a14) b14 (ok_lowest T c X4 X5 X12 X7 X8 X13 F14)
  have X15 : Callee l.prog w K mg base "filling_places" ["row", "bound"] 1 spFilling := callee_mk F15 (PySem.W.mg_of X G a15) b15 (ok_filling_places T  F15)
  have X16 : MakeC l.prog w K mg base "Most" ca.Most ["self", "cuts", "places"] 2 (spMkM ca.Most) := ⟨⟨_, _, ⟨q_Most ▸ mk_Most, q_Most ▸ a16, i16, q_Most ▸ kc_Most⟩, (ok_Most_init T c F16), b16⟩, c.m_Most⟩
  have X17 : Callee l.prog w K mg base "fullest" ["row", "bound"] 9 (spFullest ca.Most) := callee_mk F17 (PySem.W.mg_of X G a17) b17 (ok_fullest T c X4 X5 X15 X16 F17)
  have X18 : Callee l.prog w K mg base "are_rising_places" ["value", "row", "least"] 3 (spRisingP K) := callee_mk F18 (PySem.W.mg_of X G a18) b18 (ok_are_rising_places T X1 F18)
  have X19 : Callee l.prog w K mg base "are_cuts" ["value", "row"] 4 (spAreCuts K) := callee_mk F19 (PySem.W.mg_of X G a19) b19 (ok_are_cuts T X18 F19)
  have X20 : Callee l.prog w K mg base "part_sums" ["row", "cuts"] 1 (spPartSums K) := callee_mk F20 (PySem.W.mg_of X G a20) b20 (ok_part_sums T  F20)
  have X21 : Callee l.prog w K mg base "none_above" ["sums", "most"] 1 (spNoneAbove K) := callee_mk F21 (PySem.W.mg_of X G a21) b21 (ok_none_above T  F21)
  have X22 : Callee l.prog w K mg base "is_pair" ["value"] 2 spIsPair := callee_mk F22 (PySem.W.mg_of X G a22) b22 (ok_is_pair T X0 F22)
  have X23 : Callee l.prog w K mg base "are_linked" ["value", "row"] 3 (spAreLinked K) := callee_mk F23 (PySem.W.mg_of X G a23) b23 (ok_are_linked T X22 F23)
  have X24 : Callee l.prog w K mg base "stretch_sums" ["row", "stretches"] 1 (spStretchSums K) := callee_mk F24 (PySem.W.mg_of X G a24) b24 (ok_stretch_sums T  F24)
  have X25 : Callee l.prog w K mg base "none_below" ["sums", "least"] 1 (spNoneBelow K) := callee_mk F25 (PySem.W.mg_of X G a25) b25 (ok_none_below T  F25)
  have X26 : MethC l.prog w K mg base ca.Fewest "shows" ["self", "row", "bound"] 8 (spShowsF K ca) := ⟨⟨_, _, ⟨q_Fewest ▸ a26, i26, k26⟩, (ok_Fewest_shows T c X3 X1 X19 X20 X21 X23 X24 X25 F26), b26⟩, c.y_Fewest.cl⟩
  have X27 : MethC l.prog w K mg base ca.Great "shows" ["self", "row", "bound"] 8 (spShowsG K ca) := ⟨⟨_, _, ⟨q_Great ▸ a27, i27, k27⟩, (ok_Great_shows T c X3 X1 F27), b27⟩, c.y_Great.cl⟩
  have X28 : MethC l.prog w K mg base ca.Least "is_needed" ["self", "row", "count"] 8 (spIsNeeded K ca.Least) := ⟨⟨_, _, ⟨q_Least ▸ a28, i28, k28⟩, (ok_Least_is_needed T c X23 X24 X25 F28), b28⟩, c.y_Least.cl⟩
  have X29 : MethC l.prog w K mg base ca.Least "shows" ["self", "row", "count"] 9 (spShowsL K ca.Least) := ⟨⟨_, _, ⟨q_Least ▸ a29, i29, k29⟩, (ok_Least_shows T c X3 X1 X0 X19 X20 X21 X28 F29), b29⟩, c.y_Least.cl⟩
  have X30 : Callee l.prog w K mg base "gap_sums" ["row", "places"] 1 (spGapSums K) := callee_mk F30 (PySem.W.mg_of X G a30) b30 (ok_gap_sums T  F30)
  have X31 : MethC l.prog w K mg base ca.Most "has_full_parts" ["self", "row", "bound"] 8 (spFullParts K ca.Most) := ⟨⟨_, _, ⟨q_Most ▸ a31, i31, k31⟩, (ok_Most_has_full_parts T c X20 X25 F31), b31⟩, c.y_Most.cl⟩
  have X32 : MethC l.prog w K mg base ca.Most "shows" ["self", "row", "bound"] 9 (spShowsM K ca.Most) := ⟨⟨_, _, ⟨q_Most ▸ a32, i32, k32⟩, (ok_Most_shows T c X3 X1 X19 X18 X30 X21 X31 F32), b32⟩, c.y_Most.cl⟩
  have X33 : Callee l.prog w K mg base "_law_cell_at" ["_law_script", "_law_k"] 1 (spCell K) := callee_mk F33 (PySem.W.mg_of X G a33) b33 (ok_cell T  F33)
  have X34 : Callee l.prog w K mg base "_law_draw" ["_law_cell", "_law_k", "_law_many"] 1 spDraw := callee_mk F34 (PySem.W.mg_of X G a34) b34 (ok_draw T  F34)
  have X35 : Callee l.prog w K mg base "_law_row" ["_law_script"] 2 (spRow K) := callee_mk F35 (PySem.W.mg_of X G a35) b35 (ok_row T X33 X34 F35)
  have X36 : Callee l.prog w K mg base "_law_rising" ["_law_places", "_law_least", "_law_many"] 1 (spRising K) := callee_mk F36 (PySem.W.mg_of X G a36) b36 (ok_rising T  F36)
  have X37 : Callee l.prog w K mg base "_law_borne" ["_law_row_here", "_law_cuts"] 1 (spLawBorne K) := callee_mk F37 (PySem.W.mg_of X G a37) b37 (ok_lawborne T  F37)
  have X38 : Callee l.prog w K mg base "_law_linked" ["_law_row_here", "_law_stretches", "_law_least"] 1 (spLinked K) := callee_mk F38 (PySem.W.mg_of X G a38) b38 (ok_linked T  F38)
  have X39 : Callee l.prog w K mg base "_law_between" ["_law_row_here", "_law_places"] 1 (spBetween K) := callee_mk F39 (PySem.W.mg_of X G a39) b39 (ok_between T  F39)
  have X40 : Callee l.prog w K mg base "_law_says" ["_law_told", "_law_due"] 1 spSays := callee_mk F40 (PySem.W.mg_of X G a40) b40 (ok_says T  F40)
  have X41 : Callee l.prog w K mg base "_law_bent" ["_law_some", "_law_cell", "_law_more"] 2 spBent := callee_mk F41 (PySem.W.mg_of X G a41) b41 (ok_bent T X34 F41)
  have X42 : Callee l.prog w K mg base "_law_nudged" ["_law_numbers_here", "_law_cell"] 2 spNudged := callee_mk F42 (PySem.W.mg_of X G a42) b42 (ok_nudged T X34 F42)
  have X43 : Callee l.prog w K mg base "_law_fewest_right" ["_law_row_here", "_law_cell"] 10 spPart := callee_mk F43 (PySem.W.mg_of X G a43) b43 (ok_fright T c X34 X11 X41 X42 X9 X10 X26 X27 X36 X38 X37 X40 F43)
  have X44 : Callee l.prog w K mg base "_law_least_right" ["_law_row_here", "_law_cell"] 11 spPart := callee_mk F44 (PySem.W.mg_of X G a44) b44 (ok_lright T c X34 X14 X41 X42 X13 X29 X36 X38 X37 X40 F44)
  have X45 : Callee l.prog w K mg base "_law_most_right" ["_law_row_here", "_law_cell"] 11 spPart := callee_mk F45 (PySem.W.mg_of X G a45) b45 (ok_mright T c X34 X17 X41 X42 X16 X32 X36 X39 X37 X40 F45)
  have X46 : Callee l.prog w K mg base "_law_few_right" [] 11 spFew := callee_mk F46 (PySem.W.mg_of X G a46) b46 (ok_few T c X9 X13 X16 X26 X29 X32 X40 F46)
  exact ok_law T X33 X35 X46 X43 X44 X45 F47
theorem walk {l : PySem.W.OpenLaw} {q : Program} {loose : List Str} {XP : (Str → Option Value) → Heap → Prop} {YP : World → Heap → Prop} {d : DefRec} {K : Params → PySem.W.Frag} (hn : l.most = some 63) (hdf : d.params.defaults = [])
    (hY : ∀ (w : World) (h : Heap), YP w h → (K w.params).In h)
    (F : ∀ (w : World) (mg : Str → Option Value) (fa : Addr) (h : Heap), (K w.params).In h → h.Ns mainGlobals mg → mg d.name = some (.ref fa) →
      ∃ fd : FuncData, (∀ (s : Shared) (u : Value), BindsTo s fd ⟨[u], []⟩ [("_law_script", u)]) ∧ ∀ base : Heap, (K w.params).In base → base.Ns mainGlobals mg → FnOk l.prog w (K w.params) mg base CX0 12 fa fd ["_law_script"] (spLaw (K w.params))) :
    PySem.W.WalkO q loose XP YP l.row.toRowW d [] (fun f vs => PySem.call f vs) :=
  L2.walk_of (n := 63) (k := 12) (x := "_law_script") (CX := fun _ => CX0) (sp := fun w => spLaw (K w.params)) hn (by decide) hdf ⟨rfl, by decide, by decide⟩ hY F (fun _ _ a ns hl _ hS => ⟨a, ns, rfl, hS, hl, fun _ => rfl⟩) fun _ _ _ _ _ z => z
end Mine
open PySem PySem.W PyProof.Rows
set_option maxRecDepth 100000 in
set_option maxHeartbeats 0 in
theorem PySem.Challenge.cw_cutrow_k05_answers_by_hand_holds : PySem.Challenge.rw_cutrow_k05_answers_by_hand.Holds := by
  w_on; o_law; k_head; (case hw => w_witness2)
  k_fill
  refine Mine.walk (l := PySem.Challenge.rw_cutrow_k05_answers_by_hand) rfl rfl (fun w h Y => PySem.W.kIn_of Y) ?F
  case F =>
    intro w mg fa h KX G hmg
    refine' Mine.all_mk KX G hmg ?aC_Fewest ?aC_Great ?aC_Least ?aC_Most ?a0 ?l0 ?c0 ?k0 ?a1 ?l1 ?c1 ?k1 ?a2 ?l2 ?c2 ?k2 ?a3 ?l3 ?c3 ?k3 ?a4 ?l4 ?c4 ?k4 ?a5 ?l5 ?c5 ?k5 ?a6 ?l6 ?c6 ?k6 ?a7 ?l7 ?c7 ?k7 ?a8 ?l8 ?c8 ?k8 ?a9 ?i9 ?l9 ?c9 ?k9 ?a10 ?i10 ?l10 ?c10 ?k10 ?a11 ?l11 ?c11 ?k11 ?a12 ?l12 ?c12 ?k12 ?a13 ?i13 ?l13 ?c13 ?k13 ?a14 ?l14 ?c14 ?k14 ?a15 ?l15 ?c15 ?k15 ?a16 ?i16 ?l16 ?c16 ?k16 ?a17 ?l17 ?c17 ?k17 ?a18 ?l18 ?c18 ?k18 ?a19 ?l19 ?c19 ?k19 ?a20 ?l20 ?c20 ?k20 ?a21 ?l21 ?c21 ?k21 ?a22 ?l22 ?c22 ?k22 ?a23 ?l23 ?c23 ?k23 ?a24 ?l24 ?c24 ?k24 ?a25 ?l25 ?c25 ?k25 ?a26 ?i26 ?l26 ?c26 ?k26 ?a27 ?i27 ?l27 ?c27 ?k27 ?a28 ?i28 ?l28 ?c28 ?k28 ?a29 ?i29 ?l29 ?c29 ?k29 ?a30 ?l30 ?c30 ?k30 ?a31 ?i31 ?l31 ?c31 ?k31 ?a32 ?i32 ?l32 ?c32 ?k32 ?a33 ?l33 ?c33 ?k33 ?a34 ?l34 ?c34 ?k34 ?a35 ?l35 ?c35 ?k35 ?a36 ?l36 ?c36 ?k36 ?a37 ?l37 ?c37 ?k37 ?a38 ?l38 ?c38 ?k38 ?a39 ?l39 ?c39 ?k39 ?a40 ?l40 ?c40 ?k40 ?a41 ?l41 ?c41 ?k41 ?a42 ?l42 ?c42 ?k42 ?a43 ?l43 ?c43 ?k43 ?a44 ?l44 ?c44 ?k44 ?a45 ?l45 ?c45 ?k45 ?a46 ?l46 ?c46 ?k46 ?a47 ?l47 ?c47 ?k47 ?z_len ?z_sum ?z_any ?z_all ?z_isinstance ?z_max ?z_min ?z_int ?z_bool ?z_list ?z_tuple ?z_range ?z_enumerate ?z_zip ?y_MOST_LOAD ?y_MOST_LOADS ?hn ?htk ?pg_Fewest ?hd_Fewest ?po_Fewest ?sa_Fewest ?ha_Fewest ?hm_Fewest ?mk_Fewest ?kc_Fewest ?nn_Fewest_cuts ?nn_Fewest_stretches ?pg_Great ?hd_Great ?po_Great ?sa_Great ?ha_Great ?hm_Great ?mk_Great ?kc_Great ?nn_Great_place ?pg_Least ?hd_Least ?po_Least ?sa_Least ?ha_Least ?hm_Least ?mk_Least ?kc_Least ?nn_Least_cuts ?nn_Least_number ?nn_Least_stretches ?pg_Most ?hd_Most ?po_Most ?sa_Most ?ha_Most ?hm_Most ?mk_Most ?kc_Most ?nn_Most_cuts ?nn_Most_places
    (case aC_Fewest => k_is)
    (case aC_Great => k_is)
    (case aC_Least => k_is)
    (case aC_Most => k_is)
    (case a0 => k_is)
    (case l0 => k_is)
    (case c0 => k_is)
    (case k0 => k_is)
    (case a1 => k_is)
    (case l1 => k_is)
    (case c1 => k_is)
    (case k1 => k_is)
    (case a2 => k_is)
    (case l2 => k_is)
    (case c2 => k_is)
    (case k2 => k_is)
    (case a3 => k_is)
    (case l3 => k_is)
    (case c3 => k_is)
    (case k3 => k_is)
    (case a4 => k_is)
    (case l4 => k_is)
    (case c4 => k_is)
    (case k4 => k_is)
    (case a5 => k_is)
    (case l5 => k_is)
    (case c5 => k_is)
    (case k5 => k_is)
    (case a6 => k_is)
    (case l6 => k_is)
    (case c6 => k_is)
    (case k6 => k_is)
    (case a7 => k_is)
    (case l7 => k_is)
    (case c7 => k_is)
    (case k7 => k_is)
    (case a8 => k_is)
    (case l8 => k_is)
    (case c8 => k_is)
    (case k8 => k_is)
    (case a9 => k_is)
    (case i9 => k_is)
    (case l9 => k_is)
    (case c9 => k_is)
    (case k9 => k_is)
    (case a10 => k_is)
    (case i10 => k_is)
    (case l10 => k_is)
    (case c10 => k_is)
    (case k10 => k_is)
    (case a11 => k_is)
    (case l11 => k_is)
    (case c11 => k_is)
    (case k11 => k_is)
    (case a12 => k_is)
    (case l12 => k_is)
    (case c12 => k_is)
    (case k12 => k_is)
    (case a13 => k_is)
    (case i13 => k_is)
    (case l13 => k_is)
    (case c13 => k_is)
    (case k13 => k_is)
    (case a14 => k_is)
    (case l14 => k_is)
    (case c14 => k_is)
    (case k14 => k_is)
    (case a15 => k_is)
    (case l15 => k_is)
    (case c15 => k_is)
    (case k15 => k_is)
    (case a16 => k_is)
    (case i16 => k_is)
    (case l16 => k_is)
    (case c16 => k_is)
    (case k16 => k_is)
    (case a17 => k_is)
    (case l17 => k_is)
    (case c17 => k_is)
    (case k17 => k_is)
    (case a18 => k_is)
    (case l18 => k_is)
    (case c18 => k_is)
    (case k18 => k_is)
    (case a19 => k_is)
    (case l19 => k_is)
    (case c19 => k_is)
    (case k19 => k_is)
    (case a20 => k_is)
    (case l20 => k_is)
    (case c20 => k_is)
    (case k20 => k_is)
    (case a21 => k_is)
    (case l21 => k_is)
    (case c21 => k_is)
    (case k21 => k_is)
    (case a22 => k_is)
    (case l22 => k_is)
    (case c22 => k_is)
    (case k22 => k_is)
    (case a23 => k_is)
    (case l23 => k_is)
    (case c23 => k_is)
    (case k23 => k_is)
    (case a24 => k_is)
    (case l24 => k_is)
    (case c24 => k_is)
    (case k24 => k_is)
    (case a25 => k_is)
    (case l25 => k_is)
    (case c25 => k_is)
    (case k25 => k_is)
    (case a26 => k_is)
    (case i26 => k_is)
    (case l26 => k_is)
    (case c26 => k_is)
    (case k26 => k_is)
    (case a27 => k_is)
    (case i27 => k_is)
    (case l27 => k_is)
    (case c27 => k_is)
    (case k27 => k_is)
    (case a28 => k_is)
    (case i28 => k_is)
    (case l28 => k_is)
    (case c28 => k_is)
    (case k28 => k_is)
    (case a29 => k_is)
    (case i29 => k_is)
    (case l29 => k_is)
    (case c29 => k_is)
    (case k29 => k_is)
    (case a30 => k_is)
    (case l30 => k_is)
    (case c30 => k_is)
    (case k30 => k_is)
    (case a31 => k_is)
    (case i31 => k_is)
    (case l31 => k_is)
    (case c31 => k_is)
    (case k31 => k_is)
    (case a32 => k_is)
    (case i32 => k_is)
    (case l32 => k_is)
    (case c32 => k_is)
    (case k32 => k_is)
    (case a33 => k_is)
    (case l33 => k_is)
    (case c33 => k_is)
    (case k33 => k_is)
    (case a34 => k_is)
    (case l34 => k_is)
    (case c34 => k_is)
    (case k34 => k_is)
    (case a35 => k_is)
    (case l35 => k_is)
    (case c35 => k_is)
    (case k35 => k_is)
    (case a36 => k_is)
    (case l36 => k_is)
    (case c36 => k_is)
    (case k36 => k_is)
    (case a37 => k_is)
    (case l37 => k_is)
    (case c37 => k_is)
    (case k37 => k_is)
    (case a38 => k_is)
    (case l38 => k_is)
    (case c38 => k_is)
    (case k38 => k_is)
    (case a39 => k_is)
    (case l39 => k_is)
    (case c39 => k_is)
    (case k39 => k_is)
    (case a40 => k_is)
    (case l40 => k_is)
    (case c40 => k_is)
    (case k40 => k_is)
    (case a41 => k_is)
    (case l41 => k_is)
    (case c41 => k_is)
    (case k41 => k_is)
    (case a42 => k_is)
    (case l42 => k_is)
    (case c42 => k_is)
    (case k42 => k_is)
    (case a43 => k_is)
    (case l43 => k_is)
    (case c43 => k_is)
    (case k43 => k_is)
    (case a44 => k_is)
    (case l44 => k_is)
    (case c44 => k_is)
    (case k44 => k_is)
    (case a45 => k_is)
    (case l45 => k_is)
    (case c45 => k_is)
    (case k45 => k_is)
    (case a46 => k_is)
    (case l46 => k_is)
    (case c46 => k_is)
    (case k46 => k_is)
    (case a47 => k_is)
    (case l47 => k_is)
    (case c47 => k_is)
    (case k47 => k_is)
    (case z_len => k_is)
    (case z_sum => k_is)
    (case z_any => k_is)
    (case z_all => k_is)
    (case z_isinstance => k_is)
    (case z_max => k_is)
    (case z_min => k_is)
    (case z_int => k_is)
    (case z_bool => k_is)
    (case z_list => k_is)
    (case z_tuple => k_is)
    (case z_range => k_is)
    (case z_enumerate => k_is)
    (case z_zip => k_is)
    (case y_MOST_LOAD => k_is)
    (case y_MOST_LOADS => k_is)
    (case hn => k_is)
    (case htk => k_is)
    (case pg_Fewest => k_is)
    (case hd_Fewest => k_is)
    (case po_Fewest => k_is)
    (case sa_Fewest => k_is)
    (case ha_Fewest => k_is)
    (case hm_Fewest => k_is)
    (case mk_Fewest => k_is)
    (case kc_Fewest => k_is)
    (case nn_Fewest_cuts => k_is)
    (case nn_Fewest_stretches => k_is)
    (case pg_Great => k_is)
    (case hd_Great => k_is)
    (case po_Great => k_is)
    (case sa_Great => k_is)
    (case ha_Great => k_is)
    (case hm_Great => k_is)
    (case mk_Great => k_is)
    (case kc_Great => k_is)
    (case nn_Great_place => k_is)
    (case pg_Least => k_is)
    (case hd_Least => k_is)
    (case po_Least => k_is)
    (case sa_Least => k_is)
    (case ha_Least => k_is)
    (case hm_Least => k_is)
    (case mk_Least => k_is)
    (case kc_Least => k_is)
    (case nn_Least_cuts => k_is)
    (case nn_Least_number => k_is)
    (case nn_Least_stretches => k_is)
    (case pg_Most => k_is)
    (case hd_Most => k_is)
    (case po_Most => k_is)
    (case sa_Most => k_is)
    (case ha_Most => k_is)
    (case hm_Most => k_is)
    (case mk_Most => k_is)
    (case kc_Most => k_is)
    (case nn_Most_cuts => k_is)
    (case nn_Most_places => k_is)
