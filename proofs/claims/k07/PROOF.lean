import PyProof.Rows.All
import Wide.All
import OpenK.AllK
import Wide.FinOn
import Lean
import PyProof.EqAt
import PyProof.EqKinds
import PyProof.TupleCall
import PyProof.EnumMake
import PyProof.CallType
import PyProof.ZipIter
import PyProof.ListRange
import PyProof.WalkInts
import PySem.Challenge.RW_cutrow_k07_refused
def PySem.W.Fast.tw6756500600170355226 : Unit := ()
def PySem.W.Fast.tw3806082279803899058 : Unit := ()
def PySem.W.Fast.tw15096907803050756725 : Unit := ()
def PySem.W.Fast.tw17349124140927983632 : Unit := ()
def PySem.W.Fast.tw9842564806489328846 : Unit := ()
def PySem.W.Fast.tw3047876898090476611 : Unit := ()
def PySem.W.Fast.tw2853634392972424416 : Unit := ()
def PySem.W.Fast.tw2588817017527923483 : Unit := ()
def PySem.W.Fast.tw1482752467700799132 : Unit := ()
def PySem.W.Fast.tw4919268674565598170 : Unit := ()
def PySem.W.Fast.tw4085701913546053458 : Unit := ()
def PySem.W.Fast.tw11083094263231176168 : Unit := ()
def PySem.W.Fast.tw11626813177438144026 : Unit := ()
def PySem.W.Fast.tw3671393254682580093 : Unit := ()
def PySem.W.Fast.tw6502420541125986896 : Unit := ()
def PySem.W.Fast.tw225792123430474639 : Unit := ()
set_option Elab.async false
set_option linter.all false
set_option maxRecDepth 100000
namespace L2
open PySem PySem.Spec PyProof.Rows
abbrev Key := Sum Int Str
def keyIs : Key → Value → Bool
  | .inl k, v => Value.isInt k v
  | .inr x, v => Value.isStrOf x v
def keyH (w : World) : Key → Int
  | .inl k => hashInt k
  | .inr x => hashStr w x
theorem keyIs_shape : ∀ {k : Key} {v : Value}, keyIs k v = true → (∃ i t, k = Sum.inl i ∧ v = Value.int i t) ∨ (∃ x t, k = Sum.inr x ∧ v = Value.str x t)
  | .inl i, v, h => by
    obtain ⟨t, e⟩ := Value.isInt_shape (k := i) (v := v) h
    exact .inl ⟨i, t, rfl, e⟩
  | .inr x, v, h => by
    obtain ⟨t, e⟩ := Value.isStrOf_shape (x := x) (v := v) h
    exact .inr ⟨x, t, rfl, e⟩
theorem key_ll (a b : Int) : decide ((Sum.inl a : Key) = Sum.inl b) = (a == b) := by
  by_cases e : a = b
  · subst e; simp
  · have h : ¬ (Sum.inl a : Key) = Sum.inl b := fun q => e (Sum.inl.inj q)
    rw [decide_eq_false h]
    exact (beq_eq_false_iff_ne.mpr e).symm
theorem key_rr (a b : Str) : decide ((Sum.inr a : Key) = Sum.inr b) = decide (a = b) := by
  by_cases e : a = b
  · subst e; simp
  · have h : ¬ (Sum.inr a : Key) = Sum.inr b := fun q => e (Sum.inr.inj q)
    rw [decide_eq_false h, decide_eq_false e]
theorem key_lr (a : Int) (b : Str) : decide ((Sum.inl a : Key) = Sum.inr b) = false := decide_eq_false (fun q => nomatch q)
theorem key_rl (a : Str) (b : Int) : decide ((Sum.inr a : Key) = Sum.inl b) = false := decide_eq_false (fun q => nomatch q)
def mixKind (prog : Program) (w : World) : PySem.KeyKind prog w Key where
  is := keyIs
  hash := keyH w
  inj := fun v a b ha hb => by
    rcases keyIs_shape ha with ⟨i, t, rfl, rfl⟩ | ⟨x, t, rfl, rfl⟩
    · rcases keyIs_shape hb with ⟨j, u, rfl, e⟩ | ⟨y, u, rfl, e⟩
      · injection e with e1 _; rw [e1]
      · exact nomatch e
    · rcases keyIs_shape hb with ⟨j, u, rfl, e⟩ | ⟨y, u, rfl, e⟩
      · exact nomatch e
      · injection e with e1 _; rw [e1]
  byValue := fun k v h => by
    rcases keyIs_shape h with ⟨i, t, rfl, rfl⟩ | ⟨x, t, rfl, rfl⟩ <;> rfl
  pyHash := fun hv h => by
    rcases keyIs_shape hv with ⟨i, t, rfl, rfl⟩ | ⟨x, t, rfl, rfl⟩
    · exact wpAny_pyHash_int h
    · exact wpAny_pyHash_str h
  eqBool := fun hu hv h => by
    rcases keyIs_shape hu with ⟨i, t, rfl, rfl⟩ | ⟨x, t, rfl, rfl⟩
    · rcases keyIs_shape hv with ⟨j, u, rfl, rfl⟩ | ⟨y, u, rfl, rfl⟩
      · rw [key_ll] at h; exact wpAny_eqBool_int h
      · rw [key_lr] at h; exact SeqAt.EqAt.int_str i t y u _ _ _ _ h
    · rcases keyIs_shape hv with ⟨j, u, rfl, rfl⟩ | ⟨y, u, rfl, rfl⟩
      · rw [key_rl] at h; exact SeqAt.EqAt.str_int x t j u _ _ _ _ h
      · rw [key_rr] at h; exact wpAny_eqBool_str h
  «strs» := fun k x t v h => by
    rcases keyIs_shape h with ⟨i, u, rfl, e⟩ | ⟨y, u, rfl, e⟩
    · exact nomatch e
    · injection e with e1 _
      subst e1
      cases v <;> rfl
end L2
namespace L2
open PySem PySem.Spec PyProof.Rows
inductive V where
  | non | bl (b : Bool) | int (i : Int) | str (x : Str) | byt (b : Array UInt8) | flt (b : UInt64) | ref (a : Addr) | ty (n : String)
  deriving DecidableEq
def RelV : V → Value → Prop
  | .non, u => u = Value.none
  | .bl b, u => u = Value.bool b
  | .int i, u => ∃ t, u = Value.int i t
  | .str x, u => ∃ t, u = Value.str x t
  | .byt b, u => ∃ t, u = Value.bytes b t
  | .flt b, u => ∃ t, u = Value.float b t
  | .ref a, u => u = Value.ref a
  | .ty n, u => u = Value.type n
abbrev Vals : List V → List Value → Prop := Paired RelV
theorem Vals.length {xs : List V} {us : List Value} (r : Vals xs us) : xs.length = us.length := Paired.length r
theorem Vals.get : ∀ {xs : List V} {us : List Value} {i : Nat} {x : V}, Vals xs us → xs[i]? = some x → ∃ u, us[i]? = some u ∧ RelV x u
  | _, _, _, _, .nil, e => by simp at e
  | _, _, 0, _, .cons r _, e => by simp at e; subst e; exact ⟨_, rfl, r⟩
  | _, _, i + 1, x, .cons _ t, e => by
    obtain ⟨u, h1, h2⟩ := Vals.get (i := i) (x := x) t (by simpa using e)
    exact ⟨u, by simpa using h1, h2⟩
theorem Vals.append : ∀ {xs ys : List V} {us ws : List Value}, Vals xs us → Vals ys ws → Vals (xs ++ ys) (us ++ ws)
  | _, _, _, _, .nil, s => s
  | _, _, _, _, .cons r t, s => .cons r (Vals.append t s)
theorem Vals.take : ∀ {xs : List V} {us : List Value} (n : Nat), Vals xs us → Vals (xs.take n) (us.take n)
  | _, _, 0, _ => .nil
  | _, _, _ + 1, .nil => .nil
  | _, _, n + 1, .cons r t => .cons r (Vals.take n t)
theorem Vals.drop : ∀ {xs : List V} {us : List Value} (n : Nat), Vals xs us → Vals (xs.drop n) (us.drop n)
  | _, _, 0, r => r
  | _, _, _ + 1, .nil => .nil
  | _, _, n + 1, .cons _ t => Vals.drop n t
def RelO : Option V → Option Value → Prop
  | some v, some u => RelV v u
  | none, none => True
  | _, _ => False
def KV {κ : Type} : List (κ × V) → List (κ × Value) → Prop := Paired fun (p : κ × V) (q : κ × Value) => p.1 = q.1 ∧ RelV p.2 q.2
def kV : Key → V
  | .inl i => .int i
  | .inr x => .str x
inductive HO where
  /-- a list -/
  | lst (xs : List V)
  /-- a tuple (never changes) -/
  | tup (xs : List V)
  /-- a dict whose keys are ints and texts; one whose keys are tuples of ints and texts (the empty one is both) -/
  | dK (kvs : List (Key × V)) | dT (kvs : List (List Key × V))
  /-- a set of ints: its members, its size -/
  | set (S : Int → Bool) (n : Nat)
  /-- an instance of the class at C, its dict at dx, its attributes -/
  | ins (C dx : Addr) (fs : List (Str × V))
  /-- the dict of the instance at x -/
  | own (x : Addr)
  /-- the dict of an exception -/
  | xd (fs : List (Str × V))
  /-- a bound method, f of x -/
  | met (f x : Addr)
  /-- a range object lo, lo + 1, .. below hi -/
  | rng (lo hi : Int)
  /-- a thing that is known to the object (the script; a dict while a loop walks it): read, never written while it is so -/
  | frz (o : Obj) (u : HO)
  /-- a code object's table -/
  | tbl (ps : Array Value)
  /-- any other thing, by what is true of its one object (a def of one's own: SetO a S n := HO.ext fun h => ..) -/
  | ext (φ : Heap → Prop)
abbrev Hp := Addr → Option HO
def upd (H : Hp) (a : Addr) (o : HO) : Hp := fun b => if b = a then some o else H b
theorem upd_same {H : Hp} {a : Addr} {o : HO} : upd H a o a = some o := by unfold upd; rw [if_pos rfl]
theorem upd_ne {H : Hp} {a b : Addr} {o : HO} (h : b ≠ a) : upd H a o b = H b := by unfold upd; rw [if_neg h]
theorem upd_upd {H : Hp} {a : Addr} {o u : HO} : upd (upd H a o) a u = upd H a u := by
  funext b; unfold upd; split <;> rfl
theorem ne_of {H : Hp} {a b : Addr} {o u : HO} (h : H a = some o) (h' : H b = some u) (d : o ≠ u) : a ≠ b := by
  intro e; subst e; rw [h] at h'; exact d (Option.some.inj h')
theorem ne_of_none {H : Hp} {a b : Addr} {o : HO} (h : H a = some o) (h' : H b = none) : a ≠ b := by
  intro e; subst e; rw [h] at h'; cases h'
section
variable (P : Program) (w : World)
def ObjOk (H : Hp) (h : Heap) (a : Addr) : HO → Prop
  | .lst xs => xs.length ≤ sizeLine ∧ ∃ (its : List Value) (n : Nat), Vals xs its ∧ h.get? a = some { cls := .type "list", data := .seq its.toArray n }
  | .tup xs => xs.length ≤ sizeLine ∧ ∃ its : List Value, Vals xs its ∧ IsTup h a its.toArray
  | .dK kvs => kvs.length ≤ sizeLine ∧ (a == sysModules) = false ∧ ∃ vs, KV kvs vs ∧ h.DictOf (mixKind P w) a vs
  | .dT kvs => kvs.length ≤ sizeLine ∧ (a == sysModules) = false ∧ ∃ xs : List (List Key × Addr × Value),
      Paired (fun (p : List Key × V) (q : List Key × Addr × Value) => p.1 = q.1 ∧ H q.2.1 = some (.tup (p.1.map kV)) ∧ RelV p.2 q.2.2) kvs xs ∧
      ∃ o es ep, h.get? a = some o ∧ o.ExactDict ∧ o.data = .dict es ep ∧ es.toList = xs.map (entryOfKey (tupleKind (mixKind P w))) ∧ (xs.map (·.1)).Nodup
  | .set S n => h.SetOf (intKind P w) a S n
  | .ins C dx fs => H dx = some (.own a) ∧ fs.length ≤ 1000 ∧ dx ≠ a ∧ h.get? a = some (PySem.W.instObj C dx) ∧
      ∃ mA, h.Ns1 dx mA ∧ (∀ f, RelO (fs.lookup f) (mA f)) ∧ PySem.Within mA (fs.map (·.1))
  | .own _ => ∃ o, h.get? a = some o
  | .xd fs => ∃ mA, h.Ns1 a mA ∧ ∀ f, RelO (fs.lookup f) (mA f)
  | .rng lo hi => ∃ t u v, h.get? a = some { cls := .type "range", data := .fields #[.int lo t, .int hi u, .int 1 v] }
  | .frz o u => h.get? a = some o ∧ ObjOk H h a u
  | .tbl ps => h.get? a = some { cls := .none, data := .fields ps }
  | .met f x => h.get? a = some (PySem.W.methodObj (.ref f) (.ref x))
  | .ext φ => φ h ∧ (∃ o, h.get? a = some o) ∧ ∀ h1 h2 : Heap, φ h1 → (∀ o, h1.get? a = some o → h2.get? a = some o) → φ h2
def HOk (H : Hp) (h : Heap) : Prop := ∀ a o, H a = some o → ObjOk P w H h a o
end
section
variable {P : Program} {w : World} {H H' : Hp} {h h' : Heap} {a : Addr} {o : HO}
theorem ObjOk.lt (x : ObjOk P w H h a o) : a < h.objs.size := by
  cases o with
  | lst xs => obtain ⟨_, _, _, _, e⟩ := x; exact Heap.lt_size e
  | tup xs => obtain ⟨_, _, _, p⟩ := x; exact p.lt
  | dK kvs => obtain ⟨_, _, _, _, o, _, _, e, _⟩ := x; exact Heap.lt_size e
  | dT kvs => obtain ⟨_, _, _, _, o, _, _, e, _⟩ := x; exact Heap.lt_size e
  | set S n => obtain ⟨o, _, _, _, e, _⟩ := x; exact Heap.lt_size e
  | ins C dx fs => obtain ⟨_, _, _, e, _⟩ := x; exact Heap.lt_size e
  | own y => obtain ⟨_, e⟩ := x; exact Heap.lt_size e
  | xd fs => obtain ⟨_, ⟨_, _, _, e, _⟩, _⟩ := x; exact Heap.lt_size e
  | rng lo hi => obtain ⟨_, _, _, e⟩ := x; exact Heap.lt_size e
  | frz ob u => obtain ⟨e, _⟩ := x; exact Heap.lt_size e
  | tbl ps => exact Heap.lt_size (show h.get? a = some _ from x)
  | met f y => exact Heap.lt_size (show h.get? a = some _ from x)
  | ext φ => obtain ⟨_, ⟨_, e⟩, _⟩ := x; exact Heap.lt_size e
theorem Paired.mapP {α β : Type} {F G : α → β → Prop} : ∀ {l₁ : List α} {l₂ : List β}, Paired F l₁ l₂ → (∀ a b, F a b → G a b) → Paired G l₁ l₂
  | _, _, .nil, _ => .nil
  | _, _, .cons r t, f => .cons (f _ _ r) (Paired.mapP t f)
theorem ObjOk.stay (x : ObjOk P w H h a o) (k : ∀ b u, (b = a ∨ H b = some (.own a)) → h.get? b = some u → h'.get? b = some u)
    (ho : ∀ b, H b = some (.own a) → H' b = some (.own a)) (ht : ∀ b xs, H b = some (.tup xs) → H' b = some (.tup xs)) : ObjOk P w H' h' a o := by
  induction o with
  | lst xs => obtain ⟨z, its, n, r, e⟩ := x; exact ⟨z, its, n, r, k _ _ (.inl rfl) e⟩
  | tup xs => obtain ⟨z, its, r, ob, e, c⟩ := x; exact ⟨z, its, r, ob, k _ _ (.inl rfl) e, c⟩
  | dK kvs => obtain ⟨z, y, vs, r, ob, es, ep, e, c⟩ := x; exact ⟨z, y, vs, r, ob, es, ep, k _ _ (.inl rfl) e, c⟩
  | dT kvs =>
    obtain ⟨z, y, xs, r, ob, es, ep, e, c⟩ := x
    exact ⟨z, y, xs, Paired.mapP r fun p q z => ⟨z.1, ht _ _ z.2.1, z.2.2⟩, ob, es, ep, k _ _ (.inl rfl) e, c⟩
  | set S n => obtain ⟨ob, es, ep, t, e, c⟩ := x; exact ⟨ob, es, ep, t, k _ _ (.inl rfl) e, c⟩
  | ins C dx fs =>
    obtain ⟨d, z, ne, e, mA, ⟨od, es, ep, e2, c⟩, r⟩ := x
    exact ⟨ho _ d, z, ne, k _ _ (.inl rfl) e, mA, ⟨od, es, ep, k _ _ (.inr d) e2, c⟩, r⟩
  | own y => obtain ⟨ob, e⟩ := x; exact ⟨ob, k _ _ (.inl rfl) e⟩
  | xd fs => obtain ⟨mA, ⟨od, es, ep, e, c⟩, r⟩ := x; exact ⟨mA, ⟨od, es, ep, k _ _ (.inl rfl) e, c⟩, r⟩
  | rng lo hi => obtain ⟨t, u, v, e⟩ := x; exact ⟨t, u, v, k _ _ (.inl rfl) e⟩
  | frz ob u ih => obtain ⟨e, q⟩ := x; exact ⟨k _ _ (.inl rfl) e, ih q⟩
  | tbl ps =>
    have e : h.get? a = some { cls := .none, data := .fields ps } := x
    show h'.get? a = some { cls := .none, data := .fields ps }
    exact k a _ (.inl rfl) e
  | met f y =>
    have e : h.get? a = some (PySem.W.methodObj (.ref f) (.ref y)) := x
    show h'.get? a = some (PySem.W.methodObj (.ref f) (.ref y))
    exact k a _ (.inl rfl) e
  | ext φ => obtain ⟨p, ⟨o, e⟩, st⟩ := x; exact ⟨st _ _ p fun o q => k _ _ (.inl rfl) q, ⟨o, k _ _ (.inl rfl) e⟩, st⟩
theorem HOk.lt (x : HOk P w H h) (e : H a = some o) : a < h.objs.size := (x a o e).lt
theorem HOk.fresh (x : HOk P w H h) (e : h.objs.size ≤ a) : H a = none := by
  cases q : H a with
  | none => rfl
  | some u => exact absurd (Nat.lt_of_lt_of_le (x.lt q) e) (Nat.lt_irrefl _)
theorem HOk.kept (x : HOk P w H h) (k : ∀ b u, h.get? b = some u → h'.get? b = some u) : HOk P w H h' := fun a o e =>
  (x a o e).stay (fun b u _ q => k b u q) (fun _ q => q) fun _ _ q => q
theorem HOk.laid (x : HOk P w H h) (k : ∀ b u, h.get? b = some u → h'.get? b = some u) (hp : h.objs.size ≤ a) (new : ObjOk P w (upd H a o) h' a o) : HOk P w (upd H a o) h' := fun b u e => by
  have hn := x.fresh hp
  by_cases hb : b = a
  · subst hb; rw [upd_same] at e; cases e; exact new
  · rw [upd_ne hb] at e
    exact (x b u e).stay (fun c v _ q => k c v q) (fun c q => by rw [upd_ne (ne_of_none q hn)]; exact q) fun c xs q => by rw [upd_ne (ne_of_none q hn)]; exact q
end
def Rd (H : Hp) (a : Addr) (u : HO) : Prop := H a = some u ∨ ∃ o, H a = some (.frz o u)
theorem Rd.ok {P : Program} {w : World} {H : Hp} {h : Heap} {a : Addr} {u : HO} (r : Rd H a u) (x : HOk P w H h) : ObjOk P w H h a u := by
  rcases r with r | ⟨o, r⟩
  · exact x a u r
  · obtain ⟨_, q⟩ := x a _ r
    exact q
def Mut : Option HO → Prop
  | some (.lst _) => True
  | some (.dK _) => True
  | some (.dT _) => True
  | some (.set _ _) => True
  | some (.ins _ _ _) => True
  | some (.ext _) => True
  | _ => False
section
variable {P : Program} {w : World} {H : Hp} {h h' : Heap} {x e : Addr} {o' : HO}
theorem HOk.write (ok : HOk P w H h) (mu : Mut (H x)) (he : e = x ∨ H e = some (.own x)) (k : ∀ b u, b ≠ e → h.get? b = some u → h'.get? b = some u) (heo : ∃ u, h'.get? e = some u)
    (new : ObjOk P w (upd H x o') h' x o') : HOk P w (upd H x o') h' := fun b u q => by
  have nown : ∀ c y, H c = some (.own y) → c ≠ x := fun c y r z => by subst z; rw [r] at mu; exact mu
  have ntup : ∀ c xs, H c = some (.tup xs) → c ≠ x := fun c xs r z => by subst z; rw [r] at mu; exact mu
  by_cases hb : b = x
  · subst hb; rw [upd_same] at q; cases q; exact new
  · rw [upd_ne hb] at q
    by_cases hbe : b = e
    · have q' : H b = some (.own x) := by
        rcases he with z | z
        · exact absurd (hbe.trans z) hb
        · rw [hbe]; exact z
      rw [q] at q'; cases q'
      obtain ⟨v, hv⟩ := heo
      exact ⟨v, by rw [hbe]; exact hv⟩
    · refine (ok b u q).stay (fun c v hc r => k c v ?_ r) (fun c r => by rw [upd_ne (nown c b r)]; exact r) fun c xs r => by rw [upd_ne (ntup c xs r)]; exact r
      rcases hc with rfl | hc
      · exact hbe
      · rintro rfl
        rcases he with z | z
        · exact nown c b hc z
        · rw [hc] at z; cases z; exact hb rfl
end
structure Un (fs ex : List Addr) (H H' : Hp) (h h' : Heap) : Prop where
  keep : ∀ b o, h.get? b = some o → H b = none → b ∉ fs → b ∉ ex → h'.get? b = some o
  slot : ∀ b o, h.get? b = some o → H b = none → b ∈ fs → b ∉ ex → ∃ sl, h'.get? b = some { o with slots := sl }
  free : ∀ b o, h.get? b = some o → H b = none → b ∉ ex → H' b = none
  there : ∀ b o, h.get? b = some o → b ∉ ex → ∃ o', h'.get? b = some o'
  tups : ∀ b xs, H b = some (.tup xs) → H' b = some (.tup xs)
  frzs : ∀ b o u, H b = some (.frz o u) → H' b = some (.frz o u)
  tbls : ∀ b ps, H b = some (.tbl ps) → ∃ more, H' b = some (.tbl (ps ++ more))
section
variable {fs fs' ex ex' : List Addr} {H H1 H2 : Hp} {h h1 h2 h' : Heap} {a x e : Addr} {o : HO}
theorem Un.any (u : Un fs ex H H1 h h1) {b : Addr} {ob : Obj} (q : h.get? b = some ob) (n : H b = none) (hx : b ∉ ex) : ∃ sl, h1.get? b = some { ob with slots := sl } := by
  by_cases hb : b ∈ fs
  · exact u.slot b ob q n hb hx
  · exact ⟨ob.slots, u.keep b ob q n hb hx⟩
theorem Un.kept (k : ∀ b u, h.get? b = some u → h'.get? b = some u) : Un fs ex H H h h' :=
  ⟨fun b ob q _ _ _ => k b ob q, fun b ob q _ _ _ => ⟨ob.slots, k b ob q⟩, fun _ _ _ n _ => n, fun b ob q _ => ⟨ob, k b ob q⟩, fun _ _ q => q, fun _ _ _ q => q, fun _ ps q => ⟨#[], by rw [q]; simp⟩⟩
theorem Un.refl : Un fs ex H H h h := Un.kept fun _ _ q => q
theorem Un.laid (k : ∀ b u, h.get? b = some u → h'.get? b = some u) (hp : h.objs.size ≤ a) (hn : H a = none) : Un fs ex H (upd H a o) h h' where
  keep := fun b u q _ _ _ => k b u q
  slot := fun b u q _ _ _ => ⟨u.slots, k b u q⟩
  free := fun b u q n _ => by rw [upd_ne (Nat.ne_of_lt (Nat.lt_of_lt_of_le (Heap.lt_size q) hp))]; exact n
  there := fun b u q _ => ⟨u, k b u q⟩
  tups := fun b xs q => by rw [upd_ne (ne_of_none q hn)]; exact q
  frzs := fun b u xs q => by rw [upd_ne (ne_of_none q hn)]; exact q
  tbls := fun b ps q => ⟨#[], by rw [upd_ne (ne_of_none q hn), q]; simp⟩
theorem Un.write (mu : Mut (H x)) (he : e = x ∨ H e = some (.own x)) (k : ∀ b u, b ≠ e → h.get? b = some u → h'.get? b = some u) (heo : ∃ u, h'.get? e = some u) : Un fs ex H (upd H x o) h h' := by
  have hx : ∀ b, H b = none → b ≠ x := fun b n z => by subst z; rw [n] at mu; exact mu
  have hb : ∀ b, H b = none → b ≠ e := fun b n z => by
    subst z
    rcases he with r | r
    · exact hx b n r
    · rw [n] at r; cases r
  have hm : ∀ b u, H b = some u → ¬ Mut (some u) → b ≠ x := fun b u q nm z => by subst z; rw [q] at mu; exact nm mu
  refine ⟨fun b u q n _ _ => k b u (hb b n) q, fun b u q n _ _ => ⟨u.slots, k b u (hb b n) q⟩, fun b u q n _ => by rw [upd_ne (hx b n)]; exact n, fun b u q _ => ?_,
    fun b xs q => by rw [upd_ne (hm b _ q fun z => z)]; exact q, fun b u xs q => by rw [upd_ne (hm b _ q fun z => z)]; exact q, fun b ps q => ⟨#[], by rw [upd_ne (hm b _ q fun z => z), q]; simp⟩⟩
  by_cases hbe : b = e
  · subst hbe; exact heo
  · exact ⟨u, k b u hbe q⟩
end
def trk (h : Heap) (H : Hp) : List Addr := (List.range h.objs.size).filter fun a => (H a).isSome
def hidT (h : Heap) (H : Hp) : Heap := PySem.W.hideAll h (trk h H)
theorem hidT_size (h : Heap) (H : Hp) : (hidT h H).objs.size = h.objs.size := PySem.W.hideAll_size _ _
theorem hidT_get {h : Heap} {H : Hp} {b : Addr} {o : Obj} (e : h.get? b = some o) (n : H b = none) : (hidT h H).get? b = some o :=
  PySem.W.hideAll_get _ e fun hm => by
    have q : (H b).isSome = true := (List.mem_filter.mp hm).2
    rw [n] at q; simp at q
theorem of_hidT {h : Heap} {H : Hp} {b : Addr} {o : Obj} (e : (hidT h H).get? b = some o) : h.get? b = some o ∧ H b = none := by
  have e' : h.get? b = some o := PySem.W.of_hideAll (trk h H) e
  refine ⟨e', ?_⟩
  cases q : H b with
  | none => rfl
  | some x =>
    have hm : b ∈ trk h H := List.mem_filter.mpr ⟨List.mem_range.mpr (Heap.lt_size e'), by simp [q]⟩
    have z : (hidT h H).get? b = none := PySem.W.hideAll_none (trk h H) hm
    rw [z] at e; cases e
def allNews (g h : Heap) (L : Addr) : List (Addr × Obj) := (List.range h.objs.size).filterMap fun a => if a = L ∨ (g.get? a).isSome = true then none else (h.get? a).map fun o => (a, o)
def rest (g h : Heap) (L d : Addr) : List (Addr × Obj) := (allNews g h L).filter fun p => decide (p.1 ≠ d)
end L2
namespace L2
open PySem PySem.Spec PyProof.Rows
structure Mod (K : PySem.W.Frag) (mg : Str → Option Value) (base : Heap) : Prop where
  kin : K.In base
  glob : base.Ns mainGlobals mg
  blt : ∃ mb, base.Ns builtinsNs mb ∧ ∀ x : Str, x ≠ "__name__" → mb x = bootBuiltins x
  nolimit : base.NoLimit
structure Cx where
  prog : Program
  w : World
  K : PySem.W.Frag
  mg : Str → Option Value
  base : Heap
  A : Around
  N : List Str
  s₀ : Shared
  H₀ : Hp
  env : Env
  outer : List Env
  stack : List Env
  ex : List Addr
  fn : Str → Bool
  calm : Bool
  pn : List (Addr × Obj)
  xe : Value → Shared → Prop
def frs (l : List Env) : List Addr := l.filterMap (·.frame)
abbrev Cx.fs (X : Cx) : List Addr := frs X.outer
def Vis (sc : Scope) (x : Str) : Prop := sc.names.lookup x = some .local ∨ sc.names.lookup x = some .cell ∨ sc.names.lookup x = some .free
def Loc (sc : Scope) (x : Str) : Prop := sc.names.lookup x = some .local ∨ sc.names.lookup x = some .cell
def Look (env : Env) (h : Heap) (m : Str → Option Value) (x : Str) (u : Value) : Prop :=
  (env.kindOf x = some .local ∧ m x = some u) ∨ ((env.kindOf x = some .cell ∨ env.kindOf x = some .free) ∧ ∃ c, env.cells.lookup x = some c ∧ h.IsCell c (some u))
structure Cx.Ok (X : Cx) : Prop where
  mod : Mod X.K X.mg X.base
  kind : X.env.scope.kind = .function
  glob : X.env.globals = mainGlobals
  blt : X.env.builtins = builtinsNs
  above : X.s₀.heap.objs.size ≤ X.env.locals
  inj : ∀ x y c, X.env.cells.lookup x = some c → X.env.cells.lookup y = some c → x = y
  has : ∀ x, (X.env.kindOf x = some .cell ∨ X.env.kindOf x = some .free) → ∃ c, X.env.cells.lookup x = some c
  cab : ∀ x c, X.fn x = true → X.env.cells.lookup x = some c → X.s₀.heap.objs.size ≤ c
  hd : X.calm = true → X.A.handled = none
  frames : X.A.frames = some X.stack
  stk : X.stack = X.outer ∨ (X.stack = X.env :: X.outer ∧ X.env.frame = some X.env.locals)
  exf : ∀ b ∈ X.ex, b ≠ X.env.locals ∧ ∀ x c, X.env.cells.lookup x = some c → c ≠ b
  bs : ∀ b o, X.base.get? b = some o → X.s₀.heap.get? b = some o ∧ X.H₀ b = none
  bsz : X.base.objs.size ≤ X.s₀.heap.objs.size
  noex : ∀ b o, X.base.get? b = some o → b ∉ X.ex
  exfs : ∀ b ∈ X.ex, b ∉ X.fs
  funs : X.s₀.heap.FunFrames X.base X.outer
  frf : ∀ b ∈ X.fs, X.H₀ b = none
structure Inv (X : Cx) (pins : List (Addr × Obj)) (σ : List (Option V)) (H : Hp) (s : Shared) : Prop where
  ok : X.Ok
  os : s.os = X.s₀.os
  bare : AllBare s.gens
  base : Un X.fs X.ex X.H₀ H X.s₀.heap s.heap
  loc : ∃ m, s.heap.Ns X.env.locals m ∧ ∀ (i : Nat) (x : Str) (v : V), X.N[i]? = some x → σ[i]? = some (some v) → Vis X.env.scope x → ∃ u, RelV v u ∧ Look X.env s.heap m x u
  cell : ∀ x c, X.env.cells.lookup x = some c → ∃ v, s.heap.IsCell c v
  free : H X.env.locals = none
  freeC : ∀ x c, X.env.cells.lookup x = some c → H c = none
  pin : ∀ p ∈ X.pn ++ pins, s.heap.get? p.1 = some p.2 ∧ H p.1 = none ∧ p.1 ≠ X.env.locals ∧ p.1 ∉ X.fs ∧ ∀ v, p.2.data ≠ .cell v
  hok : HOk X.prog X.w H s.heap
  len : σ.length = X.N.length
section
variable {X : Cx} {pins : List (Addr × Obj)} {σ : List (Option V)} {H H' : Hp} {s : Shared} {h' : Heap}
theorem Cx.Ok.nofr (ok : X.Ok) {b : Addr} {o : Obj} (e : X.base.get? b = some o) : b ∉ X.fs := fun hb => by
  have := (ok.funs.mem hb).1
  rw [e] at this; cases this
theorem Inv.bs (I : Inv X pins σ H s) : ∀ b o, X.base.get? b = some o → s.heap.get? b = some o ∧ H b = none := fun b o e =>
  ⟨I.base.keep b o (I.ok.bs b o e).1 (I.ok.bs b o e).2 (I.ok.nofr e) (I.ok.noex b o e), I.base.free b o (I.ok.bs b o e).1 (I.ok.bs b o e).2 (I.ok.noex b o e)⟩
theorem Inv.bk (I : Inv X pins σ H s) : ∀ b o, X.base.get? b = some o → s.heap.get? b = some o := fun b o e => (I.bs b o e).1
theorem Inv.mod (I : Inv X pins σ H s) : Mod X.K X.mg X.base := I.ok.mod
theorem Inv.kIn (I : Inv X pins σ H s) : X.K.In s.heap := I.ok.mod.kin.keeps I.bk
theorem Inv.lt (I : Inv X pins σ H s) : X.env.locals < s.heap.objs.size := let ⟨_, hn, _⟩ := I.loc; hn.lt
theorem Inv.sz (I : Inv X pins σ H s) : X.s₀.heap.objs.size ≤ s.heap.objs.size := Nat.le_trans I.ok.above (Nat.le_of_lt I.lt)
theorem Inv.nofs (I : Inv X pins σ H s) {a : Addr} (h : s.heap.objs.size ≤ a) : a ∉ X.fs := fun hb => by
  obtain ⟨_, o, ho, _⟩ := I.ok.funs.mem hb
  exact absurd (Nat.lt_of_lt_of_le (Heap.lt_size ho) (Nat.le_trans I.sz h)) (Nat.lt_irrefl _)
theorem Inv.cne (I : Inv X pins σ H s) : ∀ x c, X.env.cells.lookup x = some c → c ≠ X.env.locals := fun x c e z => by
  obtain ⟨v, o, ho, hd⟩ := I.cell x c e
  obtain ⟨m, ⟨o', es, ep, ho', hd', _⟩, _⟩ := I.loc
  rw [z, ho'] at ho; cases ho; rw [hd'] at hd; cases hd
theorem Inv.funs (I : Inv X pins σ H s) : s.heap.FunFrames X.base X.outer := by
  have all : ∀ (l : List Env), (∀ b ∈ frs l, b ∈ X.fs) → X.s₀.heap.FunFrames X.base l → s.heap.FunFrames X.base l := by
    intro l
    induction l with
    | nil => intro _ _; trivial
    | cons env r ih =>
      intro hs hl
      obtain ⟨hk, ⟨L, o, hf, hn, ho, hd⟩, hr⟩ := hl
      have hL : L ∈ X.fs := hs L (by unfold frs; rw [List.filterMap_cons, hf]; exact List.mem_cons_self)
      obtain ⟨sl, e⟩ := I.base.slot L o ho (I.ok.frf L hL) hL fun z => I.ok.exfs L z hL
      exact ⟨hk, ⟨L, _, hf, hn, e, hd⟩, ih (fun b hb => hs b (by unfold frs; rw [List.filterMap_cons, hf]; exact List.mem_cons_of_mem _ hb)) hr⟩
  exact all X.outer (fun _ hb => hb) I.ok.funs
theorem Inv.stack (I : Inv X pins σ H s) : s.heap.FunFrames X.base X.stack := by
  rcases I.ok.stk with e | ⟨e, hf⟩
  · rw [e]; exact I.funs
  · rw [e]
    obtain ⟨m, hn, _⟩ := I.loc
    refine .cons (by rw [I.ok.kind]; decide) hf hn ?_ I.funs
    exact Heap.get?_none_of_le (Nat.le_trans I.ok.bsz I.ok.above)
theorem Inv.stkSub (I : Inv X pins σ H s) : ∀ b ∈ frs X.stack, b ∈ X.env.locals :: X.fs := fun b hb => by
  rcases I.ok.stk with e | ⟨e, hf⟩
  · rw [e] at hb; exact List.mem_cons_of_mem _ hb
  · rw [e] at hb
    unfold frs at hb
    rw [List.filterMap_cons, hf] at hb
    exact hb
theorem Inv.stkFree (I : Inv X pins σ H s) : ∀ b ∈ frs X.stack, H b = none := fun b hb => by
  rcases List.mem_cons.mp (I.stkSub b hb) with e | hb
  · rw [e]; exact I.free
  · obtain ⟨_, o, ho, _⟩ := I.ok.funs.mem hb
    exact I.base.free b o ho (I.ok.frf b hb) fun z => I.ok.exfs b z hb
theorem Inv.step {g' : Array GenState} {t' : Nat} {d' : Drawn} {ch : List Addr} (I : Inv X pins σ H s)
    (hch : ∀ b ∈ ch, (b ∈ X.ex ∨ X.s₀.heap.objs.size ≤ b) ∧ b ≠ X.env.locals ∧ (∀ x c, X.env.cells.lookup x = some c → c ≠ b) ∧ ∀ p ∈ X.pn ++ pins, p.1 ≠ b)
    (keep : ∀ b o, b ≠ X.env.locals → b ∉ X.fs → b ∉ ch → s.heap.get? b = some o → H b = none → h'.get? b = some o)
    (slot : ∀ b o, b ≠ X.env.locals → b ∈ X.fs → b ∉ ch → s.heap.get? b = some o → H b = none → ∃ sl, h'.get? b = some { o with slots := sl }) (free : ∀ b o, b ∉ ch → s.heap.get? b = some o → H b = none → H' b = none)
    (there : ∀ b o, b ∉ ch → s.heap.get? b = some o → ∃ o', h'.get? b = some o')
    (tups : ∀ b xs, H b = some (.tup xs) → H' b = some (.tup xs)) (frzs : ∀ b o u, H b = some (.frz o u) → H' b = some (.frz o u)) (tbls : ∀ b ps, H b = some (.tbl ps) → ∃ more, H' b = some (.tbl (ps ++ more)))
    (ns : ∀ m, s.heap.Ns X.env.locals m → h'.Ns X.env.locals m) (hok : HOk X.prog X.w H' h') (hg : AllBare g') :
    Inv X pins σ H' { s with heap := h', gens := g', drawn := d', toks := t' } := by
  have neL : ∀ b o, X.s₀.heap.get? b = some o → b ≠ X.env.locals := fun b o e => Nat.ne_of_lt (Nat.lt_of_lt_of_le (Heap.lt_size e) I.ok.above)
  have neC : ∀ b o, X.s₀.heap.get? b = some o → b ∉ X.ex → b ∉ ch := fun b o e hx hb => by
    rcases (hch b hb).1 with z | z
    · exact hx z
    · exact absurd (Nat.lt_of_lt_of_le (Heap.lt_size e) z) (Nat.lt_irrefl _)
  have cellK : ∀ x c, X.env.cells.lookup x = some c → ∀ v, s.heap.IsCell c v → h'.IsCell c v := fun x c e v ⟨o, ho, hd⟩ => by
    have nch : c ∉ ch := fun z => (hch c z).2.2.1 x c e rfl
    by_cases hc : c ∈ X.fs
    · obtain ⟨sl, q⟩ := slot c o (I.cne x c e) hc nch ho (I.freeC x c e)
      exact ⟨_, q, hd⟩
    · exact ⟨o, keep c o (I.cne x c e) hc nch ho (I.freeC x c e), hd⟩
  refine ⟨I.ok, I.os, hg, ⟨fun b o e n hb hx => ?_, fun b o e n hb hx => ?_, fun b o e n hx => ?_, fun b o e hx => ?_, fun b xs e => tups b xs (I.base.tups b xs e), fun b o xs e => frzs b o xs (I.base.frzs b o xs e), fun b ps e => ?_⟩, ?_, fun x c e => ?_, ?_, fun x c e => ?_, fun p hp => ?_, hok, I.len⟩
  · exact keep b o (neL b o e) hb (neC b o e hx) (I.base.keep b o e n hb hx) (I.base.free b o e n hx)
  · obtain ⟨sl, e1⟩ := I.base.slot b o e n hb hx
    obtain ⟨sl', e2⟩ := slot b _ (neL b o e) hb (neC b o e hx) e1 (I.base.free b o e n hx)
    exact ⟨sl', e2⟩
  · obtain ⟨o', e1⟩ := I.base.there b o e hx
    exact free b o' (neC b o e hx) e1 (I.base.free b o e n hx)
  · obtain ⟨o', e1⟩ := I.base.there b o e hx
    exact there b o' (neC b o e hx) e1
  · obtain ⟨m1, e1⟩ := I.base.tbls b ps e
    obtain ⟨m2, e2⟩ := tbls b _ e1
    exact ⟨m1 ++ m2, by rw [e2, Array.append_assoc]⟩
  · obtain ⟨m, hn, hl⟩ := I.loc
    refine ⟨m, ns m hn, fun i x v e1 e2 e3 => ?_⟩
    obtain ⟨u, r, l⟩ := hl i x v e1 e2 e3
    refine ⟨u, r, ?_⟩
    rcases l with l | ⟨k, c, e, z⟩
    · exact .inl l
    · exact .inr ⟨k, c, e, cellK x c e _ z⟩
  · obtain ⟨v, z⟩ := I.cell x c e
    exact ⟨v, cellK x c e v z⟩
  · obtain ⟨m, ⟨o, _, _, ho, _⟩, _⟩ := I.loc
    exact free _ o (fun z => (hch _ z).2.1 rfl) ho I.free
  · obtain ⟨v, o, ho, hd⟩ := I.cell x c e
    exact free c o (fun z => (hch c z).2.2.1 x c e rfl) ho (I.freeC x c e)
  · obtain ⟨e, n, ne, nf, d⟩ := I.pin p hp
    have nch : p.1 ∉ ch := fun z => (hch p.1 z).2.2.2 p hp rfl
    exact ⟨keep p.1 p.2 ne nf nch e n, free p.1 p.2 nch e n, ne, nf, d⟩
theorem Inv.un {t' : Nat} (I : Inv X pins σ H s) (u : Un X.fs [] H H' s.heap h') (hok : HOk X.prog X.w H' h') : Inv X pins σ H' { s with heap := h', toks := t' } := by
  obtain ⟨m, ⟨o, es, ep, ho, r⟩, _⟩ := id I.loc
  obtain ⟨sl, hL⟩ := u.any ho I.free (by simp)
  exact I.step (g' := s.gens) (d' := s.drawn) (ch := []) (fun _ z => nomatch z) (fun b o _ hb _ e n => u.keep b o e n hb (by simp)) (fun b o _ hb _ e n => u.slot b o e n hb (by simp)) (fun b o _ e n => u.free b o e n (by simp)) (fun b o _ e => u.there b o e (by simp)) u.tups u.frzs u.tbls (fun m' hm => by
    obtain ⟨o', es', ep', ho', r'⟩ := hm
    rw [ho] at ho'; cases ho'
    exact ⟨_, es', ep', hL, r'⟩) hok I.bare
theorem Inv.call {g' : Array GenState} {t' : Nat} {d' : Drawn} {ch : List Addr} (I : Inv X pins σ H s) (u : Un (frs X.stack) ch H H' s.heap h') (hok : HOk X.prog X.w H' h') (hg : AllBare g')
    (hch : ∀ b ∈ ch, (b ∈ X.ex ∨ X.s₀.heap.objs.size ≤ b) ∧ b ≠ X.env.locals ∧ (∀ x c, X.env.cells.lookup x = some c → c ≠ b) ∧ ∀ p ∈ X.pn ++ pins, p.1 ≠ b) :
    Inv X pins σ H' { s with heap := h', gens := g', drawn := d', toks := t' } := by
  obtain ⟨m, ⟨o, es, ep, ho, r⟩, _⟩ := id I.loc
  obtain ⟨sl, hL⟩ := u.any ho I.free fun z => (hch _ z).2.1 rfl
  exact I.step (ch := ch) hch (fun b o hL hb hc e n => u.keep b o e n (fun z => (List.mem_cons.mp (I.stkSub b z)).elim hL hb) hc) (fun b o _ _ hc e n => u.any e n hc) (fun b o hc e n => u.free b o e n hc) (fun b o hc e => u.there b o e hc) u.tups u.frzs u.tbls (fun m' hm => by
    obtain ⟨o', es', ep', ho', r'⟩ := hm
    rw [ho] at ho'; cases ho'
    exact ⟨_, es', ep', hL, r'⟩) hok hg
theorem Inv.turned {t' : Nat} {it : Addr} (I : Inv X pins σ H s) (k : ∀ b o, b ≠ it → s.heap.get? b = some o → h'.get? b = some o) (hn : H it = none) (hL : it ≠ X.env.locals)
    (h1 : it ∈ X.ex ∨ X.s₀.heap.objs.size ≤ it) (h2 : ∀ x c, X.env.cells.lookup x = some c → c ≠ it) (h3 : ∀ p ∈ X.pn ++ pins, p.1 ≠ it) : Inv X pins σ H { s with heap := h', toks := t' } := by
  have nit : ∀ b u, H b = some u → b ≠ it := fun b u e z => by rw [z, hn] at e; cases e
  refine I.step (g' := s.gens) (d' := s.drawn) (ch := [it]) (fun b hb => ?_) (fun b o _ _ hc e _ => k b o (fun z => hc (by simp [z])) e) (fun b o _ _ hc e _ => ⟨o.slots, k b o (fun z => hc (by simp [z])) e⟩) (fun _ _ _ _ n => n)
    (fun b o hc e => ⟨o, k b o (fun z => hc (by simp [z])) e⟩) (fun _ _ e => e) (fun _ _ _ e => e) (fun b ps e => ⟨#[], by rw [e]; simp⟩) (fun m hm => ?_) (fun b u e => ?_) I.bare
  · have e : b = it := by simpa using hb
    subst e
    exact ⟨h1, hL, h2, h3⟩
  · obtain ⟨o, es, ep, ho, r⟩ := hm
    exact ⟨o, es, ep, k _ o (Ne.symm hL) ho, r⟩
  · refine (I.hok b u e).stay (fun c v hc q => k c v ?_ q) (fun _ q => q) fun _ _ q => q
    rcases hc with z | z
    · rw [z]; exact nit b u e
    · exact nit c _ z
theorem Inv.tok (I : Inv X pins σ H s) (t : Nat) : Inv X pins σ H { s with toks := t } := I.un (h' := s.heap) (t' := t) Un.refl I.hok
theorem Inv.kept {t' : Nat} (I : Inv X pins σ H s) (k : ∀ b u, s.heap.get? b = some u → h'.get? b = some u) : Inv X pins σ H { s with heap := h', toks := t' } := I.un (Un.kept k) (I.hok.kept k)
theorem Inv.laid {a : Addr} {o : HO} {t' : Nat} (I : Inv X pins σ H s) (k : ∀ b u, s.heap.get? b = some u → h'.get? b = some u) (hp : s.heap.objs.size ≤ a) (new : ObjOk X.prog X.w (upd H a o) h' a o) :
    Inv X pins σ (upd H a o) { s with heap := h', toks := t' } := I.un (Un.laid k hp (I.hok.fresh hp)) (I.hok.laid k hp new)
theorem Inv.write {x e : Addr} {o : HO} {t' : Nat} (I : Inv X pins σ H s) (mu : Mut (H x)) (he : e = x ∨ H e = some (.own x)) (k : ∀ b u, b ≠ e → s.heap.get? b = some u → h'.get? b = some u) (heo : ∃ u, h'.get? e = some u)
    (new : ObjOk X.prog X.w (upd H x o) h' x o) : Inv X pins σ (upd H x o) { s with heap := h', toks := t' } := I.un (Un.write mu he k heo) (I.hok.write mu he k heo new)
theorem Inv.pins_of {pins' : List (Addr × Obj)} (I : Inv X pins σ H s) (h : ∀ p ∈ pins', s.heap.get? p.1 = some p.2 ∧ H p.1 = none ∧ p.1 ≠ X.env.locals ∧ p.1 ∉ X.fs ∧ ∀ v, p.2.data ≠ .cell v) : Inv X pins' σ H s :=
  ⟨I.ok, I.os, I.bare, I.base, I.loc, I.cell, I.free, I.freeC, fun p hp => (List.mem_append.mp hp).elim (fun z => I.pin p (List.mem_append_left _ z)) (h p), I.hok, I.len⟩
theorem nodup_ix {N : List Str} (hN : N.Nodup) {i j : Nat} {x : Str} (a : N[i]? = some x) (b : N[j]? = some x) : i = j := by
  obtain ⟨h1, e1⟩ := List.getElem?_eq_some_iff.mp a
  obtain ⟨h2, e2⟩ := List.getElem?_eq_some_iff.mp b
  exact (List.getElem_inj hN).mp (e1.trans e2.symm)
theorem store_ok2 {M : Model} {A : Around} {E : Value → Shared → Prop} {i : Nat} {x : Str} {v : V} {u : Value} {Q : Unit → Shared → Prop} (I : Inv X pins σ H s) (hN : X.N.Nodup) (hi : X.N[i]? = some x) (hx : Loc X.env.scope x) (r : RelV v u)
    (h : ∀ s', Inv X pins (σ.set i (some v)) H s' → (∃ a, Heap.SameBut a s.heap s'.heap ∧ (a = X.env.locals ∨ X.env.cells.lookup x = some a)) → Q () s') (hf : X.fn x = true ∨ X.env.scope.names.lookup x = some .local := by first | exact .inl rfl | exact .inr rfl | assumption) : wpAny M A (storeName X.env x u) Q E s := by
  obtain ⟨m, hn, hl⟩ := id I.loc
  have hcls : (X.env.scope.kind == .class || (X.env.scope.kind == .module && X.env.locals != X.env.globals)) = false := by rw [I.ok.kind]; rfl
  have hiσ : i < σ.length := by rw [I.len]; exact (List.getElem?_eq_some_iff.mp hi).1
  have cne := I.cne
  have tracked : ∀ {a : Addr} {h' : Heap}, (∃ o, s.heap.get? a = some o ∧ H a = none) → Heap.SameBut a s.heap h' → HOk X.prog X.w H h' := fun {a h'} ha hs b ob e => by
    obtain ⟨_, _, hfree⟩ := ha
    refine (I.hok b ob e).stay (fun c w' hc q => (hs.2 c ?_).trans q) (fun _ q => q) fun _ _ q => q
    rintro rfl
    rcases hc with rfl | hc
    · rw [hfree] at e; cases e
    · rw [hfree] at hc; cases hc
  rcases hx with hk | hk
  · refine wpAny_storeName_local hk hn (fun h' hn' hs => ?_) hcls
    obtain ⟨oL, _, _, hoL, _⟩ := id hn
    refine h _ ⟨I.ok, I.os, I.bare, ⟨fun b o e n hb hx => ?_, fun b o e n hb hx => ?_, I.base.free, fun b o e hx => ?_, I.base.tups, I.base.frzs, I.base.tbls⟩, ⟨_, hn', fun j y v' e1 e2 e3 => ?_⟩, fun y c e => ?_, I.free, I.freeC, fun p hp => ?_, tracked ⟨oL, hoL, I.free⟩ hs, by simpa using I.len⟩ ⟨_, hs, .inl rfl⟩
    · exact (hs.2 b (Nat.ne_of_lt (Nat.lt_of_lt_of_le (Heap.lt_size e) I.ok.above))).trans (I.base.keep b o e n hb hx)
    · obtain ⟨sl, e1⟩ := I.base.slot b o e n hb hx
      exact ⟨sl, (hs.2 b (Nat.ne_of_lt (Nat.lt_of_lt_of_le (Heap.lt_size e) I.ok.above))).trans e1⟩
    · obtain ⟨o', e1⟩ := I.base.there b o e hx
      exact ⟨o', (hs.2 b (Nat.ne_of_lt (Nat.lt_of_lt_of_le (Heap.lt_size e) I.ok.above))).trans e1⟩
    · by_cases hj : j = i
      · subst hj
        rw [hi] at e1; cases e1
        rw [List.getElem?_set_self hiσ] at e2
        cases e2
        exact ⟨u, r, .inl ⟨hk, by simp⟩⟩
      · rw [List.getElem?_set_ne (Ne.symm hj)] at e2
        obtain ⟨u', r', q⟩ := hl j y v' e1 e2 e3
        refine ⟨u', r', ?_⟩
        rcases q with ⟨k, e⟩ | ⟨k, c, e, z⟩
        · refine .inl ⟨k, ?_⟩
          have : y ≠ x := fun e => hj (nodup_ix hN e1 (e ▸ hi))
          simp [this, e]
        · exact .inr ⟨k, c, e, z.sameBut hs (cne y c e)⟩
    · obtain ⟨w', z⟩ := I.cell y c e
      exact ⟨w', z.sameBut hs (cne y c e)⟩
    · obtain ⟨e, n, ne, nf, d⟩ := I.pin p hp
      exact ⟨(hs.2 p.1 ne).trans e, n, ne, nf, d⟩
  · have hfn : X.fn x = true := by
      rcases hf with z | z
      · exact z
      · rw [z] at hk; cases hk
    obtain ⟨c, hc⟩ := I.ok.has x (.inl hk)
    obtain ⟨w', z⟩ := I.cell x c hc
    refine wpAny_storeName_cell I.ok.kind hk hc z (fun h' hc' hs => ?_)
    obtain ⟨oc, hoc, hocd⟩ := id z
    refine h { s with heap := h' } ⟨I.ok, I.os, I.bare, ⟨fun b o e n hb hx => ?_, fun b o e n hb hx => ?_, I.base.free, fun b o e hx => ?_, I.base.tups, I.base.frzs, I.base.tbls⟩, ⟨m, hn.sameBut hs (Ne.symm (cne x c hc)), fun j y v' e1 e2 e3 => ?_⟩, fun y c' e => ?_, I.free, I.freeC, fun p hp => ?_, tracked ⟨oc, hoc, I.freeC x c hc⟩ hs, by simpa using I.len⟩ ⟨c, hs, .inr hc⟩
    · exact (hs.2 b (Nat.ne_of_lt (Nat.lt_of_lt_of_le (Heap.lt_size e) (I.ok.cab x c hfn hc)))).trans (I.base.keep b o e n hb hx)
    · obtain ⟨sl, e1⟩ := I.base.slot b o e n hb hx
      exact ⟨sl, (hs.2 b (Nat.ne_of_lt (Nat.lt_of_lt_of_le (Heap.lt_size e) (I.ok.cab x c hfn hc)))).trans e1⟩
    · obtain ⟨o', e1⟩ := I.base.there b o e hx
      exact ⟨o', (hs.2 b (Nat.ne_of_lt (Nat.lt_of_lt_of_le (Heap.lt_size e) (I.ok.cab x c hfn hc)))).trans e1⟩
    · by_cases hj : j = i
      · subst hj
        rw [hi] at e1; cases e1
        rw [List.getElem?_set_self hiσ] at e2
        cases e2
        exact ⟨u, r, .inr ⟨.inl hk, c, hc, hc'⟩⟩
      · rw [List.getElem?_set_ne (Ne.symm hj)] at e2
        obtain ⟨u', r', q⟩ := hl j y v' e1 e2 e3
        refine ⟨u', r', ?_⟩
        rcases q with q | ⟨k, c', e, z'⟩
        · exact .inl q
        · refine .inr ⟨k, c', e, z'.sameBut hs ?_⟩
          rintro rfl
          exact hj (nodup_ix hN e1 (I.ok.inj _ _ _ e hc ▸ hi))
    · by_cases hcc : c' = c
      · subst hcc; exact ⟨_, hc'⟩
      · obtain ⟨w2, z2⟩ := I.cell y c' e
        exact ⟨w2, z2.sameBut hs hcc⟩
    · obtain ⟨e, n, ne, nf, d⟩ := I.pin p hp
      refine ⟨(hs.2 p.1 ?_).trans e, n, ne, nf, d⟩
      intro q
      rw [q, hoc] at e
      have q' : oc = p.2 := Option.some.inj e
      exact d w' (by rw [← q']; exact hocd)
theorem store_ok {M : Model} {A : Around} {E : Value → Shared → Prop} {i : Nat} {x : Str} {v : V} {u : Value} {Q : Unit → Shared → Prop} (I : Inv X pins σ H s) (hN : X.N.Nodup) (hi : X.N[i]? = some x) (hx : Loc X.env.scope x) (r : RelV v u)
    (h : ∀ s', Inv X pins (σ.set i (some v)) H s' → Q () s') (hf : X.fn x = true ∨ X.env.scope.names.lookup x = some .local := by first | exact .inl rfl | exact .inr rfl | assumption) : wpAny M A (storeName X.env x u) Q E s :=
  store_ok2 I hN hi hx r (fun s' I' _ => h s' I') hf
theorem Inv.call' {s' : Shared} {ch : List Addr} (I : Inv X pins σ H s) (ho : s'.os = s.os) (u : Un (frs X.stack) ch H H' s.heap s'.heap) (hok : HOk X.prog X.w H' s'.heap) (hg : AllBare s'.gens)
    (hch : ∀ b ∈ ch, (b ∈ X.ex ∨ X.s₀.heap.objs.size ≤ b) ∧ b ≠ X.env.locals ∧ (∀ x c, X.env.cells.lookup x = some c → c ≠ b) ∧ ∀ p ∈ X.pn ++ pins, p.1 ≠ b) : Inv X pins σ H' s' := by
  obtain ⟨h', g', d', t', o'⟩ := s'
  have e : o' = s.os := ho
  subst e
  exact I.call (g' := g') (t' := t') (d' := d') u hok hg hch
end
abbrev XK := Value → Option Addr → Hp → Prop
abbrev St := List (Option V)
abbrev VK := V → Hp → Prop
abbrev TE := St → Hp → VK → Prop
abbrev TT := St → Hp → (Bool → Hp → Prop) → Prop
abbrev TA := St → Hp → (List V → Hp → Prop) → Prop
structure Ends where
  nx : St → Hp → Prop
  rt : VK
  bk : St → Hp → Prop := fun _ _ => False
  ct : St → Hp → Prop := fun _ _ => False
abbrev TS := Ends → St → Hp → Prop
def EP (X : Cx) (pins : List (Addr × Obj)) (σ : St) (Q : VK) (u : Value) (s' : Shared) : Prop := ∃ v H', Inv X pins σ H' s' ∧ RelV v u ∧ Q v H'
def TP (X : Cx) (pins : List (Addr × Obj)) (σ : St) (Q : Bool → Hp → Prop) (b : Bool) (s' : Shared) : Prop := ∃ H', Inv X pins σ H' s' ∧ Q b H'
def AP (X : Cx) (pins : List (Addr × Obj)) (σ : St) (Q : List V → Hp → Prop) (us : List Value) (s' : Shared) : Prop := ∃ vs H', Inv X pins σ H' s' ∧ Vals vs us ∧ Q vs H'
def SP (X : Cx) (pins : List (Addr × Obj)) (D : Ends) (f : Flow) (s' : Shared) : Prop :=
  match f with
  | .next => ∃ σ' H', Inv X pins σ' H' s' ∧ D.nx σ' H'
  | .brk => ∃ σ' H', Inv X pins σ' H' s' ∧ D.bk σ' H'
  | .cont => ∃ σ' H', Inv X pins σ' H' s' ∧ D.ct σ' H'
  | .ret u => ∃ v σ' H', Inv X pins σ' H' s' ∧ RelV v u ∧ D.rt v H'
def PE (X : Cx) (e : Expr) (t : TE) : Prop :=
  ∀ (pins : List (Addr × Obj)) (s : Shared) (σ : St) (H : Hp) (Q : VK), Inv X pins σ H s → t σ H Q → wpAny (model X.prog X.w) X.A (eval e X.env) (EP X pins σ Q) X.xe s
def PT (X : Cx) (e : Expr) (t : TT) : Prop :=
  ∀ (pins : List (Addr × Obj)) (s : Shared) (σ : St) (H : Hp) (Q : Bool → Hp → Prop), Inv X pins σ H s → t σ H Q → wpAny (model X.prog X.w) X.A (isTrue e X.env (eval e X.env)) (TP X pins σ Q) X.xe s
def PW (X : Cx) (e : Expr) (t : TT) : Prop :=
  ∀ (whole : Sem Value) (pins : List (Addr × Obj)) (s : Shared) (σ : St) (H : Hp) (Q : Bool → Hp → Prop), Inv X pins σ H s → t σ H Q → wpAny (model X.prog X.w) X.A (isTrue e X.env whole) (TP X pins σ Q) X.xe s
theorem PW.pt {X : Cx} {e : Expr} {t : TT} (h : PW X e t) : PT X e t := h _
def PA (X : Cx) (es : List Expr) (t : TA) : Prop :=
  ∀ (pos : Pos) (pins : List (Addr × Obj)) (s : Shared) (σ : St) (H : Hp) (Q : List V → Hp → Prop), Inv X pins σ H s → t σ H Q → wpAny (model X.prog X.w) X.A (spliced (backTo pos (starEach es X.env))) (AP X pins σ Q) X.xe s
def PS (X : Cx) (st : Stmt) (t : TS) : Prop :=
  ∀ (pins : List (Addr × Obj)) (s : Shared) (σ : St) (H : Hp) (D : Ends), Inv X pins σ H s → t D σ H → wpAny (model X.prog X.w) X.A (exec st X.env) (SP X pins D) X.xe s
def PSs (X : Cx) (st : List Stmt) (t : TS) : Prop :=
  ∀ (pins : List (Addr × Obj)) (s : Shared) (σ : St) (H : Hp) (D : Ends), Inv X pins σ H s → t D σ H → wpAny (model X.prog X.w) X.A (execs st X.env) (SP X pins D) X.xe s
theorem thn {α : Type} {t : Sem α} {Q Q' : α → Shared → Prop} {M : Model} {A : Around} {E : Value → Shared → Prop} {s : Shared} (h : wpAny M A t Q E s) (hQ : ∀ a s, Q a s → Q' a s) : wpAny M A t Q' E s := wpAny_mono h hQ fun _ _ x => x
end L2
namespace L2
open PySem PySem.Spec PyProof.Rows
section
variable {X : Cx}
def tVar (i : Nat) : TE := fun σ H Q => ∃ v, σ[i]? = some (some v) ∧ Q v H
def tC (v : V) : TE := fun _ H Q => Q v H
theorem pe_var {i : Nat} {x : Str} {pos : Pos} (hN : X.N[i]? = some x) (hv : Vis X.env.scope x) (hd : (x == ("__debug__" : Str)) = false := by decide) (hcd : (x == ("__classdict__" : Str)) = false := by decide) : PE X (.Name x pos) (tVar i) := by
  intro pins s σ H Q I h
  obtain ⟨v, e, h⟩ := h
  obtain ⟨m, hn, hl⟩ := I.loc
  obtain ⟨u, r, l⟩ := hl i x v hN e hv
  have fin : EP X pins σ Q u s := ⟨v, H, I, r, h⟩
  rcases l with ⟨hk, hm⟩ | ⟨hk, c, hc, hcell⟩
  · exact wpAny_Name (wpAny_loadName_local I.ok.kind hk hn hm fin) hd
  · rcases hk with hk | hk
    · exact wpAny_Name (wpAny_loadName_cell I.ok.kind hk hc hcell fin) hd
    · exact wpAny_Name (wpAny_loadName_free I.ok.kind hk hc hcell fin hcd) hd
theorem pe_int {i j pos} : PE X (.Constant (.int i) j pos) (tC (.int i)) := fun _ _ _ H _ I h => wpAny_Constant_int ⟨.int i, H, I.tok _, ⟨_, rfl⟩, h⟩
theorem pe_bl {b j pos} : PE X (.Constant (.bool b) j pos) (tC (.bl b)) := fun _ _ _ H _ I h => Constant_bool ⟨.bl b, H, I, rfl, h⟩
theorem pe_non {j pos} : PE X (.Constant .none j pos) (tC .non) := fun _ _ _ H _ I h => Constant_none ⟨.non, H, I, rfl, h⟩
theorem pe_str {x j pos} : PE X (.Constant (.str x) j pos) (tC (.str x)) := fun _ _ _ H _ I h => Calls.Constant_str ⟨.str x, H, I.tok _, ⟨_, rfl⟩, h⟩
def Gl (X : Cx) (x : Str) : Prop := X.env.kindOf x = some .globalImplicit
theorem ld_glob {E : Value → Shared → Prop} {pins : List (Addr × Obj)} {s : Shared} {σ : St} {H : Hp} {x : Str} {u : Value} {pos : Pos} {Q : Value → Shared → Prop} (I : Inv X pins σ H s) (hg : Gl X x) (hm : X.mg x = some u) (h : Q u s)
    (hd : (x == ("__debug__" : Str)) = false := by decide) : wpAny (model X.prog X.w) X.A (eval (.Name x pos) X.env) Q E s :=
  Calls.Name_function_global I.ok.kind hg (Calls.loadGlobal_global (by rw [I.ok.glob]; exact I.mod.glob.keeps I.bk) hm h) hd
theorem ld_blt {E : Value → Shared → Prop} {pins : List (Addr × Obj)} {s : Shared} {σ : St} {H : Hp} {x : Str} {u : Value} {pos : Pos} {Q : Value → Shared → Prop} (I : Inv X pins σ H s) (hg : Gl X x) (hm : X.mg x = none) (hv : bootBuiltins x = some u) (h : Q u s)
    (hn : x ≠ "__name__" := by decide) (hd : (x == ("__debug__" : Str)) = false := by decide) : wpAny (model X.prog X.w) X.A (eval (.Name x pos) X.env) Q E s := by
  obtain ⟨mb, h1, h2⟩ := I.mod.blt
  exact Calls.Name_function_global I.ok.kind hg (Calls.loadGlobal_builtin (by rw [I.ok.glob]; exact I.mod.glob.keeps I.bk) hm (by rw [I.ok.blt]; exact h1.keeps I.bk) ((h2 x hn).trans hv) h) hd
theorem pe_glob {x : Str} {v : V} {u : Value} {pos : Pos} (hg : Gl X x) (hm : X.mg x = some u) (r : RelV v u) (hd : (x == ("__debug__" : Str)) = false := by decide) : PE X (.Name x pos) (tC v) :=
  fun _ _ _ H _ I h => ld_glob I hg hm ⟨v, H, I, r, h⟩ hd
theorem pe_bltn {x : Str} {v : V} {u : Value} {pos : Pos} (hg : Gl X x) (hm : X.mg x = none) (hv : bootBuiltins x = some u) (r : RelV v u) (hn : x ≠ "__name__" := by decide) (hd : (x == ("__debug__" : Str)) = false := by decide) : PE X (.Name x pos) (tC v) :=
  fun _ _ _ H _ I h => ld_blt I hg hm hv ⟨v, H, I, r, h⟩ hn hd
variable {a b : Expr} {ta tb : TE} {pos : Pos}
def PC (X : Cx) (op : CmpOp) (a b : Expr) (t : TE) : Prop :=
  ∀ (pins : List (Addr × Obj)) (s : Shared) (σ : St) (H : Hp) (Q : VK), Inv X pins σ H s → t σ H Q →
    wpAny (model X.prog X.w) X.A (eval a X.env) (fun v s₁ => wpAny (model X.prog X.w) X.A (eval b X.env) (fun u s₂ => wpAny (model X.prog X.w) X.A (compareOp op v u) (EP X pins σ Q) X.xe s₂) X.xe s₁) X.xe s
def tB (t : TE) : TT := fun σ H Q => t σ H fun x H1 => ∃ c, x = .bl c ∧ Q c H1
theorem pt_val {e : Expr} {t : TE} (h : PE X e t) (he : ∀ whole, isTrue e X.env whole = (do let v ← whole; standAt e.pos; holding [v] (truthy v)) := by intro _; rfl) : PT X e (tB t) := by
  intro pins s σ H Q I hw
  refine isTrue_plain (thn (h pins s σ H _ I hw) fun v s1 ⟨x, H1, I1, r1, q1⟩ => ?_) (he _)
  obtain ⟨d, rfl, q⟩ := q1
  cases r1
  exact wpAny_truthy_bool ⟨H1, I1, q⟩
variable {tA tB' : TT} {rest : List Expr}
def tAnd (t u : TT) : TT := fun σ H Q => t σ H fun c H1 => if c = true then u σ H1 Q else Q false H1
def tOr (t u : TT) : TT := fun σ H Q => t σ H fun c H1 => if c = true then Q true H1 else u σ H1 Q
def tNot (t : TT) : TT := fun σ H Q => t σ H fun c H1 => Q (!c) H1
theorem pw_and1 (ha : PT X a tA) : PW X (.BoolOp .And [a] pos) tA := by
  intro wh pins s σ H Q I h
  refine isTrue_and (thn (ha pins s σ H Q I h) fun c s1 e => ?_)
  cases c with
  | true => exact isTrue_and_nil e
  | false => exact e
theorem pw_or1 (ha : PT X a tA) : PW X (.BoolOp .Or [a] pos) tA := by
  intro wh pins s σ H Q I h
  refine isTrue_or (thn (ha pins s σ H Q I h) fun c s1 e => ?_)
  cases c with
  | false => exact isTrue_or_nil e
  | true => exact e
theorem pw_and (ha : PT X a tA) (hb : PW X (.BoolOp .And (b :: rest) pos) tB') : PW X (.BoolOp .And (a :: b :: rest) pos) (tAnd tA tB') := by
  intro wh pins s σ H Q I h
  refine isTrue_and (thn (ha pins s σ H _ I h) fun c s1 ⟨H1, I1, q1⟩ => ?_)
  cases c with
  | true => exact hb wh pins s1 σ H1 Q I1 q1
  | false => exact ⟨H1, I1, q1⟩
theorem pw_or (ha : PT X a tA) (hb : PW X (.BoolOp .Or (b :: rest) pos) tB') : PW X (.BoolOp .Or (a :: b :: rest) pos) (tOr tA tB') := by
  intro wh pins s σ H Q I h
  refine isTrue_or (thn (ha pins s σ H _ I h) fun c s1 ⟨H1, I1, q1⟩ => ?_)
  cases c with
  | true => exact ⟨H1, I1, q1⟩
  | false => exact hb wh pins s1 σ H1 Q I1 q1
theorem pt_not (ha : PT X a tA) : PT X (.UnaryOp .Not a pos) (tNot tA) := by
  intro pins s σ H Q I h
  exact isTrue_not (ha pins s σ H (fun c H1 => Q (!c) H1) I h)
def tAndV (ta tb : TE) : TE := fun σ H Q => ta σ H fun x H1 => ∃ c, x = .bl c ∧ if c = true then tb σ H1 Q else Q (.bl false) H1
def tNotV (ta : TE) : TE := fun σ H Q => ta σ H fun x H1 => ∃ c, x = .bl c ∧ Q (.bl (!c)) H1
theorem pe_one {op} {t : TE} (h : PE X a t) : PE X (.BoolOp op [a] pos) t := fun pins s σ H Q I hw => BoolOp_one (h pins s σ H Q I hw)
theorem pe_and (ha : PE X a ta) (hb : PE X (.BoolOp .And (b :: rest) pos) tb) : PE X (.BoolOp .And (a :: b :: rest) pos) (tAndV ta tb) := by
  intro pins s σ H Q I h
  refine BoolOp_and (thn (ha pins s σ H _ I h) fun v s1 ⟨x, H1, I1, r1, q1⟩ => ?_)
  obtain ⟨c, rfl, q1⟩ := q1
  cases r1
  refine wpAny_truthy_bool ?_
  cases c with
  | true => exact hb pins s1 σ H1 Q I1 q1
  | false => exact ⟨.bl false, H1, I1, rfl, q1⟩
theorem pe_not (ha : PE X a ta) : PE X (.UnaryOp .Not a pos) (tNotV ta) := by
  intro pins s σ H Q I h
  refine UnaryOp_ (thn (ha pins s σ H _ I h) fun v s1 ⟨x, H1, I1, r1, q1⟩ => ?_)
  obtain ⟨c, rfl, q1⟩ := q1
  cases r1
  exact not_of (wpAny_truthy_bool ⟨.bl (!c), H1, I1, rfl, q1⟩)
def tIf (t : TT) (ta tb : TE) : TE := fun σ H Q => t σ H fun c H1 => if c = true then ta σ H1 Q else tb σ H1 Q
theorem pe_ifExp {c : Expr} (hc : PT X c tA) (ha : PE X a ta) (hb : PE X b tb) : PE X (.IfExp c a b pos) (tIf tA ta tb) := by
  intro pins s σ H Q I h
  refine wpAny_IfExp (thn (hc pins s σ H _ I h) fun d s1 ⟨H1, I1, q1⟩ => ?_)
  cases d with
  | true => exact ha pins s1 σ H1 Q I1 q1
  | false => exact hb pins s1 σ H1 Q I1 q1
end
end L2
namespace L2
open PySem PySem.Spec PyProof.Rows
def SqL (K : PySem.W.Frag) (H : Hp) (a : Addr) (xs : List V) : Prop :=
  Rd H a (.lst xs) ∨
    ∃ (o : Obj) (its : Array Value) (n : Nat), K.lookup a = some o ∧ o.cls = .type "list" ∧ o.dict = none ∧ o.data = .seq its n ∧ its.size ≤ sizeLine ∧ Vals xs its.toList
def SqT (K : PySem.W.Frag) (H : Hp) (a : Addr) (xs : List V) : Prop :=
  Rd H a (.tup xs) ∨
    ∃ (o : Obj) (its : Array Value) (n : Nat), K.lookup a = some o ∧ o.cls = .type "tuple" ∧ o.data = .seq its n ∧ its.size ≤ sizeLine ∧ Vals xs its.toList
def absV : Value → Option V
  | .none => some .non
  | .bool b => some (.bl b)
  | .int i _ => some (.int i)
  | .str x _ => some (.str x)
  | .bytes b _ => some (.byt b)
  | .float b _ => some (.flt b)
  | .ref a => some (.ref a)
  | .type n => some (.ty n)
  | _ => none
theorem RelV.abs {x : V} {u : Value} (r : RelV x u) : absV u = some x := by
  cases x with
  | non => cases r; rfl
  | bl _ => cases r; rfl
  | int _ => obtain ⟨t, rfl⟩ := r; rfl
  | str _ => obtain ⟨t, rfl⟩ := r; rfl
  | byt _ => obtain ⟨t, rfl⟩ := r; rfl
  | flt _ => obtain ⟨t, rfl⟩ := r; rfl
  | ref _ => cases r; rfl
  | ty _ => cases r; rfl
theorem RelV.inj {x y : V} {u : Value} (r : RelV x u) (q : RelV y u) : x = y := Option.some.inj (r.abs.symm.trans q.abs)
theorem Vals.inj : ∀ {xs ys : List V} {us : List Value}, Vals xs us → Vals ys us → xs = ys
  | _, _, _, .nil, .nil => rfl
  | _, _, _, .cons r t, .cons r' t' => by rw [r.inj r', Vals.inj t t']
section
variable {X : Cx} {pins : List (Addr × Obj)} {σ : St} {H : Hp} {s : Shared} {a : Addr} {xs ys : List V}
theorem SqL.of {K : PySem.W.Frag} (h : H a = some (.lst xs)) : SqL K H a xs := .inl (.inl h)
theorem SqT.of {K : PySem.W.Frag} (h : H a = some (.tup xs)) : SqT K H a xs := .inl (.inl h)
theorem Inv.list (I : Inv X pins σ H s) (h : SqL X.K H a xs) : ∃ its : List Value, Vals xs its ∧ PlainL s.heap a its.toArray ∧ xs.length ≤ sizeLine := by
  rcases h with h | ⟨o, its, n, hk, hc, hd, hs, hz, r⟩
  · obtain ⟨z, its, n, r, e⟩ := h.ok I.hok
    exact ⟨its, r, ⟨_, n, e, rfl, rfl, rfl⟩, z⟩
  · refine ⟨its.toList, r, ⟨o, n, I.kIn a o hk, hc, hd, by simpa using hs⟩, ?_⟩
    have e := r.length
    simp only [Array.length_toList] at e
    omega
theorem Inv.tuple (I : Inv X pins σ H s) (h : SqT X.K H a xs) : ∃ its : List Value, Vals xs its ∧ IsTup s.heap a its.toArray ∧ xs.length ≤ sizeLine := by
  rcases h with h | ⟨o, its, n, hk, hc, hs, hz, r⟩
  · obtain ⟨z, its, r, p⟩ := h.ok I.hok
    exact ⟨its, r, p, z⟩
  · refine ⟨its.toList, r, ⟨o, I.kIn a o hk, hc, n, by simpa using hs⟩, ?_⟩
    have e := r.length
    simp only [Array.length_toList] at e
    omega
theorem Inv.list_inj (I : Inv X pins σ H s) (h : SqL X.K H a xs) (h' : SqL X.K H a ys) : xs = ys := by
  obtain ⟨its, r, ⟨o, n, e, _, _, d⟩, _⟩ := I.list h
  obtain ⟨its', r', ⟨o', n', e', _, _, d'⟩, _⟩ := I.list h'
  rw [e] at e'; cases e'
  rw [d] at d'
  injection d' with d1 _
  have : its = its' := by simpa using congrArg Array.toList d1
  subst this
  exact r.inj r'
theorem Inv.tuple_inj (I : Inv X pins σ H s) (h : SqT X.K H a xs) (h' : SqT X.K H a ys) : xs = ys := by
  obtain ⟨its, r, ⟨o, e, _, n, d⟩, _⟩ := I.tuple h
  obtain ⟨its', r', ⟨o', e', _, n', d'⟩, _⟩ := I.tuple h'
  rw [e] at e'; cases e'
  rw [d] at d'
  injection d' with d1 _
  have : its = its' := by simpa using congrArg Array.toList d1
  subst this
  exact r.inj r'
end
abbrev Cx.wish (X : Cx) (E : Value → Shared → Prop) : Cx := { X with xe := E }
abbrev Cx.nox (X : Cx) : Cx := X.wish fun _ _ => False
theorem Cx.Ok.wish {X : Cx} (ok : X.Ok) (E : Value → Shared → Prop) : (X.wish E).Ok :=
  ⟨ok.mod, ok.kind, ok.glob, ok.blt, ok.above, ok.inj, ok.has, ok.cab, ok.hd, ok.frames, ok.stk, ok.exf, ok.bs, ok.bsz, ok.noex, ok.exfs, ok.funs, ok.frf⟩
theorem Cx.Ok.unwish {X : Cx} {E : Value → Shared → Prop} (ok : (X.wish E).Ok) : X.Ok :=
  ⟨ok.mod, ok.kind, ok.glob, ok.blt, ok.above, ok.inj, ok.has, ok.cab, ok.hd, ok.frames, ok.stk, ok.exf, ok.bs, ok.bsz, ok.noex, ok.exfs, ok.funs, ok.frf⟩
section
variable {X : Cx} {pins : List (Addr × Obj)} {σ : St} {H : Hp} {s : Shared} {E : Value → Shared → Prop}
theorem Inv.wish (I : Inv X pins σ H s) (E : Value → Shared → Prop) : Inv (X.wish E) pins σ H s := ⟨I.ok.wish E, I.os, I.bare, I.base, I.loc, I.cell, I.free, I.freeC, I.pin, I.hok, I.len⟩
theorem Inv.unwish (I : Inv (X.wish E) pins σ H s) : Inv X pins σ H s := ⟨I.ok.unwish, I.os, I.bare, I.base, I.loc, I.cell, I.free, I.freeC, I.pin, I.hok, I.len⟩
theorem SP.unwish {D : Ends} {f : Flow} {s' : Shared} (h : SP (X.wish E) pins D f s') : SP X pins D f s' := by
  cases f with
  | next => obtain ⟨σ', H', I, q⟩ := h; exact ⟨σ', H', I.unwish, q⟩
  | brk => obtain ⟨σ', H', I, q⟩ := h; exact ⟨σ', H', I.unwish, q⟩
  | cont => obtain ⟨σ', H', I, q⟩ := h; exact ⟨σ', H', I.unwish, q⟩
  | ret u => obtain ⟨v, σ', H', I, r, q⟩ := h; exact ⟨v, σ', H', I.unwish, r, q⟩
theorem PSs.nox {st : List Stmt} {t : TS} (h : PSs X.nox st t) : PSs X st t := fun pins s σ H D I hw =>
  wpAny_mono (h pins s σ H D (I.wish _) hw) (fun _ _ q => q.unwish) fun _ _ z => False.elim z
end
section
variable {X : Cx} {st : Stmt} {rest : List Stmt} {t u : TS} {e : Expr} {te : TE} {pos : Pos}
def tNext : TS := fun D σ H => D.nx σ H
def tSeq (t u : TS) : TS := fun D σ H => t { D with nx := u D } σ H
theorem pss_nil : PSs X [] tNext := fun _ _ σ H _ I h => wpAny_execs_nil ⟨σ, H, I, h⟩
theorem pss_cons (h1 : PS X st t) (h2 : PSs X rest u) : PSs X (st :: rest) (tSeq t u) := by
  intro pins s σ H D I h
  refine wpAny_execs_cons (thn (h1 pins s σ H { D with nx := u D } I h) fun f s1 q => ?_)
  cases f with
  | next =>
    obtain ⟨σ', H', I', q⟩ := q
    exact h2 pins s1 σ' H' D I' q
  | ret v => exact q
  | brk => exact q
  | cont => exact q
theorem pss_one (h1 : PS X st t) : PSs X [st] t := by
  intro pins s σ H D I h
  refine wpAny_execs_cons (thn (h1 pins s σ H D I h) fun f s1 q => ?_)
  cases f with
  | next => exact wpAny_execs_nil q
  | ret v => exact q
  | brk => exact q
  | cont => exact q
theorem Inv.quiet {pins : List (Addr × Obj)} {σ : St} {H : Hp} {s : Shared} (I : Inv X pins σ H s) : interactive X.env = false := by simp [interactive, I.ok.kind]
def tDrop (te : TE) : TS := fun D σ H => te σ H fun _ H1 => D.nx σ H1
theorem ps_expr (he : PE X e te) (hs : swapsWith e none pos.line X.env = pure false := by rfl) : PS X (.Expr e pos) (tDrop te) := by
  intro pins s σ H D I h
  exact wpAny_Expr_any (thn (he pins s σ H _ I h) fun v s1 ⟨x, H1, I1, r1, q1⟩ => ⟨σ, H1, I1, q1⟩) I.quiet hs
def tRet (te : TE) : TS := fun D σ H => te σ H D.rt
theorem ps_ret (he : PE X e te) : PS X (.Return (some e) pos) (tRet te) := by
  intro pins s σ H D I h
  exact wpAny_Return_some (thn (he pins s σ H _ I h) fun v s1 ⟨x, H1, I1, r1, q1⟩ => ⟨x, σ, H1, I1, r1, q1⟩)
def tIfS (c : TT) (t u : TS) : TS := fun D σ H => c σ H fun b H1 => if b = true then t D σ H1 else u D σ H1
theorem ps_if {c : Expr} {a b : List Stmt} {tc : TT} (hc : PT X c tc) (ha : PSs X a t) (hb : PSs X b u) : PS X (.If c a b pos) (tIfS tc t u) := by
  intro pins s σ H D I h
  refine wpAny_If (thn (hc pins s σ H _ I h) fun d s1 ⟨H1, I1, q1⟩ => ?_)
  cases d with
  | true => exact ha pins s1 σ H1 D I1 q1
  | false => exact hb pins s1 σ H1 D I1 q1
def tNever : TS := fun _ _ _ => False
theorem ps_never : PS X st tNever := fun _ _ _ _ _ _ h => h.elim
end
abbrev TG := V → St → Hp → (St → Hp → Prop) → Prop
abbrev TGs := List V → St → Hp → (St → Hp → Prop) → Prop
def PG (X : Cx) (target : Expr) (t : TG) : Prop :=
  ∀ (pins : List (Addr × Obj)) (s : Shared) (σ : St) (H : Hp) (v : V) (u : Value) (Q : St → Hp → Prop), Inv X pins σ H s → RelV v u → t v σ H Q →
    wpAny (model X.prog X.w) X.A (assign target X.env u) (fun _ s' => ∃ σ' H', Inv X pins σ' H' s' ∧ Q σ' H') X.xe s
def PGs (X : Cx) (ts : List Expr) (t : TGs) : Prop :=
  ∀ (pins : List (Addr × Obj)) (s : Shared) (σ : St) (H : Hp) (vs : List V) (us : List Value) (Q : St → Hp → Prop), Inv X pins σ H s → Vals vs us → t vs σ H Q →
    wpAny (model X.prog X.w) X.A (assignInOrder ((assignEach ts X.env).map (·.2)) us) (fun _ s' => ∃ σ' H', Inv X pins σ' H' s' ∧ Q σ' H') X.xe s
section
variable {X : Cx} {pos : Pos}
def gName (i : Nat) : TG := fun v σ H Q => Q (σ.set i (some v)) H
theorem pg_name {i : Nat} {x : Str} (hN : X.N.Nodup) (hi : X.N[i]? = some x) (hx : Loc X.env.scope x) (hf : X.fn x = true ∨ X.env.scope.names.lookup x = some .local := by first | exact .inl rfl | exact .inr rfl | assumption) : PG X (.Name x pos) (gName i) := by
  intro pins s σ H v u Q I r h
  exact wpAny_assign_Name (store_ok I hN hi hx r (fun s' I' => ⟨_, H, I', h⟩) hf)
def gNil : TGs := fun vs σ H Q => vs = [] ∧ Q σ H
def gCons (t : TG) (u : TGs) : TGs := fun vs σ H Q => ∃ v r, vs = v :: r ∧ t v σ H fun σ' H' => u r σ' H' Q
theorem pgs_nil : PGs X [] gNil := by
  intro pins s σ H vs us Q I r h
  obtain ⟨e, h⟩ := h
  subst e
  cases r
  exact assignInOrder_nil ⟨σ, H, I, h⟩
theorem pgs_cons {e : Expr} {es : List Expr} {t : TG} {u : TGs} (h1 : PG X e t) (h2 : PGs X es u)
    (hs : (assignEach (e :: es) X.env).map (·.2) = assign e X.env :: (assignEach es X.env).map (·.2) := by rfl) : PGs X (e :: es) (gCons t u) := by
  intro pins s σ H vs us Q I r h
  obtain ⟨v, vr, e1, h⟩ := h
  subst e1
  cases r with
  | cons r rr =>
    rw [hs]
    refine assignInOrder_cons (thn (h1 pins s σ H _ _ _ I r h) fun _ s1 ⟨σ1, H1, I1, q1⟩ => ?_)
    exact h2 pins s1 σ1 H1 _ _ Q I1 rr q1
def gTup (K : PySem.W.Frag) (n : Nat) (t : TGs) : TG := fun v σ H Q => ∃ a xs, v = .ref a ∧ SqT K H a xs ∧ xs.length = n ∧ t xs σ H Q
theorem pg_tup {es : List Expr} {k : Nat} {t : TGs} {n : Nat} (hc : X.calm = true) (h : PGs X es t)
    (hn : (assignEach es X.env).length = n := by rfl) (hst : (assignEach es X.env).findIdx? (·.1) = none := by rfl) : PG X (.Tuple es k pos) (gTup X.K n t) := by
  intro pins s σ H v u Q I r hw
  obtain ⟨a, xs, e1, hq, hl, hw⟩ := hw
  subst e1
  cases r
  obtain ⟨its, rv, ht, hz⟩ := I.tuple hq
  refine assign_Tuple_tuple (I.ok.hd hc) ht (by simp [hn, ← hl, rv.length]) hst fun h' hx => ?_
  have I1 : Inv X pins σ H { s with heap := h' } := I.kept (t' := s.toks) fun b o e => hx b o (Nat.ne_of_lt (Heap.lt_size e)) e
  exact h pins _ σ H xs _ Q I1 (by simpa using rv) hw
def tAsg (te : TE) (g : TG) : TS := fun D σ H => te σ H fun x H1 => g x σ H1 D.nx
theorem ps_set {i : Nat} {x : Str} {e : Expr} {te : TE} {pos' : Pos} (hN : X.N.Nodup) (hi : X.N[i]? = some x) (hx : Loc X.env.scope x) (he : PE X e te) (hs : swapsWith e (some (.Name x pos')) pos.line X.env = pure false := by rfl) (hf : X.fn x = true ∨ X.env.scope.names.lookup x = some .local := by first | exact .inl rfl | exact .inr rfl | assumption) :
    PS X (.Assign [.Name x pos'] e pos) (tAsg te (gName i)) := by
  intro pins s σ H D I h
  refine wpAny_Assign_Name (thn (he pins s σ H _ I h) fun v s1 ⟨y, H1, I1, r1, q1⟩ => ?_) hs
  exact store_ok I1 hN hi hx r1 (fun s2 I2 => ⟨_, H1, I2, q1⟩) hf
def tPar (i j : Nat) (ta : TA) : TS := fun D σ H => ta σ H fun vs H1 => ∃ v w, vs = [v, w] ∧ D.nx ((σ.set i (some v)).set j (some w)) H1
theorem ps_par {i j : Nat} {x y : Str} {a b : Expr} {ta : TA} {px py pt : Pos} {kt k2 pt2} (hc : X.calm = true) (hN : X.N.Nodup) (hi : X.N[i]? = some x) (hj : X.N[j]? = some y) (hij : i ≠ j)
    (hx : X.env.scope.names.lookup x = some .local) (hy : X.env.scope.names.lookup y = some .local) (ha : PA X [a, b] ta)
    (hw : swappedStores [.Tuple [.Name x px, .Name y py] kt pt] (.Tuple [a, b] k2 pt2) X.env = pure (some [x, y]))
    (hs : swapsWithSole [.Tuple [.Name x px, .Name y py] kt pt] (.Tuple [a, b] k2 pt2) pos.line X.env = pure false := by rfl) :
    PS X (.Assign [.Tuple [.Name x px, .Name y py] kt pt] (.Tuple [a, b] k2 pt2) pos) (tPar i j ta) := by
  intro pins s σ H D I h
  rw [exec_Assign_arm]
  refine wpAny_bind (wpAny_standAt ?_)
  rw [hs]
  refine wpAny_bind (wpAny_pure ?_)
  rw [if_neg (by decide)]
  refine wpAny_bind (Tuple_ (thn (ha _ pins s σ H _ I h) fun us s1 ⟨vs, H1, I1, r1, q1⟩ => ?_))
  obtain ⟨v, w, e1, q1⟩ := q1
  subst e1
  obtain ⟨u1, u2, rfl, rv, rw'⟩ : ∃ u1 u2, us = [u1, u2] ∧ RelV v u1 ∧ RelV w u2 := by
    cases r1 with
    | cons p q =>
      cases q with
      | cons p' q' =>
        cases q'
        exact ⟨_, _, rfl, p, p'⟩
  refine wpAny_newObj_type ?_ (by show 2 ≤ sizeLine; decide)
  have I2 : Inv X pins σ H1 { s1 with heap := s1.heap.push { cls := .type "tuple", data := .seq [u1, u2].toArray } } := I1.kept (t' := s1.toks) fun b o e => Heap.get?_push_of_some _ e
  rw [hw]
  refine wpAny_bind (wpAny_pure ?_)
  show wpAny (model X.prog X.w) X.A (do rule "assign.swapped-stores"; let items ← unpackItems (.ref s1.heap.objs.size) 2 none; assignInOrder [fun v => bindName X.env y v, fun v => bindName X.env x v] items.reverse; pure Flow.next) _ _ _
  refine wpAny_bind (wpAny_rule (wpAny_bind (unpackItems_tuple (items := #[u1, u2]) (I.ok.hd hc) (IsTup.new s1.heap _) fun h' hx' => ?_)))
  have I3 := I2.kept (h' := h') (t' := s1.toks) fun b o e => hx' b o (Nat.ne_of_lt (Heap.lt_size e)) e
  show wpAny _ _ (assignInOrder [fun v => bindName X.env y v, fun v => bindName X.env x v] [u2, u1] >>= fun _ => pure Flow.next) _ _ _
  refine wpAny_bind (assignInOrder_cons (wpAny_bindName (store_ok I3 hN hj (.inl hy) rw' (fun s2 I4 => ?_) (.inr hy))))
  refine assignInOrder_cons (wpAny_bindName (store_ok I4 hN hi (.inl hx) rv (fun s3 I5 => assignInOrder_nil (wpAny_pure ?_)) (.inr hx)))
  rw [List.set_comm _ _ (Ne.symm hij)] at I5
  exact ⟨_, H1, I5, q1⟩
end
section
variable {X : Cx} {pos : Pos}
def tWhile (c : TT) (tb : TS) : TS := fun D σ H => ∃ W : Nat → St → Hp → Prop, (∃ m, W m σ H) ∧ ∀ m σ H, W m σ H →
  c σ H fun b H1 => if b = true then ∃ N : St → Hp → Prop, (∀ σ' H', N σ' H' → ∃ m', m' < m ∧ W m' σ' H') ∧ tb { D with nx := N, ct := N, bk := D.nx } σ H1 else D.nx σ H1
theorem ps_while {c : Expr} {body : List Stmt} {tc : TT} {tb : TS} (hp : PassesOwn (model X.prog X.w) X.A X.env X.xe) (hc : PT X c tc) (hb : PSs X body tb) : PS X (.While c body [] pos) (tWhile tc tb) := by
  intro pins s σ H D I h
  obtain ⟨W, ⟨m0, w0⟩, turn⟩ := h
  refine wpAny_While (codeAny_whileLoop (fun n s' => ∃ σ' H', Inv X pins σ' H' s' ∧ W n σ' H') ?_ m0 ⟨σ, H, I, w0⟩)
  rintro n s1 ⟨σ1, H1, I1, w1⟩
  refine wpAny_passesOwn hp (thn (hc pins s1 σ1 H1 _ I1 (turn n σ1 H1 w1)) fun b s2 ⟨H2, I2, q2⟩ => ?_)
  cases b with
  | true =>
    obtain ⟨N, hN, q2⟩ := q2
    rw [if_pos rfl]
    refine wpAny_passesOwn hp (thn (hb pins s2 σ1 H2 _ I2 q2) fun f s3 q3 => ?_)
    cases f with
    | next =>
      obtain ⟨σ3, H3, I3, n3⟩ := q3
      obtain ⟨m', hm, w3⟩ := hN σ3 H3 n3
      exact ⟨m', hm, σ3, H3, I3, w3⟩
    | cont =>
      obtain ⟨σ3, H3, I3, n3⟩ := q3
      obtain ⟨m', hm, w3⟩ := hN σ3 H3 n3
      exact ⟨m', hm, σ3, H3, I3, w3⟩
    | brk => exact q3
    | ret v => exact q3
  | false =>
    rw [if_neg Bool.false_ne_true]
    exact wpAny_execs_nil ⟨σ1, H2, I2, q2⟩
end
structure It where
  go : Nat → Hp → Prop
  yld : Nat → Hp → V → Hp → Prop
  stop : Nat → Hp → Prop
def FpOk (X : Cx) (pins : List (Addr × Obj)) (H : Hp) (b : Addr) : Prop :=
  H b = none ∧ b ≠ X.env.locals ∧ b ∉ X.fs ∧ (b ∈ X.ex ∨ X.s₀.heap.objs.size ≤ b) ∧ (∀ x c, X.env.cells.lookup x = some c → c ≠ b) ∧ ∀ p ∈ X.pn ++ pins, p.1 ≠ b
theorem Inv.fpOk {X : Cx} {pins : List (Addr × Obj)} {σ : St} {H H' : Hp} {s : Shared} {b : Addr} (I : Inv X pins σ H s) (hb : s.heap.objs.size ≤ b) (hn : H' b = none) : FpOk X pins H' b := by
  refine ⟨hn, Nat.ne_of_gt (Nat.lt_of_lt_of_le I.lt hb), I.nofs hb, .inr (Nat.le_trans I.sz hb), fun x c e z => ?_, fun p hp z => ?_⟩
  · obtain ⟨v, q⟩ := I.cell x c e
    exact absurd (Nat.lt_of_lt_of_le q.lt (by rw [z]; exact hb)) (Nat.lt_irrefl _)
  · exact absurd (Nat.lt_of_lt_of_le (Heap.lt_size (I.pin p hp).1) (by rw [z]; exact hb)) (Nat.lt_irrefl _)
structure Turn (P : Program) (w : World) (K : PySem.W.Frag) (tg : Expr) (J : It) (fp : List Addr) (it : Addr) (tn : Nat → Heap → Prop) : Prop where
  mem : it ∈ fp
  obj : ∀ i h, tn i h → ∀ b ∈ fp, ∃ o, h.get? b = some o ∧ ∀ v, o.data ≠ .cell v
  keep : ∀ i h h', tn i h → (∀ b ∈ fp, ∀ o, h.get? b = some o → h'.get? b = some o) → tn i h'
  item : ∀ (X : Cx), X.prog = P → X.w = w → X.K = K → X.calm = true → ∀ (i : Nat) (pins : List (Addr × Obj)) (s : Shared) (σ : St) (H : Hp) (E : Value → Shared → Prop), Inv X pins σ H s → (∀ b ∈ fp, FpOk X pins H b) → tn i s.heap → J.go i H →
    wpAny (model P w) X.A (pyNext (.ref it)) (fun r s1 => ∃ u, r = some u ∧
      wpAny (model P w) X.A (letOwnedTupleGo tg (.ref it) u) (fun _ s2 => ∃ x H', Inv X pins σ H' s2 ∧ RelV x u ∧ J.yld i H x H' ∧ tn (i + 1) s2.heap ∧ ∀ b ∈ fp, H' b = none) E s1) E s
  done : ∀ (X : Cx), X.prog = P → X.w = w → X.K = K → X.calm = true → ∀ (i : Nat) (pins : List (Addr × Obj)) (s : Shared) (σ : St) (H : Hp) (E : Value → Shared → Prop), Inv X pins σ H s → (∀ b ∈ fp, FpOk X pins H b) → tn i s.heap → J.stop i H →
    wpAny (model P w) X.A (pyNext (.ref it)) (fun r s1 => r = none ∧ Inv X pins σ H s1) E s
  self : ∀ (A : Around) (i : Nat) (s : Shared) (Q : Value → Shared → Prop) (E : Value → Shared → Prop), tn i s.heap → Q (.ref it) s → wpAny (model P w) A (pyIter (.ref it)) Q E s
abbrev TI := St → Hp → (It → Hp → Prop) → Prop
def PIE (X : Cx) (pins : List (Addr × Obj)) (σ : St) (tg : Expr) (R : It → Hp → Prop) (itv : Value) (s2 : Shared) : Prop :=
  ∃ (it : Addr) (fp : List Addr) (tn : Nat → Heap → Prop) (J : It) (H' : Hp), itv = .ref it ∧ Inv X pins σ H' s2 ∧ Turn X.prog X.w X.K tg J fp it tn ∧ tn 0 s2.heap ∧ (∀ b ∈ fp, FpOk X pins H' b) ∧ R J H'
def PI (X : Cx) (tg iter : Expr) (wi : TI) : Prop :=
  ∀ (pins : List (Addr × Obj)) (s : Shared) (σ : St) (H : Hp) (R : It → Hp → Prop), Inv X pins σ H s → wi σ H R →
    wpAny (model X.prog X.w) X.A (eval iter X.env) (fun v s1 => wpAny (model X.prog X.w) X.A (pyIter v) (PIE X pins σ tg R) X.xe s1) X.xe s
theorem go_of {M : Model} {A : Around} {E : Value → Shared → Prop} {s : Shared} {tg : Expr} {it : Addr} {u : Value} {o : Obj} {n : String} {vs : Array Value} {Q : Unit → Shared → Prop} (ho : s.heap.get? it = some o) (hc : o.cls = .type n) (hd : o.data = .fields vs)
    (hn : ["enumerate", "zip", "dict_itemiterator", "dict_reverseitemiterator", "odict_iterator", "itertools.zip_longest", "itertools.pairwise"].contains n = false) (hQ : Q () s) : wpAny M A (letOwnedTupleGo tg (.ref it) u) Q E s := by
  unfold letOwnedTupleGo
  cases tg <;> first
    | exact wpAny_pure hQ
    | (cases u <;> first
        | exact wpAny_pure hQ
        | (refine wpAny_bind (wpAny_load ho ?_)
           rw [hc, hd]
           show wpAny M A (if (["enumerate", "zip", "dict_itemiterator", "dict_reverseitemiterator", "odict_iterator", "itertools.zip_longest", "itertools.pairwise"].contains n && vs[0]? == some (rawInt _)) = true then _ else _) Q E s
           rw [if_neg (by intro h; rw [hn, Bool.false_and] at h; cases h)]
           exact wpAny_pure hQ))
def Itl (K : PySem.W.Frag) (a : Addr) : It :=
  ⟨fun i H => ∃ xs x, SqL K H a xs ∧ xs[i]? = some x, fun i H x H' => H' = H ∧ ∀ xs, SqL K H a xs → xs[i]? = some x, fun i H => ∃ xs, SqL K H a xs ∧ xs.length ≤ i⟩
def Itt (K : PySem.W.Frag) (a : Addr) : It :=
  ⟨fun i H => ∃ xs x, SqT K H a xs ∧ xs[i]? = some x, fun i H x H' => H' = H ∧ ∀ xs, SqT K H a xs → xs[i]? = some x, fun i H => ∃ xs, SqT K H a xs ∧ xs.length ≤ i⟩
def Itr (lo : Int) (n : Nat) : It := ⟨fun i _ => i < n, fun i H x H' => H' = H ∧ x = .int (lo + i), fun i _ => n ≤ i⟩
theorem turn_list {P : Program} {w : World} {K : PySem.W.Frag} {tg : Expr} (a it : Addr) : Turn P w K tg (Itl K a) [it] it (fun i h => h.IsListIter it a i) where
  mem := by simp
  obj := fun i h st b hb => by
    have e : b = it := by simpa using hb
    subst e
    obtain ⟨o, e, c, d⟩ := st
    exact ⟨o, e, fun v z => by rw [d] at z; cases z⟩
  keep := fun i h h' st k => st.at fun o e => k it (by simp) o e
  item := by
    intro X hP hw hK hc i pins s σ H E I hf st hg
    subst hP hw hK
    obtain ⟨xs, x, hq, hx⟩ := hg
    obtain ⟨its, rv, p, hz⟩ := I.list hq
    obtain ⟨u, hu, ru⟩ := rv.get hx
    obtain ⟨f0, f1, f2, f3, f4, f5⟩ := hf it (by simp)
    refine wpAny_pyNext_list_item st p.isList (x := u) (by simpa using hu) fun h' st' sb => ?_
    have I1 : Inv X pins σ H { s with heap := h' } := I.turned (t' := s.toks) (fun b o hb e => (sb.2 b hb).trans e) f0 f1 f3 f4 f5
    obtain ⟨o, e, c, d⟩ := id st'
    exact ⟨u, rfl, go_of (s := { s with heap := h' }) e c d (by decide) ⟨x, H, I1, ru, ⟨rfl, fun ys hy => by rw [I.list_inj hy hq]; exact hx⟩, st', fun b hb => (hf b hb).1⟩⟩
  done := by
    intro X hP hw hK hc i pins s σ H E I hf st hg
    subst hP hw hK
    obtain ⟨xs, hq, hx⟩ := hg
    obtain ⟨its, rv, p, hz⟩ := I.list hq
    obtain ⟨f0, f1, f2, f3, f4, f5⟩ := hf it (by simp)
    have hl := rv.length
    exact wpAny_pyNext_list_end (I.ok.hd hc) st p.isList (by simp; omega) fun h' eb => ⟨rfl, I.turned (t' := s.toks) (fun b o hb e => eb b o hb e) f0 f1 f3 f4 f5⟩
  self := fun _ _ _ _ _ st h => wpAny_pyIter_listiter st h
theorem turn_tuple {P : Program} {w : World} {K : PySem.W.Frag} {tg : Expr} (a it : Addr) : Turn P w K tg (Itt K a) [it] it (fun i h => h.IsTupleIter it a i) where
  mem := by simp
  obj := fun i h st b hb => by
    have e : b = it := by simpa using hb
    subst e
    obtain ⟨o, e, c, d⟩ := st
    exact ⟨o, e, fun v z => by rw [d] at z; cases z⟩
  keep := fun i h h' st k => st.at fun o e => k it (by simp) o e
  item := by
    intro X hP hw hK hc i pins s σ H E I hf st hg
    subst hP hw hK
    obtain ⟨xs, x, hq, hx⟩ := hg
    obtain ⟨its, rv, p, hz⟩ := I.tuple hq
    obtain ⟨u, hu, ru⟩ := rv.get hx
    obtain ⟨f0, f1, f2, f3, f4, f5⟩ := hf it (by simp)
    refine wpAny_pyNext_tuple_item st (show s.heap.IsTuple a its.toArray from p) (x := u) (by simpa using hu) fun h' st' sb => ?_
    have I1 : Inv X pins σ H { s with heap := h' } := I.turned (t' := s.toks) (fun b o hb e => (sb.2 b hb).trans e) f0 f1 f3 f4 f5
    obtain ⟨o, e, c, d⟩ := id st'
    exact ⟨u, rfl, go_of (s := { s with heap := h' }) e c d (by decide) ⟨x, H, I1, ru, ⟨rfl, fun ys hy => by rw [I.tuple_inj hy hq]; exact hx⟩, st', fun b hb => (hf b hb).1⟩⟩
  done := by
    intro X hP hw hK hc i pins s σ H E I hf st hg
    subst hP hw hK
    obtain ⟨xs, hq, hx⟩ := hg
    obtain ⟨its, rv, p, hz⟩ := I.tuple hq
    obtain ⟨f0, f1, f2, f3, f4, f5⟩ := hf it (by simp)
    have hl := rv.length
    exact wpAny_pyNext_tuple_end (I.ok.hd hc) st (show s.heap.IsTuple a its.toArray from p) (by simp; omega) fun h' eb => ⟨rfl, I.turned (t' := s.toks) (fun b o hb e => eb b o hb e) f0 f1 f3 f4 f5⟩
  self := fun _ _ _ _ _ st h => wpAny_pyIter_tupleiter st h
theorem turn_range {P : Program} {w : World} {K : PySem.W.Frag} {tg : Expr} (it : Addr) (lo : Int) (n : Nat) : Turn P w K tg (Itr lo n) [it] it (fun i h => IsRangeIter h it (lo + (i : Nat) * 1) ((n : Int) - (i : Nat)) 1) where
  mem := by simp
  obj := fun i h st b hb => by
    have e : b = it := by simpa using hb
    subst e
    exact ⟨_, st, fun v z => by
      have z' : Data.fields _ = Data.cell v := z
      cases z'⟩
  keep := fun i h h' st k => k it (by simp) _ st
  item := by
    intro X hP hw hK hc i pins s σ H E I hf st hg
    subst hP hw hK
    obtain ⟨f0, f1, f2, f3, f4, f5⟩ := hf it (by simp)
    have W := Walks.range (prog := X.prog) (w := X.w) (I.ok.hd hc) it lo 1 n
    refine W.item i s _ _ hg st fun v h' tk hv st' kk => ?_
    obtain ⟨t, rfl⟩ := hv
    have I1 : Inv X pins σ H { s with heap := h', toks := tk } := I.turned (fun b o hb e => kk b o (by simpa using hb) e) f0 f1 f3 f4 f5
    refine ⟨_, rfl, go_of (s := { s with heap := h', toks := tk }) (n := "range_iterator") st' rfl rfl (by decide) ⟨.int (lo + i), H, I1, ⟨t, ?_⟩, ⟨rfl, rfl⟩, st', fun b hb => (hf b hb).1⟩⟩
    rw [Int.mul_one]
  done := by
    intro X hP hw hK hc i pins s σ H E I hf st hg
    subst hP hw hK
    obtain ⟨f0, f1, f2, f3, f4, f5⟩ := hf it (by simp)
    exact wpAny_pyNext_range_end (I.ok.hd hc) st (by have : n ≤ i := hg; omega) fun h' eb => ⟨rfl, I.turned (t' := s.toks) (fun b o hb e => eb b o hb e) f0 f1 f3 f4 f5⟩
  self := fun _ _ _ _ _ st h => wpAny_pyIter_rangeiter st h
end L2
namespace L2
open PySem PySem.Spec PyProof.Rows
section
variable {X : Cx} {tg : Expr}
def iList (K : PySem.W.Frag) (tl : TE) : TI := fun σ H R => tl σ H fun x H1 => ∃ a, x = .ref a ∧ (∃ xs, SqL K H1 a xs) ∧ R (Itl K a) H1
def iTup (K : PySem.W.Frag) (tl : TE) : TI := fun σ H R => tl σ H fun x H1 => ∃ a, x = .ref a ∧ (∃ xs, SqT K H1 a xs) ∧ R (Itt K a) H1
theorem pi_list {l : Expr} {tl : TE} (hl : PE X l tl) : PI X tg l (iList X.K tl) := by
  intro pins s σ H R I h
  refine thn (hl pins s σ H _ I h) fun v s1 ⟨x, H1, I1, r1, q1⟩ => ?_
  obtain ⟨a, e, ⟨xs, hq⟩, q⟩ := q1
  subst e
  cases r1
  obtain ⟨its, rv, p, hz⟩ := I1.list hq
  refine wpAny_pyIter_list p.isList ?_
  refine ⟨s1.heap.objs.size, [s1.heap.objs.size], _, _, H1, rfl, I1.kept (t' := s1.toks) fun b o e => Heap.get?_push_of_some _ e, turn_list a _, ⟨_, Heap.get?_push_size _ rfl, rfl, rfl⟩, fun b hb => ?_, q⟩
  have e : b = s1.heap.objs.size := by simpa using hb
  subst e
  exact I1.fpOk (Nat.le_refl _) (I1.hok.fresh (Nat.le_refl _))
theorem pi_tup {l : Expr} {tl : TE} (hl : PE X l tl) : PI X tg l (iTup X.K tl) := by
  intro pins s σ H R I h
  refine thn (hl pins s σ H _ I h) fun v s1 ⟨x, H1, I1, r1, q1⟩ => ?_
  obtain ⟨a, e, ⟨xs, hq⟩, q⟩ := q1
  subst e
  cases r1
  obtain ⟨its, rv, p, hz⟩ := I1.tuple hq
  refine wpAny_pyIter_tuple (show s1.heap.IsTuple a its.toArray from p) ?_
  refine ⟨s1.heap.objs.size, [s1.heap.objs.size], _, _, H1, rfl, I1.kept (t' := s1.toks) fun b o e => Heap.get?_push_of_some _ e, turn_tuple a _, ⟨_, Heap.get?_push_size _ rfl, rfl, rfl⟩, fun b hb => ?_, q⟩
  have e : b = s1.heap.objs.size := by simpa using hb
  subst e
  exact I1.fpOk (Nat.le_refl _) (I1.hok.fresh (Nat.le_refl _))
theorem range_it {pins : List (Addr × Obj)} {σ : St} {H : Hp} {s : Shared} {R : It → Hp → Prop} {E : Value → Shared → Prop} {lo hi : Int} {t u v : Tok} {tk : Nat} (I : Inv X pins σ H s) (h1 : -(2 ^ 62) ≤ lo) (h2 : lo < 2 ^ 62) (h3 : -(2 ^ 62) ≤ hi) (h4 : hi < 2 ^ 62)
    (q : R (Itr lo (hi - lo).toNat) H) : wpAny (model X.prog X.w) X.A (pyIter (.ref s.heap.objs.size)) (PIE X pins σ tg R) E { s with heap := s.heap.push { cls := .type "range", data := .fields #[.int lo t, .int hi u, .int 1 v] }, toks := tk } := by
  refine wpAny_pyIter_range (IsRange.new ..) (small_one h1 h2 h3 h4) ?_
  have I1 : Inv X pins σ H { s with heap := s.heap.push { cls := .type "range", data := .fields #[.int lo t, .int hi u, .int 1 v] }, toks := tk } := I.kept fun b o e => Heap.get?_push_of_some _ e
  refine ⟨(s.heap.push { cls := .type "range", data := .fields #[.int lo t, .int hi u, .int 1 v] }).objs.size, [(s.heap.push { cls := .type "range", data := .fields #[.int lo t, .int hi u, .int 1 v] }).objs.size], _, _, H, rfl,
    I1.kept (t' := tk) fun b o e => Heap.get?_push_of_some _ e, turn_range _ lo (hi - lo).toNat, ?_, fun b hb => ?_, q⟩
  · have e1 : lo + ((0 : Nat) : Int) * 1 = lo := by simp
    have e2 : (((hi - lo).toNat : Nat) : Int) - ((0 : Nat) : Int) = Builtin.Range.rangeSize lo hi 1 := by rw [rangeSize_one]; split <;> omega
    show IsRangeIter _ _ (lo + ((0 : Nat) : Int) * 1) ((((hi - lo).toNat : Nat) : Int) - ((0 : Nat) : Int)) 1
    rw [e1, e2]
    exact Heap.get?_push_size _ rfl
  · have e : b = (s.heap.push { cls := .type "range", data := .fields #[.int lo t, .int hi u, .int 1 v] }).objs.size := by simpa using hb
    subst e
    exact I1.fpOk (Nat.le_refl _) (I1.hok.fresh (Nat.le_refl _))
def iRng1 (ta : TA) : TI := fun σ H R => ta σ H fun vs H1 => ∃ j : Int, vs = [.int j] ∧ -(2 ^ 62) ≤ j ∧ j < 2 ^ 62 ∧ R (Itr 0 j.toNat) H1
theorem pi_range1 {a : Expr} {ta : TA} {p pos : Pos} (hg : Gl X "range") (hm : X.mg "range" = none) (ha : PA X [a] ta) (hs : starEach [a] X.env = [(false, eval a X.env)] := by rfl) : PI X tg (.Call (.Name "range" p) [a] [] pos) (iRng1 ta) := by
  intro pins s σ H R I h
  refine Call_ (ld_blt I hg hm boot_range (PyProof.Rows.callWith_type1 (thn (ha pos pins s σ H _ I h) fun us s1 ⟨vs, H1, I1, r1, q1⟩ => ?_) hs rfl))
  obtain ⟨j, e, q1, q2, q⟩ := q1
  subst e
  cases r1 with
  | cons r rr =>
    cases rr
    obtain ⟨t, rfl⟩ := r
    exact call_range_1 (range_it I1 (by omega) (by omega) q1 q2 (by simpa using q))
def tFor (wi : TI) (g : TG) (tb : TS) : TS := fun D σ H => wi σ H fun J H1 => ∃ W : Nat → Nat → St → Hp → Prop, (∃ m, W 0 m σ H1) ∧ ∀ i m σ H, W i m σ H →
  (J.stop i H ∧ D.nx σ H) ∨ (J.go i H ∧ ∃ N : St → Hp → Prop, (∀ σ' H', N σ' H' → ∃ m', m' < m ∧ W (i + 1) m' σ' H') ∧ ∀ x H', J.yld i H x H' → g x σ H' fun σ2 H2 => tb { D with nx := N, ct := N, bk := D.nx } σ2 H2)
def pinsAt (fp : List Addr) (h : Heap) : List (Addr × Obj) := fp.filterMap fun b => (h.get? b).map fun o => (b, o)
theorem mem_pinsAt {fp : List Addr} {h : Heap} {b : Addr} {o : Obj} (hb : b ∈ fp) (e : h.get? b = some o) : (b, o) ∈ pinsAt fp h := List.mem_filterMap.mpr ⟨b, hb, by rw [e]; rfl⟩
theorem of_pinsAt {fp : List Addr} {h : Heap} {p : Addr × Obj} (hp : p ∈ pinsAt fp h) : p.1 ∈ fp ∧ h.get? p.1 = some p.2 := by
  obtain ⟨b, hb, e⟩ := List.mem_filterMap.mp hp
  cases q : h.get? b with
  | none => rw [q] at e; cases e
  | some o =>
    rw [q] at e
    have e' : (b, o) = p := Option.some.inj e
    subst e'
    exact ⟨hb, q⟩
theorem Inv.pinned {pins : List (Addr × Obj)} {σ : St} {H : Hp} {s : Shared} {fp : List Addr} (I : Inv X pins σ H s) (hf : ∀ b ∈ fp, FpOk X pins H b) (ho : ∀ b ∈ fp, ∃ o, s.heap.get? b = some o ∧ ∀ v, o.data ≠ .cell v) : Inv X (pins ++ pinsAt fp s.heap) σ H s :=
  I.pins_of fun p hp => (List.mem_append.mp hp).elim (fun z => I.pin p (List.mem_append_right _ z)) fun z => by
    obtain ⟨hb, e⟩ := of_pinsAt z
    obtain ⟨f0, f1, f2, _⟩ := hf p.1 hb
    obtain ⟨o, e', d⟩ := ho p.1 hb
    rw [e] at e'; cases e'
    exact ⟨e, f0, f1, f2, d⟩
theorem Inv.unpinned {pins pl : List (Addr × Obj)} {σ : St} {H : Hp} {s : Shared} (I : Inv X (pins ++ pl) σ H s) : Inv X pins σ H s := I.pins_of fun p hp => I.pin p (List.mem_append_right _ (List.mem_append_left _ hp))
theorem ps_for {iter : Expr} {body : List Stmt} {wi : TI} {g : TG} {tb : TS} {pos : Pos} (hp : PassesOwn (model X.prog X.w) X.A X.env X.xe) (hc : X.calm = true) (hi : PI X tg iter wi) (hg : PG X tg g) (hb : PSs X body tb)
    (hs : ∀ x, foldedSetIterable iter X.env x = pure x := by intro _; rfl) : PS X (.For tg iter body [] pos) (tFor wi g tb) := by
  intro pins s σ H D I h
  refine wpAny_For (thn (hi pins s σ H _ I h) fun v s1 h1 => thn h1 fun itv s2 h2 => ?_) hs
  obtain ⟨it, fp, tn, J, H2, e, I2, T, st2, f2, W, ⟨m0, w0⟩, turn⟩ := h2
  subst e
  -- what stays true of the iterator's objects through the loop
  have stat : ∀ {H' : Hp}, (∀ b ∈ fp, H' b = none) → ∀ b ∈ fp, FpOk X pins H' b := fun hn b hb => ⟨hn b hb, (f2 b hb).2⟩
  refine codeAny_forLoop_any (fun n s' => ∃ i σ' H', Inv X pins σ' H' s' ∧ tn i s'.heap ∧ (∀ b ∈ fp, H' b = none) ∧ W i n σ' H') ?_ m0 ⟨0, σ, H2, I2, st2, fun b hb => (f2 b hb).1, w0⟩
  rintro n s3 ⟨i, σ3, H3, I3, st3, fr3, w3⟩
  rcases turn i n σ3 H3 w3 with ⟨stop, qn⟩ | ⟨go, N, hN, step⟩
  · refine wpAny_passesOwn hp (thn (T.done X rfl rfl rfl hc i pins s3 σ3 H3 X.xe I3 (stat fr3) st3 stop) fun r s4 ⟨hr, I4⟩ => ?_)
    subst hr
    exact wpAny_execs_nil ⟨σ3, H3, I4, qn⟩
  · refine wpAny_passesOwn hp (thn (T.item X rfl rfl rfl hc i pins s3 σ3 H3 X.xe I3 (stat fr3) st3 go) fun r s4 ⟨u, hr, h4⟩ => ?_)
    subst hr
    refine wpAny_passesOwn hp (thn h4 fun _ s5 ⟨x, H5, I5, r5, y5, st5, fr5⟩ => ?_)
    have I5' := I5.pinned (stat fr5) (T.obj _ _ st5)
    refine wpAny_passesOwn hp (thn (hg _ s5 σ3 H5 x u _ I5' r5 (step x H5 y5)) fun _ s6 ⟨σ6, H6, I6, q6⟩ => ?_)
    refine wpAny_passesOwn hp (thn (hb _ s6 σ6 H6 _ I6 q6) fun f s7 q7 => ?_)
    have again : ∀ {σ7 : St} {H7 : Hp}, Inv X (pins ++ pinsAt fp s5.heap) σ7 H7 s7 → N σ7 H7 → ∃ m, m < n ∧ ∃ i σ' H', Inv X pins σ' H' s7 ∧ tn i s7.heap ∧ (∀ b ∈ fp, H' b = none) ∧ W i m σ' H' := fun {σ7 H7} I7 n7 => by
      obtain ⟨m', hm, w7⟩ := hN σ7 H7 n7
      refine ⟨m', hm, i + 1, σ7, H7, I7.unpinned, T.keep _ _ _ st5 fun b hb o e => (I7.pin (b, o) (List.mem_append_right _ (List.mem_append_right _ (mem_pinsAt hb e)))).1, fun b hb => ?_, w7⟩
      obtain ⟨o, e, d⟩ := T.obj _ _ st5 b hb
      exact (I7.pin (b, o) (List.mem_append_right _ (List.mem_append_right _ (mem_pinsAt hb e)))).2.1
    cases f with
    | next => obtain ⟨σ7, H7, I7, n7⟩ := q7; exact again I7 n7
    | cont => obtain ⟨σ7, H7, I7, n7⟩ := q7; exact again I7 n7
    | brk => obtain ⟨σ7, H7, I7, q7⟩ := q7; exact ⟨σ7, H7, I7.unpinned, q7⟩
    | ret v => obtain ⟨x7, σ7, H7, I7, r7, q7⟩ := q7; exact ⟨x7, σ7, H7, I7.unpinned, r7, q7⟩
end
theorem for_list {K : PySem.W.Frag} {a : Addr} {xs : List V} {g : TG} {tb : TS} {D : Ends} {σ : St} {H : Hp} (Pv : Nat → St → Hp → Prop) (h0 : Pv 0 σ H) (hl : ∀ i σ H, i ≤ xs.length → Pv i σ H → SqL K H a xs)
    (hs : ∀ i x σ H, xs[i]? = some x → Pv i σ H → g x σ H fun σ2 H2 => tb { D with nx := Pv (i + 1), ct := Pv (i + 1), bk := D.nx } σ2 H2) (hd : ∀ σ H, Pv xs.length σ H → D.nx σ H) :
    ∃ W : Nat → Nat → St → Hp → Prop, (∃ m, W 0 m σ H) ∧ ∀ i m σ H, W i m σ H →
      ((Itl K a).stop i H ∧ D.nx σ H) ∨ ((Itl K a).go i H ∧ ∃ N : St → Hp → Prop, (∀ σ' H', N σ' H' → ∃ m', m' < m ∧ W (i + 1) m' σ' H') ∧ ∀ x H', (Itl K a).yld i H x H' → g x σ H' fun σ2 H2 => tb { D with nx := N, ct := N, bk := D.nx } σ2 H2) := by
  refine ⟨fun i m σ H => m = xs.length - i ∧ i ≤ xs.length ∧ Pv i σ H, ⟨xs.length, by simp, Nat.zero_le _, h0⟩, ?_⟩
  rintro i m σ H ⟨rfl, hi, p⟩
  have q := hl i σ H hi p
  by_cases hlt : i < xs.length
  · refine .inr ⟨⟨xs, xs[i], q, by simp [hlt]⟩, Pv (i + 1), fun σ' H' p' => ⟨xs.length - (i + 1), by omega, rfl, hlt, p'⟩, fun x H' y => ?_⟩
    obtain ⟨e, y⟩ := y
    subst e
    exact hs i x σ _ (y xs q) p
  · have e : i = xs.length := by omega
    subst e
    exact .inl ⟨⟨xs, q, Nat.le_refl _⟩, hd σ H p⟩
theorem for_tup {K : PySem.W.Frag} {a : Addr} {xs : List V} {g : TG} {tb : TS} {D : Ends} {σ : St} {H : Hp} (Pv : Nat → St → Hp → Prop) (h0 : Pv 0 σ H) (hl : ∀ i σ H, i ≤ xs.length → Pv i σ H → SqT K H a xs)
    (hs : ∀ i x σ H, xs[i]? = some x → Pv i σ H → g x σ H fun σ2 H2 => tb { D with nx := Pv (i + 1), ct := Pv (i + 1), bk := D.nx } σ2 H2) (hd : ∀ σ H, Pv xs.length σ H → D.nx σ H) :
    ∃ W : Nat → Nat → St → Hp → Prop, (∃ m, W 0 m σ H) ∧ ∀ i m σ H, W i m σ H →
      ((Itt K a).stop i H ∧ D.nx σ H) ∨ ((Itt K a).go i H ∧ ∃ N : St → Hp → Prop, (∀ σ' H', N σ' H' → ∃ m', m' < m ∧ W (i + 1) m' σ' H') ∧ ∀ x H', (Itt K a).yld i H x H' → g x σ H' fun σ2 H2 => tb { D with nx := N, ct := N, bk := D.nx } σ2 H2) := by
  refine ⟨fun i m σ H => m = xs.length - i ∧ i ≤ xs.length ∧ Pv i σ H, ⟨xs.length, by simp, Nat.zero_le _, h0⟩, ?_⟩
  rintro i m σ H ⟨rfl, hi, p⟩
  have q := hl i σ H hi p
  by_cases hlt : i < xs.length
  · refine .inr ⟨⟨xs, xs[i], q, by simp [hlt]⟩, Pv (i + 1), fun σ' H' p' => ⟨xs.length - (i + 1), by omega, rfl, hlt, p'⟩, fun x H' y => ?_⟩
    obtain ⟨e, y⟩ := y
    subst e
    exact hs i x σ _ (y xs q) p
  · have e : i = xs.length := by omega
    subst e
    exact .inl ⟨⟨xs, q, Nat.le_refl _⟩, hd σ H p⟩
theorem for_range {lo : Int} {n : Nat} {g : TG} {tb : TS} {D : Ends} {σ : St} {H : Hp} (Pv : Nat → St → Hp → Prop) (h0 : Pv 0 σ H)
    (hs : ∀ i σ H, i < n → Pv i σ H → g (.int (lo + i)) σ H fun σ2 H2 => tb { D with nx := Pv (i + 1), ct := Pv (i + 1), bk := D.nx } σ2 H2) (hd : ∀ σ H, Pv n σ H → D.nx σ H) :
    ∃ W : Nat → Nat → St → Hp → Prop, (∃ m, W 0 m σ H) ∧ ∀ i m σ H, W i m σ H →
      ((Itr lo n).stop i H ∧ D.nx σ H) ∨ ((Itr lo n).go i H ∧ ∃ N : St → Hp → Prop, (∀ σ' H', N σ' H' → ∃ m', m' < m ∧ W (i + 1) m' σ' H') ∧ ∀ x H', (Itr lo n).yld i H x H' → g x σ H' fun σ2 H2 => tb { D with nx := N, ct := N, bk := D.nx } σ2 H2) := by
  refine ⟨fun i m σ H => m = n - i ∧ i ≤ n ∧ Pv i σ H, ⟨n, by simp, Nat.zero_le _, h0⟩, ?_⟩
  rintro i m σ H ⟨rfl, hi, p⟩
  by_cases hlt : i < n
  · refine .inr ⟨hlt, Pv (i + 1), fun σ' H' p' => ⟨n - (i + 1), by omega, rfl, hlt, p'⟩, fun x H' y => ?_⟩
    obtain ⟨e, y⟩ := y
    subst e y
    exact hs i σ _ hlt p
  · have e : i = n := by omega
    subst e
    exact .inl ⟨Nat.le_refl _, hd σ H p⟩
theorem while_by {c : TT} {tb : TS} {D : Ends} {σ : St} {H : Hp} (Pv : St → Hp → Prop) (μ : St → Hp → Nat) (h0 : Pv σ H)
    (hs : ∀ σ H, Pv σ H → c σ H fun b H1 => if b = true then tb { D with nx := fun σ' H' => Pv σ' H' ∧ μ σ' H' < μ σ H, ct := fun σ' H' => Pv σ' H' ∧ μ σ' H' < μ σ H, bk := D.nx } σ H1 else D.nx σ H1)
    (mono : ∀ σ H Q Q', (∀ b H1, Q b H1 → Q' b H1) → c σ H Q → c σ H Q') : tWhile c tb D σ H := by
  refine ⟨fun m σ H => m = μ σ H ∧ Pv σ H, ⟨_, rfl, h0⟩, ?_⟩
  rintro m σ H ⟨rfl, p⟩
  refine mono σ H _ _ (fun b H1 q => ?_) (hs σ H p)
  cases b with
  | true => exact ⟨_, fun σ' H' ⟨p', l⟩ => ⟨_, l, rfl, p'⟩, q⟩
  | false => exact q
end L2
namespace L2
open PySem PySem.Spec PyProof.Rows
abbrev R2 := V → V → Hp → VK → Prop
def OpR (X : Cx) (f : Value → Value → Sem Value) (r : R2) : Prop :=
  ∀ (pins : List (Addr × Obj)) (s : Shared) (σ : St) (H : Hp) (x y : V) (v u : Value) (Q : VK), Inv X pins σ H s → RelV x v → RelV y u → r x y H Q →
    wpAny (model X.prog X.w) X.A (f v u) (EP X pins σ Q) X.xe s
def UnR (X : Cx) (f : Value → Sem Value) (r : V → Hp → VK → Prop) : Prop :=
  ∀ (pins : List (Addr × Obj)) (s : Shared) (σ : St) (H : Hp) (x : V) (v : Value) (Q : VK), Inv X pins σ H s → RelV x v → r x H Q →
    wpAny (model X.prog X.w) X.A (f v) (EP X pins σ Q) X.xe s
def CallR (X : Cx) (f : Value) (r : List V → Hp → VK → Prop) : Prop :=
  ∀ (pins : List (Addr × Obj)) (s : Shared) (σ : St) (H : Hp) (xs : List V) (us : List Value) (Q : VK), Inv X pins σ H s → Vals xs us → r xs H Q →
    wpAny (model X.prog X.w) X.A (call f us) (EP X pins σ Q) X.xe s
def tOp (r : R2) (ta tb : TE) : TE := fun σ H Q => ta σ H fun x H1 => tb σ H1 fun y H2 => r x y H2 Q
def tUn (r : V → Hp → VK → Prop) (ta : TE) : TE := fun σ H Q => ta σ H fun x H1 => r x H1 Q
def rI (C : Int → Int → Prop) (g : Int → Int → V) : R2 := fun x y H Q => ∃ i j, x = .int i ∧ y = .int j ∧ C i j ∧ Q (g i j) H
def rI0 (g : Int → Int → V) : R2 := fun x y H Q => ∃ i j, x = .int i ∧ y = .int j ∧ Q (g i j) H
def rU (g : Int → V) : V → Hp → VK → Prop := fun x H Q => ∃ i, x = .int i ∧ Q (g i) H
section
variable {X : Cx} {a b c : Expr} {ta tb tc : TE} {pos : Pos}
theorem binT (ha : PE X a ta) (hb : PE X b tb) {pins : List (Addr × Obj)} {s : Shared} {σ : St} {H : Hp} {R : V → V → Hp → Prop} (I : Inv X pins σ H s)
    (h : ta σ H fun x H1 => tb σ H1 fun y H2 => R x y H2) {Q : Value → Shared → Prop} {f : Value → Value → Sem Value}
    (hf : ∀ v u s2 x y H2, Inv X pins σ H2 s2 → RelV x v → RelV y u → R x y H2 → wpAny (model X.prog X.w) X.A (f v u) Q X.xe s2) :
    wpAny (model X.prog X.w) X.A (eval a X.env) (fun v s₁ => wpAny (model X.prog X.w) X.A (eval b X.env) (fun u s₂ => wpAny (model X.prog X.w) X.A (f v u) Q X.xe s₂) X.xe s₁) X.xe s := by
  refine thn (ha pins s σ H _ I h) fun v s1 ⟨x, H1, I1, r1, q1⟩ => ?_
  refine thn (hb pins s1 σ H1 _ I1 q1) fun u s2 ⟨y, H2, I2, r2, q2⟩ => ?_
  exact hf v u s2 x y H2 I2 r1 r2 q2
theorem pe_op {op : Operator} {r : R2} (ho : OpR X (binaryOp op) r) (ha : PE X a ta) (hb : PE X b tb) : PE X (.BinOp a op b pos) (tOp r ta tb) := by
  intro pins s σ H Q I h
  exact wpAny_BinOp (binT ha hb I h fun v u s2 x y H2 I2 rx ry q => ho pins s2 σ H2 x y v u Q I2 rx ry q)
theorem pe_un {op : UnaryOp} {r : V → Hp → VK → Prop} (ho : UnR X (unaryOp op) r) (ha : PE X a ta) : PE X (.UnaryOp op a pos) (tUn r ta) := by
  intro pins s σ H Q I h
  exact UnaryOp_ (thn (ha pins s σ H _ I h) fun v s1 ⟨x, H1, I1, r1, q1⟩ => ho pins s1 σ H1 x v Q I1 r1 q1)
theorem opI {f : Value → Value → Sem Value} {C : Int → Int → Prop} {g : Int → Int → Int}
    (rule : ∀ (i j : Int) (t u : Tok) (s : Shared) (Q : Value → Shared → Prop) (E : Value → Shared → Prop), C i j → Q (.int (g i j) s.toks) { s with toks := s.toks + 1 } → wpAny (model X.prog X.w) X.A (f (.int i t) (.int j u)) Q E s) :
    OpR X f (rI C fun i j => .int (g i j)) := by
  intro pins s σ H x y v u Q I rx ry h
  obtain ⟨i, j, rfl, rfl, hc, q⟩ := h
  obtain ⟨t, rfl⟩ := rx
  obtain ⟨t', rfl⟩ := ry
  exact rule i j t t' s _ _ hc ⟨.int (g i j), H, I.tok _, ⟨_, rfl⟩, q⟩
theorem opI0 {f : Value → Value → Sem Value} {g : Int → Int → Int}
    (rule : ∀ (i j : Int) (t u : Tok) (s : Shared) (Q : Value → Shared → Prop) (E : Value → Shared → Prop), Q (.int (g i j) s.toks) { s with toks := s.toks + 1 } → wpAny (model X.prog X.w) X.A (f (.int i t) (.int j u)) Q E s) :
    OpR X f (rI0 fun i j => .int (g i j)) := by
  intro pins s σ H x y v u Q I rx ry h
  obtain ⟨i, j, rfl, rfl, q⟩ := h
  obtain ⟨t, rfl⟩ := rx
  obtain ⟨t', rfl⟩ := ry
  exact rule i j t t' s _ _ ⟨.int (g i j), H, I.tok _, ⟨_, rfl⟩, q⟩
theorem opB0 {f : Value → Value → Sem Value} {g : Int → Int → Bool}
    (rule : ∀ (i j : Int) (t u : Tok) (s : Shared) (Q : Value → Shared → Prop) (E : Value → Shared → Prop), Q (.bool (g i j)) s → wpAny (model X.prog X.w) X.A (f (.int i t) (.int j u)) Q E s) :
    OpR X f (rI0 fun i j => .bl (g i j)) := by
  intro pins s σ H x y v u Q I rx ry h
  obtain ⟨i, j, rfl, rfl, q⟩ := h
  obtain ⟨t, rfl⟩ := rx
  obtain ⟨t', rfl⟩ := ry
  exact rule i j t t' s _ _ ⟨.bl (g i j), H, I, rfl, q⟩
def CDiv (i j : Int) : Prop := 0 < j ∧ j < 1073741824
def CPow (i j : Int) : Prop := 0 ≤ j ∧ j ≤ 1000000 ∧ i.natAbs < 2 ^ 64
def CMul (i j : Int) : Prop := (-(2 ^ 64) < i ∧ i < 2 ^ 64) ∨ (-(2 ^ 64) < j ∧ j < 2 ^ 64)
theorem CMul.ok {i j : Int} (h : CMul i j) : IntMulOk i j := by
  rcases h with ⟨h1, h2⟩ | ⟨h1, h2⟩
  · exact .of_left (intBits_le_64 h1 h2)
  · exact .of_right (intBits_le_64 h1 h2)
theorem op_add : OpR X (binaryOp .Add) (rI0 fun i j => .int (i + j)) := opI0 fun _ _ _ _ _ _ _ q => add_int q
theorem op_sub : OpR X (binaryOp .Sub) (rI0 fun i j => .int (i - j)) := opI0 fun _ _ _ _ _ _ _ q => sub_int q
theorem op_mul : OpR X (binaryOp .Mult) (rI CMul fun i j => .int (i * j)) := opI fun _ _ _ _ _ _ _ hc q => mul_int q hc.ok
theorem op_fdiv : OpR X (binaryOp .FloorDiv) (rI CDiv fun i j => .int (i / j)) := opI fun i j _ _ _ _ _ hc q => by
  have h1 : (0 : Int) < j := hc.1
  have h2 : j < 1073741824 := hc.2
  exact floordiv_int (by omega) (by rw [Int.fdiv_eq_ediv_of_nonneg i (by omega)]; exact q) (.inl (PyProof.noPylong_small (by omega)))
theorem op_mod : OpR X (binaryOp .Mod) (rI (fun _ j => 0 < j) fun i j => .int (i % j)) := opI fun i j _ _ _ _ _ hc q => by
  have h1 : (0 : Int) < j := hc
  exact mod_int' (by omega) (by rw [Int.fmod_eq_emod_of_nonneg i (by omega)]; exact q)
theorem op_pow : OpR X (binaryOp .Pow) (rI CPow fun i j => .int (i ^ j.toNat)) := opI fun _ _ _ _ _ _ _ hc q => pow_int_small hc.1 hc.2.1 hc.2.2 q
theorem unI {f : Value → Sem Value} {g : Int → Int}
    (rule : ∀ (i : Int) (t : Tok) (s : Shared) (Q : Value → Shared → Prop) (E : Value → Shared → Prop), Q (.int (g i) s.toks) { s with toks := s.toks + 1 } → wpAny (model X.prog X.w) X.A (f (.int i t)) Q E s) :
    UnR X f (rU fun i => .int (g i)) := by
  intro pins s σ H x v Q I rx h
  obtain ⟨i, rfl, q⟩ := h
  obtain ⟨t, rfl⟩ := rx
  exact rule i t s _ _ ⟨.int (g i), H, I.tok _, ⟨_, rfl⟩, q⟩
theorem un_neg : UnR X (unaryOp .USub) (rU fun i => .int (-i)) := unI fun _ _ _ _ _ q => neg_int q
end
def scal : V → V → Bool
  | .non, .non => true | .non, .int _ => true | .int _, .non => true | .non, .bl _ => true | .bl _, .non => true | .non, .str _ => true | .str _, .non => true
  | .int _, .int _ => true | .bl _, .bl _ => true | .str _, .str _ => true | .byt _, .byt _ => true
  | .int _, .str _ => true | .str _, .int _ => true | .bl _, .str _ => true | .str _, .bl _ => true
  | _, _ => false
def rEq : R2 := fun x y H Q => scal x y = true ∧ Q (.bl (decide (x = y))) H
def rNe : R2 := fun x y H Q => scal x y = true ∧ Q (.bl (!decide (x = y))) H
theorem dec_int {i j : Int} : decide (V.int i = V.int j) = (i == j) := by
  rw [Bool.eq_iff_iff]
  simp
theorem dec_bl {i j : Bool} : decide (V.bl i = V.bl j) = (i == j) := by
  rw [Bool.eq_iff_iff]
  simp
theorem dec_str {i j : Str} : decide (V.str i = V.str j) = (i == j) := by
  rw [Bool.eq_iff_iff]
  simp
theorem dec_byt {i j : Array UInt8} : decide (V.byt i = V.byt j) = (i.toList == j.toList) := by
  rw [Bool.eq_iff_iff]
  cases i
  cases j
  simp
section
variable {X : Cx} {a b c : Expr} {ta tb tc : TE} {pos : Pos}
theorem fin_bl {pins : List (Addr × Obj)} {σ : St} {H : Hp} {s : Shared} {Q : VK} {k k' : Bool} (I : Inv X pins σ H s) (q : Q (.bl k) H) (e : k = k') : EP X pins σ Q (.bool k') s := by
  subst e
  exact ⟨.bl k, H, I, rfl, q⟩
theorem op_eq : OpR X (compareOp .Eq) rEq := by
  intro pins s σ H x y v u Q I rx ry h
  obtain ⟨hs, q⟩ := h
  cases x with
  | non =>
    cases rx
    cases y with
    | non => cases ry; exact PySem.EqNone.eq_none_none (fin_bl I q (by simp))
    | bl j => cases ry; exact PySem.EqNone.eq_none_bool (fin_bl I q (by simp))
    | int j => obtain ⟨t', rfl⟩ := ry; exact PySem.EqNone.eq_none_int (fin_bl I q (by simp))
    | str j => obtain ⟨t', rfl⟩ := ry; exact PySem.EqNone.eq_none_str (fin_bl I q (by simp))
    | _ => exact absurd (show false = true from hs) Bool.false_ne_true
  | bl i =>
    cases rx
    cases y with
    | non => cases ry; exact PySem.EqNone.eq_bool_none (fin_bl I q (by simp))
    | bl j => cases ry; exact eq_bool (fin_bl I q dec_bl)
    | str j => obtain ⟨t', rfl⟩ := ry; exact PySem.EqMixed.eq_bool_str (fin_bl I q (by simp))
    | _ => exact absurd (show false = true from hs) Bool.false_ne_true
  | int i =>
    obtain ⟨t, rfl⟩ := rx
    cases y with
    | non => cases ry; exact PySem.EqNone.eq_int_none (fin_bl I q (by simp))
    | int j => obtain ⟨t', rfl⟩ := ry; exact eq_int (fin_bl I q dec_int)
    | str j => obtain ⟨t', rfl⟩ := ry; exact PySem.EqMixed.eq_int_str (fin_bl I q (by simp))
    | _ => exact absurd (show false = true from hs) Bool.false_ne_true
  | str i =>
    obtain ⟨t, rfl⟩ := rx
    cases y with
    | non => cases ry; exact PySem.EqNone.eq_str_none (fin_bl I q (by simp))
    | bl j => cases ry; exact PySem.EqMixed.eq_str_bool (fin_bl I q (by simp))
    | int j => obtain ⟨t', rfl⟩ := ry; exact PySem.EqMixed.eq_str_int (fin_bl I q (by simp))
    | str j => obtain ⟨t', rfl⟩ := ry; exact eq_str (fin_bl I q dec_str)
    | _ => exact absurd (show false = true from hs) Bool.false_ne_true
  | byt i =>
    obtain ⟨t, rfl⟩ := rx
    cases y with
    | byt j => obtain ⟨t', rfl⟩ := ry; exact PySem.W.eq_bytes (fin_bl I q dec_byt)
    | _ => exact absurd (show false = true from hs) Bool.false_ne_true
  | _ => cases y <;> exact absurd (show false = true from hs) Bool.false_ne_true
theorem op_ne : OpR X (compareOp .NotEq) rNe := by
  intro pins s σ H x y v u Q I rx ry h
  obtain ⟨hs, q⟩ := h
  cases x with
  | non =>
    cases rx
    cases y with
    | non => cases ry; exact PySem.EqNone.ne_none_none (fin_bl I q (by simp))
    | bl j => cases ry; exact PySem.EqNone.ne_none_bool (fin_bl I q (by simp))
    | int j => obtain ⟨t', rfl⟩ := ry; exact PySem.EqNone.ne_none_int (fin_bl I q (by simp))
    | str j => obtain ⟨t', rfl⟩ := ry; exact PySem.EqNone.ne_none_str (fin_bl I q (by simp))
    | _ => exact absurd (show false = true from hs) Bool.false_ne_true
  | bl i =>
    cases rx
    cases y with
    | non => cases ry; exact PySem.EqNone.ne_bool_none (fin_bl I q (by simp))
    | bl j => cases ry; exact ne_bool (fin_bl I q (congrArg not dec_bl))
    | str j => obtain ⟨t', rfl⟩ := ry; exact PySem.EqMixed.ne_bool_str (fin_bl I q (by simp))
    | _ => exact absurd (show false = true from hs) Bool.false_ne_true
  | int i =>
    obtain ⟨t, rfl⟩ := rx
    cases y with
    | non => cases ry; exact PySem.EqNone.ne_int_none (fin_bl I q (by simp))
    | int j => obtain ⟨t', rfl⟩ := ry; exact ne_int (fin_bl I q (congrArg not dec_int))
    | str j => obtain ⟨t', rfl⟩ := ry; exact PySem.EqMixed.ne_int_str (fin_bl I q (by simp))
    | _ => exact absurd (show false = true from hs) Bool.false_ne_true
  | str i =>
    obtain ⟨t, rfl⟩ := rx
    cases y with
    | non => cases ry; exact PySem.EqNone.ne_str_none (fin_bl I q (by simp))
    | bl j => cases ry; exact PySem.EqMixed.ne_str_bool (fin_bl I q (by simp))
    | int j => obtain ⟨t', rfl⟩ := ry; exact PySem.EqMixed.ne_str_int (fin_bl I q (by simp))
    | str j => obtain ⟨t', rfl⟩ := ry; exact ne_str (fin_bl I q (congrArg not dec_str))
    | _ => exact absurd (show false = true from hs) Bool.false_ne_true
  | byt i =>
    obtain ⟨t, rfl⟩ := rx
    cases y with
    | byt j => obtain ⟨t', rfl⟩ := ry; exact PySem.W.ne_bytes (fin_bl I q (congrArg not dec_byt))
    | _ => exact absurd (show false = true from hs) Bool.false_ne_true
  | _ => cases y <;> exact absurd (show false = true from hs) Bool.false_ne_true
theorem op_lt : OpR X (compareOp .Lt) (rI0 fun i j => .bl (decide (i < j))) := opB0 fun _ _ _ _ _ _ _ q => lt_int q
theorem op_le : OpR X (compareOp .LtE) (rI0 fun i j => .bl (decide (i ≤ j))) := opB0 fun _ _ _ _ _ _ _ q => le_int q
theorem op_gt : OpR X (compareOp .Gt) (rI0 fun i j => .bl (decide (j < i))) := opB0 fun _ _ _ _ _ _ _ q => gt_int q
theorem op_ge : OpR X (compareOp .GtE) (rI0 fun i j => .bl (decide (j ≤ i))) := opB0 fun _ _ _ _ _ _ _ q => ge_int q
theorem op_notN : OpR X (compareOp .IsNot) (fun x y H Q => y = .non ∧ Q (.bl (!decide (x = .non))) H) := by
  intro pins s σ H x y v u Q I rx ry h
  obtain ⟨rfl, q⟩ := h
  cases ry
  refine isnot_none_gen (fin_bl I q ?_)
  cases x <;> first
    | (cases rx; rfl)
    | (obtain ⟨t, rfl⟩ := rx; rfl)
theorem nomark (b : Expr) {op : CmpOp} (h : op ≠ .In := by decide) (h2 : op ≠ .NotIn := by decide) : behindInMarks op b = false := by
  have e1 : (op == CmpOp.In) = false := by cases op <;> first | rfl | exact absurd rfl h
  have e2 : (op == CmpOp.NotIn) = false := by cases op <;> first | rfl | exact absurd rfl h2
  cases b <;> simp [behindInMarks, e1, e2]
theorem pe_cmpR {op : CmpOp} {r : R2} (ho : OpR X (compareOp op) r) (ha : PE X a ta) (hb : PE X b tb) (hm : behindInMarks op b = false) : PE X (.Compare a [op] [b] pos) (tOp r ta tb) := by
  intro pins s σ H Q I h
  exact wpAny_Compare1 (binT ha hb I h fun v u s2 x y H2 I2 rx ry q => ho pins s2 σ H2 x y v u Q I2 rx ry q) hm
def tTest (t : TE) : TT := fun σ H Q => t σ H fun x H' => ∃ k, x = .bl k ∧ Q k H'
theorem pt_cmpR {op : CmpOp} {r : R2} (ho : OpR X (compareOp op) r) (ha : PE X a ta) (hb : PE X b tb) (hm : behindInMarks op b = false) : PT X (.Compare a [op] [b] pos) (tTest (tOp r ta tb)) := by
  intro pins s σ H Q I h
  refine wpAny_isTrue_Compare1 (thn (ha pins s σ H _ I h) fun v s1 ⟨x, H1, I1, r1, q1⟩ => thn (hb pins s1 σ H1 _ I1 q1) fun u s2 ⟨y, H2, I2, r2, q2⟩ =>
    thn (ho pins s2 σ H2 x y v u _ I2 r1 r2 q2) fun c s3 ⟨z, H3, I3, r3, k, e, q3⟩ => ?_) hm
  subst e
  cases r3
  exact wpAny_truthy_bool ⟨H3, I3, q3⟩
theorem line63 : (sizeLine : Nat) < 2 ^ 63 := by rw [sizeLine_eq]; decide
theorem vals1 {x : V} {us : List Value} (r : Vals [x] us) : ∃ u, us = [u] ∧ RelV x u := by
  cases r with
  | cons r1 r2 => cases r2; exact ⟨_, rfl, r1⟩
theorem vals2 {x y : V} {us : List Value} (r : Vals [x, y] us) : ∃ u w', us = [u, w'] ∧ RelV x u ∧ RelV y w' := by
  cases r with
  | cons r1 r2 =>
    cases r2 with
    | cons r3 r4 => cases r4; exact ⟨_, _, rfl, r1, r3⟩
theorem call_abs : CallR X (.builtin "abs") (fun xs H Q => ∃ i, xs = [.int i] ∧ Q (.int (if i < 0 then -i else i)) H) := by
  intro pins s σ H xs us Q I r h
  obtain ⟨i, rfl, q⟩ := h
  obtain ⟨u, rfl, t, rfl⟩ := vals1 r
  exact call_abs_int fun u tk => ⟨.int (if i < 0 then -i else i), H, I.tok _, ⟨_, rfl⟩, q⟩
theorem call_max2 (hc : X.calm = true) : CallR X (.builtin "max") (fun xs H Q => ∃ i j, xs = [.int i, .int j] ∧ Q (.int (if j > i then j else i)) H) := by
  intro pins s σ H xs us Q I r h
  obtain ⟨i, j, rfl, q⟩ := h
  obtain ⟨u, w', rfl, ⟨t, rfl⟩, ⟨t', rfl⟩⟩ := vals2 r
  refine max_two_ints (I.ok.hd hc) fun h' tk k => ⟨_, H, I.kept k, ?_, q⟩
  by_cases hj : j > i
  · rw [if_pos hj, if_pos hj]; exact ⟨_, rfl⟩
  · rw [if_neg hj, if_neg hj]; exact ⟨_, rfl⟩
end
end L2
namespace L2
open PySem PySem.Spec PyProof.Rows
structure ObjM (h : Heap) (x dx C : Addr) (mA : Str → Option Value) : Prop where
  obj : h.get? x = some (PySem.W.instObj C dx)
  ns : h.Ns1 dx mA
  ne : dx ≠ x
theorem lookIn_ns {h : Heap} {dx : Addr} {mA : Str → Option Value} (n : h.Ns1 dx mA) : ∃ od, h.get? dx = some od ∧ ∀ name, PySem.W.lookIn name od = some (mA name) := by
  obtain ⟨o, es, ep, ho, hd, hk, _, hm⟩ := n
  refine ⟨o, ho, fun name => ?_⟩
  have e := hm name
  unfold nsFind findBy at e
  rw [← Array.find?_toList] at e
  unfold PySem.W.lookIn
  rw [hd]
  dsimp only
  split
  · rename_i y q
    rw [q] at e
    exact congrArg some e
  · rename_i q
    rw [q] at e
    have a : es.toList.any (·.refKey) = false := by
      rw [List.any_eq_false]
      intro y hy
      obtain ⟨z, t, hkey⟩ := hk y (Array.mem_toList_iff.mp hy)
      simp [DictEntry.refKey, hkey]
    have a' : ¬ es.toList.any (·.refKey) = true := by rw [a]; exact Bool.false_ne_true
    rw [if_neg a']
    exact congrArg some e
theorem ObjM.look {h : Heap} {x dx C : Addr} {mA : Str → Option Value} (I : ObjM h x dx C mA) : ∃ od, PySem.W.InstAt h x (PySem.W.instObj C dx) C (some od) ∧ ∀ name, PySem.W.lookIn name od = some (mA name) :=
  let ⟨od, ho, hl⟩ := lookIn_ns I.ns
  ⟨od, ⟨I.obj, rfl, rfl, ho⟩, hl⟩
section
variable {prog : Program} {w : World} {A : Around} {E : Value → Shared → Prop} {s : Shared} {K : PySem.W.Frag} {x dx C f : Addr} {mA : Str → Option Value} {name : Str} {v : Value}
theorem get_map {expr : Bool} {Q : Value → Shared → Prop} (X : K.In s.heap) (I : ObjM s.heap x dx C mA) (hg : PySem.W.plainGet K C name = true) (hh : PySem.W.hasDictIn K C = true)
    (ha : PySem.W.findIn K (.ref C) name = some none) (hv : mA name = some v) (hv' : PySem.W.handedIn v = true) (h : Q v { s with toks := s.toks + 1 }) :
    wpAny (model prog w) A (getAttr (.ref x) name expr) Q E s := by
  obtain ⟨od, J, hl⟩ := I.look
  exact PySem.W.get_value X J (PySem.W.plainGet_of hg).1 (PySem.W.findObj_own hh ha rfl (by rw [hl, hv])) hv' h
theorem set_map {ns : List Str} {Q : Unit → Shared → Prop} (X : K.In s.heap) (I : ObjM s.heap x dx C mA)
    (hs : PySem.W.findIn K (.ref C) "__setattr__" = some (some (.builtin "object.__setattr__"))) (hp : PySem.W.plainOver K C = true) (ht : PySem.W.takerIn K C name = some none) (hh : PySem.W.hasDictIn K C = true)
    (hw : PySem.Within mA ns) (hsz : ns.length ≤ sizeLine)
    (h : ∀ h', ObjM h' x dx C (fun y => if y = name then some v else mA y) → Heap.SameBut dx s.heap h' → Q () { s with heap := h', toks := s.toks + 2 }) :
    wpAny (model prog w) A (setAttr (.ref x) name v) Q E s := by
  obtain ⟨od, J, hl⟩ := I.look
  refine PySem.W.set_plain X J hs (PySem.W.osa_open (s := { s with toks := s.toks + 1 }) (r := none) X J hp ht fun b => ?_)
  obtain ⟨cd, hc, hd'⟩ := PySem.W.any_some hh
  have hx : s.heap.get? x = some ⟨.ref C, some dx, .plain, #[]⟩ := I.obj
  refine wpAny_bind (wpAny_pure (wpAny_bind (wpAny_bind (wpAny_loadPart hx (wpAny_bind (PySem.W.Looks.here (s := { s with toks := s.toks + 1 }) (PySem.W.looks_clsIn X hc) ?_))))))
  rw [hd']
  refine wpAny_pure (a := some dx) (wpAny_bind (wpAny_pure (wpAny_bind ?_)))
  refine wpAny_nsSet1 (s := { s with toks := s.toks + 1 }) I.ns fun h' hn2 hs2 => ?_
  obtain ⟨oD, esD, epD, hoD, hdD, hcD⟩ := hn2.count (PySem.Within.cons name v hw)
  refine wpAny_bind (wpAny_lookBehind hoD (by rw [hdD]; exact pastItsLine_dict (Nat.le_trans hcD (by rw [List.length_cons]; omega))) ?_)
  exact wpAny_pure (h _ ⟨(hs2.2 _ (Ne.symm I.ne)).trans I.obj, hn2, I.ne⟩ hs2)
theorem make_map {R : Result → Shared → Prop} {vs : List Value} {kw : List (Str × Value)} (X : K.In s.heap) (hm : PySem.W.makesIn K C = true)
    (hi : PySem.W.findIn K (.ref C) "__init__" = some (some (.ref f))) (hf : PySem.W.typeIn K (.ref f) = some (.type "function"))
    (h : codeAny (model prog w) (A.under (.builtin "type.__call__" ⟨.ref C :: vs, kw⟩)) (.call (.ref f) ⟨.ref (s.heap.objs.size + 1) :: vs, kw⟩) (PySem.W.InitBack (s.heap.objs.size + 1) R)
      { s with heap := (s.heap.push PySem.W.emptyDict).push (PySem.W.instObj C s.heap.objs.size) }) :
    codeAny (model prog w) A (.call (.ref C) ⟨vs, kw⟩) R s := by
  obtain ⟨hh, g, d, t, os⟩ := s
  exact PySem.W.make_core (PySem.W.makes_of X hm) (PySem.W.looks_findIn X hi) (fun self => PySem.W.bind_fn X self hf) (.inl rfl) h
end
def putF (f : Str) (v : V) : List (Str × V) → List (Str × V)
  | [] => [(f, v)]
  | (g, x) :: r => if g = f then (g, v) :: r else (g, x) :: putF f v r
theorem lookup_putF (f g : Str) (v : V) : ∀ fs : List (Str × V), (putF f v fs).lookup g = if g = f then some v else fs.lookup g
  | [] => by
    show List.lookup g [(f, v)] = _
    by_cases h : g = f
    · have hb : (g == f) = true := beq_iff_eq.mpr h
      simp only [List.lookup, hb, if_pos h]
    · have hb : (g == f) = false := beq_eq_false_iff_ne.mpr h
      simp only [List.lookup, hb, if_neg h]
  | (k, x) :: r => by
    have ih := lookup_putF f g v r
    rw [show putF f v ((k, x) :: r) = (if k = f then (k, v) :: r else (k, x) :: putF f v r) from rfl]
    by_cases hk : k = f
    · rw [if_pos hk]
      by_cases h : g = k
      · have hb : (g == k) = true := beq_iff_eq.mpr h
        simp only [List.lookup, hb, if_pos (h.trans hk)]
      · have hb : (g == k) = false := beq_eq_false_iff_ne.mpr h
        simp only [List.lookup, hb, if_neg (fun e : g = f => h (e.trans hk.symm))]
    · rw [if_neg hk]
      by_cases h : g = k
      · have hb : (g == k) = true := beq_iff_eq.mpr h
        simp only [List.lookup, hb, if_neg (fun e : g = f => hk (h.symm.trans e))]
      · have hb : (g == k) = false := beq_eq_false_iff_ne.mpr h
        simp only [List.lookup, hb]
        exact ih
theorem keys_putF (f : Str) (v : V) : ∀ fs : List (Str × V), f ∈ (putF f v fs).map (·.1) ∧ ∀ g, g ∈ fs.map (·.1) → g ∈ (putF f v fs).map (·.1)
  | [] => ⟨by simp [putF], fun g h => by simp at h⟩
  | (k, x) :: r => by
    obtain ⟨i1, i2⟩ := keys_putF f v r
    rw [show putF f v ((k, x) :: r) = (if k = f then (k, v) :: r else (k, x) :: putF f v r) from rfl]
    by_cases hk : k = f
    · rw [if_pos hk]
      subst hk
      exact ⟨by simp, fun g h => by simpa using h⟩
    · rw [if_neg hk]
      refine ⟨?_, fun g h => ?_⟩
      · rw [List.map_cons]
        exact List.mem_cons_of_mem _ i1
      · rw [List.map_cons] at h ⊢
        rcases List.mem_cons.mp h with e | e
        · exact List.mem_cons.mpr (.inl e)
        · exact List.mem_cons_of_mem _ (i2 g e)
theorem length_putF (f : Str) (v : V) : ∀ fs : List (Str × V), (putF f v fs).length ≤ fs.length + 1
  | [] => by simp [putF]
  | (k, x) :: r => by
    have ih := length_putF f v r
    rw [show putF f v ((k, x) :: r) = (if k = f then (k, v) :: r else (k, x) :: putF f v r) from rfl]
    by_cases hk : k = f
    · rw [if_pos hk, List.length_cons, List.length_cons]; omega
    · rw [if_neg hk, List.length_cons, List.length_cons]; omega
theorem RelO.some_of {v : V} {o : Option Value} (r : RelO (some v) o) : ∃ u, o = some u ∧ RelV v u := by
  cases o with
  | none => exact (show False from r).elim
  | some u => exact ⟨u, rfl, r⟩
theorem handed_of {v : V} {u : Value} (r : RelV v u) : PySem.W.handedIn u = true := by
  cases v with
  | non => cases (show u = Value.none from r); rfl
  | bl b => cases (show u = Value.bool b from r); rfl
  | int i => obtain ⟨t, e⟩ := (show ∃ t, u = Value.int i t from r); cases e; rfl
  | str x => obtain ⟨t, e⟩ := (show ∃ t, u = Value.str x t from r); cases e; rfl
  | byt b => obtain ⟨t, e⟩ := (show ∃ t, u = Value.bytes b t from r); cases e; rfl
  | flt b => obtain ⟨t, e⟩ := (show ∃ t, u = Value.float b t from r); cases e; rfl
  | ref a => cases (show u = Value.ref a from r); rfl
  | ty n => cases (show u = Value.type n from r); rfl
section
variable {P : Program} {w : World} {H H' : Hp} {h h' : Heap} {a C dx : Addr} {fs fs' : List (Str × V)}
theorem ins_get (hok : HOk P w H h) (e : H a = some (.ins C dx fs)) : ∃ mA, ObjM h a dx C mA ∧ (∀ f, RelO (fs.lookup f) (mA f)) ∧ PySem.Within mA (fs.map (·.1)) ∧ fs.length ≤ 1000 ∧ H dx = some (.own a) := by
  obtain ⟨d, z, ne, ob, mA, n, r, q⟩ := (show ObjOk P w H h a (.ins C dx fs) from hok a _ e)
  exact ⟨mA, ⟨ob, n, ne⟩, r, q, z, d⟩
end
structure Cls (K : PySem.W.Frag) (C : Addr) : Prop where
  pg : PySem.W.plainGet K C Str.empty = true
  hd : PySem.W.hasDictIn K C = true
  po : PySem.W.plainOver K C = true
  sa : PySem.W.findIn K (.ref C) "__setattr__" = some (some (.builtin "object.__setattr__"))
theorem Cls.get {K : PySem.W.Frag} {C : Addr} (c : Cls K C) (f : Str) : PySem.W.plainGet K C f = true := c.pg
def NoAttr (K : PySem.W.Frag) (C : Addr) (f : Str) : Prop := PySem.W.findIn K (.ref C) f = some none
theorem NoAttr.taker {K : PySem.W.Frag} {C : Addr} {f : Str} (n : NoAttr K C f) : PySem.W.takerIn K C f = some none := by
  unfold PySem.W.takerIn
  rw [show PySem.W.findIn K (.ref C) f = some none from n]
  rfl
structure Con (K : PySem.W.Frag) (C : Addr) (f : Str) (v : V) (u : Value) : Prop where
  at_ : PySem.W.findIn K (.ref C) f = some (some u)
  rel : RelV v u
  get : PySem.W.specialIn K u "__get__" = some none
  cp : PySem.W.copiedNames.contains f = false
structure Meth (K : PySem.W.Frag) (C : Addr) (m : Str) (f : Addr) : Prop where
  at_ : PySem.W.findIn K (.ref C) m = some (some (.ref f))
  fn : PySem.W.isFn K (.ref f) = true
  kp : PySem.W.keepIn K (.ref f) = true
section
variable {X : Cx} {pins : List (Addr × Obj)} {σ : St} {H : Hp} {s : Shared} {a C dx : Addr} {fs : List (Str × V)} {f : Str} {v : V} {A : Around} {E : Value → Shared → Prop}
theorem getattr_ok {b : Bool} {Q : Value → Shared → Prop} (I : Inv X pins σ H s) (e : H a = some (.ins C dx fs)) (c : Cls X.K C) (n : NoAttr X.K C f) (l : fs.lookup f = some v)
    (h : ∀ u s', Inv X pins σ H s' → RelV v u → Q u s') : wpAny (model X.prog X.w) A (getAttr (.ref a) f b) Q E s := by
  obtain ⟨mA, O, r, _, _, _⟩ := ins_get I.hok e
  obtain ⟨u, hu, ru⟩ := RelO.some_of (v := v) (o := mA f) (by rw [← l]; exact r f)
  exact get_map I.kIn O (c.get f) c.hd n hu (handed_of ru) (h u _ (I.tok _) ru)
theorem setattr_ok {y : V} {u : Value} {Q : Unit → Shared → Prop} (I : Inv X pins σ H s) (e : H a = some (.ins C dx fs)) (c : Cls X.K C) (n : NoAttr X.K C f) (hl : fs.length < 1000) (ry : RelV y u)
    (h : ∀ s', Inv X pins σ (upd H a (.ins C dx (putF f y fs))) s' → Q () s') : wpAny (model X.prog X.w) A (setAttr (.ref a) f u) Q E s := by
  obtain ⟨mA, O, r, wi, _, ho⟩ := ins_get I.hok e
  have hz : (fs.map (·.1)).length ≤ sizeLine := by rw [List.length_map, sizeLine_eq]; omega
  refine set_map I.kIn O c.sa c.po n.taker c.hd wi hz fun h' O' sb => h _ ?_
  have hd : ∃ o, h'.get? dx = some o := let ⟨o, _, _, e', _⟩ := O'.ns; ⟨o, e'⟩
  refine I.write (x := a) (e := dx) (by rw [e]; exact True.intro) (.inr ho) (fun b q hb z => (sb.2 b hb).trans z) hd ?_
  refine ⟨by rw [upd_ne O.ne]; exact ho, ?_, O.ne, O'.obj, _, O'.ns, fun g => ?_, fun g hg => ?_⟩
  · have := length_putF f y fs; omega
  · show RelO ((putF f y fs).lookup g) (if g = f then some u else mA g)
    rw [lookup_putF]
    by_cases q : g = f
    · rw [if_pos q, if_pos q]; exact ry
    · rw [if_neg q, if_neg q]; exact r g
  · by_cases q : g = f
    · rw [q]; exact (keys_putF f y fs).1
    · refine (keys_putF f y fs).2 g (wi g fun z => hg ?_)
      show (if g = f then some u else mA g) = none
      rw [if_neg q]; exact z
theorem Inv.made (I : Inv X pins σ H s) : Inv X pins σ (upd (upd H s.heap.objs.size (.own (s.heap.objs.size + 1))) (s.heap.objs.size + 1) (.ins C s.heap.objs.size []))
    { s with heap := (s.heap.push PySem.W.emptyDict).push (PySem.W.instObj C s.heap.objs.size) } := by
  have e1 : (s.heap.push PySem.W.emptyDict).get? s.heap.objs.size = some PySem.W.emptyDict := Heap.get?_push_size s.heap rfl
  have e2 : ((s.heap.push PySem.W.emptyDict).push (PySem.W.instObj C s.heap.objs.size)).get? (s.heap.objs.size + 1) = some (PySem.W.instObj C s.heap.objs.size) := by
    have := Heap.get?_push_size (s.heap.push PySem.W.emptyDict) (o := PySem.W.instObj C s.heap.objs.size) rfl
    rwa [Heap.size_push] at this
  have e3 : (s.heap.push PySem.W.emptyDict).Ns s.heap.objs.size (fun _ => none) := ⟨PySem.W.emptyDict, #[], _, e1, rfl, (fun e he => absurd he (by simp)), fun _ => rfl⟩
  have I1 := I.laid (a := s.heap.objs.size) (o := .own (s.heap.objs.size + 1)) (h' := s.heap.push PySem.W.emptyDict) (t' := s.toks) (fun b u q => Heap.get?_push_of_some _ q) (Nat.le_refl _) ⟨_, e1⟩
  refine I1.laid (a := s.heap.objs.size + 1) (o := .ins C s.heap.objs.size []) (t' := s.toks) (fun b u q => Heap.get?_push_of_some _ q) (Nat.le_of_eq (Heap.size_push _ _)) ?_
  have ne : s.heap.objs.size ≠ s.heap.objs.size + 1 := Nat.ne_of_lt (Nat.lt_succ_self _)
  refine ⟨by rw [upd_ne ne, upd_same], Nat.zero_le _, ne, e2, fun _ => none, (Heap.Ns1.of_empty e3).at fun o q => Heap.get?_push_of_some _ q, fun _ => True.intro, fun y hy => absurd rfl hy⟩
theorem attr_of {prog : Program} {w : World} {env : Env} {e : Expr} {f : Str} {pos : Pos} {s : Shared} {Q : Value → Shared → Prop} (hb : attributeBase e f env (eval e env) = eval e env)
    (h : wpAny (model prog w) A (eval e env) (fun o s₁ => wpAny (model prog w) A (getAttr o f true) Q E s₁) E s) : wpAny (model prog w) A (eval (.Attribute e f pos) env) Q E s :=
  Attribute_any_ h (by rw [arm_eval_Attribute, hb])
end
def tFld (K : PySem.W.Frag) (ta : TE) (f : Str) : TE := fun σ H Q => ta σ H fun x H1 => ∃ a C dx fs v, x = .ref a ∧ H1 a = some (.ins C dx fs) ∧ Cls K C ∧ NoAttr K C f ∧ fs.lookup f = some v ∧ Q v H1
def sFld (K : PySem.W.Frag) (ta tv : TE) (f : Str) : TS := fun D σ H => tv σ H fun y H1 => ta σ H1 fun x H2 => ∃ a C dx fs, x = .ref a ∧ H2 a = some (.ins C dx fs) ∧ Cls K C ∧ NoAttr K C f ∧ fs.length < 1000 ∧
  D.nx σ (upd H2 a (.ins C dx (putF f y fs)))
section
variable {X : Cx} {o e value : Expr} {f : Str} {pos pos' tpos : Pos} {ta tv : TE}
theorem pe_fld (he : PE X e ta) (hb : attributeBase e f X.env (eval e X.env) = eval e X.env) : PE X (.Attribute e f pos) (tFld X.K ta f) := by
  intro pins s σ H Q I h
  refine attr_of hb (thn (he pins s σ H _ I h) fun u s1 ⟨x, H1, I1, rx, a, C, dx, fs, v, ex, ea, c, n, l, q⟩ => ?_)
  subst ex
  obtain rfl : u = Value.ref a := rx
  exact getattr_ok I1 ea c n l fun u' s2 I2 ru => ⟨v, H1, I2, ru, q⟩
theorem ps_fld (ha : PE X o ta) (hv : PE X value tv) (hs : swapsWith value (some (.Attribute o f pos')) pos.line X.env = pure false) : PS X (.Assign [.Attribute o f pos'] value pos) (sFld X.K ta tv f) := by
  intro pins s σ H D I h
  refine plainObj_wpAny_Assign_Attribute (thn (hv pins s σ H _ I h) fun u s1 ⟨y, H1, I1, ry, q⟩ => thn (ha pins s1 σ H1 _ I1 q) fun ov s2 ⟨x, H2, I2, rx, a, C, dx, fs, ex, ea, c, n, l, q2⟩ => ?_) hs
  subst ex
  obtain rfl : ov = Value.ref a := rx
  exact setattr_ok I2 ea c n l ry fun s3 I3 => ⟨σ, _, I3, q2⟩
end
section
variable {X : Cx} {pins : List (Addr × Obj)} {σ : St} {H : Hp} {s : Shared} {A : Around} {E : Value → Shared → Prop} {Q : Value → Shared → Prop} {c : Value} {b : Bool}
inductive TyOf (K : PySem.W.Frag) (H : Hp) : V → Value → Prop where
  | non : TyOf K H .non (.type "NoneType")
  | bl (x : Bool) : TyOf K H (.bl x) (.type "bool")
  | int (i : Int) : TyOf K H (.int i) (.type "int")
  | str (x : Str) : TyOf K H (.str x) (.type "str")
  | flt (x : UInt64) : TyOf K H (.flt x) (.type "float")
  | lst {a : Addr} {xs : List V} (e : H a = some (.lst xs)) : TyOf K H (.ref a) (.type "list")
  | frz {a : Addr} {o : Obj} {xs : List V} (e : H a = some (.frz o (.lst xs))) : TyOf K H (.ref a) (.type "list")
  | tup {a : Addr} {xs : List V} (e : H a = some (.tup xs)) : TyOf K H (.ref a) (.type "tuple")
  | dK {a : Addr} {kvs : List (Key × V)} (e : H a = some (.dK kvs)) : TyOf K H (.ref a) (.type "dict")
  | dT {a : Addr} {kvs : List (List Key × V)} (e : H a = some (.dT kvs)) : TyOf K H (.ref a) (.type "dict")
  | ins {a C dx : Addr} {fs : List (Str × V)} (e : H a = some (.ins C dx fs)) (cl : Cls K C) (ha : PySem.W.findIn K (.ref C) "__class__" = some (some (.builtin "object.__class__")))
      (hn : PySem.W.specialIn K (.builtin "object.__class__") "__get__" = some (some (.builtin "getset_descriptor.__get__"))) (htk : PySem.W.takesIn K (.builtin "object.__class__") = some true)
      (hm : PySem.W.mroIn K C (.type "object") = some true) : TyOf K H (.ref a) (.ref C)
theorem isinst_ok {x : V} {u t : Value} (I : Inv X pins σ H s) (rx : RelV x u) (ty : TyOf X.K H x t) (e : PySem.W.kitOne X.K t c = some b) (h : ∀ tk, Q (.bool b) { s with toks := tk }) :
    wpAny (model X.prog X.w) A (call (.builtin "isinstance") [u, c]) Q E s := by
  cases ty with
  | non => cases (show u = Value.none from rx); exact PySem.W.kia_one PySem.W.kitx_none I.kIn True.intro e (fun z => nomatch z) h
  | bl y => cases (show u = Value.bool y from rx); exact PySem.W.kia_one PySem.W.kitx_bool I.kIn True.intro e (fun z => nomatch z) h
  | int i => obtain ⟨t, q⟩ := (show ∃ t, u = Value.int i t from rx); cases q; exact PySem.W.kia_one PySem.W.kitx_int I.kIn True.intro e (fun z => nomatch z) h
  | str y => obtain ⟨t, q⟩ := (show ∃ t, u = Value.str y t from rx); cases q; exact PySem.W.kia_one PySem.W.kitx_str I.kIn True.intro e (fun z => nomatch z) h
  | flt y => obtain ⟨t, q⟩ := (show ∃ t, u = Value.float y t from rx); cases q; exact PySem.W.kia_one PySem.W.kitx_float I.kIn True.intro e (fun z => nomatch z) h
  | @lst a xs ea =>
    cases (show u = Value.ref a from rx)
    obtain ⟨_, _, n, _, h1⟩ := (show ObjOk X.prog X.w H s.heap a (.lst xs) from I.hok a _ ea)
    exact PySem.W.kia_one PySem.W.kitx_list I.kIn ⟨_, h1, rfl⟩ e (fun z => nomatch z) h
  | @frz a ob xs ea =>
    cases (show u = Value.ref a from rx)
    obtain ⟨_, _, _, n, _, h1⟩ := (show ObjOk X.prog X.w H s.heap a (.frz ob (.lst xs)) from I.hok a _ ea)
    exact PySem.W.kia_one PySem.W.kitx_list I.kIn ⟨_, h1, rfl⟩ e (fun z => nomatch z) h
  | @tup a xs ea =>
    cases (show u = Value.ref a from rx)
    obtain ⟨_, _, _, p⟩ := (show ObjOk X.prog X.w H s.heap a (.tup xs) from I.hok a _ ea)
    obtain ⟨o, h1, h2, _⟩ := p
    exact PySem.W.kia_one PySem.W.kitx_tuple I.kIn ⟨o, h1, h2⟩ e (fun z => nomatch z) h
  | @dK a kvs ea =>
    cases (show u = Value.ref a from rx)
    obtain ⟨_, _, vs, _, p⟩ := (show ObjOk X.prog X.w H s.heap a (.dK kvs) from I.hok a _ ea)
    obtain ⟨o, es, ep, h1, h2, _⟩ := p
    exact PySem.W.kia_one PySem.W.kitx_dict I.kIn ⟨o, h1, h2.1⟩ e (fun z => nomatch z) h
  | @dT a kvs ea =>
    cases (show u = Value.ref a from rx)
    obtain ⟨_, _, xs, _, o, es, ep, h1, h2, _⟩ := (show ObjOk X.prog X.w H s.heap a (.dT kvs) from I.hok a _ ea)
    exact PySem.W.kia_one PySem.W.kitx_dict I.kIn ⟨o, h1, h2.1⟩ e (fun z => nomatch z) h
  | @ins a C dx fs ea cl ha hn htk hm =>
    cases (show u = Value.ref a from rx)
    obtain ⟨mA, O, _⟩ := ins_get I.hok ea
    obtain ⟨od, J, _⟩ := O.look
    exact PySem.W.kia_one (PySem.W.kitx_own (cl.get _) cl.hd ha hn htk hm) I.kIn J e (fun z => nomatch z) h
end
end L2
namespace L2
open PySem PySem.Spec PyProof.Rows
structure Room (k : Nat) (A : Around) : Prop where
  hd : A.handled = none
  dp : A.depth + 3 * k + 5 < recursionLimit
  un : A.units + 16 * k + 200 < cLine
theorem Room.mono {j k : Nat} {A : Around} (r : Room k A) (h : j ≤ k) : Room j A := ⟨r.hd, by have := r.dp; omega, by have := r.un; omega⟩
theorem Room.deeper {k : Nat} {A : Around} (r : Room (k + 1) A) (env : Env) : Room k (A.deeper env) :=
  ⟨r.hd, by have := r.dp; show A.depth + 1 + 3 * k + 5 < _; omega, by have := r.un; show A.units + 3 + 16 * k + 200 < _; omega⟩
theorem make_depth {A : Around} {C : Addr} {us : List Value} {kw : List (Str × Value)} : (A.under (.builtin "type.__call__" ⟨.ref C :: us, kw⟩)).depth = A.depth + 1 := by
  first | rfl | simp [Around.under, Code.weight, Code.isCreation, Code.isGuard, Code.isCaller, Code.frames, Code.isFrame, guardIds]
theorem make_units {A : Around} {C : Addr} {us : List Value} {kw : List (Str × Value)} : (A.under (.builtin "type.__call__" ⟨.ref C :: us, kw⟩)).units = A.units + 1 := by
  first | rfl | simp [Around.under, Code.cUnits, Code.frames, Code.isFrame]
theorem Room.make {k : Nat} {A : Around} (r : Room (k + 1) A) (C : Addr) (us : List Value) (kw : List (Str × Value)) : Room k (A.under (.builtin "type.__call__" ⟨.ref C :: us, kw⟩)) :=
  ⟨r.hd, by have := r.dp; rw [make_depth]; omega, by have := r.un; rw [make_units]; omega⟩
theorem Room.depth {k : Nat} {A : Around} (r : Room k A) : A.depth < recursionLimit := by have := r.dp; omega
theorem Room.units0 {k : Nat} {A : Around} (r : Room k A) : A.units < cLine := by have := r.un; omega
def tNil : TA := fun _ H Q => Q [] H
def tCons (ta : TE) (tr : TA) : TA := fun σ H Q => ta σ H fun x H1 => tr σ H1 fun xs H2 => Q (x :: xs) H2
section
variable {X : Cx} {e : Expr} {es : List Expr} {te : TE} {t : TA} {pos : Pos}
theorem pa_nil : PA X [] tNil := fun _ _ _ _ H Q I h => Calls.spliced_nil ⟨[], H, I, .nil, h⟩
theorem pa_cons (ha : PE X e te) (hr : PA X es t) (hs : starEach (e :: es) X.env = (false, eval e X.env) :: starEach es X.env := by rfl) : PA X (e :: es) (tCons te t) := by
  intro pos pins s σ H Q I h
  rw [hs]
  show wpAny _ _ (spliced ((false, eval e X.env) :: backTo pos (starEach es X.env))) _ _ s
  refine Calls.spliced_cons (thn (ha pins s σ H _ I h) fun u s1 ⟨x, H1, I1, r1, q1⟩ => ?_)
  exact thn (hr pos pins s1 σ H1 _ I1 q1) fun us s2 ⟨xs, H2, I2, r2, q2⟩ => ⟨x :: xs, H2, I2, .cons r1 r2, q2⟩
def tTup (t : TA) : TE := fun σ H Q => t σ H fun xs H1 => xs.length ≤ sizeLine ∧ ∀ p, H1 p = none → Q (.ref p) (upd H1 p (.tup xs))
def tLst (t : TA) : TE := fun σ H Q => t σ H fun xs H1 => xs.length ≤ sizeLine ∧ ∀ p, H1 p = none → Q (.ref p) (upd H1 p (.lst xs))
theorem pe_tup {x1} (h : PA X es t) : PE X (.Tuple es x1 pos) (tTup t) := by
  intro pins s σ H Q I hq
  refine wpAny_Tuple_spliced (thn (h pos pins s σ H _ I hq) fun us s1 ⟨xs, H1, I1, r, z, q⟩ => ⟨by rw [← r.length]; exact z, ?_⟩)
  have hf : H1 s1.heap.objs.size = none := I1.hok.fresh (Nat.le_refl _)
  refine ⟨.ref s1.heap.objs.size, upd H1 s1.heap.objs.size (.tup xs), I1.laid (t' := s1.toks) (fun b u e => Heap.get?_push_of_some _ e) (Nat.le_refl _) ?_, rfl, q _ hf⟩
  exact ⟨z, us, r, ⟨_, Heap.get?_push_size _ rfl, rfl, _, rfl⟩⟩
theorem pe_lst (h : PA X es t) : PE X (.List es pos) (tLst t) := by
  intro pins s σ H Q I hq
  refine wpAny_List_spliced (thn (h pos pins s σ H _ I hq) fun us s1 ⟨xs, H1, I1, r, z, q⟩ => ⟨by rw [← r.length]; exact z, ?_⟩)
  have hf : H1 s1.heap.objs.size = none := I1.hok.fresh (Nat.le_refl _)
  refine ⟨.ref s1.heap.objs.size, upd H1 s1.heap.objs.size (.lst xs), I1.laid (t' := s1.toks) (fun b u e => Heap.get?_push_of_some _ e) (Nat.le_refl _) ?_, rfl, q _ hf⟩
  exact ⟨z, us, 0, r, Heap.get?_push_size _ rfl⟩
end
abbrev Sp := List V → Hp → VK → XK → Prop
abbrev CXT := List Env → Hp → Shared → XK → Value → Shared → Prop
structure Env0 (P : Program) (w : World) (K : PySem.W.Frag) (mg : Str → Option Value) (base : Heap) (A : Around) (outer : List Env) (s : Shared) (H : Hp) : Prop where
  frames : A.frames = some outer
  mod : Mod K mg base
  bs : ∀ b o, base.get? b = some o → s.heap.get? b = some o ∧ H b = none
  bsz : base.objs.size ≤ s.heap.objs.size
  funs : s.heap.FunFrames base outer
  frf : ∀ b ∈ frs outer, H b = none
  hok : HOk P w H s.heap
  bare : AllBare s.gens
def CE (outer : List Env) (P : Program) (w : World) (H : Hp) (s : Shared) (Q : VK) (u : Value) (s' : Shared) : Prop :=
  ∃ v H', s'.os = s.os ∧ AllBare s'.gens ∧ Un (frs outer) [] H H' s.heap s'.heap ∧ HOk P w H' s'.heap ∧ RelV v u ∧ Q v H'
def CR (CX : CXT) (outer : List Env) (P : Program) (w : World) (H : Hp) (s : Shared) (Q : VK) (E : XK) (r : Result) (s' : Shared) : Prop :=
  match r with
  | .ok (.ret u) => CE outer P w H s Q u s'
  | .ok _ => False
  | .error e => CX outer H s E e s'
structure FnOk (P : Program) (w : World) (K : PySem.W.Frag) (mg : Str → Option Value) (base : Heap) (CX : CXT) (k : Nat) (f : Addr) (fd : FuncData) (ps : List Str) (sp : Sp) : Prop where
  len : ∀ vs H Q E, sp vs H Q E → vs.length = ps.length
  run : ∀ (A : Around) (outer : List Env) (s : Shared) (H : Hp) (args : Args) (us : List Value) (vs : List V) (Q : VK) (E : XK), Room k A → Env0 P w K mg base A outer s H → BindsTo s fd args (ps.zip us) → Vals vs us → sp vs H Q E →
    codeAny (model P w) A (.call (.ref f) args) (CR CX outer P w H s Q E) s
theorem Env0.make {P : Program} {w : World} {K : PySem.W.Frag} {mg : Str → Option Value} {base : Heap} {A : Around} {outer : List Env} {s : Shared} {H : Hp} (e : Env0 P w K mg base A outer s H) (C : Addr) (us : List Value) (kw : List (Str × Value)) :
    Env0 P w K mg base (A.under (.builtin "type.__call__" ⟨.ref C :: us, kw⟩)) outer s H := ⟨by first | exact e.frames | (simpa [Around.under, Code.envs, Code.isFrame, pushEnvs] using e.frames), e.mod, e.bs, e.bsz, e.funs, e.frf, e.hok, e.bare⟩
section
variable {X : Cx} {pins : List (Addr × Obj)} {σ : St} {H : Hp} {s s' : Shared}
theorem Inv.env0 (I : Inv X pins σ H s) : Env0 X.prog X.w X.K X.mg X.base X.A X.stack s H :=
  ⟨I.ok.frames, I.ok.mod, I.bs, Nat.le_trans I.ok.bsz I.sz, I.stack, I.stkFree, I.hok, I.bare⟩
theorem Inv.after {Q : VK} {u : Value} (I : Inv X pins σ H s) (h : CE X.stack X.prog X.w H s Q u s') : EP X pins σ Q u s' := by
  obtain ⟨v, H', os, bare, un, hok, r, q⟩ := h
  obtain ⟨hh, g, d, t, os'⟩ := s'
  obtain rfl : os' = s.os := os
  exact ⟨v, H', I.call (h' := hh) (g' := g) (d' := d) (t' := t) (ch := []) un hok bare (fun b z => absurd z (by simp)), r, q⟩
end
def tCall (sp : Sp) (dvs : List V) (E : XK) (t : TA) : TE := fun σ H Q => t σ H fun vs H1 => sp (vs ++ dvs) H1 Q E
def tMake (C : Addr) (sp : Sp) (dvs : List V) (E : XK) (t : TA) : TE := fun σ H Q => t σ H fun vs H1 => ∀ x dx, H1 x = none → H1 dx = none → dx ≠ x →
  sp (.ref x :: (vs ++ dvs)) (upd (upd H1 dx (.own x)) x (.ins C dx [])) (fun v H2 => v = .non ∧ Q (.ref x) H2) E
def Binds (K : PySem.W.Frag) (fd : FuncData) (ps : List Str) (ds : List Value) : Prop :=
  ∀ (s : Shared) (us : List Value), K.In s.heap → (us ++ ds).length = ps.length → BindsTo s fd ⟨us, []⟩ (ps.zip (us ++ ds))
theorem Binds.all {K : PySem.W.Frag} {fd : FuncData} {ps : List Str} (h : ∀ us : List Value, us.length = ps.length → bindArgs fd ⟨us, []⟩ = pure (ps.zip us)) : Binds K fd ps [] := fun s us _ hl => by
  rw [List.append_nil] at hl ⊢
  exact .of_eq (h us hl)
def Passes (CX : CXT) (X : Cx) (E : XK) : Prop := ∀ (pins : List (Addr × Obj)) (σ : St) (H : Hp) (s : Shared) (e : Value) (s' : Shared), Inv X pins σ H s → CX X.stack H s E e s' → X.xe e s'
section
variable {X : Cx} {CX : CXT} {k : Nat} {f C : Addr} {fd : FuncData} {ps : List Str} {sp : Sp} {dvs : List V} {ds : List Value} {E : XK} {x m : Str} {p pos apos : Pos} {e o : Expr} {es : List Expr} {ta : TE} {t : TA}
theorem run_fn {pins : List (Addr × Obj)} {σ : St} {H : Hp} {s : Shared} {Q : VK} {us : List Value} {vs : List V} (F : FnOk X.prog X.w X.K X.mg X.base CX k f fd ps sp) (hr : Room k X.A) (hb : Binds X.K fd ps ds) (hd : Vals dvs ds) (hx : Passes CX X E)
    (I : Inv X pins σ H s) (r : Vals vs us) (h : sp (vs ++ dvs) H Q E) : wpAny (model X.prog X.w) X.A (call (.ref f) us) (EP X pins σ Q) X.xe s := by
  have r2 : Vals (vs ++ dvs) (us ++ ds) := r.append hd
  have hl : (us ++ ds).length = ps.length := by rw [← r2.length]; exact F.len _ _ _ _ h
  refine wpAny_call (codeAny_mono (F.run X.A X.stack s H ⟨us, []⟩ (us ++ ds) (vs ++ dvs) Q E hr I.env0 (hb s us I.kIn hl) r2 h) fun r s' hq => ?_)
  cases r with
  | error e => exact hx pins σ H s e s' I hq
  | ok fl =>
    cases fl with
    | ret u => exact I.after hq
    | next => exact False.elim hq
    | brk => exact False.elim hq
    | cont => exact False.elim hq
theorem pe_call (F : FnOk X.prog X.w X.K X.mg X.base CX k f fd ps sp) (hr : Room k X.A) (hg : Gl X x) (hm : X.mg x = some (.ref f)) (hk : PySem.W.keepIn X.K (.ref f) = true) (hb : Binds X.K fd ps ds) (hd : Vals dvs ds) (hx : Passes CX X E)
    (ha : PA X (e :: es) t) (hdb : (x == ("__debug__" : Str)) = false := by decide) (he : starEach (e :: es) X.env = (false, eval e X.env) :: starEach es X.env := by rfl) (hpl : (backTo pos (starEach es X.env)).any (·.1) = false := by rfl) :
    PE X (.Call (.Name x p) (e :: es) [] pos) (tCall sp dvs E t) := by
  intro pins s σ H Q I h
  refine wpAny_Call_Name_kw (ld_glob I hg hm ?_ hdb)
  refine PySem.W.callWith_K (h₀ := X.base) I.ok.mod.kin hk (thn (ha pos pins s σ H _ I h) fun us s1 ⟨vs, H1, I1, r, q⟩ => ⟨I1.kIn, ?_⟩) he hpl
  exact run_fn F hr hb hd hx I1 r q
structure Mk (K : PySem.W.Frag) (C f : Addr) : Prop where
  makes : PySem.W.makesIn K C = true
  init : PySem.W.findIn K (.ref C) "__init__" = some (some (.ref f))
  fn : PySem.W.isFn K (.ref f) = true
  kp : PySem.W.keepIn K (.ref C) = true
theorem run_make {pins : List (Addr × Obj)} {σ : St} {H : Hp} {s : Shared} {Q : VK} {us : List Value} {vs : List V} (M : Mk X.K C f) (F : FnOk X.prog X.w X.K X.mg X.base CX k f fd ps sp) (hr : Room (k + 1) X.A) (hb : Binds X.K fd ps ds) (hd : Vals dvs ds)
    (hx : Passes CX X E) (I : Inv X pins σ H s) (r : Vals vs us)
    (h : ∀ x dx, H x = none → H dx = none → dx ≠ x → sp (.ref x :: (vs ++ dvs)) (upd (upd H dx (.own x)) x (.ins C dx [])) (fun v H2 => v = .non ∧ Q (.ref x) H2) E) :
    wpAny (model X.prog X.w) X.A (call (.ref C) us) (EP X pins σ Q) X.xe s := by
  have hq := h (s.heap.objs.size + 1) s.heap.objs.size (I.hok.fresh (Nat.le_succ _)) (I.hok.fresh (Nat.le_refl _)) (Nat.ne_of_lt (Nat.lt_succ_self _))
  have I2 := Inv.made (C := C) I
  have r2 : Vals (V.ref (s.heap.objs.size + 1) :: (vs ++ dvs)) (Value.ref (s.heap.objs.size + 1) :: (us ++ ds)) := .cons rfl (r.append hd)
  have hl : (Value.ref (s.heap.objs.size + 1) :: us ++ ds).length = ps.length := by
    have e := r2.length
    rw [F.len _ _ _ _ hq] at e
    exact e.symm
  refine wpAny_call (make_map (f := f) I.kIn M.makes M.init (beq_iff_eq.mp M.fn) (codeAny_mono (F.run _ X.stack _ _ ⟨Value.ref (s.heap.objs.size + 1) :: us, []⟩ (Value.ref (s.heap.objs.size + 1) :: (us ++ ds)) _ _ E (hr.make C us [])
    (I2.env0.make C us []) (hb _ (Value.ref (s.heap.objs.size + 1) :: us) I2.kIn hl) r2 hq) fun r s' hq' => ?_))
  cases r with
  | error e => exact hx pins σ _ _ e s' I2 hq'
  | ok fl =>
    cases fl with
    | ret u =>
      obtain ⟨v, H', I3, rv, ev, q3⟩ := I2.after hq'
      subst ev
      exact ⟨rv, ⟨V.ref (s.heap.objs.size + 1), H', I3, rfl, q3⟩⟩
    | next => exact False.elim hq'
    | brk => exact False.elim hq'
    | cont => exact False.elim hq'
theorem pe_make (M : Mk X.K C f) (F : FnOk X.prog X.w X.K X.mg X.base CX k f fd ps sp) (hr : Room (k + 1) X.A) (hg : Gl X x) (hm : X.mg x = some (.ref C)) (hb : Binds X.K fd ps ds) (hd : Vals dvs ds) (hx : Passes CX X E)
    (ha : PA X (e :: es) t) (hdb : (x == ("__debug__" : Str)) = false := by decide) (he : starEach (e :: es) X.env = (false, eval e X.env) :: starEach es X.env := by rfl) (hpl : (backTo pos (starEach es X.env)).any (·.1) = false := by rfl) :
    PE X (.Call (.Name x p) (e :: es) [] pos) (tMake C sp dvs E t) := by
  intro pins s σ H Q I h
  refine wpAny_Call_Name_kw (ld_glob I hg hm ?_ hdb)
  refine PySem.W.callWith_K (h₀ := X.base) I.ok.mod.kin M.kp (thn (ha pos pins s σ H _ I h) fun us s1 ⟨vs, H1, I1, r, q⟩ => ⟨I1.kIn, ?_⟩) he hpl
  exact run_make M F hr hb hd hx I1 r q
end
section
variable {X : Cx} {CX : CXT} {k : Nat} {f C : Addr} {fd : FuncData} {ps ks : List Str} {sp : Sp} {E : XK} {x m : Str} {p pos apos kpos : Pos} {e o : Expr} {es : List Expr} {kws : List Keyword} {te ta : TE} {t tk : TA} {nm : Option Str}
structure KBinds (K : PySem.W.Frag) (fd : FuncData) (ps ks : List Str) (g : List Value → List Value → List Value) (gV : List V → List V → List V) : Prop where
  to : ∀ (s : Shared) (us ws : List Value), K.In s.heap → (g us ws).length = ps.length → BindsTo s fd ⟨us, ks.zip ws⟩ (ps.zip (g us ws))
  rel : ∀ {vs : List V} {us : List Value} {zs : List V} {ws : List Value}, Vals vs us → Vals zs ws → Vals (gV vs zs) (g us ws)
variable {g : List Value → List Value → List Value} {gV : List V → List V → List V}
end
structure FnScope (N P : List Str) (sc : Scope) : Prop where
  kind : sc.kind = .function
  co : sc.isCoroutine = false
  gen : sc.isGenerator = false
  nd : N.Nodup
  pre : N.take P.length = P
  par : ∀ x ∈ P, sc.names.lookup x = some .local ∨ sc.names.lookup x = some .cell
  nofree : ∀ y ∈ sc.names, y.2 ≠ .free
theorem bindL_out {kindOf : Str → Option NameKind} {x : Str} : ∀ {binds : List (Str × Value)} {m : Str → Option Value}, (∀ v, (x, v) ∉ binds) → bindL kindOf binds m x = m x
  | [], _, _ => rfl
  | (n, v) :: r, m, h => by
    unfold bindL
    rw [bindL_out fun w hw => h w (List.mem_cons_of_mem _ hw)]
    split
    · have : x ≠ n := by rintro rfl; exact h v List.mem_cons_self
      simp [this]
    · rfl
theorem bindC_out {kindOf : Str → Option NameKind} {x : Str} : ∀ {binds : List (Str × Value)} {m : Str → Option Value}, (∀ v, (x, v) ∉ binds) → bindC kindOf binds m x = m x
  | [], _, _ => rfl
  | (n, v) :: r, m, h => by
    unfold bindC
    rw [bindC_out fun w hw => h w (List.mem_cons_of_mem _ hw)]
    split
    · rfl
    · have : x ≠ n := by rintro rfl; exact h v List.mem_cons_self
      simp [this]
theorem bindL_get {kindOf : Str → Option NameKind} {x : Str} {v : Value} : ∀ {P : List Str} {vs : List Value} {i : Nat} {m : Str → Option Value}, P.Nodup → P[i]? = some x → vs[i]? = some v → kindOf x = some .local →
    bindL kindOf (P.zip vs) m x = some v
  | [], _, _, _, _, h, _, _ => by simp at h
  | _ :: _, [], _, _, _, _, h, _ => by simp at h
  | p :: P, w :: vs, 0, m, nd, h1, h2, hk => by
    simp at h1 h2; subst h1; subst h2
    show bindL kindOf ((p, w) :: P.zip vs) m p = _
    unfold bindL
    rw [bindL_out fun v hv => (List.nodup_cons.mp nd).1 (List.of_mem_zip hv).1, if_pos hk]
    simp
  | p :: P, w :: vs, i + 1, m, nd, h1, h2, hk => by
    show bindL kindOf ((p, w) :: P.zip vs) m x = _
    unfold bindL
    exact bindL_get (i := i) (List.nodup_cons.mp nd).2 (by simpa using h1) (by simpa using h2) hk
theorem bindC_get {kindOf : Str → Option NameKind} {x : Str} {v : Value} : ∀ {P : List Str} {vs : List Value} {i : Nat} {m : Str → Option Value}, P.Nodup → P[i]? = some x → vs[i]? = some v → kindOf x ≠ some .local →
    bindC kindOf (P.zip vs) m x = some v
  | [], _, _, _, _, h, _, _ => by simp at h
  | _ :: _, [], _, _, _, _, h, _ => by simp at h
  | p :: P, w :: vs, 0, m, nd, h1, h2, hk => by
    simp at h1 h2; subst h1; subst h2
    show bindC kindOf ((p, w) :: P.zip vs) m p = _
    unfold bindC
    rw [bindC_out fun v hv => (List.nodup_cons.mp nd).1 (List.of_mem_zip hv).1, if_neg hk]
    simp
  | p :: P, w :: vs, i + 1, m, nd, h1, h2, hk => by
    show bindC kindOf ((p, w) :: P.zip vs) m x = _
    unfold bindC
    exact bindC_get (i := i) (List.nodup_cons.mp nd).2 (by simpa using h1) (by simpa using h2) hk
def start (N : List Str) (vs : List V) : St := vs.map some ++ List.replicate (N.length - vs.length) none
def cxOf (CX : CXT) (P : Program) (w : World) (K : PySem.W.Frag) (mg : Str → Option Value) (base : Heap) (N : List Str) (qual : Str) (scope : Scope) (f : Addr) (cd : Value) (A : Around) (outer : List Env) (s : Shared) (H : Hp) (E : XK) : Cx where
  prog := P
  w := w
  K := K
  mg := mg
  base := base
  A := A.deeper (envOfC qual scope s.heap.objs.size f cd)
  N := N
  s₀ := s
  H₀ := H
  env := envOfC qual scope s.heap.objs.size f cd
  outer := outer
  stack := envOfC qual scope s.heap.objs.size f cd :: outer
  ex := []
  calm := true
  fn := fun _ => true
  pn := []
  xe := fun e s' => wpAny (model P w) (A.deeper (envOfC qual scope s.heap.objs.size f cd)) (leaving (envOfC qual scope s.heap.objs.size f cd) e) (fun _ s'' => CX outer H s E e s'') (fun e' s'' => CX outer H s E e' s'') s'
theorem cell_has {sc : Scope} {n : Nat} {x : Str} (h : sc.names.lookup x = some .cell) : ∃ c, (cellsFrom n sc.names []).lookup x = some c := by
  have q := PySem.W.cellsFrom_some sc.names n [] (.inl h)
  exact Option.isSome_iff_exists.mp q
theorem inv_start {CX : CXT} {P : Program} {w : World} {K : PySem.W.Frag} {mg : Str → Option Value} {base : Heap} {N ps : List Str} {qual : Str} {scope : Scope} {f : Addr} {cd : Value} {A : Around} {outer : List Env} {s s1 : Shared} {H : Hp} {E : XK} {us : List Value} {vs : List V}
    (S : FnScope N ps scope) (hd : A.handled = none) (e0 : Env0 P w K mg base A outer s H) (hl : vs.length = ps.length) (r : Vals vs us)
    (x : InCallC s s.heap.objs.size (bindL (envOfC qual scope s.heap.objs.size f cd).kindOf (ps.zip us) fun _ => none) (cellsFrom (s.heap.objs.size + 1) scope.names []) (bindC (envOfC qual scope s.heap.objs.size f cd).kindOf (ps.zip us) fun _ => none) s1) :
    Inv (cxOf CX P w K mg base N qual scope f cd A outer s H E) [] (start N vs) H s1 := by
  have hpl : ps.length ≤ N.length := by have := congrArg List.length S.pre; rw [List.length_take] at this; omega
  obtain ⟨h1, tk, rfl, hk⟩ := x.done
  have noA : ∀ b : Addr, b ∉ (cxOf CX P w K mg base N qual scope f cd A outer s H E).ex := fun b z => absurd (show b ∈ ([] : List Addr) from z) (by simp)
  refine ⟨⟨e0.mod, S.kind, rfl, rfl, Nat.le_refl _, fun y z c h1 h2 => ?_, fun y hy => ?_, fun y c _ h => ?_, fun _ => hd, Around.frames_deeper e0.frames, .inr ⟨rfl, rfl⟩, fun b z => absurd z (noA b), e0.bs, e0.bsz, fun b _ _ => noA b, fun b z => absurd z (noA b), e0.funs, e0.frf⟩,
    rfl, e0.bare, Un.kept hk, ⟨_, x.toInCall.ns, fun i y v h1 h2 h3 => ?_⟩, fun y c h => ⟨_, x.cell y c h⟩, e0.hok.fresh (Nat.le_refl _), fun y c h => ?_, fun p hp => absurd (show p ∈ ([] : List (Addr × Obj)) from hp) (by simp), e0.hok.kept hk, ?_⟩
  · exact name_of_addr x.apart (PySem.mem_of_lookup h1) (PySem.mem_of_lookup h2)
  · have hy : scope.names.lookup y = some .cell ∨ scope.names.lookup y = some .free := hy
    rcases hy with hy | hy
    · exact cell_has hy
    · exact absurd rfl (S.nofree _ (PySem.mem_of_lookup hy))
  · exact Nat.le_of_lt (x.above y c (PySem.mem_of_lookup h))
  · have hi : i < vs.length := by
      unfold start at h2
      by_cases hi : i < vs.length
      · exact hi
      · rw [List.getElem?_append_right (by simpa using hi)] at h2
        rw [List.getElem?_replicate] at h2
        split at h2 <;> cases h2
    have ha : vs[i]? = some v := by
      unfold start at h2
      rw [List.getElem?_append_left (by simpa using hi), List.getElem?_map] at h2
      cases e : vs[i]? with
      | none => rw [e] at h2; cases h2
      | some a => rw [e] at h2; cases h2; rfl
    obtain ⟨u, hu, rv⟩ := r.get ha
    have hp : ps[i]? = some y := by
      rw [← S.pre, List.getElem?_take_of_lt (by omega)]; exact h1
    have ndP : ps.Nodup := by rw [← S.pre]; exact S.nd.sublist (List.take_sublist _ _)
    refine ⟨u, rv, ?_⟩
    rcases S.par y (List.mem_of_getElem? hp) with k | k
    · exact .inl ⟨k, bindL_get ndP hp hu k⟩
    · obtain ⟨c, e⟩ := cell_has (n := s.heap.objs.size + 1) k
      refine .inr ⟨.inl k, c, e, ?_⟩
      have q := x.cell y c e
      rw [bindC_get ndP hp hu (by show scope.names.lookup y ≠ _; rw [k]; decide)] at q
      exact q
  · exact e0.hok.fresh (Nat.le_of_lt (x.above y c (PySem.mem_of_lookup h)))
  · unfold start
    show _ = N.length
    rw [List.length_append, List.length_map, List.length_replicate]
    omega
theorem fn_of {CX : CXT} {P : Program} {w : World} {K : PySem.W.Frag} {mg : Str → Option Value} {base : Heap} {k : Nat} {f : Addr} {name qual : Str} {params : Arguments} {body : List Stmt} {scope : Scope} {dV kV doc pm cdv ct oc : Value} {an od : Option Addr}
    {osl : Array (Option Value)} {N ps : List Str} {sp : Sp} (lk : K.lookup f = some ⟨oc, od, .func (PySem.W.fnOf name qual params body scope dV kV doc pm an cdv ct), osl⟩) (hcd : PySem.W.codeIn K cdv qual = true) (S : FnScope N ps scope)
    (len : ∀ vs H Q E, sp vs H Q E → vs.length = ps.length)
    (hbody : ∀ (A : Around) (outer : List Env) (s : Shared) (H : Hp) (vs : List V) (Q : VK) (E : XK), Room k (A.deeper (envOfC qual scope s.heap.objs.size f cdv)) → sp vs H Q E →
      ∃ t, PSs (cxOf CX P w K mg base N qual scope f cdv A outer s H E) body t ∧ t { nx := fun _ H' => Q .non H', rt := Q } (start N vs) H) :
    FnOk P w K mg base CX (k + 1) f (PySem.W.fnOf name qual params body scope dV kV doc pm an cdv ct) ps sp := by
  refine ⟨len, fun A outer s H args us vs Q E hr e0 hb r hsp => ?_⟩
  have hl := len _ _ _ _ hsp
  have KX : K.In s.heap := e0.mod.kin.keeps fun b o e => (e0.bs b o e).1
  have lim : s.heap.NoLimit := e0.mod.nolimit.keeps fun b o e => (e0.bs b o e).1
  have hkind : ∀ y ∈ ps.zip us, scope.names.lookup y.1 = some .local ∨ (scope.names.lookup y.1 = some .cell ∧ ((cellsFrom (s.heap.objs.size + 1) scope.names []).lookup y.1).isSome = true) := fun ⟨n, v⟩ hy => by
    rcases S.par n (List.of_mem_zip hy).1 with q | q
    · exact .inl q
    · exact .inr ⟨q, PySem.W.cellsFrom_some _ _ _ (.inl q)⟩
  refine codeAny_call_function hr.depth (KX _ _ lk) rfl S.co S.gen rfl (PySem.W.codeRec_of KX hcd) (hb _ _ _ _ ?_)
  refine wpAny_newFunctionEnv_cells S.kind hkind fun env he s1 x => ?_
  subst he
  refine ⟨lim.keeps x.toInCall.keep, codeAny_func ?_⟩
  obtain ⟨t, ht, hq⟩ := hbody A outer s H vs Q E (hr.deeper _) hsp
  have I : Inv (cxOf CX P w K mg base N qual scope f cdv A outer s H E) [] (start N vs) H s1 := inv_start S hr.hd e0 hl r x
  refine wpAny_mono (ht [] s1 (start N vs) H _ I hq) (fun fl s' hs => ?_) fun e s' hs => hs
  have fin : ∀ {σ' : St} {H' : Hp} {v : V} {u : Value}, Inv (cxOf CX P w K mg base N qual scope f cdv A outer s H E) [] σ' H' s' → RelV v u → Q v H' → CE outer P w H s Q u s' :=
    fun {σ' H' v u} J rv q => ⟨v, H', J.os, J.bare, J.base, J.hok, rv, q⟩
  cases fl with
  | ret u =>
    obtain ⟨v, σ', H', J, rv, q⟩ := hs
    exact fin J rv q
  | next =>
    obtain ⟨σ', H', J, q⟩ := hs
    exact fin (v := V.non) (u := Value.none) J rfl q
  | brk =>
    obtain ⟨_, _, _, q⟩ := hs
    exact False.elim q
  | cont =>
    obtain ⟨_, _, _, q⟩ := hs
    exact False.elim q
end L2
namespace L2
open PySem PySem.Spec PyProof.Rows
section
variable {X : Cx} {x : Str} {p pos : Pos} {e : Expr} {es : List Expr} {t : TA} {id T : String} {r : List V → Hp → VK → Prop}
def tCB (r : List V → Hp → VK → Prop) (t : TA) : TE := fun σ H Q => t σ H fun vs H1 => r vs H1 Q
theorem pe_callB (hc : CallR X (.builtin id) r) (hg : Gl X x) (hm : X.mg x = none) (hv : bootBuiltins x = some (.builtin id)) (ha : PA X (e :: es) t) (hn : x ≠ "__name__" := by decide) (hdb : (x == ("__debug__" : Str)) = false := by decide)
    (he : starEach (e :: es) X.env = (false, eval e X.env) :: starEach es X.env := by rfl) (hpl : (backTo pos (starEach es X.env)).any (·.1) = false := by rfl) : PE X (.Call (.Name x p) (e :: es) [] pos) (tCB r t) := by
  intro pins s σ H Q I h
  refine wpAny_Call_Name_kw (ld_blt I hg hm hv ?_ hn hdb)
  exact PyProof.Rows.callWith_builtin1 (thn (ha pos pins s σ H _ I h) fun us s1 ⟨vs, H1, I1, r1, q1⟩ => hc pins s1 σ H1 vs us Q I1 r1 q1) he hpl
theorem pe_callTy (hc : CallR X (.type T) r) (hg : Gl X x) (hm : X.mg x = none) (hv : bootBuiltins x = some (.type T)) (ha : PA X (e :: es) t) (hn : x ≠ "__name__" := by decide) (hdb : (x == ("__debug__" : Str)) = false := by decide)
    (he : starEach (e :: es) X.env = (false, eval e X.env) :: starEach es X.env := by rfl) (hpl : (backTo pos (starEach es X.env)).any (·.1) = false := by rfl) : PE X (.Call (.Name x p) (e :: es) [] pos) (tCB r t) := by
  intro pins s σ H Q I h
  refine wpAny_Call_Name_kw (ld_blt I hg hm hv ?_ hn hdb)
  exact PyProof.Rows.callWith_type1 (thn (ha pos pins s σ H _ I h) fun us s1 ⟨vs, H1, I1, r1, q1⟩ => hc pins s1 σ H1 vs us Q I1 r1 q1) he hpl
end
end L2
namespace HT
open PySem PyProof.Rows
section
open PySem.SeqAt
open PySem.AutoSeq1 (wpAny_loadPart')
open PySem.MeetsSeq PySem.MeetsSeq2 PySem.MeetsSeq3
end
section
variable {prog : Program} {w : World} {A : Around} {E : Value → Shared → Prop} {s : Shared}
def sIx (n d : Nat) : Option Int → Nat
  | none => d
  | some v => if v < 0 then (v + (n : Int)).toNat else min v.toNat n
theorem sIx_none (n d : Nat) : sIx n d none = d := rfl
theorem sIx_nat (n d k : Nat) : sIx n d (some (k : Int)) = min k n := by
  show (if (k : Int) < 0 then ((k : Int) + (n : Int)).toNat else min (k : Int).toNat n) = min k n
  rw [if_neg (by omega), Int.toNat_natCast]
end
end HT
namespace L2
open PySem PySem.Spec PyProof.Rows
abbrev TO := St → Hp → (Option Int → Hp → Prop) → Prop
def PO (X : Cx) (e : Option Expr) (t : TO) : Prop :=
  ∀ (pins : List (Addr × Obj)) (s : Shared) (σ : St) (H : Hp) (Q : Option Int → Hp → Prop), Inv X pins σ H s → t σ H Q →
    wpAny (model X.prog X.w) X.A (evalPart e X.env) (fun u s' => ∃ o H', Inv X pins σ H' s' ∧ IsPart u o ∧ Q o H') X.xe s
def tNoPart : TO := fun _ H Q => Q none H
def tPart (t : TE) : TO := fun σ H Q => t σ H fun x H1 => ∃ i, x = .int i ∧ Q (some i) H1
theorem intsAre_of {ns : List Int} : ∀ {us : List Value}, Vals (ns.map V.int) us → IntsAre us ns := by
  induction ns with
  | nil => intro us r; rw [List.map_nil] at r; cases r; exact .nil
  | cons n ns ih =>
    intro us r
    rw [List.map_cons] at r
    cases r with
    | cons r1 r2 =>
      obtain ⟨t, e⟩ := r1
      subst e
      exact .cons n t (ih r2)
section
variable {X : Cx} {e : Expr} {te : TE} {lo hi : Option Expr} {tl th : TO} {pos p2 : Pos}
theorem po_none : PO X none tNoPart := by
  intro pins s σ H Q I h
  rw [evalPart_none]
  exact wpAny_pure ⟨none, H, I, .none, h⟩
theorem po_some (h : PE X e te) : PO X (some e) (tPart te) := by
  intro pins s σ H Q I hw
  rw [evalPart_some]
  refine thn (h pins s σ H _ I hw) fun u s1 ⟨x, H1, I1, r1, q1⟩ => ?_
  obtain ⟨i, rfl, q⟩ := q1
  obtain ⟨t, rfl⟩ := r1
  exact ⟨some i, H1, I1, .int i t, q⟩
def SlR (X : Cx) (r : V → Option Int → Option Int → Hp → VK → Prop) : Prop :=
  ∀ (pins : List (Addr × Obj)) (s : Shared) (σ : St) (H : Hp) (x : V) (v vl vu : Value) (lo hi : Option Int) (sl : Addr) (Q : VK), Inv X pins σ H s → RelV x v → s.heap.IsSliceOf sl vl vu .none → IsPart vl lo → IsPart vu hi → r x lo hi H Q →
    ∃ T id, typeLookup (.type T) "__getitem__" = pure (some (.builtin id)) ∧ s.TypeIs v T ∧ wpAny (model X.prog X.w) X.A (getItem v (.ref sl)) (EP X pins σ Q) X.xe s
def tSl (r : V → Option Int → Option Int → Hp → VK → Prop) (te : TE) (tl th : TO) : TE := fun σ H Q => te σ H fun x H1 => tl σ H1 fun l H2 => th σ H2 fun u H3 => r x l u H3 Q
theorem pe_slice {r : V → Option Int → Option Int → Hp → VK → Prop} (hr : SlR X r) (he : PE X e te) (hl : PO X lo tl) (hu : PO X hi th) : PE X (.Subscript e (.Slice lo hi none p2) pos) (tSl r te tl th) := by
  intro pins s σ H Q I h
  refine Subscript_ (thn (he pins s σ H _ I h) fun v s1 ⟨x, H1, I1, r1, q1⟩ => ?_)
  refine wpAny_Slice (thn (hl pins s1 σ H1 _ I1 q1) fun vl s2 ⟨l, H2, I2, pl, q2⟩ => thn (hu pins s2 σ H2 _ I2 q2) fun vu s3 ⟨u, H3, I3, pu, q3⟩ => ?_)
  rw [evalPart_none]
  refine wpAny_pure ?_
  have I4 : Inv X pins σ H3 { s3 with heap := s3.heap.push { cls := .type "slice", data := .fields #[vl, vu, .none] } } := I3.kept (t' := s3.toks) fun b ob q => Heap.get?_push_of_some _ q
  obtain ⟨T, id, hT, ht, hg⟩ := hr pins { s3 with heap := s3.heap.push { cls := .type "slice", data := .fields #[vl, vu, .none] } } σ H3 x v vl vu l u s3.heap.objs.size Q I4 r1 (Heap.IsSliceOf.new ..) pl pu q3
  show wpAny (model X.prog X.w) X.A (subscriptTail e (.Slice lo hi none p2) v (.ref s3.heap.objs.size)) (EP X pins σ Q) X.xe { s3 with heap := s3.heap.push { cls := .type "slice", data := .fields #[vl, vu, .none] } }
  exact tail_any (ops := [.ref s3.heap.objs.size, v]) ht hT hg (by with_unfolding_all rfl)
def cutV (xs : List V) (lo hi : Option Int) : List V := (xs.drop (HT.sIx xs.length 0 lo)).take (HT.sIx xs.length xs.length hi - HT.sIx xs.length 0 lo)
theorem cutV_length (xs : List V) (lo hi : Option Int) : (cutV xs lo hi).length ≤ xs.length := by
  unfold cutV
  rw [List.length_take, List.length_drop]
  omega
end
end L2
namespace L2
open PySem PySem.Spec PyProof.Rows
def ixN (n : Nat) (i : Int) : Option Nat := if 0 ≤ i then (if i < n then some i.toNat else none) else if -(n : Int) ≤ i then some (i + n).toNat else none
def atI {α : Type} (xs : List α) (i : Int) : Option α := (ixN xs.length i).bind fun j => xs[j]?
theorem ixN_seq {n : Nat} {i : Int} {j : Nat} (h : ixN n i = some j) : seqIndex? i n = some j ∧ j < n ∧ -(n : Int) ≤ i ∧ i < n := by
  unfold ixN at h
  by_cases h0 : 0 ≤ i
  · rw [if_pos h0] at h
    by_cases h1 : i < n
    · rw [if_pos h1] at h
      have e : i.toNat = j := Option.some.inj h
      exact ⟨by rw [seqIndex_of h0 h1, e], by omega, by omega, h1⟩
    · rw [if_neg h1] at h; cases h
  · rw [if_neg h0] at h
    by_cases h1 : -(n : Int) ≤ i
    · rw [if_pos h1] at h
      have e : (i + n).toNat = j := Option.some.inj h
      exact ⟨by rw [seqIndex_neg (by omega) h1, e], by omega, h1, by omega⟩
    · rw [if_neg h1] at h; cases h
theorem atI_get {α : Type} {xs : List α} {i : Int} {v : α} (h : atI xs i = some v) : ∃ j, seqIndex? i xs.length = some j ∧ xs[j]? = some v ∧ j < xs.length ∧ -(xs.length : Int) ≤ i ∧ i < xs.length := by
  unfold atI at h
  cases e : ixN xs.length i with
  | none => rw [e] at h; cases h
  | some j =>
    rw [e] at h
    obtain ⟨h1, h2, h3, h4⟩ := ixN_seq e
    exact ⟨j, h1, h, h2, h3, h4⟩
theorem atI_nat {α : Type} {xs : List α} {j : Nat} {v : α} (h : xs[j]? = some v) : atI xs (j : Int) = some v := by
  have hj : j < xs.length := (List.getElem?_eq_some_iff.mp h).1
  have e : ixN xs.length (j : Int) = some j := by
    unfold ixN
    rw [if_pos (by omega), if_pos (by omega)]; simp
  unfold atI; rw [e]; exact h
def PlainIx (b : Expr) : Prop := ∀ o i, subscripted b false o i = operate [o, i] (getItem o i)
def IxR (X : Cx) (r : R2) : Prop :=
  ∀ (value slice : Expr) (pins : List (Addr × Obj)) (s : Shared) (σ : St) (H : Hp) (x y : V) (v u : Value) (Q : VK), Inv X pins σ H s → RelV x v → RelV y u → r x y H Q →
    subscripted slice false v u = operate [v, u] (getItem v u) → wpAny (model X.prog X.w) X.A (subscriptTail value slice v u) (EP X pins σ Q) X.xe s
def MtR (X : Cx) (id : String) (r : V → List V → Hp → VK → Prop) : Prop :=
  ∀ (pins : List (Addr × Obj)) (s : Shared) (σ : St) (H : Hp) (x : V) (xs : List V) (v : Value) (us : List Value) (Q : VK), Inv X pins σ H s → RelV x v → Vals xs us → r x xs H Q →
    wpAny (model X.prog X.w) X.A (call (.builtin id) (v :: us)) (EP X pins σ Q) X.xe s
section
variable {X : Cx} {a b : Expr} {ta tb : TE} {pos : Pos}
theorem pe_ix {r : R2} (hr : IxR X r) (ha : PE X a ta) (hb : PE X b tb) (hs : PlainIx b) : PE X (.Subscript a b pos) (tOp r ta tb) := by
  intro pins s σ H Q I h
  exact Subscript_ (binT ha hb I h fun v u s2 x y H2 I2 rx ry q => hr a b pins s2 σ H2 x y v u Q I2 rx ry q (hs _ _))
def rIxL (K : PySem.W.Frag) : R2 := fun x y H Q => ∃ p xs i v, x = .ref p ∧ y = .int i ∧ SqL K H p xs ∧ atI xs i = some v ∧ Q v H
def rIxT (K : PySem.W.Frag) : R2 := fun x y H Q => ∃ p xs i v, x = .ref p ∧ y = .int i ∧ SqT K H p xs ∧ atI xs i = some v ∧ Q v H
theorem ix_list : IxR X (rIxL X.K) := by
  intro value slice pins s σ H x y v u Q I rx ry h hs
  obtain ⟨p, xs, i, z, rfl, rfl, hq, he, q⟩ := h
  cases rx
  obtain ⟨t, rfl⟩ := ry
  obtain ⟨its, r, pl, hz⟩ := I.list hq
  obtain ⟨j, h1, h2, h3, h4, h5⟩ := atI_get he
  obtain ⟨w, ew, rw'⟩ := r.get h2
  have hl := r.length
  have hn := line63
  have fin : EP X pins σ Q w s := ⟨z, H, I, rw', q⟩
  by_cases h0 : 0 ≤ i
  · have hj : i.toNat = j := by
      rw [seqIndex_of h0 h5] at h1
      exact Option.some.inj h1
    exact item_listR pl.isList h0 (by omega) (by rw [hj]; simpa using ew) fin hs
  · have hj : (i + (its.toArray.size : Int)).toNat = j := by
      rw [seqIndex_neg (by omega) h4] at h1
      rw [List.size_toArray, ← hl]
      exact Option.some.inj h1
    exact subscriptTail_builtinR (x := w) pl.isList.typeIs slot_list_getitem.lookup
      (wpAny_getItem_list_neg (Q := fun r s' => r = w ∧ EP X pins σ Q r s') pl.isList (by omega) (by rw [List.size_toArray] <;> omega) (by omega) (by rw [hj]; simpa using ew) ⟨rfl, fin⟩) hs
theorem ix_tup : IxR X (rIxT X.K) := by
  intro value slice pins s σ H x y v u Q I rx ry h hs
  obtain ⟨p, xs, i, z, rfl, rfl, hq, he, q⟩ := h
  cases rx
  obtain ⟨t, rfl⟩ := ry
  obtain ⟨its, r, pl, hz⟩ := I.tuple hq
  obtain ⟨j, h1, h2, h3, h4, h5⟩ := atI_get he
  obtain ⟨w, ew, rw'⟩ := r.get h2
  have hl := r.length
  have hn := line63
  have fin : EP X pins σ Q w s := ⟨z, H, I, rw', q⟩
  exact subscriptTail_builtinR (x := w) pl.typeIs slot_tuple_getitem.lookup
    (getItem_tuple (j := j) (Q := fun r s' => r = w ∧ EP X pins σ Q r s') pl (by omega) (by omega) (by rw [List.size_toArray, ← hl]; exact h1) (by simpa using ew) ⟨rfl, fin⟩) hs
theorem slice_bounds (lo hi : Option Int) (n : Nat) : (sliceBounds lo hi none n).1 = ((HT.sIx n 0 lo : Nat) : Int) ∧ (sliceBounds lo hi none n).2.1 = ((HT.sIx n n hi : Nat) : Int) ∧ (sliceBounds lo hi none n).2.2 = 1 := by
  refine ⟨?_, ?_, rfl⟩
  · cases lo with
    | none => simp [sliceBounds, HT.sIx]
    | some i =>
      simp only [sliceBounds, HT.sIx, Option.getD_none, show (1 : Int) > 0 by decide, if_true]
      by_cases h : i < 0
      · simp only [h, if_true] <;> omega
      · simp only [h, if_false] <;> omega
  · cases hi with
    | none => simp [sliceBounds, HT.sIx]
    | some i =>
      simp only [sliceBounds, HT.sIx, Option.getD_none, show (1 : Int) > 0 by decide, if_true]
      by_cases h : i < 0
      · simp only [h, if_true] <;> omega
      · simp only [h, if_false] <;> omega
theorem slicePick_cut (its : List Value) (lo hi : Option Int) : slicePick its.toArray lo hi none = ((its.drop (HT.sIx its.length 0 lo)).take (HT.sIx its.length its.length hi - HT.sIx its.length 0 lo)).toArray := by
  obtain ⟨h1, h2, h3⟩ := slice_bounds lo hi its.toArray.size
  unfold slicePick
  rw [h1, h2, h3]
  simp only [sliceRange_one, pick_run, List.size_toArray] <;> rfl
def rSlL (K : PySem.W.Frag) : V → Option Int → Option Int → Hp → VK → Prop := fun x lo hi H Q => ∃ a xs, x = .ref a ∧ SqL K H a xs ∧ ∀ p, H p = none → Q (.ref p) (upd H p (.lst (cutV xs lo hi)))
theorem sl_list : SlR X (rSlL X.K) := by
  intro pins s σ H x v vl vu lo hi sl Q I rx hs pl pu h
  obtain ⟨a, xs, rfl, hx, q⟩ := h
  cases rx
  obtain ⟨its, r, ht, hz⟩ := I.list hx
  have hlen := r.length
  refine ⟨"list", _, slot_list_getitem.lookup, ht.isList.typeIs, ?_⟩
  refine wpAny_getItem_list_slice ht.isList hs pl pu .none (by simp) ?_ (by rw [List.size_toArray] <;> omega)
  rw [slicePick_cut, ← hlen]
  refine ⟨.ref s.heap.objs.size, _, I.laid (t' := s.toks) (o := .lst (cutV xs lo hi)) (fun b ob q => Heap.get?_push_of_some _ q) (Nat.le_refl _) ?_, rfl, q _ (I.hok.fresh (Nat.le_refl _))⟩
  exact ⟨Nat.le_trans (cutV_length xs lo hi) hz, _, 0, (r.drop (HT.sIx xs.length 0 lo)).take (HT.sIx xs.length xs.length hi - HT.sIx xs.length 0 lo), Heap.get?_push_size _ rfl⟩
def flatV : V → Bool
  | .non => true
  | .bl _ => true
  | .int _ => true
  | .str _ => true
  | _ => false
def eqV : V → V → Bool
  | .non, .non => true
  | .bl a, .bl b => a == b
  | .bl a, .int b => (if a then 1 else 0) == b
  | .int a, .bl b => a == (if b then 1 else 0)
  | .int a, .int b => a == b
  | .str a, .str b => a == b
  | _, _ => false
theorem eqAt_V {A : Around} {s : Shared} {y x : V} {u v : Value} (ry : RelV y u) (rx : RelV x v) (fy : flatV y = true) (fx : flatV x = true) : SeqAt.EqAt A s u v (eqV y x) := by
  cases y with
  | non =>
    cases ry
    cases x with
    | non => cases rx; exact SeqAt.EqAt.same _
    | bl b => cases rx; exact SeqAt.EqAt.none_bool b
    | int b => obtain ⟨t, rfl⟩ := rx; exact SeqAt.EqAt.none_int b t
    | str b => obtain ⟨t, rfl⟩ := rx; exact SeqAt.EqAt.none_str b t
    | _ => exact absurd (show false = true from fx) Bool.false_ne_true
  | bl a =>
    cases ry
    cases x with
    | non => cases rx; exact SeqAt.EqAt.bool_none a
    | bl b => cases rx; exact SeqAt.EqAt.bool_bool a b
    | int b => obtain ⟨t, rfl⟩ := rx; exact SeqAt.EqAt.bool_int a b t
    | str b => obtain ⟨t, rfl⟩ := rx; exact SeqAt.EqAt.bool_str a b t
    | _ => exact absurd (show false = true from fx) Bool.false_ne_true
  | int a =>
    obtain ⟨t', rfl⟩ := ry
    cases x with
    | non => cases rx; exact SeqAt.EqAt.int_none a t'
    | bl b => cases rx; exact SeqAt.EqAt.int_bool a t' b
    | int b => obtain ⟨t, rfl⟩ := rx; exact SeqAt.EqAt.int_int a t' b t
    | str b => obtain ⟨t, rfl⟩ := rx; exact SeqAt.EqAt.int_str a t' b t
    | _ => exact absurd (show false = true from fx) Bool.false_ne_true
  | str a =>
    obtain ⟨t', rfl⟩ := ry
    cases x with
    | non => cases rx; exact SeqAt.EqAt.str_none a t'
    | bl b => cases rx; exact SeqAt.EqAt.str_bool a t' b
    | int b => obtain ⟨t, rfl⟩ := rx; exact SeqAt.EqAt.str_int a t' b t
    | str b => obtain ⟨t, rfl⟩ := rx; exact SeqAt.EqAt.str_str a t' b t
    | _ => exact absurd (show false = true from fx) Bool.false_ne_true
  | _ => exact absurd (show false = true from fy) Bool.false_ne_true
def eqU (x : V) (u : Value) : Bool := match u with
  | .none => eqV .non x
  | .bool b => eqV (.bl b) x
  | .int i _ => eqV (.int i) x
  | .str z _ => eqV (.str z) x
  | _ => false
theorem eqU_of {x y : V} {u : Value} (r : RelV y u) (f : flatV y = true) : eqU x u = eqV y x := by
  cases y with
  | non => cases r; rfl
  | bl b => cases r; rfl
  | int i => obtain ⟨t, rfl⟩ := r; rfl
  | str z => obtain ⟨t, rfl⟩ := r; rfl
  | _ => exact absurd (show false = true from f) Bool.false_ne_true
theorem any_eqU {x : V} : ∀ {xs : List V} {us : List Value}, Vals xs us → xs.all flatV = true → us.any (eqU x) = xs.any fun y => eqV y x
  | _, _, .nil, _ => rfl
  | y :: xs, u :: us, .cons r t, f => by
    rw [List.all_cons, Bool.and_eq_true] at f
    rw [List.any_cons, List.any_cons, eqU_of r f.1, any_eqU t f.2]
theorem mem_eqAt {A : Around} {s : Shared} {x : V} {v : Value} (rx : RelV x v) (fx : flatV x = true) : ∀ {xs : List V} {us : List Value}, Vals xs us → xs.all flatV = true → ∀ u ∈ us, SeqAt.EqAt A s u v (eqU x u)
  | _, _, .nil, _ => fun u hu => by cases hu
  | y :: xs, u :: us, .cons r t, f => fun u' hu => by
    rw [List.all_cons, Bool.and_eq_true] at f
    rcases List.mem_cons.mp hu with rfl | hu
    · rw [eqU_of r f.1]; exact eqAt_V r rx f.1 fx
    · exact mem_eqAt rx fx t f.2 u' hu
def inV (x : V) (xs : List V) : Bool := xs.any fun y => eqV y x
def rIn (K : PySem.W.Frag) (neg : Bool) : R2 := fun x y H Q => ∃ p xs, y = .ref p ∧ (SqL K H p xs ∨ SqT K H p xs) ∧ flatV x = true ∧ xs.all flatV = true ∧ Q (.bl (if neg then !inV x xs else inV x xs)) H
theorem op_notIn_seq : OpR X (compareOp .NotIn) (rIn X.K true) := by
  intro pins s σ H x y v u Q I rx ry h
  obtain ⟨p, xs, rfl, hq, fx, fs, q⟩ := h
  cases ry
  rcases hq with hq | hq
  · obtain ⟨its, r, pl, hz⟩ := I.list hq
    refine SeqAt.notIn_listAt (eqU x) pl.isList (fun w hw => mem_eqAt rx fx r fs w (by simpa using hw)) ⟨.bl _, H, I, rfl, ?_⟩
    rw [show its.toArray.any (eqU x) = its.any (eqU x) by simp, any_eqU r fs]
    exact q
  · obtain ⟨its, r, pl, hz⟩ := I.tuple hq
    refine SeqAt.notIn_tupleAt (eqU x) pl (fun w hw => mem_eqAt rx fx r fs w (by simpa using hw)) ⟨.bl _, H, I, rfl, ?_⟩
    rw [show its.toArray.any (eqU x) = its.any (eqU x) by simp, any_eqU r fs]
    exact q
theorem call_len_seq : CallR X (.builtin "len") (fun xs H Q => ∃ p ys, xs = [.ref p] ∧ (SqL X.K H p ys ∨ SqT X.K H p ys) ∧ Q (.int ys.length) H) := by
  intro pins s σ H xs us Q I r h
  obtain ⟨p, ys, rfl, hq, q⟩ := h
  obtain ⟨u, rfl, rx⟩ := vals1 r
  cases rx
  have hn := line63
  rcases hq with hq | hq
  · obtain ⟨its, r', pl, hz⟩ := I.list hq
    have hlen := r'.length
    exact Calls.call_len_list pl.isList (by simp only [List.size_toArray] <;> omega) ⟨.int ys.length, H, I.tok _, ⟨s.toks + 1, by rw [List.size_toArray, hlen]⟩, q⟩
  · obtain ⟨its, r', pl, hz⟩ := I.tuple hq
    have hlen := r'.length
    exact len_tuple pl (by simp only [List.size_toArray] <;> omega) ⟨.int ys.length, H, I.tok _, ⟨s.toks + 1, by rw [List.size_toArray, hlen]⟩, q⟩
theorem call_list_of : CallR X (.type "list") (fun xs H Q => ∃ p ys, xs = [.ref p] ∧ (SqL X.K H p ys ∨ SqT X.K H p ys) ∧ ∀ l, H l = none → Q (.ref l) (upd H l (.lst ys))) := by
  intro pins s σ H xs us Q I r h
  obtain ⟨p, ys, rfl, hq, q⟩ := h
  obtain ⟨u, rfl, rx⟩ := vals1 r
  cases rx
  have fin : ∀ (its : List Value), Vals ys its → ys.length ≤ sizeLine → ∀ (h' : Heap) (c' : Nat), (∀ b o', s.heap.get? b = some o' → h'.get? b = some o') →
      h'.get? s.heap.objs.size = some { cls := .type "list", dict := none, data := .seq its.toArray c', slots := #[] } → EP X pins σ Q (.ref s.heap.objs.size) { s with heap := h' } := fun its r' hz h' c' kp e =>
    ⟨.ref s.heap.objs.size, _, I.laid (t' := s.toks) kp (Nat.le_refl _) (show ObjOk X.prog X.w _ h' _ (.lst ys) from ⟨hz, its, c', r', e⟩), rfl, q _ (I.hok.fresh (Nat.le_refl _))⟩
  rcases hq with hq | hq
  · obtain ⟨its, r', pl, hz⟩ := I.list hq
    have hlen := r'.length
    obtain ⟨o, ho, hc, n, hd⟩ := pl.isList
    exact call_list_seq p (.inl rfl) ho hc hd (fun h' c' kp e => fin its r' hz h' c' kp e) (by simp only [List.size_toArray] <;> omega)
  · obtain ⟨its, r', pl, hz⟩ := I.tuple hq
    have hlen := r'.length
    obtain ⟨o, ho, hc, n, hd⟩ := pl
    exact call_list_seq p (.inr rfl) ho hc hd (fun h' c' kp e => fin its r' hz h' c' kp e) (by simp only [List.size_toArray] <;> omega)
def tyV (K : PySem.W.Frag) (T : String) (x : V) (H : Hp) : Prop := match x with
  | .str _ => T = "str"
  | .int _ => T = "int"
  | .ref p => (T = "list" ∧ ∃ xs, SqL K H p xs) ∨ (T = "tuple" ∧ ∃ o, K.lookup p = some o ∧ o.cls = .type "tuple" ∧ o.dict = none) ∨
      (T = "dict" ∧ ((∃ kvs, H p = some (.dK kvs)) ∨ ∃ kvs, H p = some (.dT kvs))) ∨ (T = "set" ∧ ∃ S n, H p = some (.set S n))
  | _ => False
theorem tyV_is {pins : List (Addr × Obj)} {σ : St} {H : Hp} {s : Shared} {T : String} {x : V} {v : Value} (I : Inv X pins σ H s) (r : RelV x v) (ty : tyV X.K T x H) :
    s.TypeIs v T ∧ ∀ a, v = .ref a → ∃ ob, s.heap.get? a = some ob ∧ ob.dict = none := by
  cases x with
  | str z =>
    obtain ⟨t, rfl⟩ := r
    cases (show T = "str" from ty)
    exact ⟨typeIs_str s z t, fun _ e => nomatch e⟩
  | int i =>
    obtain ⟨t, rfl⟩ := r
    cases (show T = "int" from ty)
    exact ⟨typeIs_int s i t, fun _ e => nomatch e⟩
  | ref p =>
    cases r
    rcases ty with ⟨rfl, xs, hq⟩ | ⟨rfl, o, hk, hc, hd⟩ | ⟨rfl, hk⟩ | ⟨rfl, S, n, hk⟩
    · obtain ⟨its, _, pl, _⟩ := I.list hq
      refine ⟨pl.isList.typeIs, fun a e => ?_⟩
      cases e
      obtain ⟨o, n, e, c, hd, _⟩ := pl
      exact ⟨o, e, hd⟩
    · refine ⟨⟨o, I.kIn p o hk, hc⟩, fun a e => ?_⟩
      cases e
      exact ⟨o, I.kIn _ o hk, hd⟩
    · have z : ∃ o, s.heap.get? p = some o ∧ o.ExactDict := by
        rcases hk with ⟨kvs, hk⟩ | ⟨kvs, hk⟩
        · obtain ⟨_, _, _, _, o, _, _, e, ex, _⟩ := I.hok p _ hk
          exact ⟨o, e, ex⟩
        · obtain ⟨_, _, _, _, o, _, _, e, ex, _⟩ := I.hok p _ hk
          exact ⟨o, e, ex⟩
      obtain ⟨o, e, ex⟩ := z
      refine ⟨⟨o, e, ex.1⟩, fun a e2 => ?_⟩
      cases e2
      exact ⟨o, e, ex.2.1⟩
    · obtain ⟨o, _, _, _, e, ex, _⟩ := I.hok p _ hk
      refine ⟨⟨o, e, ex.1⟩, fun a e2 => ?_⟩
      cases e2
      exact ⟨o, e, ex.2.1⟩
  | _ => exact False.elim ty
def tBM (K : PySem.W.Frag) (T : String) (r : V → List V → Hp → VK → Prop) (to : TE) (t : TA) : TE := fun σ H Q => to σ H fun x H1 => tyV K T x H1 ∧ t σ H1 fun xs H2 => r x xs H2 Q
variable {o e : Expr} {es : List Expr} {to : TE} {t : TA} {name : Str} {apos cpos : Pos} {T id : String} {r : V → List V → Hp → VK → Prop}
theorem pe_bm (pa : PlainAttrs T) (slot : Slot T name id) (hty : typeOf (.builtin id) = pure (.type "method_descriptor")) (hm : MtR X id r) (ho : PE X o to) (ha : PA X (e :: es) t)
    (hbase : attributeBase o name X.env (eval o X.env) = eval o X.env := by rfl)
    (hfew : ((backTo cpos (starEach (e :: es) X.env)).all (fun x => !x.1) && (backToKw cpos (keywordEach [] X.env)).all (fun x => x.1.isSome)
      && decide ((e :: es).length + ([] : List Keyword).length + (if ([] : List Keyword).isEmpty then 0 else 1) < 30)) = true := by rfl)
    (hline : (apos.endLine == cpos.line) = true := by rfl) (hs : starEach (e :: es) X.env = (false, eval e X.env) :: starEach es X.env := by rfl) (hplain : (backTo cpos (starEach es X.env)).any (·.1) = false := by rfl) :
    PE X (.Call (.Attribute o name apos) (e :: es) [] cpos) (tBM X.K T r to t) := by
  intro pins s σ H Q I h
  refine wpAny_Call_method_late hbase hfew hline rfl (thn (ho pins s σ H _ I h) fun v s1 ⟨x, H1, I1, r1, ty, q1⟩ => ?_)
  obtain ⟨h1, h2⟩ := tyV_is I1 r1 ty
  refine ⟨T, id, pa, slot, hty, h1, h2, ?_⟩
  have hA := ha cpos pins s1 σ H1 _ I1 q1
  rw [hs] at hA ⊢
  refine Calls.callWith_builtin (by show (false || (backTo cpos (starEach es X.env)).any (·.1)) = false; rw [hplain] <;> rfl) (Calls.evalArgs_plain ?_)
  exact thn hA fun us s2 ⟨vs, H2, I2, r2, q2⟩ => hm pins s2 σ H2 x vs v us Q I2 r1 r2 q2
end
end L2
namespace L2
open PySem PySem.Spec PyProof.Rows
def MtM (X : Cx) (id : String) (r : V → List V → Hp → VK → Prop) : Prop :=
  ∀ (pins : List (Addr × Obj)) (s : Shared) (σ : St) (H : Hp) (x : V) (xs : List V) (v : Value) (us : List Value) (Q : VK), Inv X pins σ H s → RelV x v → Vals xs us → r x xs H Q →
    wpAny (model X.prog X.w) X.A (call (.builtin id) (v :: us)) (EP X pins σ Q) X.xe s
theorem Vals.one : ∀ {x : V} {us : List Value}, Vals [x] us → ∃ u, us = [u] ∧ RelV x u
  | _, _, .cons r .nil => ⟨_, rfl, r⟩
theorem Vals.two : ∀ {x y : V} {us : List Value}, Vals [x, y] us → ∃ u v, us = [u, v] ∧ RelV x u ∧ RelV y v
  | _, _, _, .cons r (.cons q .nil) => ⟨_, _, rfl, r, q⟩
theorem Vals.rep {xs : List V} {us : List Value} (h : Vals xs us) : ∀ k : Nat, Vals (List.replicate k xs).flatten (List.replicate k us).flatten
  | 0 => .nil
  | k + 1 => by
    rw [List.replicate_succ, List.replicate_succ, List.flatten_cons, List.flatten_cons]
    exact Vals.append h (Vals.rep h k)
theorem foldl_rep (its : List Value) : ∀ (k : Nat) (acc : List Value),
    List.foldl (fun x1 x2 => x1 ++ x2) acc.toArray (List.replicate k its.toArray) = (acc ++ (List.replicate k its).flatten).toArray
  | 0, acc => by simp
  | k + 1, acc => by
    have e : acc.toArray ++ its.toArray = (acc ++ its).toArray := by simp
    have e2 : (acc ++ its) ++ (List.replicate k its).flatten = acc ++ (List.replicate (k + 1) its).flatten := by
      rw [List.replicate_succ, List.flatten_cons, List.append_assoc]
    rw [← e2, ← foldl_rep its k (acc ++ its), ← e, List.replicate_succ, List.foldl_cons]
section
variable {X : Cx} {pins : List (Addr × Obj)} {σ : St} {H : Hp} {s : Shared} {l b : Addr} {xs ys zs : List V}
theorem Inv.lset {its its' : List Value} {n : Nat} {f : Array Value → Array Value} {t' : Nat} (I : Inv X pins σ H s) (hH : H l = some (.lst xs))
    (e : s.heap.get? l = some { cls := .type "list", data := .seq its.toArray n }) (hf : f its.toArray = its'.toArray) (hv : Vals ys its') (hz : ys.length ≤ sizeLine) :
    Inv X pins σ (upd H l (.lst ys)) { s with heap := s.heap.update l (Obj.mapSeq f), toks := t' } := by
  have q := PySem.IsL.update e f
  rw [hf] at q
  refine I.write (x := l) (e := l) (by rw [hH]; exact trivial) (.inl rfl) (fun b' u hb hu => (Heap.get?_update_other s.heap (Obj.mapSeq f) (Ne.symm hb)).trans hu) ⟨_, q⟩ ?_
  exact ⟨hz, its', _, hv, q⟩
theorem Inv.lnew {its : List Value} {t' : Nat} (I : Inv X pins σ H s) (hv : Vals ys its) (hz : ys.length ≤ sizeLine) :
    Inv X pins σ (upd H s.heap.objs.size (.lst ys)) { s with heap := s.heap.push { cls := .type "list", data := .seq its.toArray }, toks := t' } :=
  I.laid (fun _ _ q => Heap.get?_push_of_some _ q) (Nat.le_refl _) ⟨hz, its, 0, hv, Heap.get?_push_size _ rfl⟩
theorem Inv.fresh (I : Inv X pins σ H s) : H s.heap.objs.size = none := I.hok.fresh (Nat.le_refl _)
theorem Inv.lstM (I : Inv X pins σ H s) (hH : H l = some (.lst xs)) : xs.length ≤ sizeLine ∧ ∃ (its : List Value) (n : Nat), Vals xs its ∧ xs.length = its.length ∧ s.heap.get? l = some { cls := .type "list", data := .seq its.toArray n } := by
  obtain ⟨z, its, n, r, e⟩ := I.hok l _ hH
  exact ⟨z, its, n, r, r.length, e⟩
theorem notLongL {n : Nat} (h : n ≤ sizeLine) : Builtin.List.listTooLong n = false := by
  unfold Builtin.List.listTooLong
  exact decide_eq_false (by omega)
end
section
variable {X : Cx}
def rAppend : V → List V → Hp → VK → Prop := fun x vs H Q => ∃ l xs y, x = .ref l ∧ vs = [y] ∧ H l = some (.lst xs) ∧ xs.length < sizeLine ∧ Q .non (upd H l (.lst (xs ++ [y])))
theorem mt_append : MtM X "list.append" rAppend := by
  intro pins s σ H x vs v us Q I rx rv h
  obtain ⟨l, xs, y, rfl, rfl, hH, hz, q⟩ := h
  cases rx
  obtain ⟨u, rfl, ru⟩ := rv.one
  obtain ⟨z, its, n, r, hl, e⟩ := I.lstM hH
  refine call_meets F.slot_list_append ⟨_, e, rfl⟩ F.entry_list_append (F.args_list_append_2 _ _) (PySem.list_append l its.toArray n u (by rw [List.size_toArray]; omega)) ⟨e, ?_⟩
  refine ⟨.non, _, I.lset (its' := its ++ [u]) hH e (by simp) (r.append (.cons ru .nil)) ?_, rfl, q⟩
  rw [List.length_append, List.length_singleton]
  omega
def rCat : R2 := fun x y H Q => ∃ l b xs zs, x = .ref l ∧ y = .ref b ∧ H l = some (.lst xs) ∧ H b = some (.lst zs) ∧ xs.length + zs.length ≤ sizeLine ∧ ∀ p, H p = none → Q (.ref p) (upd H p (.lst (xs ++ zs)))
theorem op_cat : OpR X (binaryOp .Add) rCat := by
  intro pins s σ H x y v u Q I rx ry h
  obtain ⟨l, b, xs, zs, rfl, rfl, hH, hB, hz, q⟩ := h
  cases rx
  cases ry
  obtain ⟨z, its, n, r, hl, e⟩ := I.lstM hH
  obtain ⟨z2, its2, n2, r2, hl2, e2⟩ := I.lstM hB
  refine PySem.P.add_list e e2 ?_ (by rw [List.size_toArray, List.size_toArray]; omega)
  have ea : its.toArray ++ its2.toArray = (its ++ its2).toArray := by simp
  rw [ea]
  exact ⟨.ref _, _, I.lnew (t' := s.toks) (r.append r2) (by rw [List.length_append]; omega), rfl, q _ I.fresh⟩
def rRep : R2 := fun x y H Q => ∃ l k xs, x = .ref l ∧ y = .int k ∧ H l = some (.lst xs) ∧ -(2 ^ 63) ≤ k ∧ k < 2 ^ 63 ∧ xs.length * k.toNat ≤ sizeLine ∧
  ∀ p, H p = none → Q (.ref p) (upd H p (.lst (List.replicate k.toNat xs).flatten))
theorem len_rep {α : Type} (xs : List α) (k : Nat) : (List.replicate k xs).flatten.length = k * xs.length := by
  induction k with
  | zero => simp
  | succ k ih => rw [List.replicate_succ, List.flatten_cons, List.length_append, ih, Nat.succ_mul, Nat.add_comm]
theorem op_rep : OpR X (binaryOp .Mult) rRep := by
  intro pins s σ H x y v u Q I rx ry h
  obtain ⟨l, k, xs, rfl, rfl, hH, h1, h2, hz, q⟩ := h
  cases rx
  obtain ⟨t, rfl⟩ := ry
  obtain ⟨z, its, n, r, hl, e⟩ := I.lstM hH
  have hlen : its.toArray.size * k.toNat ≤ sizeLine := by rw [List.size_toArray, ← hl]; exact hz
  have hcap : ¬ its.toArray.size * k.toNat > (2 ^ 63 - 1) / 8 := by
    have : (sizeLine : Nat) ≤ (2 ^ 63 - 1) / 8 := by decide
    omega
  have hfit : ¬ (!Builtin.List.listFitsIndex k) = true := by
    rw [fitsIndex_both h1 h2]
    exact Bool.false_ne_true
  have hlong : ¬ Builtin.List.listTooLong (its.toArray.size * k.toNat) = true := by
    rw [notLongL hlen]
    exact Bool.false_ne_true
  have hnew : List.foldl (fun x1 x2 => x1 ++ x2) #[] (List.replicate (if its.toArray.isEmpty = true then 0 else k.toNat) its.toArray) = (List.replicate k.toNat its).flatten.toArray := by
    have f0 : ∀ m : Nat, List.foldl (fun x1 x2 => x1 ++ x2) #[] (List.replicate m its.toArray) = (List.replicate m its).flatten.toArray := fun m => by
      have := foldl_rep its m []
      rw [List.nil_append] at this
      exact this
    rw [f0]
    cases its with
    | nil => simp
    | cons a r' => rw [if_neg (by simp)]
  refine wpAny_binaryOp_repeat_ref (T := "list") (U := "int") (by decide) ⟨_, e, rfl⟩ (fun s' => typeIs_int s' k t) noFill_list_mul F.fills_int_mul F.slot_int_rmul repeat_list F.slot_int_index.lookup
    (call_meets F.slot_int_rmul (typeIs_int s k t) F.entry_int_rmul (F.args_int_rmul_2 _ _) (int___rmul___int_list k t l its.toArray n)
      ⟨e, rfl, ⟨_, e, rfl⟩, call_meets F.slot_list_mul ⟨_, e, rfl⟩ F.entry_list_mul (F.args_list_mul_2 _ _) (AutoListH.list___mul___list_int_3 l its.toArray n k t hfit hcap hlong) ⟨e, ?_⟩⟩)
  rw [hnew]
  exact ⟨.ref _, _, I.lnew (t' := s.toks) (r.rep k.toNat) (by rw [len_rep, Nat.mul_comm]; exact hz), rfl, q _ I.fresh⟩
end
section
variable {prog : Program} {w : World} {A : Around} {E : Value → Shared → Prop} {s : Shared}
set_option maxRecDepth 100000 in
end
section
variable {X : Cx}
end
end L2
namespace Att
open PySem PySem.W PySem.Calls PyProof.Rows
theorem ints_of_wellAll {P : Params} {h : Heap} : ∀ (ns : List Int) (vs : List Value), WellAll P h vs (ns.map WData.int) → IntsAre vs ns := by
  intro ns
  induction ns with
  | nil =>
    intro vs w
    rw [List.map_nil] at w
    cases w
    exact .nil
  | cons n ns ih =>
    intro vs w
    rw [List.map_cons] at w
    cases w with
    | cons a b =>
      cases a
      exact .cons _ _ (ih _ b)
theorem script_of {l : OpenLaw} {n : Nat} (hn : l.most = some n) {P : Params} {h : Heap} {args : List WData} {vals : List Value}
    (hpre : l.row.toRowW.claim.pre args = true) (hwl : WellAll P h vals args) :
    ∃ a vs ns, vals = [Value.ref a] ∧ args = [WData.list (ns.map WData.int)] ∧ h.get? a = some { cls := .type "list", data := .seq vs.toArray } ∧ IntsAre vs ns ∧ ns.length ≤ n := by
  have hsh : WShape.hasAll [] args [.list .int] = true := (pre_splitW hpre).1
  have hc : l.pre.holds [] { args := args } = true := (pre_splitW hpre).2
  obtain ⟨d, r, rfl, h1, h2⟩ := hasAllW_cons hsh
  obtain rfl := hasAllW_nil h2
  obtain ⟨xs, rfl, h3⟩ := hasW_list h1
  obtain ⟨ns, rfl⟩ := items_int h3
  have hlen : ns.length ≤ n := by
    unfold OpenLaw.pre at hc
    have h4 : (WTm.not (.lt (.lit (.int (n : Int))) (.len (.arg 0)))).holds [] { args := [.list (ns.map .int)] } = true := by
      have h4 := (holds_andW hc).1
      rw [hn] at h4
      exact h4
    have h5 := condW_of h4 (w_not (w_lt w_lit (w_len_list (w_arg rfl))))
    rw [List.length_map] at h5
    refine Nat.le_of_not_lt fun q => ?_
    have q' : (n : Int) < ((ns.length : Nat) : Int) := by omega
    first
      | (rw [decide_eq_true q'] at h5; exact absurd h5 (by decide))
      | (simp at h5; omega)
  cases hwl with
  | cons w1 w2 =>
    cases w2
    cases w1 with
    | list ho hall => exact ⟨_, _, ns, rfl, rfl, ho, ints_of_wellAll ns _ hall, hlen⟩
theorem post_true (l : OpenLaw) (args : List WData) : l.row.toRowW.claim.post args (.bool true) args = true :=
  postW_of (r := l.row.toRowW) (X := (true == true))
    (show WShape.has [] (.bool true) .bool = true by first | rfl | decide | simp [WShape.has, WShape.arms, WShape.armsAll])
    (show (WTm.eq .res (.lit (.bool true))).value [] { args := args, res := some (.bool true), after := args } = some (.bool (true == true)) from w_eq_bool (w_res rfl) w_lit) rfl
theorem attach_call {l : OpenLaw} {n : Nat} {q : Program} {loose : List Str} {XP : (Str → Option Value) → Heap → Prop} {YP : World → Heap → Prop} {d : DefRec}
    (hn : l.most = some n) (hdf : d.params.defaults = [])
    (call : ∀ (w : World) (s₀ s₁ : Shared) (mg mb : Str → Option Value) (fa : Addr) (o : Obj) (pm cd doc : Value) (a : Addr) (vs : List Value) (ns : List Int),
      Ground q loose [] XP w s₀ mg mb s₁.heap → YP w s₁.heap →
      s₁.heap.get? fa = some o → o.data = .func (docDef d.name d.params d.body d.scope pm cd doc) → s₁.heap.CodeRec cd d.name → mg d.name = some (.ref fa) →
      s₁.heap.get? a = some { cls := .type "list", data := .seq vs.toArray } → IntsAre vs ns → ns.length ≤ n → s₁.gens = #[] →
      codeAny (model l.prog w) callerA (.call (.ref fa) ⟨[.ref a], []⟩) (fun r s' => r = .ok (.ret (.bool true)) ∧ OldK s₁.heap s'.heap ∧ s'.os = s₁.os ∧ AllBare s'.gens) s₁) :
    WalkO q loose XP YP l.row.toRowW d [] (fun f vs => PySem.call f vs) := by
  intro w s₀ s₁ mg mb G Y fa o pm cd doc dV kV ho hd hcd hD hmg hg args vals as hpre hlay hrd hwl hlo
  obtain rfl : dV = .none := Dflts.none hD hdf
  obtain rfl : kV = .none := Dflts.noKw hD
  obtain ⟨a, vs, ns, rfl, rfl, hobj, hints, hlen⟩ := script_of hn hpre hwl
  refine enter_call (codeAny_mono (call w s₀ s₁ mg mb fa o pm cd doc a vs ns G Y ho (fd_plain hd) hcd hmg hobj hints hlen hg) fun r s' hq => ?_)
  obtain ⟨rfl, h2, h3, h4⟩ := hq
  exact ⟨.inl ⟨.bool true, .bool true, [], rfl, fun _ => rfl, .bool true, post_true l _, fun _ => ⟨List.Pairwise.nil, fun _ hm => (nomatch hm)⟩⟩, h2, h3, h4⟩
section
variable {prog : Program} {w : World} {A : Around} {E : Value → Shared → Prop} {s : Shared} {K : Frag}
end
end Att
namespace L2
open PySem PySem.Spec PyProof.Rows
theorem vals_ints : ∀ {vs : List Value} {ns : List Int}, IntsAre vs ns → Vals (ns.map V.int) vs
  | _, _, .nil => .nil
  | _, _, .cons n t h => .cons ⟨t, rfl⟩ (vals_ints h)
def Only (H : Hp) : Prop := ∀ b, H b = none ∨ ∃ o xs, H b = some (.frz o (.lst xs))
theorem law_call {P : Program} {w : World} {K : PySem.W.Frag} {mg mb : Str → Option Value} {CX : CXT} {k : Nat} {fa a : Addr} {fd : FuncData} {x : Str} {sp : Sp} {s₁ : Shared} {vs : List Value} {ns : List Int}
    (KX : K.In s₁.heap) (hns : s₁.heap.Ns mainGlobals mg) (hb : s₁.heap.Ns builtinsNs mb) (hbb : ∀ x : Str, x ≠ "__name__" → mb x = bootBuiltins x) (hlim : s₁.heap.NoLimit) (hg : s₁.gens = #[])
    (ha : s₁.heap.get? a = some { cls := .type "list", data := .seq vs.toArray }) (hi : IntsAre vs ns) (hl : ns.length ≤ sizeLine) (hr : Room k callerA)
    (F : ∀ base : Heap, K.In base → base.Ns mainGlobals mg → FnOk P w K mg base CX k fa fd [x] sp) (hbind : ∀ (s : Shared) (u : Value), BindsTo s fd ⟨[u], []⟩ [(x, u)])
    (hsp : ∀ H : Hp, Only H → SqL K H a (ns.map V.int) → sp [.ref a] H (fun v _ => v = .bl true) fun _ _ _ => False)
    (hCX : ∀ H e s', CX [] H s₁ (fun _ _ _ => False) e s' → False) :
    codeAny (model P w) callerA (.call (.ref fa) ⟨[.ref a], []⟩) (fun r s' => r = .ok (.ret (.bool true)) ∧ OldK s₁.heap s'.heap ∧ s'.os = s₁.os ∧ AllBare s'.gens) s₁ := by
  have rv := vals_ints hi
  have lenV := hi.length
  -- from an abstract heap in which nothing but the script may be tracked
  have core : ∀ H : Hp, Only H → SqL K H a (ns.map V.int) → HOk P w H s₁.heap → (∀ b, H b ≠ none → b = a) → (H a ≠ none → K.lookup a = none) →
      codeAny (model P w) callerA (.call (.ref fa) ⟨[.ref a], []⟩) (fun r s' => r = .ok (.ret (.bool true)) ∧ OldK s₁.heap s'.heap ∧ s'.os = s₁.os ∧ AllBare s'.gens) s₁ := by
    intro H hO hS hok hA hK
    have base_of : ∀ {b : Addr} {o : Obj}, s₁.heap.get? b = some o → H b = none → (hidT s₁.heap H).get? b = some o := fun e n => hidT_get e n
    have noA : ∀ {b : Addr} {o : Obj} {es : Array DictEntry} {ep : Nat}, s₁.heap.get? b = some o → o.data = .dict es ep → H b = none := fun {b o es ep} e d => by
      cases q : H b with
      | none => rfl
      | some u =>
        have e' : b = a := hA b (by rw [q]; simp)
        subst e'
        rw [ha] at e; cases e
        have d' : Data.seq vs.toArray _ = Data.dict es ep := d
        cases d'
    have nsK : ∀ {b : Addr} {m : Str → Option Value}, s₁.heap.Ns b m → (hidT s₁.heap H).Ns b m := fun {b m} ⟨o, es, ep, e, d, r⟩ => ⟨o, es, ep, base_of e (noA e d), d, r⟩
    have hKb : K.In (hidT s₁.heap H) := fun b o e => base_of (KX b o e) (by
      cases q : H b with
      | none => rfl
      | some u =>
        have e' : b = a := hA b (by rw [q]; simp)
        subst e'
        rw [hK (by rw [q]; simp)] at e; cases e)
    have hM : Mod K mg (hidT s₁.heap H) := ⟨hKb, nsK hns, ⟨mb, nsK hb, hbb⟩, let ⟨mc, h1, h2⟩ := hlim; ⟨mc, nsK h1, h2⟩⟩
    have e0 : Env0 P w K mg (hidT s₁.heap H) callerA [] s₁ H := ⟨rfl, hM, fun b o e => of_hidT e, Nat.le_of_eq (hidT_size _ _), trivial, fun b hb => absurd (show b ∈ ([] : List Addr) from hb) (by simp), hok, .of_eq hg⟩
    refine codeAny_mono ((F _ hKb (nsK hns)).run callerA [] s₁ H ⟨[.ref a], []⟩ [.ref a] [.ref a] _ _ hr e0 (hbind s₁ (.ref a)) (.cons rfl .nil) (hsp H hO hS)) fun r s' h => ?_
    cases r with
    | error e => exact (hCX H e s' h).elim
    | ok fl =>
      cases fl with
      | next => exact False.elim h
      | brk => exact False.elim h
      | cont => exact False.elim h
      | ret u =>
        obtain ⟨v, H', os, bare, un, hok', r', q⟩ := h
        have q' : v = .bl true := q
        subst q'
        obtain rfl : u = Value.bool true := r'
        refine ⟨rfl, OldK.of_keep fun b o e => ?_, os, bare⟩
        cases q : H b with
        | none => exact un.keep b o e q (by intro z; exact absurd (show b ∈ ([] : List Addr) from z) (by simp)) (by simp)
        | some u =>
          rcases hO b with z | ⟨ob, xs, z⟩
          · rw [q] at z; cases z
          · have z2 := un.frzs b ob _ z
            obtain ⟨e1, _⟩ := hok b _ z
            obtain ⟨e2, _⟩ := hok' b _ z2
            rw [e] at e1; cases e1
            exact e2
  cases hk : K.lookup a with
  | some o =>
    -- the script is one of the module's own objects
    have e := KX a o hk
    rw [ha] at e
    cases e
    refine core (fun _ => none) (fun _ => .inl rfl) (.inr ⟨_, vs.toArray, _, hk, rfl, rfl, rfl, by rw [List.size_toArray, lenV]; exact hl, by simpa using rv⟩) (fun b u z => by have z' : (none : Option HO) = some u := z; cases z') (fun b z => absurd rfl z) fun z => absurd rfl z
  | none =>
    refine core (fun b => if b = a then some (.frz { cls := .type "list", data := .seq vs.toArray } (.lst (ns.map V.int))) else none) (fun b => ?_) (.inl (.inr ⟨{ cls := .type "list", data := .seq vs.toArray }, if_pos rfl⟩)) (fun b u z => ?_) (fun b z => ?_) fun _ => hk
    · by_cases hb : b = a
      · exact .inr ⟨_, _, if_pos hb⟩
      · exact .inl (if_neg hb)
    · by_cases hb : b = a
      · have z' := (if_pos hb).symm.trans z
        cases z'
        subst hb
        exact ⟨ha, by rw [List.length_map]; exact hl, vs, _, rv, ha⟩
      · have z' := (if_neg hb).symm.trans z
        cases z'
    · by_cases hb : b = a
      · exact hb
      · exact absurd (if_neg hb) z
end L2
namespace L2
open PySem PySem.Spec PyProof.Rows
abbrev KOf {K : PySem.W.Frag} {h : Heap} (_ : K.In h) : PySem.W.Frag := K
theorem walk_of {l : PySem.W.OpenLaw} {n k : Nat} {q : Program} {loose : List Str} {XP : (Str → Option Value) → Heap → Prop} {YP : World → Heap → Prop} {d : DefRec} {K : Params → PySem.W.Frag} {CX : World → CXT} {sp : World → Sp} {x : Str}
    (hn : l.most = some n) (hn2 : n ≤ sizeLine) (hdf : d.params.defaults = []) (hr : Room k callerA)
    (hY : ∀ (w : World) (h : Heap), YP w h → (K w.params).In h)
    (F : ∀ (w : World) (mg : Str → Option Value) (fa : Addr) (h : Heap), (K w.params).In h → h.Ns mainGlobals mg → mg d.name = some (.ref fa) →
      ∃ fd : FuncData, (∀ (s : Shared) (u : Value), BindsTo s fd ⟨[u], []⟩ [(x, u)]) ∧
        ∀ base : Heap, (K w.params).In base → base.Ns mainGlobals mg → FnOk l.prog w (K w.params) mg base (CX w) k fa fd [x] (sp w))
    (hsp : ∀ (w : World) (H : Hp) (a : Addr) (ns : List Int), ns.length ≤ n → Only H → SqL (K w.params) H a (ns.map V.int) → sp w [.ref a] H (fun v _ => v = .bl true) fun _ _ _ => False)
    (hCX : ∀ (w : World) (H : Hp) (s : Shared) (e : Value) (s' : Shared), CX w [] H s (fun _ _ _ => False) e s' → False) :
    PySem.W.WalkO q loose XP YP l.row.toRowW d [] (fun f vs => PySem.call f vs) := by
  refine Att.attach_call hn hdf fun w s₀ s₁ mg mb fa o pm cd doc a vs ns G Y ho hd hcd hmg hobj hints hlen hg => ?_
  have KX := hY w _ Y
  obtain ⟨fd, hb, hF⟩ := F w mg fa _ KX G.T.g hmg
  exact law_call KX G.T.g G.T.b G.T.builtins G.T.nolimit hg hobj hints (Nat.le_trans hlen hn2) hr hF hb (fun H hO hS => hsp w H a ns hlen hO hS) fun H e s' => hCX w H s₁ e s'
end L2
/- THE LAST THEOREM (shape; LID, My.* are yours):
   My.Adr: a structure of the addresses that your layer names (classes, functions); My.Txt K t: a structure (Prop) of the equations over K;
   My.txt_mk : {K} {implicit addresses ..} (e1 : nsIn K mainGlobals "law" = some (some (.ref f))) (e2 : K.lookup f = some ⟨oc, od, .func (fnOf "law" "law" params body scope dV kV doc pm an cdv ct), sl⟩) (e3 : codeIn K cdv "law" = true) .. : ∃ t, My.Txt K t
set_option maxRecDepth 100000 in
set_option maxHeartbeats 0 in
theorem PySem.Challenge.cw_LID_holds : PySem.Challenge.rw_LID.Holds := by
  w_on; o_law; k_head; (case hw => w_witness2)
  k_fill
  refine L2.walk_of (l := PySem.Challenge.rw_LID) (n := 63) (k := 40) (x := "script") (CX := fun w => ..) (sp := fun _ => My.sp_law) rfl (by decide) rfl ⟨rfl, by decide, by decide⟩ (fun w h Y => PySem.W.kIn_of Y) ?F ?S ?C
  case F =>
    intro w mg fa h KX G hmg
    have T : ∃ t, My.Txt (L2.KOf KX) t := by
      dsimp only [L2.KOf]                          -- K must stand as «<heap const> w.params» for k_is
      refine' My.txt_mk ?e1 ?e2 ?e3 ..
      (case e1 => PySem.W.k_is)                    -- in the order: a name -> its address -> its object -> its parts
      (case e2 => PySem.W.k_is)
      ..
    obtain ⟨t, T⟩ := T
    have e0 := hmg.symm.trans (PySem.W.mg_of KX G T.law)
    cases e0                                       -- fa is the law's own address
    exact ⟨_, fun s u => .of_eq rfl, fun base kb nb => My.law_fn T kb nb⟩     -- if «.of_eq rfl» comes too early: refine' ⟨_, ?b, fun base kb nb => My.law_fn T kb nb⟩; exact fun s u => .of_eq rfl
  case S => exact fun w H a ns hl hO hS => ..
  case C => exact ..
(the tactic k_is has no namespace: write k_is) -/
namespace L2
open PySem PySem.Spec PyProof.Rows
def inClass (s : Stmt) (j : Nat) : Stmt := match s with
  | .ClassDef _ _ _ body _ _ _ _ _ _ _ => body.getD j (.Pass ⟨0, 0, 0, 0⟩)
  | _ => .Pass ⟨0, 0, 0, 0⟩
def defArgs (s : Stmt) : Arguments := match s with
  | .FunctionDef _ a _ _ _ _ _ _ _ _ => a
  | _ => { posonlyargs := [], args := [], vararg := none, kwonlyargs := [], kw_defaults := [], kwarg := none, defaults := [] }
def defBody (s : Stmt) : List Stmt := match s with
  | .FunctionDef _ _ b _ _ _ _ _ _ _ => b
  | _ => []
def defScope (s : Stmt) : Scope := match s with
  | .FunctionDef _ _ _ _ _ _ sc _ _ _ => sc
  | _ => { kind := .function, names := [], isGenerator := false, isCoroutine := false }
abbrev CX0 : CXT := fun _ _ _ _ _ _ => False
abbrev E0 : XK := fun _ _ _ => False
theorem pass0 {X : Cx} : Passes CX0 X E0 := fun _ _ _ _ _ _ _ h => h.elim
structure Fun (K : PySem.W.Frag) (x qual : Str) (st : Stmt) (f : Addr) (fd : FuncData) : Prop where
  ex : ∃ (oc : Value) (od : Option Addr) (kV doc pm : Value) (an : Option Addr) (cdv ct : Value) (osl : Array (Option Value)),
    fd = PySem.W.fnOf x qual (defArgs st) (defBody st) (defScope st) .none kV doc pm an cdv ct ∧ K.lookup f = some ⟨oc, od, .func fd, osl⟩ ∧ PySem.W.codeIn K cdv qual = true
  kp : PySem.W.keepIn K (.ref f) = true
section
variable {P : Program} {w : World} {K : PySem.W.Frag} {mg : Str → Option Value} {base : Heap}
theorem Fun.ok {x qual : Str} {st : Stmt} {f : Addr} {fd : FuncData} {N ps : List Str} {k : Nat} {sp : Sp} (F : Fun K x qual st f fd) (S : FnScope N ps (defScope st)) (len : ∀ vs H Q E, sp vs H Q E → vs.length = ps.length)
    (hbody : ∀ (cdv : Value) (A : Around) (outer : List Env) (s : Shared) (H : Hp) (vs : List V) (Q : VK) (E : XK), Room k (A.deeper (envOfC qual (defScope st) s.heap.objs.size f cdv)) → sp vs H Q E →
      ∃ t, PSs (cxOf CX0 P w K mg base N qual (defScope st) f cdv A outer s H E).nox (defBody st) t ∧ t { nx := fun _ H' => Q .non H', rt := Q } (start N vs) H) : FnOk P w K mg base CX0 (k + 1) f fd ps sp := by
  obtain ⟨oc, od, kV, doc, pm, an, cdv, ct, osl, rfl, lk, hcd⟩ := F.ex
  refine fn_of lk hcd S len fun A outer s H vs Q E hr hsp => ?_
  obtain ⟨t, h, q⟩ := hbody cdv A outer s H vs Q E hr hsp
  exact ⟨t, h.nox, q⟩
theorem Fun.binds {x qual : Str} {st : Stmt} {f : Addr} {fd : FuncData} {ps : List Str} (F : Fun K x qual st f fd)
    (h : ∀ (kV doc pm : Value) (an : Option Addr) (cdv ct : Value) (us : List Value), us.length = ps.length → bindArgs (PySem.W.fnOf x qual (defArgs st) (defBody st) (defScope st) .none kV doc pm an cdv ct) ⟨us, []⟩ = pure (ps.zip us)) : Binds K fd ps [] := by
  obtain ⟨oc, od, kV, doc, pm, an, cdv, ct, osl, rfl, lk, hcd⟩ := F.ex
  exact .all (h kV doc pm an cdv ct)
theorem fun_mk {x qual : Str} {st : Stmt} {f : Addr} {oc : Value} {od an : Option Addr} {osl : Array (Option Value)} {kV doc pm cdv ct : Value} (l : K.lookup f = some ⟨oc, od, .func (PySem.W.fnOf x qual (defArgs st) (defBody st) (defScope st) .none kV doc pm an cdv ct), osl⟩)
    (c : PySem.W.codeIn K cdv qual = true) (k : PySem.W.keepIn K (.ref f) = true) : Fun K x qual st f (PySem.W.fnOf x qual (defArgs st) (defBody st) (defScope st) .none kV doc pm an cdv ct) := ⟨⟨oc, od, kV, doc, pm, an, cdv, ct, osl, rfl, l, c⟩, k⟩
end
theorem small1000 {n : Nat} (h : n ≤ 1000) : n < sizeLine := Nat.lt_of_le_of_lt h (by decide)
section
variable {X : Cx}
theorem pv (i : Nat) {x : Str} {pos : Pos} (hN : X.N[i]? = some x := by rfl) (hv : Vis X.env.scope x := by first | exact Or.inl rfl | exact Or.inr (Or.inl rfl) | exact Or.inr (Or.inr rfl)) (hd : (x == ("__debug__" : Str)) = false := by decide)
    (hcd : (x == ("__classdict__" : Str)) = false := by decide) : PE X (.Name x pos) (tVar i) := pe_var hN hv hd hcd
end
theorem iteF {A B : Prop} (h : B) : if false = true then A else B := by
  rw [if_neg Bool.false_ne_true]
  exact h
theorem iteT {A B : Prop} (h : A) : if true = true then A else B := by
  rw [if_pos rfl]
  exact h
theorem ite2 {c A B : Prop} [Decidable c] (h1 : c → A) (h2 : ¬ c → B) : if c then A else B := by
  by_cases h : c
  · rw [if_pos h]
    exact h1 h
  · rw [if_neg h]
    exact h2 h
def Same (H H' : Hp) : Prop := ∀ b o, H b = some o → H' b = some o
theorem Same.refl (H : Hp) : Same H H := fun _ _ h => h
theorem Same.trans {H H1 H2 : Hp} (a : Same H H1) (b : Same H1 H2) : Same H H2 := fun c o h => b c o (a c o h)
theorem Same.free {H H' : Hp} (e : Same H H') {l : Addr} (h : H' l = Option.none) : H l = Option.none := by
  cases q : H l with
  | none => rfl
  | some o =>
    rw [e l o q] at h
    cases h
theorem Same.seq {K : PySem.W.Frag} {H H' : Hp} {a : Addr} {xs : List V} (e : Same H H') (h : SqL K H a xs) : SqL K H' a xs := by
  rcases h with (h | ⟨o, h⟩) | h
  · exact .inl (.inl (e _ _ h))
  · exact .inl (.inr ⟨o, e _ _ h⟩)
  · exact .inr h
end L2
set_option Elab.async false
set_option maxHeartbeats 4000000
namespace L2
open PySem PySem.Spec PyProof.Rows
section
variable {X : Cx}
theorem call_isi : CallR X (.builtin "isinstance") (fun xs H Q => ∃ x n t b, xs = [x, .ty n] ∧ TyOf X.K H x t ∧ PySem.W.kitOne X.K t (.type n) = some b ∧ Q (.bl b) H) := by
  intro pins s σ H xs us Q I r h
  obtain ⟨x, n, t, b, rfl, ty, e, q⟩ := h
  obtain ⟨u, u', rfl, r1, r2⟩ := vals2 r
  cases (show u' = Value.type n from r2)
  exact isinst_ok I r1 ty e fun tk => ⟨.bl b, H, I.tok tk, rfl, q⟩
theorem call_sum (hc : X.calm = true) : CallR X (.builtin "sum") (fun xs H Q => ∃ (p : Addr) (ns : List Int), xs = [.ref p] ∧ SqL X.K H p (ns.map V.int) ∧ Q (.int ns.sum) H) := by
  intro pins s σ H xs us Q I r h
  obtain ⟨p, ns, rfl, hq, q⟩ := h
  obtain ⟨u, rfl, rx⟩ := vals1 r
  cases (show u = Value.ref p from rx)
  obtain ⟨its, r', pl, hz⟩ := I.list hq
  have hi : IntsAre its ns := intsAre_of r'
  obtain ⟨zs, hx⟩ := hi.allInts.items
  have hn : PySem.numsOf its.toArray.toList = ns := by rw [show its.toArray.toList = its from rfl, hi.numsOf]
  have hl : s.heap.IsList p its.toArray := pl.isList
  rw [hx] at hl hn
  rw [nums_intItems] at hn
  refine sum_intListG (I.ok.hd hc) hl fun h' tk t' hk => ?_
  rw [preSum_eq, List.take_of_length_le (by simp), hn]
  exact ⟨.int ns.sum, H, I.kept (h' := h') (t' := tk) hk, ⟨t', rfl⟩, q⟩
theorem bools_at {bs : List Bool} : ∀ {us : List Value}, Vals (bs.map V.bl) us → us = bs.map Value.bool := by
  induction bs with
  | nil => intro us r; cases r; rfl
  | cons b bs ih =>
    intro us r
    cases r with
    | cons r1 r2 =>
      rw [ih r2]
      rw [show _ = Value.bool b from r1]
      rfl
theorem call_all (hc : X.calm = true) : CallR X (.builtin "all") (fun xs H Q => ∃ (p : Addr) (bs : List Bool), xs = [.ref p] ∧ SqL X.K H p (bs.map V.bl) ∧ Q (.bl (bs.all id)) H) := by
  intro pins s σ H xs us Q I r h
  obtain ⟨p, bs, rfl, hq, q⟩ := h
  obtain ⟨u, rfl, rx⟩ := vals1 r
  cases (show u = Value.ref p from rx)
  obtain ⟨its, r', pl, hz⟩ := I.list hq
  have hb := bools_at r'
  subst hb
  have hl : s.heap.IsList p (bs.map Value.bool).toArray := pl.isList
  refine call_all_walk (wpAny_pyIter_list hl ?_)
  have hne : p ≠ s.heap.objs.size := by
    obtain ⟨_, e, _⟩ := hl
    exact Nat.ne_of_lt (Heap.lt_size e)
  refine ⟨_, _, _, _, _, _, fun i => bs.getD i true, rfl, Walks.list (A := X.A.in1) (I.ok.hd hc) s.heap.objs.size p hne (bs.map Value.bool).toArray, ⟨⟨_, Heap.get?_push_size _ rfl, rfl, rfl⟩, hl.at fun o e => Heap.get?_push_of_some _ e⟩, ?_, fun h' tk hk => ?_⟩
  · intro i v s' Q' E' hP hQ'
    have e : bs[i]?.map Value.bool = some v := by simpa using hP
    cases e1 : bs[i]? with
    | none => rw [e1] at e; cases e
    | some b =>
      rw [e1] at e
      cases e
      refine wpAny_truthy_bool ?_
      have : bs.getD i true = b := by simp [List.getD, e1]
      rw [← this]; exact hQ'
  · have e : ((List.range (bs.map Value.bool).toArray.size).all fun i => bs.getD i true) = bs.all id := by
      simp only [List.size_toArray, List.length_map]
      rw [Bool.eq_iff_iff]
      simp only [List.all_eq_true, List.mem_range, id]
      constructor
      · intro h b hb
        obtain ⟨i, hi, rfl⟩ := List.mem_iff_getElem.mp hb
        simpa [List.getD, List.getElem?_eq_getElem hi] using h i hi
      · intro h i hi
        simpa [List.getD, List.getElem?_eq_getElem hi] using h _ (List.getElem_mem hi)
    rw [e]
    refine ⟨.bl (bs.all id), H, I.kept (h' := h') (t' := tk) (fun b o x => hk b o (fun z => ?_) (Heap.get?_push_of_some _ x)), rfl, q⟩
    have : b = s.heap.objs.size := by simpa using z
    exact absurd (this ▸ Heap.lt_size x) (Nat.lt_irrefl _)
theorem ints_eqAt {A : Around} {s : Shared} {ns ms : List Int} {us ws : List Value} (r : Vals (ns.map V.int) us) (r' : Vals (ms.map V.int) ws) :
    ∀ j (h1 : j < us.toArray.size) (h2 : j < ws.toArray.size), SeqAt.EqAt A s us.toArray[j] ws.toArray[j] (decide (ns[j]? = ms[j]?)) := by
  intro j h1 h2
  have l1 := r.length
  have l2 := r'.length
  simp only [List.size_toArray] at h1 h2
  simp only [List.length_map] at l1 l2
  obtain ⟨u, e1, t, e2⟩ := r.get (i := j) (x := .int (ns[j]'(by omega))) (by simp)
  obtain ⟨w, f1, t', f2⟩ := r'.get (i := j) (x := .int (ms[j]'(by omega))) (by simp)
  subst e2 f2
  have g1 : us.toArray[j] = Value.int (ns[j]'(by omega)) t := by
    rw [List.getElem?_eq_getElem h1] at e1
    simpa using Option.some.inj e1
  have g2 : ws.toArray[j] = Value.int (ms[j]'(by omega)) t' := by
    rw [List.getElem?_eq_getElem h2] at f1
    simpa using Option.some.inj f1
  rw [g1, g2, List.getElem?_eq_getElem (by omega : j < ns.length), List.getElem?_eq_getElem (by omega : j < ms.length)]
  have := SeqAt.EqAt.int_int (A := A) (s := s) (ns[j]'(by omega)) t (ms[j]'(by omega)) t'
  rw [show (decide (some (ns[j]'(by omega)) = some (ms[j]'(by omega)))) = (ns[j]'(by omega) == ms[j]'(by omega)) by
    rw [Bool.beq_eq_decide_eq]; simp]
  exact this
theorem all_same {ns ms : List Int} (h : ns.length = ms.length) : ((List.range ns.length).all fun j => decide (ns[j]? = ms[j]?)) = decide (ns = ms) := by
  rw [Bool.eq_iff_iff]
  simp only [List.all_eq_true, List.mem_range, decide_eq_true_eq]
  constructor
  · intro q
    refine List.ext_getElem? fun i => ?_
    by_cases hi : i < ns.length
    · exact q i hi
    · rw [List.getElem?_eq_none (by omega), List.getElem?_eq_none (by omega)]
  · rintro rfl i _; rfl
theorem op_eqL (hu : X.A.units < cLine) : OpR X (compareOp .Eq) (fun x y H Q => ∃ (p q : Addr) (ns ms : List Int), x = .ref p ∧ y = .ref q ∧ SqL X.K H p (ns.map V.int) ∧ SqL X.K H q (ms.map V.int) ∧ Q (.bl (decide (ns = ms))) H) := by
  intro pins s σ H x y v u Q I rx ry h
  obtain ⟨p, q, ns, ms, rfl, rfl, hp, hq, k⟩ := h
  cases (show v = Value.ref p from rx)
  cases (show u = Value.ref q from ry)
  obtain ⟨its, r, pl, _⟩ := I.list hp
  obtain ⟨its', r', pl', _⟩ := I.list hq
  have l1 := r.length
  have l2 := r'.length
  simp only [List.length_map] at l1 l2
  by_cases e : ns.length = ms.length
  · refine SeqAt.eq_listAt pl.isList pl'.isList (by simp only [List.size_toArray]; omega) hu (ints_eqAt r r') ⟨.bl _, H, I, rfl, ?_⟩
    rw [List.size_toArray, ← l1, all_same e]
    exact k
  · refine SeqAt.eq_list_lengthsAt pl.isList pl'.isList (by simp only [List.size_toArray, bne_iff_ne]; omega) hu ⟨.bl _, H, I, rfl, ?_⟩
    rw [decide_eq_false (fun z => e (congrArg List.length z))] at k
    exact k
theorem op_neL (hu : X.A.units < cLine) : OpR X (compareOp .NotEq) (fun x y H Q => ∃ (p q : Addr) (ns ms : List Int), x = .ref p ∧ y = .ref q ∧ SqL X.K H p (ns.map V.int) ∧ SqL X.K H q (ms.map V.int) ∧ Q (.bl (!decide (ns = ms))) H) := by
  intro pins s σ H x y v u Q I rx ry h
  obtain ⟨p, q, ns, ms, rfl, rfl, hp, hq, k⟩ := h
  cases (show v = Value.ref p from rx)
  cases (show u = Value.ref q from ry)
  obtain ⟨its, r, pl, _⟩ := I.list hp
  obtain ⟨its', r', pl', _⟩ := I.list hq
  have l1 := r.length
  have l2 := r'.length
  simp only [List.length_map] at l1 l2
  by_cases e : ns.length = ms.length
  · refine SeqAt.RcNeAt.lists pl.isList pl'.isList (by simp only [List.size_toArray]; omega) hu (ints_eqAt r r') X.prog X.w X.xe _ ⟨.bl _, H, I, rfl, ?_⟩
    rw [List.size_toArray, ← l1, all_same e]
    exact k
  · refine SeqAt.RcNeAt.lists_lengths pl.isList pl'.isList (by simp only [List.size_toArray, bne_iff_ne]; omega) hu X.prog X.w X.xe _ ⟨.bl _, H, I, rfl, ?_⟩
    rw [decide_eq_false (fun z => e (congrArg List.length z))] at k
    exact k
end
end L2
set_option Elab.async false
set_option maxHeartbeats 4000000
namespace L2
open PySem PySem.Spec PyProof.Rows
theorem closure_go (env : Env) : ∀ (ns : List (Str × NameKind)) (cs : List (Str × Addr)), (∀ y ∈ ns, y.2 = .free → ∃ c, env.cells.lookup y.1 = some c) → (∀ x c, cs.lookup x = some c → env.cells.lookup x = some c) →
    ∃ cl, (forIn ns cs (fun (p : Str × NameKind) (r : List (Str × Addr)) => if (p.2 == NameKind.free) = true then (do let a ← cellOf env p.1; pure (ForInStep.yield ((p.1, a) :: r)) : Sem _) else pure (ForInStep.yield r)) : Sem (List (Str × Addr))) = pure cl ∧
      (∀ x c, cl.lookup x = some c → env.cells.lookup x = some c) ∧ (∀ x c, cs.lookup x = some c → ∃ c', cl.lookup x = some c') ∧ ∀ y ∈ ns, y.2 = .free → ∃ c, cl.lookup y.1 = some c
  | [], cs, _, hcs => ⟨cs, rfl, hcs, fun x c e => ⟨c, e⟩, fun y hy => nomatch hy⟩
  | (n, k) :: ns, cs, h, hcs => by
    by_cases hk : k = .free
    · subst hk
      obtain ⟨c, hc⟩ := h (n, .free) (List.mem_cons_self ..) rfl
      have hc' : ∀ x d, ((n, c) :: cs).lookup x = some d → env.cells.lookup x = some d := fun x d e => by
        rw [List.lookup_cons] at e
        cases q : x == n with
        | true =>
          rw [q] at e
          have : x = n := by simpa using q
          subst this
          cases e
          exact hc
        | false =>
          rw [q] at e
          exact hcs x d e
      obtain ⟨cl, e1, e2, e3, e4⟩ := closure_go env ns ((n, c) :: cs) (fun y hy => h y (List.mem_cons_of_mem _ hy)) hc'
      refine ⟨cl, ?_, e2, fun x d e => ?_, fun y hy hf => ?_⟩
      · rw [List.forIn_cons]
        have : cellOf env n = pure c := by unfold cellOf; rw [hc]
        simp only [this, beq_self_eq_true, if_true]
        exact e1
      · cases q : x == n with
        | true =>
          exact e3 x c (by rw [List.lookup_cons, q])
        | false => exact e3 x d (by rw [List.lookup_cons, q]; exact e)
      · rcases List.mem_cons.mp hy with z | z
        · subst z
          exact e3 n c (by rw [List.lookup_cons, beq_self_eq_true])
        · exact e4 y z hf
    · obtain ⟨cl, e1, e2, e3, e4⟩ := closure_go env ns cs (fun y hy => h y (List.mem_cons_of_mem _ hy)) hcs
      refine ⟨cl, ?_, e2, e3, fun y hy hf => ?_⟩
      · rw [List.forIn_cons]
        have : (k == NameKind.free) = false := by simpa using hk
        simp only [this, Bool.false_eq_true, if_false]
        exact e1
      · rcases List.mem_cons.mp hy with z | z
        · subst z; exact absurd hf hk
        · exact e4 y z hf
theorem closure_ok {scope : Scope} {env : Env} (h : ∀ y ∈ scope.names, y.2 = .free → ∃ c, env.cells.lookup y.1 = some c) :
    ∃ cl, closureFor scope env = pure cl ∧ (∀ x c, cl.lookup x = some c → env.cells.lookup x = some c) ∧ ∀ y ∈ scope.names, y.2 = .free → ∃ c, cl.lookup y.1 = some c := by
  obtain ⟨cl, e1, e2, _, e4⟩ := closure_go env scope.names [] h (fun x c e => by simp at e)
  refine ⟨cl, ?_, e2, e4⟩
  show ((forIn scope.names ([] : List (Str × Addr)) (fun (p : Str × NameKind) (r : List (Str × Addr)) => if (p.2 == NameKind.free) = true then (do let a ← cellOf env p.1; pure (ForInStep.yield ((p.1, a) :: r)) : Sem _) else pure (ForInStep.yield r)) : Sem (List (Str × Addr))) >>= fun r => pure r) = pure cl
  rw [e1]
  rfl
theorem relabel_free {env : Env} {y : Str} : ∀ {names : List (Str × NameKind)}, names.lookup y = some .free →
    (names.map fun (n, k) => if (k == NameKind.free && env.scope.kind == .function && env.kindOf n == some .cell) then (n, NameKind.cell) else (n, k)).lookup y = some .cell ∨
    (names.map fun (n, k) => if (k == NameKind.free && env.scope.kind == .function && env.kindOf n == some .cell) then (n, NameKind.cell) else (n, k)).lookup y = some .free
  | [], h => by simp at h
  | (n, k) :: r, h => by
    have ih := relabel_free (env := env) (y := y) (names := r)
    rw [List.lookup_cons] at h
    rw [List.map_cons]
    dsimp only
    cases q : y == n with
    | true =>
      rw [q] at h
      cases h
      split
      · exact .inl (by rw [List.lookup_cons, q])
      · exact .inr (by rw [List.lookup_cons, q])
    | false =>
      rw [q] at h
      split
      · rw [List.lookup_cons, q]; exact ih h
      · rw [List.lookup_cons, q]; exact ih h
theorem relabel_back {env : Env} {y : Str} {k' : NameKind} (hk' : k' = .cell ∨ k' = .free) : ∀ {names : List (Str × NameKind)}, (∀ p ∈ names, p.2 ≠ .cell) →
    (names.map fun (n, k) => if (k == NameKind.free && env.scope.kind == .function && env.kindOf n == some .cell) then (n, NameKind.cell) else (n, k)).lookup y = some k' → (y, NameKind.free) ∈ names
  | [], _, h => by simp at h
  | (n, k) :: r, hn, h => by
    have ih := relabel_back (env := env) (y := y) hk' (names := r) fun p hp => hn p (List.mem_cons_of_mem _ hp)
    rw [List.map_cons] at h
    dsimp only at h
    split at h
    · rename_i c
      rw [List.lookup_cons] at h
      cases q : y == n with
      | true =>
        have e : y = n := by simpa using q
        have : k = .free := by
          rw [Bool.and_eq_true, Bool.and_eq_true] at c
          simpa using c.1.1
        subst e this
        exact List.mem_cons_self ..
      | false => rw [q] at h; exact List.mem_cons_of_mem _ (ih h)
    · rw [List.lookup_cons] at h
      cases q : y == n with
      | true =>
        rw [q] at h
        have e : y = n := by simpa using q
        have e2 : k = k' := Option.some.inj h
        subst e e2
        have := hn (y, k) (List.mem_cons_self ..)
        rcases hk' with z | z
        · exact absurd z this
        · rw [z]; exact List.mem_cons_self ..
      | false => rw [q] at h; exact List.mem_cons_of_mem _ (ih h)
theorem lookup_mem {y : Str} {k : NameKind} : ∀ {l : List (Str × NameKind)}, l.lookup y = some k → (y, k) ∈ l
  | [], h => by simp at h
  | (n, k') :: r, h => by
    rw [List.lookup_cons] at h
    cases q : y == n with
    | true =>
      rw [q] at h
      have e : y = n := by simpa using q
      cases h
      subst e
      exact List.mem_cons_self ..
    | false => rw [q] at h; exact List.mem_cons_of_mem _ (lookup_mem h)
def compCx (X : Cx) (NC : List Str) (scope : Scope) (cl : List (Str × Addr)) (C : Addr) (s : Shared) (H : Hp) (fp : List Addr) : Cx :=
  { X with N := NC, s₀ := s, H₀ := H, env := compEnvC scope cl C X.env, outer := X.stack, stack := X.stack, ex := fp, fn := fun _ => false, pn := [], xe := fun _ _ => False }
inductive Frees (X : Cx) (scope : Scope) : List Str → List Nat → Prop
  | nil : Frees X scope [] []
  | cons {y : Str} {i : Nat} {fr : List Str} {ρ : List Nat} (hN : X.N[i]? = some y) (hl : scope.names.lookup y = some .free) (hk : X.env.kindOf y = some .cell ∨ X.env.kindOf y = some .free) (r : Frees X scope fr ρ) : Frees X scope (y :: fr) (i :: ρ)
theorem Frees.len {X : Cx} {scope : Scope} {fr : List Str} {ρ : List Nat} (h : Frees X scope fr ρ) : fr.length = ρ.length := by
  induction h with
  | nil => rfl
  | cons _ _ _ _ ih => simp [ih]
theorem Frees.at {X : Cx} {scope : Scope} {fr : List Str} {ρ : List Nat} (h : Frees X scope fr ρ) : ∀ (j : Nat) (y : Str), fr[j]? = some y → ∃ i, ρ[j]? = some i ∧ X.N[i]? = some y ∧ scope.names.lookup y = some .free ∧ (X.env.kindOf y = some .cell ∨ X.env.kindOf y = some .free) := by
  induction h with
  | nil => intro j y e; simp at e
  | @cons y i fr ρ hN hl hk r ih =>
    intro j z e
    cases j with
    | zero =>
      have : y = z := by simpa using e
      subst this
      exact ⟨i, rfl, hN, hl, hk⟩
    | succ j => exact ih j z (by simpa using e)
theorem Frees.mem {X : Cx} {scope : Scope} {fr : List Str} {ρ : List Nat} (h : Frees X scope fr ρ) (y : Str) (hy : y ∈ fr) : X.env.kindOf y = some .cell ∨ X.env.kindOf y = some .free := by
  obtain ⟨j, hj, e⟩ := List.mem_iff_getElem.mp hy
  obtain ⟨i, _, _, _, k⟩ := h.at j y (by rw [← e]; simp)
  exact k
def takes (σ : St) (ρ : List Nat) : St := ρ.map fun i => (σ[i]?).getD none
def PF (X : Cx) (ifs : List Expr) (t : TT) : Prop :=
  ∀ (pins : List (Addr × Obj)) (s : Shared) (σ : St) (H : Hp) (Q : Bool → Hp → Prop), Inv X pins σ H s → t σ H Q →
    wpAny (model X.prog X.w) X.A (forIn ifs true fun c r => if r = true then do let ok ← isTrue c X.env (eval c X.env); pure (ForInStep.yield ok) else pure (ForInStep.yield r)) (TP X pins σ Q) X.xe s
theorem pf_nil {X : Cx} : PF X [] (fun _ H Q => Q true H) := fun _ _ _ H _ I h => wpAny_tests_nil ⟨H, I, h⟩
def tCompTurn (J : It) (tt : TT) (te : TE) (fs : St) (D : Addr) (R : Hp → Prop) : Hp → Prop := fun H1 =>
  ∃ W : Nat → Nat → List V → Hp → Prop, (∃ m, W 0 m [] (upd H1 D (.lst []))) ∧ ∀ i m acc H, W i m acc H → H D = some (.lst acc) ∧
    ((J.stop i H ∧ R H) ∨ (J.go i H ∧ ∀ y H', J.yld i H y H' → tt (some y :: fs) H' fun b H2 =>
      if b = true then te (some y :: fs) H2 fun z H3 => H3 D = some (.lst acc) ∧ acc.length < sizeLine ∧ ∃ m', m' < m ∧ W (i + 1) m' (acc ++ [z]) (upd H3 D (.lst (acc ++ [z])))
      else ∃ m', m' < m ∧ W (i + 1) m' acc H2))
def tComp (ρ : List Nat) (wi : TI) (tt : TT) (te : TE) : TE := fun σ H Q => wi σ H fun J H1 => ∀ D, H1 D = none → tCompTurn J tt te (takes σ ρ) D (Q (.ref D)) H1
theorem comp_core {X : Cx} {x : Str} {px pos : Pos} {elt iter : Expr} {ifs : List Expr} {scope : Scope} {fr : List Str} {ρ : List Nat} {tt : TT} {te : TE} {J : It} {it : Addr} {fp : List Addr} {tn : Nat → Heap → Prop}
    {pins : List (Addr × Obj)} {s2 : Shared} {σ : St} {H2 : Hp} {cl : List (Str × Addr)} {R : Addr → Hp → Prop} {RR : Value → Addr → Result → Shared → Prop} {E : Value → Shared → Prop}
    (hc : X.calm = true) (hk : scope.kind = .function) (hcl : ∀ y ∈ scope.names, y.2 ≠ .cell) (hx : scope.names.lookup x = some .local) (hnd : (x :: fr).Nodup) (hfr : Frees X scope fr ρ) (hall : ∀ y ∈ scope.names, y.2 = .free → y.1 ∈ fr)
    (cl1 : ∀ x c, cl.lookup x = some c → X.env.cells.lookup x = some c) (cl2 : ∀ y ∈ scope.names, y.2 = .free → ∃ c, cl.lookup y.1 = some c)
    (hb1 : ∀ cl C s0 H0 ex, PF (compCx X (x :: fr) scope cl C s0 H0 ex) ifs tt) (hb2 : ∀ cl C s0 H0 ex, PE (compCx X (x :: fr) scope cl C s0 H0 ex) elt te)
    (I2 : Inv X pins σ H2 s2) (T : Turn X.prog X.w X.K (.Name x px) J fp it tn) (st2 : tn 0 s2.heap) (f2 : ∀ b ∈ fp, FpOk X pins H2 b)
    (h : ∀ D, H2 D = none → tCompTurn J tt te (takes σ ρ) D (R D) H2)
    (hRR : ∀ D C H' s' m, s'.heap.Ns C m → Inv X pins σ H' s' → FpOk X pins H' C → R D H' → RR (.ref D) C (.ok .next) s') :
    wpAny (model X.prog X.w) X.A (newList []) (fun acc s₃ => wpAny (model X.prog X.w) X.A (newFunctionEnv scope X.env.globals cl [] X.env.qual none .none (some X.env)) (fun cenv s₄ =>
      codeAny (model X.prog X.w) X.A (.compStart (.ListComp elt [⟨.Name x px, iter, ifs, 0⟩] scope pos) 0 (.ref it) acc { cenv with scope := relabel scope X.env }) (RR acc cenv.locals) s₄) E s₃) E s2 := by
  refine wpAny_newObj_type (wpAny_newFunctionEnv hcl (by intro y hy; simp at hy) (fun h₁ hns₁ hsb₁ => ?_) hk)
  dsimp only at hns₁ hsb₁ ⊢
  have I3 : Inv X pins σ (upd H2 s2.heap.objs.size (.lst [])) { s2 with heap := s2.heap.push { cls := .type "list", dict := none, data := .seq ([] : List Value).toArray } } := I2.lnew (t' := s2.toks) (ys := []) (its := []) .nil (Nat.zero_le _)
  have hD := h s2.heap.objs.size I2.fresh
  have z3 : (s2.heap.push { cls := .type "list", dict := none, data := .seq ([] : List Value).toArray }).objs.size = s2.heap.objs.size + 1 := Heap.size_push ..
  have k3 : ∀ b o, s2.heap.get? b = some o → (s2.heap.push { cls := .type "list", dict := none, data := .seq ([] : List Value).toArray }).get? b = some o := fun b o e => Heap.get?_push_of_some _ e
  generalize s2.heap.push { cls := .type "list", dict := none, data := .seq ([] : List Value).toArray } = h3 at I3 z3 k3 hns₁ hsb₁ ⊢
  generalize hDD : s2.heap.objs.size = D at I3 hD z3 ⊢
  generalize hH3 : upd H2 D (.lst []) = H3 at I3
  have old : ∀ b o, h3.get? b = some o → h₁.get? b = some o := fun b o e => hsb₁.extBut b o (Nat.ne_of_lt (Heap.lt_size e)) (Heap.get?_push_of_some _ e)
  have lt2 : ∀ b ∈ fp, b < D := fun b hb => by
    obtain ⟨o, e, _⟩ := T.obj 0 _ st2 b hb
    rw [← hDD]
    exact Heap.lt_size e
  have lt3 : ∀ b ∈ fp, b < h3.objs.size := fun b hb => Nat.lt_of_lt_of_le (lt2 b hb) (by rw [z3]; exact Nat.le_succ _)
  have fr3 : ∀ b ∈ fp, H3 b = none := fun b hb => by rw [← hH3, upd_ne (Nat.ne_of_lt (lt2 b hb))]; exact (f2 b hb).1
  have stk : ∀ b ∈ fp, b ∉ frs X.stack := fun b hb z => (List.mem_cons.mp (I2.stkSub b z)).elim (f2 b hb).2.1 (f2 b hb).2.2.1
  have cel : ∀ x c, cl.lookup x = some c → ∀ b ∈ fp, c ≠ b := fun x c e b hb => (f2 b hb).2.2.2.2.1 x c (cl1 x c e)
  have okC : (compCx X (x :: fr) scope cl h3.objs.size { s2 with heap := h3 } H3 fp).Ok := by
    refine ⟨I2.ok.mod, hk, I2.ok.glob, I2.ok.blt, Nat.le_refl _, fun a b c e1 e2 => I2.ok.inj a b c (cl1 a c e1) (cl1 b c e2), fun y hy => ?_, fun _ _ q => (nomatch q), I2.ok.hd, I2.ok.frames, .inl rfl, fun b hb => ⟨Nat.ne_of_lt (lt3 b hb), fun y c e => cel y c e b hb⟩,
      I3.bs, Nat.le_trans I2.ok.bsz I3.sz, fun b o e hb => ?_, stk, I3.stack, I3.stkFree⟩
    · rcases hy with hy | hy
      · exact cl2 (y, .free) (relabel_back (.inl rfl) hcl hy) rfl
      · exact cl2 (y, .free) (relabel_back (.inr rfl) hcl hy) rfl
    · rcases (f2 b hb).2.2.2.1 with z | z
      · exact I2.ok.noex b o e z
      · exact absurd (Nat.lt_of_lt_of_le (Heap.lt_size (I2.ok.bs b o e).1) z) (Nat.lt_irrefl _)
  have I4 : Inv (compCx X (x :: fr) scope cl h3.objs.size { s2 with heap := h3 } H3 fp) [] (none :: takes σ ρ) H3 { s2 with heap := h₁, toks := s2.toks + ([] : List (Str × Value)).length } := by
    refine ⟨okC, rfl, I3.bare, Un.kept old, ⟨_, hns₁, fun i y v e1 e2 e3 => ?_⟩, fun y c e => ?_, I3.hok.fresh (Nat.le_refl _), fun y c e => I3.freeC y c (cl1 y c e), fun p hp => (nomatch hp), I3.hok.kept old, by simp [takes, compCx, hfr.len]⟩
    · cases i with
      | zero => simp at e2
      | succ j =>
        obtain ⟨i', r1, r2, r3, r4⟩ := hfr.at j y (by simpa [compCx] using e1)
        have e2' : (σ[i']?).getD none = some v := by simpa [takes, r1] using e2
        have e2'' : σ[i']? = some (some v) := by
          cases q : σ[i']? with
          | none => rw [q] at e2'; cases e2'
          | some o => rw [q] at e2'; exact congrArg some e2'
        obtain ⟨m, hn, hl⟩ := I3.loc
        have vis : Vis X.env.scope y := by rcases r4 with r4 | r4; exact .inr (.inl r4); exact .inr (.inr r4)
        obtain ⟨u, ru, lk⟩ := hl i' y v r2 e2'' vis
        refine ⟨u, ru, .inr ⟨relabel_free r3, ?_⟩⟩
        rcases lk with ⟨k, _⟩ | ⟨_, c, hc', q⟩
        · rcases r4 with r4 | r4 <;> (rw [k] at r4; cases r4)
        · have hm : (y, NameKind.free) ∈ scope.names := lookup_mem r3
          obtain ⟨c', hc''⟩ := cl2 _ hm rfl
          have := (cl1 _ _ hc'').symm.trans hc'
          cases this
          obtain ⟨o, ho, hd⟩ := q
          exact ⟨c, hc'', o, old _ _ ho, hd⟩
    · obtain ⟨v, o, ho, hd⟩ := I3.cell y c (cl1 y c e)
      exact ⟨v, o, old _ _ ho, hd⟩
  have st4 : tn 0 h₁ := T.keep 0 _ _ st2 fun b hb o e => old b o (k3 b o e)
  have stat : ∀ {H' : Hp}, (∀ b ∈ fp, H' b = none) → ∀ b ∈ fp, FpOk (compCx X (x :: fr) scope cl h3.objs.size { s2 with heap := h3 } H3 fp) [] H' b := fun hn b hb =>
    ⟨hn b hb, Nat.ne_of_lt (lt3 b hb), stk b hb, .inl hb, fun y c e => cel y c e b hb, fun p hp => (nomatch hp)⟩
  have hxl : (relabel scope X.env).names.lookup x = some .local := lookup_relabel_local hx
  obtain ⟨W, ⟨m0, w0⟩, turn⟩ := hD
  rw [hH3] at w0
  have loop : ∀ s4 : Shared, s4 = { s2 with heap := h₁, toks := s2.toks + ([] : List (Str × Value)).length } →
      codeAny (model X.prog X.w) X.A (.compLoop (.ListComp elt [⟨.Name x px, iter, ifs, 0⟩] scope pos) 0 (.ref it) (.ref D) (compEnvC scope cl h3.objs.size X.env)) (RR (.ref D) h3.objs.size) s4 := by
    rintro s4 rfl
    refine codeAny_compLoop_tests (fun n s' => ∃ i acc σ' H', Inv (compCx X (x :: fr) scope cl h3.objs.size { s2 with heap := h3 } H3 fp) [] σ' H' s' ∧ σ'.drop 1 = takes σ ρ ∧ tn i s'.heap ∧ (∀ b ∈ fp, H' b = none) ∧ W i n acc H') ?_ m0 ⟨0, [], _, _, I4, rfl, st4, fr3, w0⟩
    rintro n s5 ⟨i, acc, σ5, H5, I5, dr5, st5, fr5, w5⟩
    obtain ⟨hacc, alt⟩ := turn i n acc H5 w5
    rcases alt with ⟨stop, q⟩ | ⟨go, step⟩
    · refine wpAny_mono (T.done (compCx X (x :: fr) scope cl h3.objs.size { s2 with heap := h3 } H3 fp) rfl rfl rfl hc i [] s5 σ5 H5 (fun _ _ => False) I5 (stat fr5) st5 stop) (fun r s6 q6 => ?_) fun _ _ z => z.elim
      obtain ⟨hr, I6⟩ := q6
      subst hr
      obtain ⟨m6, hn6, _⟩ := I6.loc
      refine hRR _ _ H5 s6 m6 hn6 (I3.call' (ch := fp) I6.os I6.base I6.hok I6.bare fun b hb => ⟨(f2 b hb).2.2.2.1, (f2 b hb).2.1, (f2 b hb).2.2.2.2.1, (f2 b hb).2.2.2.2.2⟩) (I3.fpOk (Nat.le_refl _) I6.free) q
    · refine wpAny_mono (T.item (compCx X (x :: fr) scope cl h3.objs.size { s2 with heap := h3 } H3 fp) rfl rfl rfl hc i [] s5 σ5 H5 (fun _ _ => False) I5 (stat fr5) st5 go) (fun r s6 q6 => ?_) fun _ _ z => z.elim
      obtain ⟨u, hr, h6⟩ := q6
      subst hr
      dsimp only
      refine wpAny_bind (m := letOwnedTupleGo (.Name x px) (.ref it) u) (f := fun _ => assign (.Name x px) (compEnvC scope cl h3.objs.size X.env) u) (wpAny_mono h6 (fun _ s7 q7 => ?_) fun _ _ z => z.elim)
      obtain ⟨y, H7, I7, r7, y7, st7, fr7⟩ := q7
      have I7' := I7.pinned (stat fr7) (T.obj _ _ st7)
      refine wpAny_mono (pg_name (X := compCx X (x :: fr) scope cl h3.objs.size { s2 with heap := h3 } H3 fp) (i := 0) hnd rfl (.inl hxl) (.inr hxl) _ s7 σ5 H7 y u (fun σ8 H8 => σ8 = some y :: takes σ ρ ∧ H8 = H7) I7' r7 ?_) (fun _ s8 q8 => ?_) fun _ _ z => z.elim
      · refine ⟨?_, rfl⟩
        have l5 := I5.len
        cases σ5 with
        | nil => simp [compCx] at l5
        | cons a r =>
          have : r = takes σ ρ := by simpa using dr5
          subst this
          rfl
      obtain ⟨σ8, H8, I8, e8, e8'⟩ := q8
      subst e8 e8'
      have back : ∀ {H9 : Hp} {s9 : Shared} {acc' : List V} {m' : Nat}, Inv (compCx X (x :: fr) scope cl h3.objs.size { s2 with heap := h3 } H3 fp) ([] ++ pinsAt fp s7.heap) (some y :: takes σ ρ) H9 s9 → m' < n → W (i + 1) m' acc' H9 →
          ∃ m, m < n ∧ ∃ i acc σ' H', Inv (compCx X (x :: fr) scope cl h3.objs.size { s2 with heap := h3 } H3 fp) [] σ' H' s9 ∧ σ'.drop 1 = takes σ ρ ∧ tn i s9.heap ∧ (∀ b ∈ fp, H' b = none) ∧ W i m acc H' := fun {H9 s9 acc' m'} I9 lt w9 => by
        have pn : ∀ b ∈ fp, ∀ o, s7.heap.get? b = some o → s9.heap.get? b = some o ∧ H9 b = none := fun b hb o e => by
          have z := I9.pin (b, o) (List.mem_append_right _ (List.mem_append_right _ (mem_pinsAt hb e)))
          exact ⟨z.1, z.2.1⟩
        refine ⟨m', lt, i + 1, acc', _, H9, I9.unpinned, rfl, T.keep _ _ _ st7 fun b hb o e => (pn b hb o e).1, fun b hb => ?_, w9⟩
        obtain ⟨o, e, _⟩ := T.obj _ _ st7 b hb
        exact (pn b hb o e).2
      refine wpAny_mono (hb1 cl h3.objs.size _ H3 fp _ s8 _ H8 _ I8 (step y H8 y7)) (fun ok s9 q9 => ?_) fun _ _ z => z.elim
      obtain ⟨H9, I9, q9⟩ := q9
      cases ok with
      | false =>
        obtain ⟨m', lt, w9⟩ := q9
        exact back I9 lt w9
      | true =>
        refine wpAny_mono (hb2 cl h3.objs.size _ H3 fp _ s9 _ H9 _ I9 q9) (fun z s10 q10 => ?_) fun _ _ z => z.elim
        obtain ⟨zv, H10, I10, rz, e10, lz, m', lt, w10⟩ := q10
        refine wpAny_mono (mt_append (X := compCx X (x :: fr) scope cl h3.objs.size { s2 with heap := h3 } H3 fp) _ s10 _ H10 (.ref D) [zv] (.ref D) [z] (fun _ H11 => H11 = upd H10 D (.lst (acc ++ [zv]))) I10 rfl (.cons rz .nil) ⟨D, acc, zv, rfl, rfl, e10, lz, rfl⟩) (fun _ s11 q11 => ?_) fun _ _ z => z.elim
        obtain ⟨_, H11, I11, _, e11⟩ := q11
        subst e11
        exact back I11 lt w10
  exact codeAny_compStart_list (loop _ rfl) (T.self X.A 0 _ _ _ st4 (loop _ rfl))
theorem pe_comp {X : Cx} {x : Str} {px pos : Pos} {elt iter : Expr} {ifs : List Expr} {scope : Scope} {fr : List Str} {ρ : List Nat} {tt : TT} {te : TE} {wi : TI}
    (hc : X.calm = true) (hk : scope.kind = .function) (hcl : ∀ y ∈ scope.names, y.2 ≠ .cell) (hnm : ∀ y ∈ scope.names, y.2 = .local → scope.names.lookup y.1 = some .local) (hx : scope.names.lookup x = some .local) (hnd : (x :: fr).Nodup)
    (hfr : Frees X scope fr ρ) (hall : ∀ y ∈ scope.names, y.2 = .free → y.1 ∈ fr) (hi : PI X (.Name x px) iter wi)
    (hb1 : ∀ cl C s0 H0 ex, PF (compCx X (x :: fr) scope cl C s0 H0 ex) ifs tt) (hb2 : ∀ cl C s0 H0 ex, PE (compCx X (x :: fr) scope cl C s0 H0 ex) elt te)
    (hs : ∀ v, foldedSetIterable iter X.env v = pure v := by intro _; rfl) : PE X (.ListComp elt [⟨.Name x px, iter, ifs, 0⟩] scope pos) (tComp ρ wi tt te) := by
  intro pins s σ H Q I h
  obtain ⟨cl, e1, c1, c2⟩ := closure_ok (scope := scope) (env := X.env) fun y hy hf => I.ok.has y.1 (hfr.mem y.1 (hall y hy hf))
  rw [eval_ListComp]
  refine wpAny_comprehension_free (use := none) rfl hs e1 hk hnm ?_
  refine thn (hi pins s σ H _ I h) fun v s1 h1 => thn h1 fun itv s2 h2 => ?_
  obtain ⟨it, fp, tn, J, H2, e, I2, T, st2, f2, q⟩ := h2
  subst e
  refine comp_core (RR := fun acc C => compPost _ _ X.xe none (EP X pins σ Q) acc C) hc hk hcl hx hnd hfr hall c1 c2 hb1 hb2 I2 T st2 f2 (R := fun D => Q (.ref D)) q ?_
  intro D C H' s' m hn I' fC r
  exact ⟨m, hn, fun h' hs' => ⟨.ref D, H', I'.turned (t' := s'.toks) (fun b o hb e => (hs'.2 b hb).trans e) fC.1 fC.2.1 fC.2.2.2.1 fC.2.2.2.2.1 fC.2.2.2.2.2, rfl, r⟩⟩
end L2
set_option maxRecDepth 100000
set_option Elab.async false
namespace L2
open PySem
section
variable {prog : Program} {w : World} {A : Around} {E : Value → Shared → Prop} {s : Shared}
theorem typeCall_kw {T newId initId : String} {Bn Bi : Builtin} {args : List Value} {kw : List (Str × Value)} {S : Spec} {Q Q₁ : Value → Shared → Prop} (ft : TypeCalled T newId initId)
    (c1 : checkTypeCall T ⟨args, kw⟩ = pure ()) (c2 : checkBuiltinCall newId ⟨.type T :: args, kw⟩ = pure ())
    (e1 : entryFor table newId = some Bn) (e2 : entryFor table initId = some Bi) (g : Meets (Bn ⟨.type T :: args, kw⟩) S)
    (h : S A.in1 (wants Q₁ E) s)
    (next : ∀ obj s₁, Q₁ obj s₁ → s₁.TypeIs obj T ∧ argsOk initId ⟨obj :: args, kw⟩ ∧ ∃ Si, Meets (Bi ⟨obj :: args, kw⟩) Si ∧ Si A.in1 (wants (fun r s₂ => r = .none ∧ Q obj s₂) E) s₁) :
    wpAny (model prog w) A (call (.type T) args kw) Q E s := by
  obtain ⟨hd, tl, f1⟩ := ft.mro
  have f2 := ft.made
  have f3 := ft.sub
  refine wpAny_call (codeAny_of_tree ?_)
  show wpAny _ _ (callAny (.type T) ⟨args, kw⟩) _ _ _
  refine wpAny_pure ⟨Code.quiet_builtin _ (by decide +kernel), codeAny_builtin F.entry_type_call ?_⟩
  rw [Around.under_plain (weight_type_call_type T args kw) (units_type_call_type T args kw)]
  have f4 := ft.notType
  have f5 := ft.canCreate
  repeat (any_goals (first | assumption | wp_step))
  refine codeAny_mono (codeAny_call_builtin ft.plain e1 (wpAny_of_eq c2 (g prog w A.in1 _ s h))) fun r s₁ q1 => ?_
  cases r with
  | error e => exact q1
  | ok fl =>
    cases fl with
    | ret obj =>
      obtain ⟨k1, k2, Si, k3, k4⟩ := next _ _ q1
      have f6 := ft.init.lookup
      have f7 := ft.init.bind obj
      repeat (any_goals (first | assumption | wp_step))
      refine codeAny_mono (codeAny_call_builtin ft.init.plain e2 (ft.init.check _ _ _ _ _ _ _ _ k1 k2 (k3 prog w A.in1 _ s₁ k4))) fun r₂ s₂ q2 => ?_
      cases r₂ with
      | error e => exact q2
      | ok fl₂ =>
        cases fl₂ with
        | ret r =>
          obtain ⟨rfl, z⟩ := q2
          repeat (any_goals (first | assumption | wp_step))
        | _ => exact q2.elim
    | _ => exact q1.elim
theorem init_kw {T newId : String} {self : Value} {rest : List Value} {kw : List (Str × Value)} (hl : typeLookup (.type T) "__init__" = pure (some (.builtin "object.__init__")))
    (hm : Bind.madeBy (.type T) = pure (some newId)) (hne : (some newId != some "object.__new__") = true) :
    Meets (Builtin.«object.__init__» ⟨self :: rest, kw⟩) (fun _ R s => s.TypeIs self T ∧ R (.ok (.ret .none)) s) := by
  refine Meets.of_wp fun prog w A R s q => ?_
  obtain ⟨k1, k2⟩ := q
  cases rest with
  | nil =>
    cases kw with
    | nil => exact wpAny_pure ⟨_, rfl, k2⟩
    | cons a kw =>
      repeat (any_goals (first | assumption | wp_step))
      exact ⟨_, rfl, k2⟩
  | cons a rest =>
    repeat (any_goals (first | assumption | wp_step))
    exact ⟨_, rfl, k2⟩
theorem tc_enum (a b : Value) : checkTypeCall "enumerate" ⟨[a], [("start", b)]⟩ = pure () := by kernel_rfl
theorem nc_enum (a b : Value) : checkBuiltinCall "enumerate.__new__" ⟨[.type "enumerate", a], [("start", b)]⟩ = pure () := by kernel_rfl
theorem ai_enum (a b c : Value) : argsOk "object.__init__" ⟨[a, b], [("start", c)]⟩ := by first | exact rfl | (unfold argsOk; kernel_rfl)
theorem new_enumS (l : Addr) (items : Array Value) (n : Nat) (dct : Option Addr) (sl : Array (Option Value)) (k : Int) (t : Tok) (h1 : -(2 ^ 62) ≤ k) (h2 : k < 2 ^ 62) :
    Meets (Builtin.«enumerate.__new__» ⟨[.type "enumerate", .ref l], [("start", .int k t)]⟩) (fun _ R s => s.heap.get? l = some { cls := .type "list", dict := dct, data := .seq items n, slots := sl } ∧
      R (.ok (.ret (.ref (s.heap.push { cls := .type "list_iterator", data := .fields #[.ref l, .int 0 0] }).objs.size)))
        { s with heap := (s.heap.push { cls := .type "list_iterator", data := .fields #[.ref l, .int 0 0] }).push { cls := .type "enumerate", data := .fields #[.none, .bool false, .ref s.heap.objs.size, rawInt k, .none, .none] } }) :=
  .of_wp fun prog w A R s h => by
    obtain ⟨hp, g, d, tk, os⟩ := s
    obtain ⟨hl, q⟩ := h
    have f1 := sub_enumerate
    have f2 : Heap.IsList (Shared.heap ⟨hp, g, d, tk, os⟩) l items := ⟨_, hl, rfl, n, rfl⟩
    wp_walk using AutoSeq1.wpAny_loadPart' hl
    refine wpAny_stack_any fun st => wpAny_pure ?_
    have f3 : Builtin.SmallTypes.fitsIndex k = true := by
      unfold Builtin.SmallTypes.fitsIndex
      simp only [Bool.and_eq_true, decide_eq_true_eq]
      omega
    split
    · rename_i c _ _ _ _ _
      cases (c == Value.type "enumerate")
      · wp_walk using AutoSeq1.wpAny_loadPart' hl, wpAny_pyIter_list f2
        exact ⟨_, rfl, q⟩
      · wp_walk using AutoSeq1.wpAny_loadPart' hl, wpAny_pyIter_list f2
        exact ⟨_, rfl, q⟩
    · wp_walk using AutoSeq1.wpAny_loadPart' hl, wpAny_pyIter_list f2
      exact ⟨_, rfl, q⟩
theorem call_enumS {l : Addr} {items : Array Value} {k : Int} {t : Tok} {Q : Value → Shared → Prop} (hL : s.heap.IsList l items) (h1 : -(2 ^ 62) ≤ k) (h2 : k < 2 ^ 62)
    (h : ∀ h', IsEnum h' (s.heap.objs.size + 1) s.heap.objs.size k .none → h'.IsListIter s.heap.objs.size l 0 → h'.objs.size = s.heap.objs.size + 2 →
      (∀ b o, s.heap.get? b = some o → h'.get? b = some o) → Q (.ref (s.heap.objs.size + 1)) { s with heap := h' }) :
    wpAny (model prog w) A (call (.type "enumerate") [.ref l] [("start", .int k t)]) Q E s := by
  obtain ⟨⟨c, dct, dt, sl⟩, hl, hc, n, hd⟩ := hL
  obtain rfl : c = .type "list" := hc
  obtain rfl : dt = .seq items n := hd
  have sz : (s.heap.push { cls := .type "list_iterator", data := .fields #[.ref l, .int 0 0] }).objs.size = s.heap.objs.size + 1 := Heap.size_push ..
  refine typeCall_kw F.called_enumerate (tc_enum _ _) (nc_enum _ _) F.entry_enumerate_new F.entry_object_init (new_enumS l items n dct sl k t h1 h2)
    (Q₁ := fun obj s₁ => s₁.TypeIs obj "enumerate" ∧ Q obj s₁) ⟨hl, ?_⟩ fun obj s₁ q => ⟨q.1, ai_enum _ _ _, _, init_kw F.called_enumerate.init.lookup F.called_enumerate.made (by decide), q.1, rfl, q.2⟩
  show _ ∧ _
  rw [sz]
  have en : IsEnum ((s.heap.push { cls := .type "list_iterator", data := .fields #[.ref l, .int 0 0] }).push
      { cls := .type "enumerate", data := .fields #[.none, .bool false, .ref s.heap.objs.size, rawInt k, .none, .none] }) (s.heap.objs.size + 1) s.heap.objs.size k .none := by
    have z := Heap.get?_push_size (s.heap.push { cls := .type "list_iterator", data := .fields #[.ref l, .int 0 0] })
      (o := { cls := .type "enumerate", data := .fields #[.none, .bool false, .ref s.heap.objs.size, rawInt k, .none, .none] }) rfl
    rw [sz] at z
    exact z
  refine ⟨⟨_, en, rfl⟩, h _ en ⟨_, Heap.get?_push_of_some _ (Heap.get?_push_size _ rfl), rfl, rfl⟩ (by rw [Heap.size_push, sz]) fun b o x => Heap.get?_push_of_some _ (Heap.get?_push_of_some _ x)⟩
theorem next_enumC {e it l : Addr} {i : Nat} {c : Int} {items : Array Value} {x old : Value} {Q : Value → Shared → Prop}
    (a1 : IsEnum s.heap e it c old) (a2 : s.heap.IsListIter it l i) (a3 : s.heap.IsList l items) (a4 : items[i]? = some x) (ne : e ≠ it)
    (k : ∀ h', IsEnumOut h' e it (c + 1) x s.heap.objs.size → h'.IsListIter it l (i + 1) →
      h'.get? s.heap.objs.size = some { cls := .type "tuple", data := .seq #[.int c s.toks, x] } → h'.objs.size = s.heap.objs.size + 1 →
      (∀ b o, b ≠ e → b ≠ it → s.heap.get? b = some o → h'.get? b = some o) → Q (.ref s.heap.objs.size) { s with heap := h', toks := s.toks + 1 }) :
    wpAny (model prog w) A (Builtin.«enumerate.__next__» ⟨[.ref e], []⟩) (fun fin s' => ∃ v, fin = .done (.ret v) ∧ Q v s') E s := by
  obtain ⟨h0, g, d, tk, os⟩ := s
  show wpAny _ _ (field (.ref e) 2 >>= _) _ _ _
  refine wpAny_bind (wpAny_field a1 rfl (x := .ref it) rfl (wpAny_bind (wpAny_nextOf_list_item a2 a3 a4 fun h1 b2 c1 => ?_)))
  replace c1 : Heap.SameBut it h0 h1 := c1
  have b1 : IsEnum h1 e it c old := (c1.2 e ne).trans a1
  show wpAny _ _ (field (.ref e) 3 >>= _) _ _ ⟨h1, g, d, tk, os⟩
  refine wpAny_bind (wpAny_field b1 rfl (x := rawInt c) rfl ?_)
  show wpAny _ _ (field (.ref e) 4 >>= _) _ _ ⟨h1, g, d, tk, os⟩
  refine wpAny_bind (wpAny_field b1 rfl (x := .none) rfl ?_)
  show wpAny _ _ (mkInt c >>= _) _ _ ⟨h1, g, d, tk, os⟩
  refine wpAny_bind (wpAny_mkInt ?_)
  show wpAny _ _ (setField (.ref e) 3 (rawInt (c + 1)) >>= _) _ _ ⟨h1, g, d, tk + 1, os⟩
  refine wpAny_bind (wpAny_setField_rec b1 (by simp) fun h2 d1 c2 => ?_)
  replace c2 : Heap.SameBut e h1 h2 := c2
  replace d1 : IsEnum h2 e it (c + 1) old := d1
  show wpAny _ _ (setField (.ref e) 4 .none >>= _) _ _ ⟨h2, g, d, tk + 1, os⟩
  refine wpAny_bind (wpAny_setField_rec d1 (by simp) fun h3 d2 c3 => ?_)
  replace c3 : Heap.SameBut e h2 h3 := c3
  replace d2 : IsEnum h3 e it (c + 1) old := d2
  show wpAny _ _ (newTuple [.int c tk, x] >>= _) _ _ ⟨h3, g, d, tk + 1, os⟩
  refine wpAny_bind (wpAny_newTuple ?_)
  have d3 : IsEnum (h3.push { cls := .type "tuple", data := .seq #[.int c tk, x] }) e it (c + 1) old := Heap.get?_push_of_some _ d2
  have z3 : h3.objs.size = h0.objs.size := by rw [c3.1, c2.1, c1.1]
  have lt : e < h0.objs.size := Heap.lt_size a1
  generalize eq4 : h3.push { cls := .type "tuple", data := .seq #[.int c tk, x] } = h4 at d3
  have t4 : h4.get? h0.objs.size = some { cls := .type "tuple", data := .seq #[.int c tk, x] } := by rw [← eq4, ← z3]; exact Heap.get?_push_size _ rfl
  have z4 : h4.objs.size = h0.objs.size + 1 := by rw [← eq4, Heap.size_push, z3]
  have k4 : ∀ b o, b ≠ e → b ≠ it → h0.get? b = some o → h4.get? b = some o := fun b o n1 n2 q => by
    rw [← eq4]
    exact Heap.get?_push_of_some _ (c3.extBut b o n1 (c2.extBut b o n1 (c1.extBut b o n2 q)))
  have i4 : h4.IsListIter it l (i + 1) := by
    rw [← eq4]
    obtain ⟨o, ho, r⟩ := (b2.extBut c2.extBut (Ne.symm ne)).extBut c3.extBut (Ne.symm ne)
    exact ⟨o, Heap.get?_push_of_some _ ho, r⟩
  show wpAny _ _ (Builtin.SmallTypes.ownedTupleIsFree (.ref e) >>= _) _ _ ⟨h4, g, d, tk + 1, os⟩
  rw [z3]
  clear eq4 d2 d1 b1 c3 c2 c1 b2 z3 h3 h2 h1
  refine wpAny_bind ?_
  unfold Builtin.SmallTypes.ownedTupleIsFree
  refine wpAny_bind (wpAny_field d3 rfl (x := .none) rfl (wpAny_pure ?_))
  simp only [if_true]
  refine wpAny_bind (wpAny_rule (wpAny_bind (wpAny_field d3 rfl (x := old) rfl ?_)))
  refine wpAny_bind (wpAny_setField_rec d3 (by simp) fun h5 d5 c5 => ?_)
  replace c5 : Heap.SameBut e h4 h5 := c5
  replace d5 : IsEnum h5 e it (c + 1) x := d5
  show wpAny _ _ (Builtin.SmallTypes.ownedTupleHandOut (.ref e) (.ref h0.objs.size) >>= _) _ _ ⟨h5, g, d, tk + 1, os⟩
  refine wpAny_bind ?_
  unfold Builtin.SmallTypes.ownedTupleHandOut
  refine wpAny_bind (wpAny_setField_rec d5 (by simp) fun h6 d6 c6 => ?_)
  replace c6 : Heap.SameBut e h5 h6 := c6
  replace d6 : IsEnumOut h6 e it (c + 1) x h0.objs.size := d6
  refine wpAny_setField_rec d6 (by simp) fun h7 d7 c7 => ?_
  replace c7 : Heap.SameBut e h6 h7 := c7
  replace d7 : IsEnumOut h7 e it (c + 1) x h0.objs.size := d7
  have up : ∀ b o, b ≠ e → h4.get? b = some o → h7.get? b = some o := fun b o n q => c7.extBut b o n (c6.extBut b o n (c5.extBut b o n q))
  refine wpAny_bind (wpAny_letGo (wpAny_pure ⟨_, rfl, k h7 d7 ?_ ?_ ?_ ?_⟩))
  · obtain ⟨o, ho, r⟩ := i4
    exact ⟨o, up it o (Ne.symm ne) ho, r⟩
  · exact up _ _ (Nat.ne_of_gt lt) t4
  · rw [c7.1, c6.1, c5.1, z4]
  · exact fun b o n1 n2 q => up b o n1 (k4 b o n1 n2 q)
theorem pyNext_enumC {e it l : Addr} {i : Nat} {c : Int} {items : Array Value} {x old : Value} {Q : Option Value → Shared → Prop}
    (a1 : IsEnum s.heap e it c old) (a2 : s.heap.IsListIter it l i) (a3 : s.heap.IsList l items) (a4 : items[i]? = some x) (ne : e ≠ it)
    (k : ∀ h', IsEnumOut h' e it (c + 1) x s.heap.objs.size → h'.IsListIter it l (i + 1) →
      h'.get? s.heap.objs.size = some { cls := .type "tuple", data := .seq #[.int c s.toks, x] } → h'.objs.size = s.heap.objs.size + 1 →
      (∀ b o, b ≠ e → b ≠ it → s.heap.get? b = some o → h'.get? b = some o) → Q (some (.ref s.heap.objs.size)) { s with heap := h', toks := s.toks + 1 }) :
    wpAny (model prog w) A (pyNext (.ref e)) Q E s := by
  have ty : s.TypeIs (.ref e) "enumerate" := ⟨_, a1, rfl⟩
  unfold pyNext
  exact wpAny_bind (wpAny_attempt (wpAny_callSpecial?_slot (name := Str.ofString "__next__") ty F.slot_enumerate_next
    (wpAny_call_entry F.slot_enumerate_next ty F.entry_enumerate_next (next_enumC a1 a2 a3 a4 ne fun h' q1 q2 q3 q4 q5 => wpAny_pure (k h' q1 q2 q3 q4 q5)) (F.args_enumerate_next_1 _))))
theorem pyNext_enumEnd {e it l : Addr} {i : Nat} {c : Int} {items : Array Value} {old : Value} {Q : Option Value → Shared → Prop} (hh : A.handled = none)
    (a1 : IsEnum s.heap e it c old) (a2 : s.heap.IsListIter it l i) (a3 : s.heap.IsList l items) (a4 : items[i]? = none)
    (k : ∀ h', Heap.ExtBut it s.heap h' → Q none { s with heap := h' }) : wpAny (model prog w) A (pyNext (.ref e)) Q E s := by
  have ty : s.TypeIs (.ref e) "enumerate" := ⟨_, a1, rfl⟩
  unfold pyNext
  refine wpAny_bind (wpAny_attempt (wpAny_callSpecial?_slot (name := Str.ofString "__next__") ty F.slot_enumerate_next
    (wpAny_call_entry F.slot_enumerate_next ty F.entry_enumerate_next ?_ (F.args_enumerate_next_1 _))))
  show wpAny _ _ (field (.ref e) 2 >>= _) _ _ _
  refine wpAny_bind (wpAny_field a1 rfl (x := .ref it) rfl (wpAny_bind (wpAny_nextOf_list_end hh a2 a3 a4 fun h' x q1 q2 => ?_)))
  obtain ⟨o, ho, hc⟩ := q2
  exact wpAny_bind (wpAny_isInstance (T := "StopIteration") (b := true) ⟨o, ho, hc⟩ isSubtype_stop (wpAny_pure (k _ q1)))
end
end L2
set_option Elab.async false
set_option maxHeartbeats 4000000
namespace L2
open PySem PySem.Spec PyProof.Rows
structure Callee (P : Program) (w : World) (K : PySem.W.Frag) (mg : Str → Option Value) (base : Heap) (x : Str) (ps : List Str) (k : Nat) (sp : Sp) : Prop where
  ex : ∃ f fd, FnOk P w K mg base CX0 k f fd ps sp ∧ mg x = some (.ref f) ∧ PySem.W.keepIn K (.ref f) = true ∧ Binds K fd ps []
def tCl (sp : Sp) (t : TA) : TE := fun σ H Q => t σ H fun vs H1 => sp vs H1 Q E0
theorem pe_callC {X : Cx} {x : Str} {ps : List Str} {k : Nat} {sp : Sp} {e : Expr} {es : List Expr} {t : TA} {p pos : Pos} (C : Callee X.prog X.w X.K X.mg X.base x ps k sp) (hr : Room k X.A) (hg : Gl X x) (ha : PA X (e :: es) t)
    (hdb : (x == ("__debug__" : Str)) = false := by decide) (he : starEach (e :: es) X.env = (false, eval e X.env) :: starEach es X.env := by rfl) (hpl : (backTo pos (starEach es X.env)).any (·.1) = false := by rfl) :
    PE X (.Call (.Name x p) (e :: es) [] pos) (tCl sp t) := by
  obtain ⟨f, fd, F, hm, hk, hb⟩ := C.ex
  have h := pe_call (p := p) (pos := pos) F hr hg hm hk hb .nil pass0 ha hdb he hpl
  intro pins s σ H Q I q
  refine h pins s σ H Q I ?_
  unfold tCall
  simp only [List.append_nil]
  exact q
inductive WrittenInts : List Expr → List Int → Prop
  | nil : WrittenInts [] []
  | cons {i : Int} {k : Nat} {p : Pos} {es : List Expr} {js : List Int} (h : WrittenInts es js) : WrittenInts (.Constant (.int i) k p :: es) (i :: js)
def tInts (js : List Int) : TA := fun _ H Q => Q (js.map V.int) H
theorem pa_ints {X : Cx} {es : List Expr} {js : List Int} (h : WrittenInts es js) : PA X es (tInts js) := by
  induction h with
  | nil => exact pa_nil
  | cons _ ih => exact pa_cons pe_int ih
theorem opK {X : Cx} {K : PySem.W.Frag} {f : Value → Value → Sem Value} {r : PySem.W.Frag → R2} (h : OpR X f (r X.K)) (e : X.K = K) : OpR X f (r K) := by
  rw [← e]; exact h
def rLen (K : PySem.W.Frag) : List V → Hp → VK → Prop := fun xs H Q => ∃ p ys, xs = [.ref p] ∧ (SqL K H p ys ∨ SqT K H p ys) ∧ Q (.int ys.length) H
theorem call_len' {X : Cx} : CallR X (.builtin "len") (rLen X.K) := call_len_seq
def rSum (K : PySem.W.Frag) : List V → Hp → VK → Prop := fun xs H Q => ∃ (p : Addr) (ns : List Int), xs = [.ref p] ∧ SqL K H p (ns.map V.int) ∧ Q (.int ns.sum) H
theorem call_sum' {X : Cx} (hc : X.calm = true) : CallR X (.builtin "sum") (rSum X.K) := call_sum hc
def rAbs : List V → Hp → VK → Prop := fun xs H Q => ∃ i, xs = [.int i] ∧ Q (.int (if i < 0 then -i else i)) H
theorem call_abs' {X : Cx} : CallR X (.builtin "abs") rAbs := call_abs
def rIsi (K : PySem.W.Frag) : List V → Hp → VK → Prop := fun xs H Q => ∃ x n t b, xs = [x, .ty n] ∧ TyOf K H x t ∧ PySem.W.kitOne K t (.type n) = some b ∧ Q (.bl b) H
theorem call_isi' {X : Cx} : CallR X (.builtin "isinstance") (rIsi X.K) := call_isi
def rAllB (K : PySem.W.Frag) : List V → Hp → VK → Prop := fun xs H Q => ∃ (p : Addr) (bs : List Bool), xs = [.ref p] ∧ SqL K H p (bs.map V.bl) ∧ Q (.bl (bs.all id)) H
theorem call_all' {X : Cx} (hc : X.calm = true) : CallR X (.builtin "all") (rAllB X.K) := call_all hc
def rListOf (K : PySem.W.Frag) : List V → Hp → VK → Prop := fun xs H Q => ∃ p ys, xs = [.ref p] ∧ (SqL K H p ys ∨ SqT K H p ys) ∧ ∀ l, H l = none → Q (.ref l) (upd H l (.lst ys))
theorem call_list' {X : Cx} : CallR X (.type "list") (rListOf X.K) := call_list_of
def rEqL (K : PySem.W.Frag) : R2 := fun x y H Q => ∃ (p q : Addr) (ns ms : List Int), x = .ref p ∧ y = .ref q ∧ SqL K H p (ns.map V.int) ∧ SqL K H q (ms.map V.int) ∧ Q (.bl (decide (ns = ms))) H
theorem op_eqL' {X : Cx} (hu : X.A.units < cLine) : OpR X (compareOp .Eq) (rEqL X.K) := op_eqL hu
def rNeL (K : PySem.W.Frag) : R2 := fun x y H Q => ∃ (p q : Addr) (ns ms : List Int), x = .ref p ∧ y = .ref q ∧ SqL K H p (ns.map V.int) ∧ SqL K H q (ms.map V.int) ∧ Q (.bl (!decide (ns = ms))) H
theorem op_neL' {X : Cx} (hu : X.A.units < cLine) : OpR X (compareOp .NotEq) (rNeL X.K) := op_neL hu
section
variable {K : PySem.W.Frag} {D : Ends} {σ : St} {H : Hp} {Q : VK} {QB : Bool → Hp → Prop} {QA : List V → Hp → Prop} {t u : TS} {c tA tB' : TT} {te ta tb tc : TE} {tx : TA} {g : TG} {r r' : R2}
theorem rd_ret (h : te σ H D.rt) : tRet te D σ H := h
theorem rd_if (h : c σ H fun b H1 => if b = true then t D σ H1 else u D σ H1) : tIfS c t u D σ H := h
theorem rd_name {i : Nat} {v : V} {R : St → Hp → Prop} (h : R (σ.set i (some v)) H) : gName i v σ H R := h
theorem rd_var {i : Nat} {v : V} (e : σ[i]? = some (some v)) (q : Q v H) : tVar i σ H Q := ⟨v, e, q⟩
theorem rd_c {v : V} (q : Q v H) : tC v σ H Q := q
theorem rd_op (h : ta σ H fun x H1 => tb σ H1 fun y H2 => r x y H2 Q) : tOp r ta tb σ H Q := h
theorem rd_un {rr : V → Hp → VK → Prop} (h : ta σ H fun x H1 => rr x H1 Q) : tUn rr ta σ H Q := h
theorem rd_test (h : te σ H fun x H' => ∃ k, x = .bl k ∧ QB k H') : tTest te σ H QB := h
theorem rd_tB (h : te σ H fun x H' => ∃ k, x = .bl k ∧ QB k H') : tB te σ H QB := h
theorem rd_bl {b : Bool} {R : Bool → Prop} (h : R b) : ∃ k, V.bl b = .bl k ∧ R k := ⟨b, rfl, h⟩
theorem rd_and (h : tA σ H fun c H1 => if c = true then tB' σ H1 QB else QB false H1) : tAnd tA tB' σ H QB := h
theorem rd_or (h : tA σ H fun c H1 => if c = true then QB true H1 else tB' σ H1 QB) : tOr tA tB' σ H QB := h
theorem rd_not (h : tA σ H fun c H1 => QB (!c) H1) : tNot tA σ H QB := h
theorem rd_andV (h : ta σ H fun x H1 => ∃ c, x = .bl c ∧ if c = true then tb σ H1 Q else Q (.bl false) H1) : tAndV ta tb σ H Q := h
theorem rd_notV (h : ta σ H fun x H1 => ∃ c, x = .bl c ∧ Q (.bl (!c)) H1) : tNotV ta σ H Q := h
theorem rd_cons (h : ta σ H fun x H1 => tx σ H1 fun xs H2 => QA (x :: xs) H2) : tCons ta tx σ H QA := h
theorem rd_nil (h : QA [] H) : tNil σ H QA := h
theorem rd_ints {js : List Int} (h : QA (js.map V.int) H) : tInts js σ H QA := h
theorem rd_cb {rr : List V → Hp → VK → Prop} (h : tx σ H fun vs H1 => rr vs H1 Q) : tCB rr tx σ H Q := h
theorem rd_cl {sp : Sp} (h : tx σ H fun vs H1 => sp vs H1 Q E0) : tCl sp tx σ H Q := h
theorem rd_lst (h : tx σ H fun xs H1 => xs.length ≤ sizeLine ∧ ∀ p, H1 p = none → Q (.ref p) (upd H1 p (.lst xs))) : tLst tx σ H Q := h
theorem rd_tup (h : tx σ H fun xs H1 => xs.length ≤ sizeLine ∧ ∀ p, H1 p = none → Q (.ref p) (upd H1 p (.tup xs))) : tTup tx σ H Q := h
theorem rd_I0 {f : Int → Int → V} {i j : Int} (h : Q (f i j) H) : rI0 f (.int i) (.int j) H Q := ⟨i, j, rfl, rfl, h⟩
theorem rd_I {C : Int → Int → Prop} {f : Int → Int → V} {i j : Int} (hc : C i j) (h : Q (f i j) H) : rI C f (.int i) (.int j) H Q := ⟨i, j, rfl, rfl, hc, h⟩
theorem rd_U {f : Int → V} {i : Int} (h : Q (f i) H) : rU f (.int i) H Q := ⟨i, rfl, h⟩
theorem rd_eqI {i j : Int} (h : Q (.bl (decide (i = j))) H) : rEq (.int i) (.int j) H Q := ⟨rfl, by
  have e : decide (V.int i = V.int j) = decide (i = j) := by rw [dec_int, Bool.beq_eq_decide_eq]
  rw [e]; exact h⟩
theorem rd_neI {i j : Int} (h : Q (.bl (!decide (i = j))) H) : rNe (.int i) (.int j) H Q := ⟨rfl, by
  have e : decide (V.int i = V.int j) = decide (i = j) := by rw [dec_int, Bool.beq_eq_decide_eq]
  rw [e]; exact h⟩
theorem rd_lenI {p : Addr} {ns : List Int} (e : SqL K H p (ns.map V.int)) (h : Q (.int ns.length) H) : rLen K [.ref p] H Q := ⟨p, _, rfl, .inl e, by rw [List.length_map]; exact h⟩
theorem rd_len {p : Addr} {xs : List V} (e : SqL K H p xs) (h : Q (.int xs.length) H) : rLen K [.ref p] H Q := ⟨p, _, rfl, .inl e, h⟩
theorem rd_sum {p : Addr} {ns : List Int} (e : SqL K H p (ns.map V.int)) (h : Q (.int ns.sum) H) : rSum K [.ref p] H Q := ⟨p, _, rfl, e, h⟩
theorem rd_abs {i : Int} (h : Q (.int (if i < 0 then -i else i)) H) : rAbs [.int i] H Q := ⟨i, rfl, h⟩
theorem rd_all {p : Addr} {bs : List Bool} (e : SqL K H p (bs.map V.bl)) (h : Q (.bl (bs.all id)) H) : rAllB K [.ref p] H Q := ⟨p, _, rfl, e, h⟩
theorem rd_listOf {p : Addr} {xs : List V} (e : SqL K H p xs) (h : ∀ l, H l = none → Q (.ref l) (upd H l (.lst xs))) : rListOf K [.ref p] H Q := ⟨p, _, rfl, .inl e, h⟩
theorem rd_ixL {p : Addr} {xs : List V} {i : Int} {v : V} (e : SqL K H p xs) (a : atI xs i = some v) (h : Q v H) : rIxL K (.ref p) (.int i) H Q := ⟨p, _, _, _, rfl, rfl, e, a, h⟩
theorem rd_ixT {p : Addr} {xs : List V} {i : Int} {v : V} (e : SqT K H p xs) (a : atI xs i = some v) (h : Q v H) : rIxT K (.ref p) (.int i) H Q := ⟨p, _, _, _, rfl, rfl, e, a, h⟩
theorem rd_eqL {p q : Addr} {ns ms : List Int} (e : SqL K H p (ns.map V.int)) (e' : SqL K H q (ms.map V.int)) (h : Q (.bl (decide (ns = ms))) H) : rEqL K (.ref p) (.ref q) H Q := ⟨p, q, ns, ms, rfl, rfl, e, e', h⟩
theorem rd_neL {p q : Addr} {ns ms : List Int} (e : SqL K H p (ns.map V.int)) (e' : SqL K H q (ms.map V.int)) (h : Q (.bl (!decide (ns = ms))) H) : rNeL K (.ref p) (.ref q) H Q := ⟨p, q, ns, ms, rfl, rfl, e, e', h⟩
theorem rd_append {l : Addr} {xs : List V} {y : V} (e : H l = some (.lst xs)) (hz : xs.length < sizeLine) (h : Q .non (upd H l (.lst (xs ++ [y])))) : rAppend (.ref l) [y] H Q := ⟨l, xs, y, rfl, rfl, e, hz, h⟩
theorem rd_two {x y : V} {R : V → V → Prop} (h : R x y) : ∃ v w, [x, y] = [v, w] ∧ R v w := ⟨x, y, rfl, h⟩
theorem rd_bm {T : String} {rr : V → List V → Hp → VK → Prop} {to : TE} (h : to σ H fun x H1 => tyV K T x H1 ∧ tx σ H1 fun xs H2 => rr x xs H2 Q) : tBM K T rr to tx σ H Q := h
theorem rd_sl {rs : V → Option Int → Option Int → Hp → VK → Prop} {tl th : TO} (h : te σ H fun x H1 => tl σ H1 fun l H2 => th σ H2 fun u H3 => rs x l u H3 Q) : tSl rs te tl th σ H Q := h
theorem rd_part {QO : Option Int → Hp → Prop} (h : te σ H fun x H1 => ∃ i, x = .int i ∧ QO (some i) H1) : tPart te σ H QO := h
theorem rd_nopart {QO : Option Int → Hp → Prop} (h : QO none H) : tNoPart σ H QO := h
theorem rd_int {i : Int} {R : Int → Prop} (h : R i) : ∃ j, V.int i = .int j ∧ R j := ⟨i, rfl, h⟩
theorem rd_slL {a : Addr} {xs : List V} {lo hi : Option Int} (e : SqL K H a xs) (h : ∀ p, H p = none → Q (.ref p) (upd H p (.lst (cutV xs lo hi)))) : rSlL K (.ref a) lo hi H Q := ⟨a, xs, rfl, e, h⟩
theorem rd_iList {R : It → Hp → Prop} (h : te σ H fun x H1 => ∃ a, x = .ref a ∧ (∃ xs, SqL K H1 a xs) ∧ R (Itl K a) H1) : iList K te σ H R := h
theorem rd_iRng1 {R : It → Hp → Prop} (h : tx σ H fun vs H1 => ∃ j : Int, vs = [.int j] ∧ -(2 ^ 62) ≤ j ∧ j < 2 ^ 62 ∧ R (Itr 0 j.toNat) H1) : iRng1 tx σ H R := h
theorem rd_comp {ρ : List Nat} {wi : TI} {tt : TT} (h : wi σ H fun J H1 => ∀ D, H1 D = none → tCompTurn J tt te (takes σ ρ) D (Q (.ref D)) H1) : tComp ρ wi tt te σ H Q := h
theorem in_ints (i : Int) : ∀ ns : List Int, inV (.int i) (ns.map V.int) = decide (i ∈ ns)
  | [] => rfl
  | n :: ns => by
    have ih := in_ints i ns
    unfold inV at ih ⊢
    rw [List.map_cons, List.any_cons, ih]
    simp only [eqV, List.mem_cons]
    by_cases h : n = i
    · subst h; simp
    · have h' : ¬ i = n := fun z => h z.symm
      simp [h, h']
theorem flat_ints (ns : List Int) : (ns.map V.int).all flatV = true := by
  rw [List.all_eq_true]
  intro x hx
  obtain ⟨i, _, rfl⟩ := List.mem_map.mp hx
  rfl
def tJoin (t : TS) : TS := fun D σ H => ∃ J : St → Hp → Prop, t { D with nx := J } σ H ∧ ∀ σ' H', J σ' H' → D.nx σ' H'
theorem ps_join {X : Cx} {st : Stmt} (h : PS X st t) : PS X st (tJoin t) := by
  intro pins s σ H D I q
  obtain ⟨J, q1, q2⟩ := q
  refine thn (h pins s σ H { D with nx := J } I q1) fun f s1 z => ?_
  cases f with
  | next =>
    obtain ⟨σ', H', I', z⟩ := z
    exact ⟨σ', H', I', q2 _ _ z⟩
  | ret v => exact z
  | brk => exact z
  | cont => exact z
theorem comp_list {a : Addr} {xs : List V} {fs : St} {D : Addr} {R : Hp → Prop} (G : V → V) (hS : SqL K H a xs) (hD : H D = none) (hl : xs.length ≤ 1000)
    (he : ∀ (i : Nat) (x : V) (H' : Hp) (Q : VK), xs[i]? = some x → Same H H' → Q (G x) H' → te (some x :: fs) H' Q) (hR : R (upd H D (.lst (xs.map G)))) :
    tCompTurn (Itl K a) (fun _ H Q => Q true H) te fs D R H := by
  have sn : ∀ o, Same H (upd H D o) := fun o b u q => by rw [upd_ne (ne_of_none q hD)]; exact q
  refine ⟨fun i m acc H' => i ≤ xs.length ∧ m = xs.length - i ∧ acc = (xs.take i).map G ∧ H' = upd H D (.lst acc), ⟨_, Nat.zero_le _, rfl, rfl, rfl⟩, ?_⟩
  rintro i m acc H' ⟨h1, rfl, rfl, rfl⟩
  refine ⟨upd_same, ?_⟩
  have q : SqL K (upd H D (.lst ((xs.take i).map G))) a xs := (sn _).seq hS
  by_cases hi : i < xs.length
  · refine .inr ⟨⟨xs, xs[i], q, by simp [hi]⟩, fun y H2 hy => ?_⟩
    obtain ⟨e, hy⟩ := hy
    subst e
    have hy := hy xs q
    refine iteT ?_
    refine he i y _ _ hy (sn _) ⟨upd_same, ?_, xs.length - (i + 1), by omega, hi, rfl, ?_, upd_upd⟩
    · rw [List.length_map, List.length_take]
      exact small1000 (by omega)
    · rw [List.take_succ, hy, List.map_append]
      rfl
  · have e : i = xs.length := by omega
    subst e
    refine .inl ⟨⟨xs, q, Nat.le_refl _⟩, ?_⟩
    rw [List.take_length]
    exact hR
theorem tyL {a : Addr} {xs : List V} (e : SqL K H a xs) : tyV K "list" (.ref a) H := .inl ⟨rfl, _, e⟩
end
end L2
set_option Elab.async false
set_option maxHeartbeats 4000000
namespace L2
open PySem PySem.Spec PyProof.Rows
def Ite (K : PySem.W.Frag) (a : Addr) (k : Int) : It :=
  ⟨fun i H => ∃ xs x, SqL K H a xs ∧ xs[i]? = some x,
   fun i H x H' => ∃ p v, H p = none ∧ x = .ref p ∧ H' = upd H p (.tup [.int (k + i), v]) ∧ ∀ xs, SqL K H a xs → xs[i]? = some v,
   fun i H => ∃ xs, SqL K H a xs ∧ xs.length ≤ i⟩
theorem turn_enum {P : Program} {w : World} {K : PySem.W.Frag} {elts : List Expr} {x1 : Nat} {tp : Pos} (a e it : Addr) (k : Int) (ne : e ≠ it) :
    Turn P w K (.Tuple elts x1 tp) (Ite K a k) [e, it] e (fun i h => (∃ old, IsEnum h e it (k + i) old) ∧ h.IsListIter it a i) where
  mem := by simp
  obj := fun i h st b hb => by
    obtain ⟨⟨old, q⟩, o, e2, c, d⟩ := st
    rcases List.mem_cons.mp hb with z | z
    · subst z; exact ⟨_, q, fun v z => nomatch z⟩
    · have z : b = it := by simpa using z
      subst z
      exact ⟨o, e2, fun v z => by rw [d] at z; cases z⟩
  keep := fun i h h' st kp => by
    obtain ⟨⟨old, q⟩, r⟩ := st
    exact ⟨⟨old, kp e (by simp) _ q⟩, r.at fun o z => kp it (by simp) o z⟩
  item := by
    intro X hP hw hK hc i pins s σ H E I hf st hg
    subst hP hw hK
    obtain ⟨xs, x, hq, hx⟩ := hg
    obtain ⟨its, rv, p, hz⟩ := I.list hq
    obtain ⟨u, hu, ru⟩ := rv.get hx
    obtain ⟨⟨old, q1⟩, q2⟩ := st
    refine pyNext_enumC q1 q2 p.isList (x := u) (by simpa using hu) ne fun h1 o1 l1 t1 s1 k1 => ?_
    refine ⟨_, rfl, wpAny_letOwnedTupleGo_enum o1 fun h2 o2 sb => ?_⟩
    replace sb : Heap.SameBut e h1 h2 := sb
    have le : e < s.heap.objs.size := Heap.lt_size q1
    have nw : H s.heap.objs.size = none := I.fresh
    have keep : ∀ b o, b ≠ e → b ≠ it → s.heap.get? b = some o → h2.get? b = some o := fun b o n1 n2 z => sb.extBut b o n1 (k1 b o n1 n2 z)
    have ht : h2.get? s.heap.objs.size = some { cls := .type "tuple", data := .seq #[.int (k + i) s.toks, u] } := sb.extBut _ _ (Nat.ne_of_gt le) t1
    have fe := hf e (by simp)
    have fi := hf it (by simp)
    have hne : ∀ b o, H b = some o → b ≠ e ∧ b ≠ it := fun b o z => ⟨fun y => (by rw [y, fe.1] at z; cases z), fun y => (by rw [y, fi.1] at z; cases z)⟩
    have hlt : ∀ b o, s.heap.get? b = some o → b ≠ s.heap.objs.size := fun b o z => Nat.ne_of_lt (Heap.lt_size z)
    have hnw : ∀ b o, H b = some o → b ≠ s.heap.objs.size := fun b o z => ne_of_none z nw
    have I2 : Inv X pins σ (upd H s.heap.objs.size (.tup [.int (k + i), x])) { s with heap := h2, toks := s.toks + 1 } := by
      refine I.step (g' := s.gens) (d' := s.drawn) (ch := [e, it]) (fun b hb => ?_) (fun b o _ _ hc' z _ => keep b o (fun y => hc' (by simp [y])) (fun y => hc' (by simp [y])) z) (fun b o _ _ hc' z _ => ⟨o.slots, keep b o (fun y => hc' (by simp [y])) (fun y => hc' (by simp [y])) z⟩)
        (fun b o _ z n => by rw [upd_ne (hlt b o z)]; exact n) (fun b o hc' z => ⟨o, keep b o (fun y => hc' (by simp [y])) (fun y => hc' (by simp [y])) z⟩) (fun b ys z => by rw [upd_ne (hnw b _ z)]; exact z) (fun b ob ys z => by rw [upd_ne (hnw b _ z)]; exact z)
        (fun b ps z => ⟨#[], by rw [upd_ne (hnw b _ z), z]; simp⟩) (fun m hm => ?_) (fun b o z => ?_) I.bare
      · rcases List.mem_cons.mp hb with y | y
        · subst y; exact ⟨fe.2.2.2.1, fe.2.1, fe.2.2.2.2.1, fe.2.2.2.2.2⟩
        · have y : b = it := by simpa using y
          subst y
          exact ⟨fi.2.2.2.1, fi.2.1, fi.2.2.2.2.1, fi.2.2.2.2.2⟩
      · obtain ⟨o, es, ep, ho, r⟩ := hm
        exact ⟨o, es, ep, keep _ o (Ne.symm fe.2.1) (Ne.symm fi.2.1) ho, r⟩
      · by_cases hb : b = s.heap.objs.size
        · subst hb
          rw [upd_same] at z
          cases z
          exact ⟨by show 2 ≤ sizeLine; decide, [.int (k + i) s.toks, u], .cons ⟨_, rfl⟩ (.cons ru .nil), _, ht, rfl, _, rfl⟩
        · rw [upd_ne hb] at z
          have nb := hne b o z
          refine (I.hok b o z).stay (fun c v hc' q => ?_) (fun c q => by rw [upd_ne (hnw c _ q)]; exact q) fun c ys q => by rw [upd_ne (hnw c _ q)]; exact q
          rcases hc' with y | y
          · subst y; exact keep c v nb.1 nb.2 q
          · have nc := hne c _ y
            exact keep c v nc.1 nc.2 q
    refine ⟨.ref s.heap.objs.size, _, I2, rfl, ⟨_, x, nw, rfl, rfl, fun ys hy => by rw [I.list_inj hy hq]; exact hx⟩, ⟨⟨u, ?_⟩, l1.extBut sb.extBut (Ne.symm ne)⟩, fun b hb => ?_⟩
    · have e1 : k + ((i + 1 : Nat) : Int) = k + (i : Int) + 1 := by omega
      rw [e1]
      exact o2
    · have z := (hf b hb).1
      rcases List.mem_cons.mp hb with y | y
      · subst y; rw [upd_ne (Nat.ne_of_lt le)]; exact z
      · have y : b = it := by simpa using y
        subst y
        obtain ⟨o, ho, _⟩ := q2
        rw [upd_ne (Nat.ne_of_lt (Heap.lt_size ho))]
        exact z
  done := by
    intro X hP hw hK hc i pins s σ H E I hf st hg
    subst hP hw hK
    obtain ⟨xs, hq, hx⟩ := hg
    obtain ⟨its, rv, p, hz⟩ := I.list hq
    obtain ⟨⟨old, q1⟩, q2⟩ := st
    obtain ⟨f0, f1, f2, f3, f4, f5⟩ := hf it (by simp)
    have hl := rv.length
    exact pyNext_enumEnd (I.ok.hd hc) q1 q2 p.isList (by simp; omega) fun h' eb => ⟨rfl, I.turned (t' := s.toks) (fun b o hb e => eb b o hb e) f0 f1 f3 f4 f5⟩
  self := fun _ _ _ _ _ st h => by
    obtain ⟨⟨old, q⟩, _⟩ := st
    exact wpAny_pyIter_enum q h
theorem for_enum {K : PySem.W.Frag} {a : Addr} {k : Int} {xs : List V} {g : TG} {tb : TS} {D : Ends} {σ : St} {H : Hp} (Pv : Nat → St → Hp → Prop) (h0 : Pv 0 σ H) (hl : ∀ i σ H, i ≤ xs.length → Pv i σ H → SqL K H a xs)
    (hs : ∀ i x p σ H, xs[i]? = some x → H p = none → Pv i σ H → g (.ref p) σ (upd H p (.tup [.int (k + (i : Nat)), x])) fun σ2 H2 => tb { D with nx := Pv (i + 1), ct := Pv (i + 1), bk := D.nx } σ2 H2) (hd : ∀ σ H, Pv xs.length σ H → D.nx σ H) :
    ∃ W : Nat → Nat → St → Hp → Prop, (∃ m, W 0 m σ H) ∧ ∀ i m σ H, W i m σ H →
      ((Ite K a k).stop i H ∧ D.nx σ H) ∨ ((Ite K a k).go i H ∧ ∃ N : St → Hp → Prop, (∀ σ' H', N σ' H' → ∃ m', m' < m ∧ W (i + 1) m' σ' H') ∧ ∀ x H', (Ite K a k).yld i H x H' → g x σ H' fun σ2 H2 => tb { D with nx := N, ct := N, bk := D.nx } σ2 H2) := by
  refine ⟨fun i m σ H => m = xs.length - i ∧ i ≤ xs.length ∧ Pv i σ H, ⟨xs.length, by simp, Nat.zero_le _, h0⟩, ?_⟩
  rintro i m σ H ⟨rfl, hi, p⟩
  have q := hl i σ H hi p
  by_cases hlt : i < xs.length
  · refine .inr ⟨⟨xs, xs[i], q, by simp [hlt]⟩, Pv (i + 1), fun σ' H' p' => ⟨xs.length - (i + 1), by omega, rfl, hlt, p'⟩, fun x H' y => ?_⟩
    obtain ⟨r, v, n, e1, e2, e3⟩ := y
    subst e1 e2
    exact hs i v r σ H (e3 xs q) n p
  · have e : i = xs.length := by omega
    subst e
    exact .inl ⟨⟨xs, q, Nat.le_refl _⟩, hd σ H p⟩
theorem keeper_type {M : Model} {T : String} (h : Heap) (_ : True) : ∃ k, (k = Keeper.frame ∨ k = Keeper.machine ∨ k = Keeper.boundFrame) ∧ PySem.W.Looks M h (keeperOf (.type T)) k :=
  ⟨Keeper.machine, .inr (.inl rfl), fun _ _ _ _ _ q => wpAny_pure q⟩
def iEnum (K : PySem.W.Frag) (tl : TA) (tk : TE) : TI := fun σ H R => tl σ H fun vs H1 => tk σ H1 fun y H2 => ∃ a k, vs = [.ref a] ∧ y = .int k ∧ (∃ xs, SqL K H2 a xs) ∧ -(2 ^ 62) ≤ k ∧ k < 2 ^ 62 ∧ R (Ite K a k) H2
theorem rd_iEnum {K : PySem.W.Frag} {σ : St} {H : Hp} {tl : TA} {tk : TE} {R : It → Hp → Prop} (h : tl σ H fun vs H1 => tk σ H1 fun y H2 => ∃ a k, vs = [.ref a] ∧ y = .int k ∧ (∃ xs, SqL K H2 a xs) ∧ -(2 ^ 62) ≤ k ∧ k < 2 ^ 62 ∧ R (Ite K a k) H2) : iEnum K tl tk σ H R := h
theorem pi_enumS {X : Cx} {elts : List Expr} {x1 : Nat} {tp p kp pos : Pos} {l e : Expr} {tl : TA} {tk : TE} (hg : Gl X "enumerate") (hm : X.mg "enumerate" = none) (hl : PA X [l] tl) (he : PE X e tk)
    (hall : (backToKw pos (keywordEach [⟨some "start", e, kp⟩] X.env)).all (·.1.isSome) = true := by rfl)
    (hks : (backToKw pos (keywordEach [⟨some "start", e, kp⟩] X.env)).filterMap (·.1) = [Str.ofString "start"] := by rfl)
    (hst : starEach [l] X.env = (false, eval l X.env) :: starEach [] X.env := by rfl)
    (hpl : ((backTo pos (starEach [l] X.env)).any (·.1) || (backToKw pos (keywordEach [⟨some "start", e, kp⟩] X.env)).any (·.1.isNone)) = false := by rfl) :
    PI X (.Tuple elts x1 tp) (.Call (.Name "enumerate" p) [l] [⟨some "start", e, kp⟩] pos) (iEnum X.K tl tk) := by
  intro pins s σ H R I h
  refine wpAny_Call_Name_kw (ld_blt I hg hm (by decide +kernel : bootBuiltins "enumerate" = some (.type "enumerate")) ?_ (by decide) (by decide))
  refine PySem.W.callWith_of hpl (P := fun _ => True) keeper_type (evalArgs_kw2 hall (thn (hl pos pins s σ H _ I h) fun us s1 q1 => ?_) hst)
  obtain ⟨vs, H1, I1, r, q⟩ := q1
  refine kwAll_cons (thn (he pins s1 σ H1 _ I1 q) fun u' s2 q2 => ?_)
  obtain ⟨y, H2, I2, ry, a, k, rfl, rfl, ⟨xs, hq⟩, k1, k2, qR⟩ := q2
  obtain ⟨t, rfl⟩ := ry
  obtain ⟨u, rfl, rx⟩ := vals1 r
  cases (show u = Value.ref a from rx)
  refine kwAll_nil ⟨trivial, ?_⟩
  rw [hks]
  obtain ⟨its, rv, p, hz⟩ := I2.list hq
  refine call_enumS p.isList k1 k2 fun h1 e1 e2 z1 kp => ?_
  have I3 : Inv X pins σ H2 { s2 with heap := h1 } := I2.kept (t' := s2.toks) kp
  have ne : s2.heap.objs.size + 1 ≠ s2.heap.objs.size := Nat.succ_ne_self _
  refine wpAny_pyIter_enum e1 ⟨_, _, _, _, H2, rfl, I3, turn_enum a _ _ k ne, ⟨⟨.none, by simpa using e1⟩, e2⟩, fun b hb => ?_, qR⟩
  rcases List.mem_cons.mp hb with z | z
  · subst z
    exact I2.fpOk (Nat.le_succ _) (I2.hok.fresh (Nat.le_succ _))
  · have z : b = s2.heap.objs.size := by simpa using z
    subst z
    exact I2.fpOk (Nat.le_refl _) I2.fresh
end L2
set_option Elab.async false
set_option maxHeartbeats 4000000
namespace L2
open PySem PySem.Spec PyProof.Rows
theorem vals_by : ∀ {xs : List V} {us : List Value}, xs.length = us.length → (∀ (i : Nat) (x : V) (u : Value), xs[i]? = some x → us[i]? = some u → RelV x u) → Vals xs us
  | [], [], _, _ => .nil
  | x :: xs, u :: us, h, k => .cons (k 0 x u rfl rfl) (vals_by (by simpa using h) fun i y v e1 e2 => k (i + 1) y v (by simpa using e1) (by simpa using e2))
  | [], _ :: _, h, _ => by simp at h
  | _ :: _, [], h, _ => by simp at h
def rListRng : List V → Hp → VK → Prop := fun xs H Q => ∃ p lo hi, xs = [.ref p] ∧ H p = some (.rng lo hi) ∧ -(2 ^ 20) ≤ lo ∧ lo ≤ 2 ^ 20 ∧ -(2 ^ 20) ≤ hi ∧ hi ≤ 2 ^ 20 ∧
  ∀ l, H l = none → Q (.ref l) (upd H l (.lst ((List.range (hi - lo).toNat).map fun i => V.int (lo + (i : Nat)))))
theorem call_listRng {X : Cx} (hc : X.calm = true) : CallR X (.type "list") rListRng := by
  intro pins s σ H xs us Q I r h
  obtain ⟨p, lo, hi, rfl, hp, b1, b2, b3, b4, q⟩ := h
  obtain ⟨u, rfl, rx⟩ := vals1 r
  cases (show u = Value.ref p from rx)
  obtain ⟨t, t', t'', e⟩ := (show ObjOk X.prog X.w H s.heap p (.rng lo hi) from I.hok p _ hp)
  have hn : Builtin.Range.rangeSize lo hi 1 = ((hi - lo).toNat : Nat) := by
    unfold Builtin.Range.rangeSize
    rw [if_pos (by decide)]
    split <;> omega
  have hsm : Builtin.Range.small lo hi 1 = true := by
    unfold Builtin.Range.small
    rw [hn]
    unfold Builtin.Range.rangeFitsLong
    simp only [Bool.and_eq_true, Bool.or_eq_true, decide_eq_true_eq]
    rw [if_pos (by decide)]
    simp only [Bool.and_eq_true, decide_eq_true_eq]
    omega
  refine call_list_range (I.ok.hd hc) e hsm hn (by omega) fun h' tk acc c k e' it => ?_
  have hl : (List.range (hi - lo).toNat).length = (hi - lo).toNat := List.length_range
  have hv : Vals ((List.range (hi - lo).toNat).map fun i => V.int (lo + (i : Nat))) acc.toList := by
    refine vals_by (by rw [List.length_map, hl, Array.length_toList, it.1]) fun i x v e1 e2 => ?_
    rw [List.getElem?_map] at e1
    cases e3 : (List.range (hi - lo).toNat)[i]? with
    | none => rw [e3] at e1; cases e1
    | some j =>
      rw [e3] at e1
      have e4 : i = j := by
        have := List.getElem?_eq_some_iff.mp e3
        obtain ⟨_, z⟩ := this
        simpa using z
      subst e4
      cases e1
      obtain ⟨t, z⟩ := it.2 i v (by simpa using e2)
      exact ⟨t, by rw [z, Int.mul_one]⟩
  refine ⟨.ref s.heap.objs.size, _, I.laid (o := .lst ((List.range (hi - lo).toNat).map fun i => V.int (lo + (i : Nat)))) (t' := tk) k (Nat.le_refl _) ⟨?_, acc.toList, c, hv, by simpa using e'⟩, rfl, q _ I.fresh⟩
  rw [List.length_map, hl]
  have : (hi - lo).toNat ≤ 2 ^ 21 := by omega
  exact Nat.le_trans this (by decide)
end L2
set_option Elab.async false
set_option maxHeartbeats 4000000
namespace L2
open PySem PySem.Spec PyProof.Rows
section
variable {X : Cx} {a b c d : Expr} {ta tb tc td : TE} {pos : Pos}
end
section
variable {K : PySem.W.Frag} {D : Ends} {σ : St} {H : Hp} {Q : VK} {ta tb tc td te t3 : TE} {r r' r'' : R2}
theorem iteNT {A B : Prop} (h : B) : if (!true) = true then A else B := h
theorem iteNF {A B : Prop} (h : A) : if (!false) = true then A else B := h
end
end L2
set_option Elab.async false
set_option maxHeartbeats 4000000
namespace L2
open PySem PySem.Spec PyProof.Rows
theorem ObjOk.there {P : Program} {w : World} {H : Hp} {h : Heap} {a : Addr} {o : HO} (x : ObjOk P w H h a o) : ∃ ob, h.get? a = some ob := by
  induction o with
  | lst xs => obtain ⟨z, its, n, r, e⟩ := x; exact ⟨_, e⟩
  | tup xs => obtain ⟨z, its, r, ob, e, c⟩ := x; exact ⟨_, e⟩
  | dK kvs => obtain ⟨z, y, vs, r, ob, es, ep, e, c⟩ := x; exact ⟨_, e⟩
  | dT kvs => obtain ⟨z, y, xs, r, ob, es, ep, e, c⟩ := x; exact ⟨_, e⟩
  | set S n => obtain ⟨ob, es, ep, t, e, c⟩ := x; exact ⟨_, e⟩
  | ins C dx fs => obtain ⟨d, z, ne, e, _⟩ := x; exact ⟨_, e⟩
  | own y => exact x
  | xd fs => obtain ⟨mA, ⟨od, es, ep, e, c⟩, r⟩ := x; exact ⟨_, e⟩
  | rng lo hi => obtain ⟨t, u, v, e⟩ := x; exact ⟨_, e⟩
  | frz ob u ih => exact ⟨_, x.1⟩
  | tbl ps => exact ⟨_, show h.get? a = some { cls := .none, data := .fields ps } from x⟩
  | met f y => exact ⟨_, show h.get? a = some (PySem.W.methodObj (.ref f) (.ref y)) from x⟩
  | ext φ => exact x.2.1
structure RaisedAt (P : Program) (w : World) (outer : List Env) (H : Hp) (s : Shared) (x C t : Addr) (B h0 : Heap) (H' : Hp) (F : List Addr) (s' : Shared) : Prop where
  os : s'.os = s.os
  bare : AllBare s'.gens
  fly : Heap.FlyingW B outer x (.ref C) (.ref t) s'.heap
  inB : ∀ b o, h0.get? b = some o → b ∉ F → B.get? b = some o
  hF : ∀ b ∈ F, b ∈ frs outer ∨ s.heap.objs.size ≤ b
  fH : ∀ b ∈ F, H' b = none
  up : h0.UpToSlots s'.heap
  fr0 : ∀ b ∈ frs outer, ∃ o, h0.get? b = some o ∧ ∀ vs, o.data ≠ .fields vs
  un : Un (frs outer) [] H H' s.heap h0
  hok : HOk P w H' h0
  new : h0.get? x = none
  newH : H' x = none
section
variable {P : Program} {w : World} {outer : List Env} {H H' : Hp} {s s' : Shared} {x C t : Addr} {B h0 : Heap} {F : List Addr}
theorem RaisedAt.stay (R : RaisedAt P w outer H s x C t B h0 H' F s') {b : Addr} {o : Obj} (e : h0.get? b = some o) (hb : b ∉ F) : s'.heap.get? b = some o := R.fly.1 b o (R.inB b o e hb)
theorem RaisedAt.slot (R : RaisedAt P w outer H s x C t B h0 H' F s') {b : Addr} {o : Obj} (e : h0.get? b = some o) (hb : b ∈ frs outer) : ∃ sl, s'.heap.get? b = some { o with slots := sl } := by
  obtain ⟨o', e', nf⟩ := R.fr0 b hb
  rw [e] at e'; cases e'
  exact R.up b o e nf
theorem RaisedAt.unTo (R : RaisedAt P w outer H s x C t B h0 H' F s') : Un (frs outer) [] H H' s.heap s'.heap where
  keep := fun b o q n hb hx => R.stay (R.un.keep b o q n hb hx) fun hf => by
    rcases R.hF b hf with z | z
    · exact hb z
    · exact absurd (Heap.lt_size q) (Nat.not_lt.mpr z)
  slot := fun b o q n hb hx => by
    obtain ⟨sl, e⟩ := R.un.slot b o q n hb hx
    obtain ⟨sl', e'⟩ := R.slot e hb
    exact ⟨sl', e'⟩
  free := R.un.free
  there := fun b o q hx => by
    obtain ⟨o', e⟩ := R.un.there b o q hx
    by_cases hb : b ∈ frs outer
    · obtain ⟨sl, e'⟩ := R.slot e hb
      exact ⟨_, e'⟩
    · refine ⟨o', R.stay e fun hf => ?_⟩
      rcases R.hF b hf with z | z
      · exact hb z
      · exact absurd (Heap.lt_size q) (Nat.not_lt.mpr z)
  tups := R.un.tups
  frzs := R.un.frzs
  tbls := R.un.tbls
theorem RaisedAt.hokTo (R : RaisedAt P w outer H s x C t B h0 H' F s') : HOk P w H' s'.heap := fun a o e =>
  (R.hok a o e).stay (fun b u hb q => R.stay q fun hf => by
    rcases hb with rfl | hb
    · have := R.fH _ hf; rw [e] at this; cases this
    · have := R.fH b hf; rw [hb] at this; cases this) (fun _ q => q) (fun _ _ q => q)
theorem RaisedAt.on {h' : Heap} (R : RaisedAt P w outer H s x C t B h0 H' F s') (fl : Heap.FlyingW B outer x (.ref C) (.ref t) h') (u : s'.heap.UpToSlots h') : RaisedAt P w outer H s x C t B h0 H' F { s' with heap := h' } :=
  { R with fly := fl, up := R.up.trans u }
end
def CXE (P : Program) (w : World) : CXT := fun outer H s E e s' => ∃ x C t B h0 H' F, e = .ref x ∧ RaisedAt P w outer H s x C t B h0 H' F s' ∧ E (.ref C) none H'
section
variable {X : Cx} {pins : List (Addr × Obj)} {σ : St} {H H' : Hp} {s s' : Shared} {x C t : Addr} {B h0 : Heap} {F : List Addr}
theorem Inv.raised (I : Inv X pins σ H s) (R : RaisedAt X.prog X.w X.stack H s x C t B h0 H' F s') : Inv X pins σ H' s' :=
  I.call' R.os R.unTo R.hokTo R.bare (ch := []) (fun b z => absurd z (by simp))
theorem Inv.raised0 (I : Inv X pins σ H s) (R : RaisedAt X.prog X.w X.stack H s x C t B h0 H' F s') : Inv X pins σ H' { s' with heap := h0 } :=
  I.call' (s' := { s' with heap := h0 }) R.os R.un R.hok R.bare (ch := []) (fun b z => absurd z (by simp))
end
theorem frs_cons {env : Env} {outer : List Env} {L : Addr} (h : env.frame = some L) : frs (env :: outer) = L :: frs outer := by
  show List.filterMap _ (env :: outer) = _
  rw [List.filterMap_cons, h]; rfl
section
variable {P : Program} {w : World} {K : PySem.W.Frag} {mg : Str → Option Value} {base : Heap} {N : List Str} {qual : Str} {scope : Scope} {f : Addr} {cd : Value} {A : Around} {outer : List Env} {s₀ : Shared} {H₀ : Hp} {E : XK}
theorem passE : Passes (CXE P w) (cxOf (CXE P w) P w K mg base N qual scope f cd A outer s₀ H₀ E) E := by
  intro pins σ H s e s' I h
  obtain ⟨x, C, t, B, h0, H', F, rfl, R, hE⟩ := h
  have hs : (envOfC qual scope s₀.heap.objs.size f cd).frame = some s₀.heap.objs.size := rfl
  have I0 := I.raised0 R
  show wpAny _ _ (leaving _ (.ref x)) _ _ s'
  refine wpAny_leaves_onW I.ok.frames hs R.fly fun h' fl u => ?_
  refine ⟨x, C, t, B, h0, H', F, rfl, ?_, hE⟩
  refine ⟨R.os.trans I.os, R.bare, fl, R.inB, fun b hb => ?_, R.fH, R.up.trans u, fun b hb => R.fr0 b ?_, I0.base, R.hok, R.new, R.newH⟩
  · rcases R.hF b hb with z | z
    · have z' : b ∈ s₀.heap.objs.size :: frs outer := by rw [← frs_cons hs]; exact z
      rcases List.mem_cons.mp z' with r | r
      · exact .inr (Nat.le_of_eq r.symm)
      · exact .inl r
    · exact .inr (Nat.le_trans I.sz z)
  · show b ∈ frs (_ :: outer)
    rw [frs_cons hs]; exact List.mem_cons_of_mem _ hb
def RaisesTo (X : Cx) (E : XK) : Prop := ∀ (pins : List (Addr × Obj)) (σ : St) (H : Hp) (s : Shared) (x C : Addr) (args : List Value) (h' : Heap), Inv X pins σ H s → Heap.MadeExcOf s.heap h' x (.ref C) args → E (.ref C) none H → X.xe (.ref x) { s with heap := h' }
theorem raisesE : RaisesTo (cxOf (CXE P w) P w K mg base N qual scope f cd A outer s₀ H₀ E) E := by
  intro pins σ H s x C args h' I hx hE
  have hs : (envOfC qual scope s₀.heap.objs.size f cd).frame = some s₀.heap.objs.size := rfl
  show wpAny _ _ (leaving _ (.ref x)) _ _ { s with heap := h' }
  have st := I.stack
  have hfr : ∀ env ∈ (envOfC qual scope s₀.heap.objs.size f cd :: outer), ∀ b, env.frame = some b → b ∈ frs (envOfC qual scope s₀.heap.objs.size f cd :: outer) := fun env he b hb => List.mem_filterMap.mpr ⟨env, he, hb⟩
  refine wpAny_leaves_madeW (h := s.heap) (base := PySem.W.hideAll s.heap (frs (envOfC qual scope s₀.heap.objs.size f cd :: outer))) I.ok.frames hs (fun b o q => PySem.W.of_hideAll _ q) (PySem.W.funFrames_hide st hfr) hx fun h2 t fl tup nb u => ?_
  refine ⟨x, C, t, PySem.W.hideAll s.heap (frs (envOfC qual scope s₀.heap.objs.size f cd :: outer)), s.heap, H, frs (envOfC qual scope s₀.heap.objs.size f cd :: outer), rfl, ?_, hE⟩
  refine ⟨I.os, I.bare, fl, fun b o q hb => PySem.W.hideAll_get _ q hb, fun b hb => ?_, fun b hb => I.stkFree b hb, (Heap.UpToSlots.of_keeps hx.keeps).trans u, fun b hb => ?_, I.base, I.hok, hx.new, ?_⟩
  · rw [frs_cons hs] at hb
    rcases List.mem_cons.mp hb with r | r
    · exact .inr (Nat.le_of_eq r.symm)
    · exact .inl r
  · exact (st.mem (show b ∈ (envOfC qual scope s₀.heap.objs.size f cd :: outer).filterMap (·.frame) by
      have : b ∈ frs (envOfC qual scope s₀.heap.objs.size f cd :: outer) := by rw [frs_cons hs]; exact List.mem_cons_of_mem _ hb
      exact this)).2
  · cases q : H x with
    | none => rfl
    | some o =>
      have lt := I.hok.lt q
      obtain ⟨oo, eo⟩ : ∃ oo, s.heap.get? x = some oo := (I.hok x o q).there
      rw [hx.new] at eo; cases eo
end
end L2
namespace L2
open PySem PySem.Spec PyProof.Rows
def ExcCls (K : PySem.W.Frag) (C : Addr) : Prop := PySem.W.excIn K C [.type "ValueError", .type "Exception", .type "BaseException", .type "object"] "ValueError.__new__" = true
theorem ExcCls.obj {K : PySem.W.Frag} {C : Addr} {h₀ : Heap} (q : ExcCls K C) (X : K.In h₀) : ∃ bm N nm qn bs hdct sn sub ab col dd k0 k1 k2 k3 k5 mN, h₀.get? C = some (excClassObj nm qn C N bs bm hdct sn sub ab col dd k0 k1 k2 k3 k5 "ValueError.__new__") ∧ h₀.Ns N mN ∧ mN "__init__" = none ∧
    OwnTail h₀ [.type "ValueError", .type "Exception", .type "BaseException", .type "object"] bm := by
  unfold ExcCls PySem.W.excIn at q
  split at q
  · rename_i dd cd sl ho
    split at q
    · rename_i C' bm k0 k1 k2 k3 n k5 hm hs
      simp only [Bool.and_eq_true, beq_iff_eq, Bool.not_eq_true'] at q
      obtain ⟨⟨⟨⟨⟨rfl, rfl⟩, hdel⟩, ht⟩, hok⟩, hni⟩ := q
      obtain ⟨nm, bs, mro, ns, qn, hd, sn, sub, ab, col, del⟩ := cd
      dsimp only at hm hdel hok hni
      subst hm hdel
      have hsl : sl = #[k0, k1, k2, k3, some (.builtin "ValueError.__new__"), k5] := by
        obtain ⟨l⟩ := sl
        simp only at hs
        rw [hs]
      subst hsl
      exact ⟨bm, ns, nm, qn, bs, hd, sn, sub, ab, col, dd, k0, k1, k2, k3, k5, _, X _ _ ho, .of_isNs (PySem.W.isNs_of_in X hok), PySem.W.nsMap_none_of_in X hok hni, PySem.W.tail_of_in X ht⟩
    · cases q
  · cases q
section
variable {X : Cx} {E : XK} {x : Str} {C : Addr} {np cpos pos : Pos} {e : Expr} {es : List Expr} {t : TA}
def tRaise (C : Addr) (E : XK) (t : TA) : TS := fun _ σ H => t σ H fun vs H1 => vs.length ≤ sizeLine ∧ E (.ref C) none H1
theorem ps_raise (hr : RaisesTo X E) (hc : X.calm = true) (hg : Gl X x) (hm : X.mg x = some (.ref C)) (q : ExcCls X.K C) (ha : PA X (e :: es) t) (hdb : (x == ("__debug__" : Str)) = false := by decide)
    (he : starEach (e :: es) X.env = (false, eval e X.env) :: starEach es X.env := by rfl) (hpl : (backTo cpos (starEach (e :: es) X.env)).any (·.1) = false := by rfl) : PS X (.Raise (some (.Call (.Name x np) (e :: es) [] cpos)) none pos) (tRaise C E t) := by
  intro pins s σ H D I h
  obtain ⟨bm, N, nm, qn, bs, hdct, sn, sub, ab, col, dd, k0, k1, k2, k3, k5, mN, hC, hN, hni, T⟩ := q.obj I.mod.kin
  refine wpAny_Raise_call_subT (C := C) (nm := nm) (q := qn) (N := N) (bs := bs) (bm := bm) (hdct := hdct) (sn := sn) (sub := sub) (ab := ab) (col := col) (dd := dd) (k0 := k0) (k1 := k1) (k2 := k2) (k3 := k3) (k5 := k5) (mN := mN) PySem.F.excBase_ValueError (T.hasType (by decide)) (I.ok.hd hc) hpl hni (ld_glob I hg hm ⟨rfl, ?_⟩ hdb)
  have ha' := ha cpos pins s σ H _ I h
  rw [he] at ha' ⊢
  show wpAny _ _ (evalArgs _ true ((false, eval e X.env) :: backTo cpos (starEach es X.env)) []) _ _ _
  refine Calls.evalArgs_plain (thn ha' fun us s1 q => ?_)
  obtain ⟨vs, H1, I1, r, hz, hE⟩ := q
  refine ⟨rfl, by show us.length ≤ _; rw [← r.length]; exact hz, I1.bk _ _ hC, hN.keeps I1.bk, T.keeps I1.bk, fun h' y hy => ?_⟩
  exact hr pins σ H1 s1 y C us h' I1 hy hE
end
end L2
set_option Elab.async false
set_option maxHeartbeats 4000000
set_option maxRecDepth 100000
namespace L2
open PySem PySem.Spec PyProof.Rows
section
variable {M : Model} {A : Around} {E : Value → Shared → Prop} {h : Heap} {g : Array GenState} {d : Drawn} {t : Nat} {os : OsState}
theorem excMatches_own {K : PySem.W.Frag} {x C D : Addr} {oe : Obj} {b : Bool} {Q : Bool → Shared → Prop} (X : K.In h) (he : h.get? x = some oe) (hcls : oe.cls = .ref C) (qD : ExcCls K D) (hb : PySem.W.subIn K (.ref C) (.ref D) = some b)
    (hq : Q b ⟨h, g, d, t, os⟩) : wpAny M A (excMatches (.ref x) (.ref D)) Q E ⟨h, g, d, t, os⟩ := by
  obtain ⟨bm, N, nm, qn, bs, hdct, sn, sub, ab, col, dd, k0, k1, k2, k3, k5, mN, hD, hN, hni, T⟩ := qD.obj X
  have hcB : (Value.ref D :: bm).contains (.type "BaseException") = true := by rw [List.contains_cons, T.hasType (X := "BaseException") (b := true) (by decide), Bool.or_true]
  have L := PySem.W.looks_subIn (M := M) X hb
  have f := tc_notTuple
  unfold excMatches
  cases b with
  | true =>
    repeat (first | (with_reducible refine wpAny_loadPart_at he ?_; rw [hcls]) | with_reducible refine wpAny_loadPart_at hD ?_ | (with_reducible refine wpAny_isSubtype_exc hD ?_; rw [hcB]) | with_reducible refine L.at ?_ | wp_step)
    exact hq
  | false =>
    repeat (first | (with_reducible refine wpAny_loadPart_at he ?_; rw [hcls]) | with_reducible refine wpAny_loadPart_at hD ?_ | (with_reducible refine wpAny_isSubtype_exc hD ?_; rw [hcB]) | with_reducible refine L.at ?_ | wp_step)
    exact hq
end
end L2
set_option Elab.async false
set_option maxHeartbeats 4000000
set_option maxRecDepth 100000
namespace L2
open PySem PySem.Spec PyProof.Rows
def ExcAt (x C : Addr) (h : Heap) : Prop := ∃ o vs, h.get? x = some o ∧ o.cls = .ref C ∧ o.data = .fields vs
def excO (x C : Addr) : HO := .ext (ExcAt x C)
theorem excO_ok {P : Program} {w : World} {H : Hp} {h : Heap} {x C : Addr} (e : ExcAt x C h) : ObjOk P w H h x (excO x C) := by
  obtain ⟨o, vs, e1, e2, e3⟩ := id e
  refine ⟨e, ⟨o, e1⟩, fun h1 h2 p k => ?_⟩
  obtain ⟨o', vs', q1, q2, q3⟩ := p
  exact ⟨o', vs', k _ q1, q2, q3⟩
section
variable {P : Program} {w : World} {outer : List Env} {H H' : Hp} {s s' : Shared} {x C t : Addr} {B h0 : Heap} {F : List Addr}
theorem RaisedAt.newS (R : RaisedAt P w outer H s x C t B h0 H' F s') : s.heap.get? x = none := by
  cases q : s.heap.get? x with
  | none => rfl
  | some o =>
    obtain ⟨o', e⟩ := R.un.there x o q (by simp)
    rw [R.new] at e; cases e
theorem RaisedAt.there (R : RaisedAt P w outer H s x C t B h0 H' F s') : ExcAt x C s'.heap := by
  obtain ⟨oe, vs, a, b, c, _⟩ := R.fly.first
  exact ⟨oe, vs, a, b, c⟩
theorem RaisedAt.unTrack (R : RaisedAt P w outer H s x C t B h0 H' F s') : Un (frs outer) [] H (upd H' x (excO x C)) s.heap s'.heap where
  keep := R.unTo.keep
  slot := R.unTo.slot
  free := fun b o q n hx => by
    have : b ≠ x := fun z => by rw [z, R.newS] at q; cases q
    rw [upd_ne this]; exact R.unTo.free b o q n hx
  there := R.unTo.there
  tups := fun b xs q => by have := R.unTo.tups b xs q; rw [upd_ne (ne_of_none this R.newH)]; exact this
  frzs := fun b o u q => by have := R.unTo.frzs b o u q; rw [upd_ne (ne_of_none this R.newH)]; exact this
  tbls := fun b ps q => by
    obtain ⟨more, e⟩ := R.unTo.tbls b ps q
    exact ⟨more, by rw [upd_ne (ne_of_none e R.newH)]; exact e⟩
theorem RaisedAt.hokTrack (R : RaisedAt P w outer H s x C t B h0 H' F s') : HOk P w (upd H' x (excO x C)) s'.heap := fun a o e => by
  by_cases ha : a = x
  · subst ha
    rw [upd_same] at e; cases e
    exact excO_ok R.there
  · rw [upd_ne ha] at e
    exact (R.hokTo a o e).stay (fun _ _ _ q => q) (fun b q => by rw [upd_ne (ne_of_none q R.newH)]; exact q) (fun b xs q => by rw [upd_ne (ne_of_none q R.newH)]; exact q)
end
def Cx.re (X : Cx) (pn : List (Addr × Obj)) (A : Around) (calm : Bool) (xe : Value → Shared → Prop) : Cx := { X with pn := pn, A := A, calm := calm, xe := xe }
theorem Inv.re {X : Cx} {pins pins' : List (Addr × Obj)} {σ : St} {H : Hp} {s : Shared} {pn : List (Addr × Obj)} {A : Around} {calm : Bool} {xe : Value → Shared → Prop} (I : Inv X pins σ H s) (hp : ∀ p ∈ pn ++ pins', p ∈ X.pn ++ pins) (hf : A.frames = X.A.frames) (hh : calm = true → A.handled = none) :
    Inv (X.re pn A calm xe) pins' σ H s :=
  ⟨⟨I.ok.mod, I.ok.kind, I.ok.glob, I.ok.blt, I.ok.above, I.ok.inj, I.ok.has, I.ok.cab, hh, hf.trans I.ok.frames, I.ok.stk, I.ok.exf, I.ok.bs, I.ok.bsz, I.ok.noex, I.ok.exfs, I.ok.funs, I.ok.frf⟩,
    I.os, I.bare, I.base, I.loc, I.cell, I.free, I.freeC, fun p hp' => I.pin p (hp p hp'), I.hok, I.len⟩
theorem Inv.unre {X : Cx} {pins pins' : List (Addr × Obj)} {σ : St} {H : Hp} {s : Shared} {pn : List (Addr × Obj)} {A : Around} {calm : Bool} {xe : Value → Shared → Prop} (ok : X.Ok) (I : Inv (X.re pn A calm xe) pins' σ H s) (hp : ∀ p ∈ X.pn ++ pins, p ∈ pn ++ pins') :
    Inv X pins σ H s :=
  ⟨ok, I.os, I.bare, I.base, I.loc, I.cell, I.free, I.freeC, fun p hp' => I.pin p (hp p hp'), I.hok, I.len⟩
section
variable {X : Cx} {n : Str} {D : Addr} {dx : Str} {np hpos pos : Pos} {body suite : List Stmt} {b₀ : Stmt} {tb ts : TS} {i : Nat}
def tryXe (X : Cx) (pins : List (Addr × Obj)) (Ec : XK) : Value → Shared → Prop := fun e s' => ∃ pins' σ H s, Inv (X.re (X.pn ++ pins) X.A X.calm X.xe) pins' σ H s ∧ CXE X.prog X.w X.stack H s Ec e s'
def tryCx (X : Cx) (pins : List (Addr × Obj)) (Ec : XK) : Cx := X.re (X.pn ++ pins) X.A X.calm (tryXe X pins Ec)
theorem passTry {pins : List (Addr × Obj)} {Ec : XK} : Passes (CXE X.prog X.w) (tryCx X pins Ec) Ec := fun pins' σ H s e s' I h =>
  ⟨pins', σ, H, s, ⟨⟨I.ok.mod, I.ok.kind, I.ok.glob, I.ok.blt, I.ok.above, I.ok.inj, I.ok.has, I.ok.cab, I.ok.hd, I.ok.frames, I.ok.stk, I.ok.exf, I.ok.bs, I.ok.bsz, I.ok.noex, I.ok.exfs, I.ok.funs, I.ok.frf⟩,
    I.os, I.bare, I.base, I.loc, I.cell, I.free, I.freeC, I.pin, I.hok, I.len⟩, h⟩
def suiteCx (X : Cx) (pins : List (Addr × Obj)) (x : Addr) : Cx := X.re (X.pn ++ pins) (X.A.mark (some (.ref x))) false (fun _ _ => False)
def tTry (K : PySem.W.Frag) (D : Addr) (N : List Str) (i : Nat) (Ec : XK) (tb ts : TS) : TS := fun E σ H => tb E σ H ∧
  ∀ (σ' : St) (C x : Addr) (H' : Hp), σ'.length = N.length → H' x = none → Ec (.ref C) none H' → PySem.W.subIn K (.ref C) (.ref D) = some true ∧
    ts { nx := fun σ2 H2 => E.nx (σ2.set i none) H2, rt := E.rt, bk := fun σ2 H2 => E.bk (σ2.set i none) H2, ct := fun σ2 H2 => E.ct (σ2.set i none) H2 } (σ'.set i (some (.ref x))) (upd H' x (excO x C))
theorem mark_frames (A : Around) (o : Option Value) : (A.mark o).frames = A.frames := by first | rfl | (cases A; rfl)
theorem name_goes {M : Model} {A : Around} {E : Value → Shared → Prop} {pins : List (Addr × Obj)} {σ : St} {H : Hp} {s : Shared} {x : Str} {Q : Unit → Shared → Prop} (I : Inv X pins σ H s) (hN : X.N.Nodup) (hi : X.N[i]? = some x) (hk : X.env.scope.names.lookup x = some .local)
    (h : ∀ s', Inv X pins (σ.set i none) H s' → Q () s') : wpAny M A (do bindName X.env x .none; unbindBehindTheSuite X.env x pos) Q E s := by
  obtain ⟨m, hn, hl⟩ := id I.loc
  have hcls : (X.env.scope.kind == .class || (X.env.scope.kind == .module && X.env.locals != X.env.globals)) = false := by rw [I.ok.kind]; rfl
  have cne := I.cne
  have tracked : ∀ {h' : Heap}, Heap.SameBut X.env.locals s.heap h' → HOk X.prog X.w H h' := fun {h'} hs b ob e => by
    refine (I.hok b ob e).stay (fun c w' hc q => (hs.2 c ?_).trans q) (fun _ q => q) fun _ _ q => q
    rintro rfl
    rcases hc with z | hc
    · rw [← z, I.free] at e; cases e
    · rw [I.free] at hc; cases hc
  refine wpAny_nameGoes_keeps hk hn hcls fun h' v hn' hs => ?_
  refine h _ ⟨I.ok, I.os, I.bare, ⟨fun b o e n hb hx => ?_, fun b o e n hb hx => ?_, I.base.free, fun b o e hx => ?_, I.base.tups, I.base.frzs, I.base.tbls⟩, ⟨_, hn', fun j y v' e1 e2 e3 => ?_⟩, fun y c e => ?_, I.free, I.freeC, fun p hp => ?_, tracked hs, by rw [List.length_set]; exact I.len⟩
  · exact (hs.2 b (Nat.ne_of_lt (Nat.lt_of_lt_of_le (Heap.lt_size e) I.ok.above))).trans (I.base.keep b o e n hb hx)
  · obtain ⟨sl, e1⟩ := I.base.slot b o e n hb hx
    exact ⟨sl, (hs.2 b (Nat.ne_of_lt (Nat.lt_of_lt_of_le (Heap.lt_size e) I.ok.above))).trans e1⟩
  · obtain ⟨o', e1⟩ := I.base.there b o e hx
    exact ⟨o', (hs.2 b (Nat.ne_of_lt (Nat.lt_of_lt_of_le (Heap.lt_size e) I.ok.above))).trans e1⟩
  · by_cases hj : j = i
    · subst hj
      by_cases hlt : j < σ.length
      · rw [List.getElem?_set_self hlt] at e2; cases e2
      · rw [List.getElem?_eq_none (by rw [List.length_set]; omega)] at e2; cases e2
    · rw [List.getElem?_set_ne (Ne.symm hj)] at e2
      obtain ⟨u', r', q⟩ := hl j y v' e1 e2 e3
      refine ⟨u', r', ?_⟩
      rcases q with ⟨k, e⟩ | ⟨k, c, e, z⟩
      · refine .inl ⟨k, ?_⟩
        have : y ≠ x := fun e => hj (nodup_ix hN e1 (e ▸ hi))
        simp [this, e]
      · exact .inr ⟨k, c, e, z.sameBut hs (cne y c e)⟩
  · obtain ⟨w', z⟩ := I.cell y c e
    exact ⟨w', z.sameBut hs (cne y c e)⟩
  · obtain ⟨e, n, ne, nf, d⟩ := I.pin p hp
    exact ⟨(hs.2 p.1 ne).trans e, n, ne, nf, d⟩
theorem ps_try {Ec : XK} (hN : X.N.Nodup) (hi : X.N[i]? = some n) (hk : X.env.scope.names.lookup n = some .local) (hgD : Gl X dx) (hmD : X.mg dx = some (.ref D)) (qD : ExcCls X.K D) (hst : X.stack = X.env :: X.outer) (hfr : X.env.frame = some X.env.locals)
    (hb : ∀ pins, PSs (tryCx X pins Ec) body tb) (hs : ∀ pins x, PSs (suiteCx X pins x) (b₀ :: suite) ts) (hdb : (dx == ("__debug__" : Str)) = false := by decide) :
    PS X (.Try body [.ExceptHandler (some (.Name dx np)) (some n) (b₀ :: suite) hpos] [] [] pos) (tTry X.K D X.N i Ec tb ts) := by
  intro pins s σ H E I h
  obtain ⟨h1, h2⟩ := h
  have I' : Inv (tryCx X pins Ec) [] σ H s := I.re (fun p hp => by simpa using hp) rfl I.ok.hd
  have back : ∀ {σ' : St} {H' : Hp} {s' : Shared}, Inv (tryCx X pins Ec) [] σ' H' s' → Inv X pins σ' H' s' := fun J => J.unre I.ok fun p hp => by simpa using hp
  refine wpAny_Try_except (wpAny_mono (hb pins [] s σ H E I' h1) (fun f s1 hs1 => ?_) (fun e s1 he => ?_))
  · cases f with
    | next =>
      obtain ⟨σ', H', J, q⟩ := hs1
      exact wpAny_execs_nil ⟨σ', H', back J, q⟩
    | brk => obtain ⟨σ', H', J, q⟩ := hs1; exact ⟨σ', H', back J, q⟩
    | cont => obtain ⟨σ', H', J, q⟩ := hs1; exact ⟨σ', H', back J, q⟩
    | ret u => obtain ⟨v, σ', H', J, q⟩ := hs1; exact ⟨v, σ', H', back J, q⟩
  · obtain ⟨pins', σ', Hc, sc, J, hx⟩ := he
    obtain ⟨x, C, t, B, h0, H', F, rfl, R, hE⟩ := hx
    have hframes : X.A.frames = some (X.env :: X.outer) := I.ok.frames.trans (by rw [hst])
    rw [hst] at R
    refine wpAny_looks_onW hframes hfr R.fly fun h4 held4 up4 => wpAny_landsW held4 fun h5 fl5 up5 => ?_
    have R5 := R.on fl5 (up4.trans up5)
    have J5 : Inv (suiteCx X pins x) [] σ' H' { s1 with heap := h5 } := by
      have J' : Inv (X.re (X.pn ++ pins) X.A X.calm X.xe) pins' σ' H' { s1 with heap := h5 } := J.raised (by rw [← hst] at R5; exact R5)
      exact (J'.unre (pins := pins ++ pins') I.ok fun p hp => by simpa using hp).re (fun p hp => by simp at hp ⊢; rcases hp with z | z <;> simp [z]) (mark_frames _ _) (fun z => by cases z)
    obtain ⟨hsub, hq⟩ := h2 σ' C x H' J5.len R.newH hE
    refine wpAny_handleBy_cons (codeAny_handlers_test (ld_glob (X := suiteCx X pins x) J5 hgD hmD ?_ hdb)) (by intro q; cases q)
    obtain ⟨oe, he, hcls⟩ := fl5.there
    refine excMatches_own J5.kIn he hcls qD hsub (codeAny_handlers_suite_as ?_)
    refine lands_againW fl5 fun h6 fl6 up6 => ?_
    have R6 := R5.on fl6 up6
    have J6 : Inv (suiteCx X pins x) [] σ' (upd H' x (excO x C)) { s1 with heap := h6 } := by
      have J' : Inv (X.re (X.pn ++ pins) X.A X.calm X.xe) pins' σ' (upd H' x (excO x C)) { s1 with heap := h6 } := J.call' (s' := { s1 with heap := h6 }) R6.os (by have := R6.unTrack; rw [← hst] at this; exact this) R6.hokTrack R6.bare (ch := []) (fun b z => absurd z (by simp))
      exact (J'.unre (pins := pins ++ pins') I.ok fun p hp => by simpa using hp).re (fun p hp => by simp at hp ⊢; rcases hp with z | z <;> simp [z]) (mark_frames _ _) (fun z => by cases z)
    refine store_ok (X := suiteCx X pins x) J6 hN hi (.inl hk) (v := .ref x) rfl (fun s7 J7 => ?_) (.inr hk)
    refine wpAny_mono (hs pins x [] s7 _ _ _ J7 hq) (fun f s8 hs8 => ?_) (fun _ _ z => z.elim)
    have back2 : ∀ {σ' : St} {H' : Hp} {s' : Shared}, Inv (suiteCx X pins x) [] σ' H' s' → Inv X pins σ' H' s' := fun J => J.unre I.ok fun p hp => by simpa using hp
    cases f with
    | next =>
      obtain ⟨σ2, H2, K2, q⟩ := hs8
      exact name_goes (back2 K2) hN hi hk fun s9 K9 => ⟨_, H2, K9, q⟩
    | brk => obtain ⟨σ2, H2, K2, q⟩ := hs8; exact name_goes (back2 K2) hN hi hk fun s9 K9 => ⟨_, H2, K9, q⟩
    | cont => obtain ⟨σ2, H2, K2, q⟩ := hs8; exact name_goes (back2 K2) hN hi hk fun s9 K9 => ⟨_, H2, K9, q⟩
    | ret u => obtain ⟨v, σ2, H2, K2, q⟩ := hs8; exact name_goes (back2 K2) hN hi hk fun s9 K9 => ⟨v, _, H2, K9, q⟩
end
end L2
set_option Elab.async false
set_option maxHeartbeats 4000000
set_option maxRecDepth 100000
namespace L2
open PySem PySem.Spec PyProof.Rows PySem.W
structure ExcLook (K : PySem.W.Frag) (C : Addr) : Prop where
  cls : ExcCls K C
  ga : findIn K (.ref C) "__getattribute__" = some (some (.builtin "BaseException.__getattribute__"))
  hook : findIn K (.ref C) "__getattr__" = some none
  own : findIn K (.ref C) "__class__" = some (some (.builtin "object.__class__"))
  obj : mroIn K C (.type "object") = some true
  base : mroIn K C (.type "BaseException") = some true
section
variable {prog : Program} {w : World} {A : Around} {E : Value → Shared → Prop} {h : Heap} {g : Array GenState} {d : Drawn} {t : Nat} {os : OsState} {K : PySem.W.Frag} {x C : Addr} {o : Obj}
theorem exc_type {M : Model} (hx : h.get? x = some o) (hc : o.cls = .ref C) : Looks M h (typeOf (.ref x)) (.ref C) := hc ▸ (Looks.ld hx).andThen .now
open Builtin Builtin.ObjectAttr Builtin.Getset_descriptor in
theorem exc_class_get {R : Result → Shared → Prop} {tp : Value} (X : K.In h) (q : ExcLook K C) (hx : h.get? x = some o) (hc : o.cls = .ref C) (hq : R (.ok (.ret (.ref C))) ⟨h, g, d, t, os⟩) :
    codeAny (model prog w) A (.call (.builtin "getset_descriptor.__get__") ⟨[.builtin "object.__class__", .ref x, tp], []⟩) R ⟨h, g, d, t, os⟩ := by
  have L0 := exc_type (M := model prog w) hx hc
  have L1 := looks_mroIn (M := model prog w) X q.obj
  refine codeAny_call_builtin KF.slot_gs.plain KF.entry_gs (KF.slot_gs.check _ _ _ _ _ _ _ _ KF.type_class (KF.args_gs _ _ _) ?_)
  unfold Builtin.«getset_descriptor.__get__» descrGet
  rw [dga_obj]
  refine wpAny_bind (wpAny_pure ?_)
  unfold descrGetter descrCheckInstance descrNameAndClass isInstance
  simp only [KF.owner_class]
  repeat lk
  refine ⟨Code.quiet_builtin _ (by decide +kernel), codeAny_builtin KF.entry_class ?_⟩
  unfold Builtin.«object.__class__» shownTypeOf
  repeat lk
  exact hq
theorem exc_class_entry {tk : Tok} {Q : Fin → Shared → Prop} (X : K.In h) (q : ExcLook K C) (hx : h.get? x = some o) (hc : o.cls = .ref C) (hq : Q (.done (.ret (.ref C))) ⟨h, g, d, t, os⟩) :
    wpAny (model prog w) A (Builtin.«object.__getattribute__» ⟨[.ref x, .str "__class__" tk], []⟩) Q E ⟨h, g, d, t, os⟩ := by
  have L0 := exc_type (M := model prog w) hx hc
  have L1 := looks_findIn (M := model prog w) X q.own
  have f5 := F.typeOf_object_class
  have f6 := F.slot_gs_get.lookup
  have f7 := F.slot_gs_set.lookup
  have hT5 : (⟨h, g, d, t, os⟩ : Shared).TypeIs (.builtin "object.__class__") "getset_descriptor" := F.typeOf_object_class
  repeat (any_goals (first | assumption | with_reducible refine L0.at ?_ | with_reducible refine L1.at ?_ | (with_reducible refine wpAny_loadPart_at hx ?_; rw [hc]) | wp_step))
  refine exc_class_get X q hx hc ?_
  repeat (any_goals (first | assumption | wp_step))
theorem check_ga_exc {M : Model} {nameV : Value} {Q : Unit → Shared → Prop} (X : K.In h) (q : ExcLook K C) (hx : h.get? x = some o) (hc : o.cls = .ref C) (hq : Q () ⟨h, g, d, t, os⟩) :
    wpAny M A (checkBuiltinCall "BaseException.__getattribute__" ⟨[.ref x, nameV], []⟩) Q E ⟨h, g, d, t, os⟩ := by
  have hk : builtinKind "BaseException.__getattribute__" = some .slot := by decide +kernel
  have hsplit : splitId "BaseException.__getattribute__" = some ("BaseException", "__getattribute__") := by decide +kernel
  have L0 := exc_type (M := M) hx hc
  have L1 := looks_mroIn (M := M) X q.base
  have ha := F.args_bexc_ga (.ref x) nameV
  simp only [checkBuiltinCall, hk, hsplit]
  refine wpAny_bind ?_
  unfold isInstance
  repeat (first | with_reducible refine L0.at ?_ | with_reducible refine L1.at ?_ | (with_reducible refine wpAny_loadPart_at hx ?_; rw [hc]) | wp_step)
  exact hq
theorem exc_class_call {tk : Tok} {R : Result → Shared → Prop} (X : K.In h) (q : ExcLook K C) (hx : h.get? x = some o) (hc : o.cls = .ref C) (hq : R (.ok (.ret (.ref C))) ⟨h, g, d, t, os⟩) :
    codeAny (model prog w) A (.call (.builtin "BaseException.__getattribute__") ⟨[.ref x, .str "__class__" tk], []⟩) R ⟨h, g, d, t, os⟩ :=
  codeAny_call_builtin PySem.F.attr_ValueError.ga.plain F.entry_bexc_ga (check_ga_exc X q hx hc (exc_class_entry X q hx hc hq))
theorem exc_class_by {tk : Tok} {fill expr : Bool} {Q : Value → Shared → Prop} (X : K.In h) (q : ExcLook K C) (hx : h.get? x = some o) (hc : o.cls = .ref C) (hq : Q (.ref C) ⟨h, g, d, t, os⟩) :
    wpAny (model prog w) A (getAttrBy (.ref x) (.str "__class__" tk) fill expr) Q E ⟨h, g, d, t, os⟩ := by
  have f3 := PySem.F.attr_ValueError.ga.bind (.ref x)
  have hx0 : (expr && onTheHeap (Value.builtin "BaseException.__getattribute__")) = false := by cases expr <;> rfl
  have hx2 : (Value.builtin "BaseException.__getattribute__" == Value.builtin "object.__getattribute__") = false := by decide +kernel
  have hx1 : (onTheHeap (Value.ref C) && Value.builtin "BaseException.__getattribute__" == Value.builtin "object.__getattribute__") = false := by rw [hx2]; rfl
  have L0 := exc_type (M := model prog w) hx hc
  have L1 := looks_findIn (M := model prog w) X q.ga
  have L2 := looks_findIn (M := model prog w) X q.hook
  repeat (any_goals (first | assumption | with_reducible refine L0.at ?_ | with_reducible refine L1.at ?_ | with_reducible refine L2.at ?_ | (with_reducible refine wpAny_loadPart_at hx ?_; rw [hc]) | wp_step))
  refine exc_class_call X q hx hc ?_
  repeat (any_goals (first | assumption | wp_step))
theorem exc_class_attr {Q : Option Value → Shared → Prop} (X : K.In h) (q : ExcLook K C) (hx : h.get? x = some o) (hc : o.cls = .ref C) (hq : Q (some (.ref C)) ⟨h, g, d, t + 1, os⟩) : wpAny (model prog w) A (getAttr? (.ref x) "__class__") Q E ⟨h, g, d, t, os⟩ := by
  unfold getAttr? getAttrBy?
  repeat (any_goals (first | assumption | with_reducible apply exc_class_by X q hx hc | wp_step))
theorem kitx_exc (q : ExcLook K C) : KitX K (.ref x) (.ref C) (ExcAt x C) where
  ty := fun _ _ _ ⟨_, _, a, b, _⟩ => exc_type a b
  it := fun M h X _ => by
    obtain ⟨bm, N, nm, qn, bs, hdct, sn, sub, ab, col, dd, k0, k1, k2, k3, k5, mN, hC, hN, hni, T⟩ := q.cls.obj X
    intro A' Q' E' s' k q'
    unfold isType loadHead
    exact wpAny_bind (wpAny_loadPart (k _ _ hC) (wpAny_pure q'))
  ne := fun h tp dd its n sl X htp => by
    obtain ⟨bm, N, nm, qn, bs, hdct, sn, sub, ab, col, dd', k0, k1, k2, k3, k5, mN, hC, hN, hni, T⟩ := q.cls.obj X
    refine Bool.eq_false_iff.mpr fun z => ?_
    have e : C = tp := Value.ref.inj (beq_iff_eq.mp z)
    subst e
    have z := congrArg Obj.data (Option.some.inj (hC.symm.trans htp))
    cases z
  ca := fun {_ _ _ _ _ s} X p k => by
    obtain ⟨h, g, d, t, os⟩ := s
    obtain ⟨o, vs, a, b, c⟩ := p
    exact exc_class_attr X q a b k
end
section
variable {X : Cx}
def rIsiX (K : PySem.W.Frag) : List V → Hp → VK → Prop := fun xs H Q => ∃ x C c b u, xs = [.ref x, u] ∧ RelV u c ∧ H x = some (excO x C) ∧ ExcLook K C ∧ PySem.W.kitOne K (.ref C) c = some b ∧ Q (.bl b) H
theorem call_isiX : CallR X (.builtin "isinstance") (rIsiX X.K) := by
  intro pins s σ H vs us Q I r h
  obtain ⟨x, C, c, b, u, rfl, ru, hx, q, e, hq⟩ := h
  obtain ⟨v1, v2, rfl, r1, r2⟩ := Vals.two r
  cases (show v1 = Value.ref x from r1)
  have : v2 = c := by
    cases u with
    | non => exact (show v2 = _ from r2).trans (show c = _ from ru).symm
    | bl y => exact (show v2 = _ from r2).trans (show c = _ from ru).symm
    | ref y => exact (show v2 = _ from r2).trans (show c = _ from ru).symm
    | ty y => exact (show v2 = _ from r2).trans (show c = _ from ru).symm
    | int y => obtain ⟨_, rfl⟩ := (show ∃ t, c = Value.int y t from ru); simp [PySem.W.kitOne, PySem.W.kitCls] at e
    | str y => obtain ⟨_, rfl⟩ := (show ∃ t, c = Value.str y t from ru); simp [PySem.W.kitOne, PySem.W.kitCls] at e
    | byt y => obtain ⟨_, rfl⟩ := (show ∃ t, c = Value.bytes y t from ru); simp [PySem.W.kitOne, PySem.W.kitCls] at e
    | flt y => obtain ⟨_, rfl⟩ := (show ∃ t, c = Value.float y t from ru); simp [PySem.W.kitOne, PySem.W.kitCls] at e
  subst this
  have p : ExcAt x C s.heap := (I.hok x _ hx).1
  exact PySem.W.kia_one (kitx_exc q) I.kIn p e (fun z => nomatch z) fun tk => ⟨.bl b, H, I.tok tk, rfl, hq⟩
end
end L2
set_option Elab.async false
set_option maxHeartbeats 4000000
set_option maxRecDepth 100000
namespace L2
open PySem PySem.Spec PyProof.Rows
section
variable {P : Program} {w : World} {K : PySem.W.Frag} {mg : Str → Option Value} {base : Heap}
theorem Fun.okE {x qual : Str} {st : Stmt} {f : Addr} {fd : FuncData} {N ps : List Str} {k : Nat} {sp : Sp} (F : Fun K x qual st f fd) (S : FnScope N ps (defScope st)) (len : ∀ vs H Q E, sp vs H Q E → vs.length = ps.length)
    (hbody : ∀ (cdv : Value) (A : Around) (outer : List Env) (s : Shared) (H : Hp) (vs : List V) (Q : VK) (E : XK), Room k (A.deeper (envOfC qual (defScope st) s.heap.objs.size f cdv)) → sp vs H Q E →
      ∃ t, PSs (cxOf (CXE P w) P w K mg base N qual (defScope st) f cdv A outer s H E) (defBody st) t ∧ t { nx := fun _ H' => Q .non H', rt := Q } (start N vs) H) : FnOk P w K mg base (CXE P w) (k + 1) f fd ps sp := by
  obtain ⟨oc, od, kV, doc, pm, an, cdv, ct, osl, rfl, lk, hcd⟩ := F.ex
  refine fn_of lk hcd S len fun A outer s H vs Q E hr hsp => ?_
  obtain ⟨t, h, q⟩ := hbody cdv A outer s H vs Q E hr hsp
  exact ⟨t, h, q⟩
theorem passOwnE {N : List Str} {qual : Str} {scope : Scope} {f : Addr} {cd : Value} {A : Around} {outer : List Env} {s₀ : Shared} {H₀ : Hp} {E : XK} :
    PassesOwn (model (cxOf (CXE P w) P w K mg base N qual scope f cd A outer s₀ H₀ E).prog (cxOf (CXE P w) P w K mg base N qual scope f cd A outer s₀ H₀ E).w) (cxOf (CXE P w) P w K mg base N qual scope f cd A outer s₀ H₀ E).A (cxOf (CXE P w) P w K mg base N qual scope f cd A outer s₀ H₀ E).env (cxOf (CXE P w) P w K mg base N qual scope f cd A outer s₀ H₀ E).xe :=
  PassesOwn.leaving (Q₁ := fun e s' => CXE P w outer H₀ s₀ E e s')
end
structure CalleeE (P : Program) (w : World) (K : PySem.W.Frag) (mg : Str → Option Value) (base : Heap) (x : Str) (ps : List Str) (k : Nat) (sp : Sp) : Prop where
  ex : ∃ f fd, FnOk P w K mg base (CXE P w) k f fd ps sp ∧ mg x = some (.ref f) ∧ PySem.W.keepIn K (.ref f) = true ∧ Binds K fd ps []
def tClE (sp : Sp) (E : XK) (t : TA) : TE := fun σ H Q => t σ H fun vs H1 => sp vs H1 Q E
section
variable {X : Cx} {x : Str} {ps : List Str} {k : Nat} {sp : Sp} {E : XK} {e : Expr} {es : List Expr} {t : TA} {p pos : Pos}
theorem pe_callE (C : CalleeE X.prog X.w X.K X.mg X.base x ps k sp) (hr : Room k X.A) (hx : Passes (CXE X.prog X.w) X E) (hg : Gl X x) (ha : PA X (e :: es) t)
    (hdb : (x == ("__debug__" : Str)) = false := by decide) (he : starEach (e :: es) X.env = (false, eval e X.env) :: starEach es X.env := by rfl) (hpl : (backTo pos (starEach es X.env)).any (·.1) = false := by rfl) :
    PE X (.Call (.Name x p) (e :: es) [] pos) (tClE sp E t) := by
  obtain ⟨f, fd, F, hm, hk, hb⟩ := C.ex
  have h := pe_call (p := p) (pos := pos) F hr hg hm hk hb .nil hx ha hdb he hpl
  intro pins s σ H Q I q
  refine h pins s σ H Q I ?_
  unfold tCall
  simp only [List.append_nil]
  exact q
def tCallV (P : Program) (w : World) (K : PySem.W.Frag) (mg : Str → Option Value) (base : Heap) (A : Around) (i : Nat) (E : XK) (t : TA) : TE := fun σ H Q => ∃ f fd ps k sp, σ[i]? = some (some (.ref f)) ∧ FnOk P w K mg base (CXE P w) k f fd ps sp ∧ Room k A ∧ PySem.W.keepIn K (.ref f) = true ∧ Binds K fd ps [] ∧
  t σ H fun vs H1 => sp vs H1 Q E
theorem pe_callV {i : Nat} (hN : X.N[i]? = some x) (hv : Vis X.env.scope x) (hx : Passes (CXE X.prog X.w) X E) (ha : PA X (e :: es) t)
    (hdb : (x == ("__debug__" : Str)) = false := by decide) (hcd : (x == ("__classdict__" : Str)) = false := by decide) (he : starEach (e :: es) X.env = (false, eval e X.env) :: starEach es X.env := by rfl) (hpl : (backTo pos (starEach es X.env)).any (·.1) = false := by rfl) :
    PE X (.Call (.Name x p) (e :: es) [] pos) (tCallV X.prog X.w X.K X.mg X.base X.A i E t) := by
  intro pins s σ H Q I h
  obtain ⟨f, fd, ps, k, sp, hf, F, hr, hk, hb, q⟩ := h
  refine wpAny_Call_Name_kw (thn (pe_var (pos := p) hN hv hdb hcd pins s σ H (fun v H' => v = .ref f ∧ H' = H) I ⟨_, hf, rfl, rfl⟩) fun u s1 z => ?_)
  obtain ⟨v, H', I1, r1, rfl, rfl⟩ := z
  cases (show u = Value.ref f from r1)
  refine PySem.W.callWith_K (h₀ := X.base) I1.ok.mod.kin hk (thn (ha pos pins s1 σ H' _ I1 q) fun us s2 ⟨vs, H1, I2, r, q⟩ => ⟨I2.kIn, ?_⟩) he hpl
  exact run_fn F hr hb .nil hx I2 r (by rw [List.append_nil]; exact q)
end
structure RoomH (k : Nat) (A : Around) : Prop where
  dp : A.depth + 3 * k + 5 < recursionLimit
  un : A.units + 16 * k + 200 < cLine
theorem RoomH.of {k : Nat} {A : Around} (r : Room k A) (o : Option Value) : RoomH k (A.mark o) := ⟨r.dp, r.un⟩
theorem RoomH.deeper {k : Nat} {A : Around} (r : RoomH (k + 1) A) (env : Env) : RoomH k (A.deeper env) :=
  ⟨by have := r.dp; show A.depth + 1 + 3 * k + 5 < _; omega, by have := r.un; show A.units + 3 + 16 * k + 200 < _; omega⟩
structure FnOkH (P : Program) (w : World) (K : PySem.W.Frag) (mg : Str → Option Value) (base : Heap) (k : Nat) (f : Addr) (fd : FuncData) (ps : List Str) (sp : Sp) : Prop where
  len : ∀ vs H Q E, sp vs H Q E → vs.length = ps.length
  run : ∀ (A : Around) (outer : List Env) (s : Shared) (H : Hp) (args : Args) (us : List Value) (vs : List V) (Q : VK) (E : XK), RoomH k A → Env0 P w K mg base A outer s H → BindsTo s fd args (ps.zip us) → Vals vs us → sp vs H Q E →
    codeAny (model P w) A (.call (.ref f) args) (CR CX0 outer P w H s Q E) s
def cxOfH (P : Program) (w : World) (K : PySem.W.Frag) (mg : Str → Option Value) (base : Heap) (N : List Str) (qual : Str) (scope : Scope) (f : Addr) (cd : Value) (A : Around) (outer : List Env) (s : Shared) (H : Hp) : Cx :=
  (cxOf CX0 P w K mg base N qual scope f cd A outer s H E0).re [] (A.deeper (envOfC qual scope s.heap.objs.size f cd)) false (fun _ _ => False)
theorem Fun.okH {P : Program} {w : World} {K : PySem.W.Frag} {mg : Str → Option Value} {base : Heap} {x qual : Str} {st : Stmt} {f : Addr} {fd : FuncData} {N ps : List Str} {k : Nat} {sp : Sp} (F : Fun K x qual st f fd) (S : FnScope N ps (defScope st)) (len : ∀ vs H Q E, sp vs H Q E → vs.length = ps.length)
    (hbody : ∀ (cdv : Value) (A : Around) (outer : List Env) (s : Shared) (H : Hp) (vs : List V) (Q : VK) (E : XK), RoomH k (A.deeper (envOfC qual (defScope st) s.heap.objs.size f cdv)) → sp vs H Q E →
      ∃ t, PSs (cxOfH P w K mg base N qual (defScope st) f cdv A outer s H) (defBody st) t ∧ t { nx := fun _ H' => Q .non H', rt := Q } (start N vs) H) : FnOkH P w K mg base (k + 1) f fd ps sp := by
  obtain ⟨oc, od, kV, doc, pm, an, cdv, ct, osl, rfl, lk, hcd⟩ := F.ex
  refine ⟨len, fun A outer s H args us vs Q E hr e0 hb r hsp => ?_⟩
  have hl := len _ _ _ _ hsp
  have KX : K.In s.heap := e0.mod.kin.keeps fun b o e => (e0.bs b o e).1
  have lim : s.heap.NoLimit := e0.mod.nolimit.keeps fun b o e => (e0.bs b o e).1
  have hkind : ∀ y ∈ ps.zip us, (defScope st).names.lookup y.1 = some .local ∨ ((defScope st).names.lookup y.1 = some .cell ∧ ((cellsFrom (s.heap.objs.size + 1) (defScope st).names []).lookup y.1).isSome = true) := fun ⟨n, v⟩ hy => by
    rcases S.par n (List.of_mem_zip hy).1 with q | q
    · exact .inl q
    · exact .inr ⟨q, PySem.W.cellsFrom_some _ _ _ (.inl q)⟩
  refine codeAny_call_function (by have := hr.dp; omega) (KX _ _ lk) rfl S.co S.gen rfl (PySem.W.codeRec_of KX hcd) (hb _ _ _ _ ?_)
  refine wpAny_newFunctionEnv_cells S.kind hkind fun env he s1 x => ?_
  subst he
  refine ⟨lim.keeps x.toInCall.keep, codeAny_func ?_⟩
  obtain ⟨t, ht, hq⟩ := hbody cdv A outer s H vs Q E (hr.deeper _) hsp
  have e0' : Env0 P w K mg base ({ A with handled := none } : Around) outer s H := ⟨e0.frames, e0.mod, e0.bs, e0.bsz, e0.funs, e0.frf, e0.hok, e0.bare⟩
  have I0 : Inv (cxOf CX0 P w K mg base N qual (defScope st) f cdv ({ A with handled := none } : Around) outer s H E0) [] (start N vs) H s1 := inv_start S rfl e0' hl r x
  have I : Inv (cxOfH P w K mg base N qual (defScope st) f cdv A outer s H) [] (start N vs) H s1 := I0.re (fun p hp => hp) ((Around.frames_deeper e0.frames).trans I0.ok.frames.symm) (fun z => by cases z)
  refine wpAny_mono (ht [] s1 (start N vs) H _ I hq) (fun fl s' hs => ?_) fun e s' hs => False.elim hs
  have fin : ∀ {σ' : St} {H' : Hp} {v : V} {u : Value}, Inv (cxOfH P w K mg base N qual (defScope st) f cdv A outer s H) [] σ' H' s' → RelV v u → Q v H' → CE outer P w H s Q u s' :=
    fun {σ' H' v u} J rv q => ⟨v, H', J.os, J.bare, J.base, J.hok, rv, q⟩
  cases fl with
  | ret u =>
    obtain ⟨v, σ', H', J, rv, q⟩ := hs
    exact fin J rv q
  | next =>
    obtain ⟨σ', H', J, q⟩ := hs
    exact fin (v := V.non) (u := Value.none) J rfl q
  | brk =>
    obtain ⟨_, _, _, q⟩ := hs
    exact False.elim q
  | cont =>
    obtain ⟨_, _, _, q⟩ := hs
    exact False.elim q
structure CalleeH (P : Program) (w : World) (K : PySem.W.Frag) (mg : Str → Option Value) (base : Heap) (x : Str) (ps : List Str) (k : Nat) (sp : Sp) : Prop where
  ex : ∃ f fd, FnOkH P w K mg base k f fd ps sp ∧ mg x = some (.ref f) ∧ PySem.W.keepIn K (.ref f) = true ∧ Binds K fd ps []
theorem pe_callH {X : Cx} {x : Str} {ps : List Str} {k : Nat} {sp : Sp} {e : Expr} {es : List Expr} {t : TA} {p pos : Pos} (C : CalleeH X.prog X.w X.K X.mg X.base x ps k sp) (hr : RoomH k X.A) (hg : Gl X x) (ha : PA X (e :: es) t)
    (hdb : (x == ("__debug__" : Str)) = false := by decide) (he : starEach (e :: es) X.env = (false, eval e X.env) :: starEach es X.env := by rfl) (hpl : (backTo pos (starEach es X.env)).any (·.1) = false := by rfl) :
    PE X (.Call (.Name x p) (e :: es) [] pos) (tCl sp t) := by
  obtain ⟨f, fd, F, hm, hk, hb⟩ := C.ex
  intro pins s σ H Q I h
  refine wpAny_Call_Name_kw (ld_glob I hg hm ?_ hdb)
  refine PySem.W.callWith_K (h₀ := X.base) I.ok.mod.kin hk (thn (ha pos pins s σ H _ I h) fun us s1 ⟨vs, H1, I1, r, q⟩ => ⟨I1.kIn, ?_⟩) he hpl
  have hl : us.length = ps.length := by rw [← r.length]; exact F.len _ _ _ _ q
  have bb : BindsTo s1 fd ⟨us, []⟩ (ps.zip us) := by have := hb s1 us I1.kIn (by rw [List.append_nil]; exact hl); rw [List.append_nil] at this; exact this
  refine wpAny_call (codeAny_mono (F.run X.A X.stack s1 H1 ⟨us, []⟩ us vs Q E0 hr I1.env0 bb r q) fun r s' hq => ?_)
  cases r with
  | error e => exact False.elim hq
  | ok fl =>
    cases fl with
    | ret u => exact I1.after hq
    | next => exact False.elim hq
    | brk => exact False.elim hq
    | cont => exact False.elim hq
end L2
set_option Elab.async false
set_option maxHeartbeats 4000000
set_option maxRecDepth 100000
namespace L2
open PySem PySem.Spec PyProof.Rows
section
variable {X : Cx} {x : Str} {pos : Pos}
theorem pe_globI {n : Int} (hm : ∃ t, X.mg x = some (.int n t)) (hg : Gl X x) (hd : (x == ("__debug__" : Str)) = false := by decide) : PE X (.Name x pos) (tC (.int n)) := by
  obtain ⟨t, hm⟩ := hm
  exact pe_glob hg hm ⟨t, rfl⟩ hd
theorem pe_globR {a : Addr} (hm : X.mg x = some (.ref a)) (hg : Gl X x) (hd : (x == ("__debug__" : Str)) = false := by decide) : PE X (.Name x pos) (tC (.ref a)) := pe_glob hg hm rfl hd
end
structure MethC (P : Program) (w : World) (K : PySem.W.Frag) (mg : Str → Option Value) (base : Heap) (C : Addr) (m : Str) (ps : List Str) (k : Nat) (sp : Sp) : Prop where
  ex : ∃ f fd, Meth K C m f ∧ FnOk P w K mg base CX0 k f fd ps sp ∧ Binds K fd ps []
  cl : Cls K C
section
variable {X : Cx} {o e : Expr} {es : List Expr} {m : Str} {ta : TE} {t : TA} {apos pos p : Pos} {k : Nat} {ps : List Str} {sp : Sp} {C : Addr} {x : Str}
structure MakeC (P : Program) (w : World) (K : PySem.W.Frag) (mg : Str → Option Value) (base : Heap) (x : Str) (C : Addr) (ps : List Str) (k : Nat) (sp : Sp) : Prop where
  ex : ∃ f fd, Mk K C f ∧ FnOk P w K mg base CX0 k f fd ps sp ∧ Binds K fd ps []
  at_ : mg x = some (.ref C)
def tMkC (C : Addr) (sp : Sp) (t : TA) : TE := fun σ H Q => t σ H fun vs H1 => ∀ x dx, H1 x = none → H1 dx = none → dx ≠ x → sp (.ref x :: vs) (upd (upd H1 dx (.own x)) x (.ins C dx [])) (fun v H2 => v = .non ∧ Q (.ref x) H2) E0
theorem pe_makeC (M : MakeC X.prog X.w X.K X.mg X.base x C ps k sp) (hr : Room (k + 1) X.A) (hg : Gl X x) (ha : PA X (e :: es) t) (hdb : (x == ("__debug__" : Str)) = false := by decide)
    (he : starEach (e :: es) X.env = (false, eval e X.env) :: starEach es X.env := by rfl) (hpl : (backTo pos (starEach es X.env)).any (·.1) = false := by rfl) : PE X (.Call (.Name x p) (e :: es) [] pos) (tMkC C sp t) := by
  obtain ⟨f, fd, mk, F, hb⟩ := M.ex
  have h := pe_make (p := p) (pos := pos) mk F hr hg M.at_ hb .nil pass0 ha hdb he hpl
  intro pins s σ H Q I q
  refine h pins s σ H Q I ?_
  unfold tMake
  simp only [List.append_nil]
  exact q
end
structure InsTy (K : PySem.W.Frag) (C : Addr) : Prop where
  cl : Cls K C
  ha : PySem.W.findIn K (.ref C) "__class__" = some (some (.builtin "object.__class__"))
  hn : PySem.W.specialIn K (.builtin "object.__class__") "__get__" = some (some (.builtin "getset_descriptor.__get__"))
  htk : PySem.W.takesIn K (.builtin "object.__class__") = some true
  hm : PySem.W.mroIn K C (.type "object") = some true
def rMax2 : List V → Hp → VK → Prop := fun xs H Q => ∃ i j, xs = [.int i, .int j] ∧ Q (.int (if j > i then j else i)) H
theorem call_max2' {X : Cx} (hc : X.calm = true) : CallR X (.builtin "max") rMax2 := call_max2 hc
section
variable {P : Program} {w : World} {K : PySem.W.Frag} {mg : Str → Option Value} {base : Heap} {A : Around} {D : Ends} {σ : St} {H H1 : Hp} {Q : VK} {ta te : TE} {t : TA} {f m : Str} {a C dx : Addr} {fs : List (Str × V)} {ps : List Str} {k : Nat} {sp : Sp}
theorem rd_fldT (h : ta σ H fun x H1 => ∃ a C dx fs v, x = .ref a ∧ H1 a = some (.ins C dx fs) ∧ Cls K C ∧ NoAttr K C f ∧ fs.lookup f = some v ∧ Q v H1) : tFld K ta f σ H Q := h
theorem rd_fld {v : V} {R : V → Prop} (e : H1 a = some (.ins C dx fs)) (c : Cls K C) (n : NoAttr K C f) (l : fs.lookup f = some v) (q : R v) : ∃ a' C dx fs v, V.ref a = .ref a' ∧ H1 a' = some (.ins C dx fs) ∧ Cls K C ∧ NoAttr K C f ∧ fs.lookup f = some v ∧ R v := ⟨a, C, dx, fs, v, rfl, e, c, n, l, q⟩
theorem rd_mkT (h : t σ H fun vs H1 => ∀ x dx, H1 x = none → H1 dx = none → dx ≠ x → sp (.ref x :: vs) (upd (upd H1 dx (.own x)) x (.ins C dx [])) (fun v H2 => v = .non ∧ Q (.ref x) H2) E0) : tMkC C sp t σ H Q := h
theorem rd_max2 {i j : Int} (h : Q (.int (if j > i then j else i)) H) : rMax2 [.int i, .int j] H Q := ⟨i, j, rfl, h⟩
theorem rd_cat {l b : Addr} {xs zs : List V} (e1 : H l = some (.lst xs)) (e2 : H b = some (.lst zs)) (hz : xs.length + zs.length ≤ sizeLine) (h : ∀ p, H p = none → Q (.ref p) (upd H p (.lst (xs ++ zs)))) : rCat (.ref l) (.ref b) H Q := ⟨l, b, xs, zs, rfl, rfl, e1, e2, hz, h⟩
theorem rd_ifE {tt : TT} {tb : TE} (h : tt σ H fun c H1 => if c = true then ta σ H1 Q else tb σ H1 Q) : tIf tt ta tb σ H Q := h
theorem rd_iTup {R : It → Hp → Prop} (h : te σ H fun x H1 => ∃ a, x = .ref a ∧ (∃ xs, SqT K H1 a xs) ∧ R (Itt K a) H1) : iTup K te σ H R := h
theorem rd_clE {E : XK} (h : t σ H fun vs H1 => sp vs H1 Q E) : tClE sp E t σ H Q := h
end
end L2
set_option Elab.async false
set_option maxHeartbeats 4000000
set_option maxRecDepth 100000
namespace L2
open PySem PySem.Spec PyProof.Rows
section
variable {K : PySem.W.Frag} {H : Hp} {te : TE}
theorem comp_listS {a : Addr} {xs : List V} {fs : St} {D : Addr} {R : Hp → Prop} (G : Nat → V → V) (hS : SqL K H a xs) (hD : H D = none) (hl : xs.length ≤ 1000)
    (he : ∀ (i : Nat) (x : V) (H' : Hp) (Q : VK), xs[i]? = some x → Same H H' → (∀ H'', Same H' H'' → Q (G i x) H'') → te (some x :: fs) H' Q)
    (hR : ∀ H', Same H H' → H' D = some (.lst (xs.mapIdx G)) → R H') :
    tCompTurn (Itl K a) (fun _ H Q => Q true H) te fs D R H := by
  have sn : ∀ (o : HO) (H2 : Hp), Same H H2 → Same H (upd H2 D o) := fun o H2 s b u q => by rw [upd_ne (ne_of_none q hD)]; exact s b u q
  refine ⟨fun i m acc H' => i ≤ xs.length ∧ m = xs.length - i ∧ acc = (xs.take i).mapIdx G ∧ Same H H' ∧ H' D = some (.lst acc), ⟨_, Nat.zero_le _, rfl, rfl, sn _ _ (Same.refl H), upd_same⟩, ?_⟩
  rintro i m acc H' ⟨h1, rfl, rfl, s, hd⟩
  refine ⟨hd, ?_⟩
  have q : SqL K H' a xs := s.seq hS
  by_cases hi : i < xs.length
  · refine .inr ⟨⟨xs, xs[i], q, by simp [hi]⟩, fun y H2 hy => ?_⟩
    obtain ⟨e, hy⟩ := hy
    subst e
    have hy := hy xs q
    refine iteT ?_
    refine he i y _ _ hy s fun H'' s' => ⟨s' _ _ hd, ?_, xs.length - (i + 1), by omega, hi, rfl, ?_, sn _ _ (s.trans s'), ?_⟩
    · rw [List.length_mapIdx, List.length_take]
      exact small1000 (by omega)
    · rw [List.take_succ, hy, List.mapIdx_append]
      simp only [Option.toList, List.mapIdx_cons, List.mapIdx_nil]
      rw [List.length_take, Nat.min_eq_left (by omega), Nat.zero_add]
    · rw [upd_same]
  · have e : i = xs.length := by omega
    subst e
    refine .inl ⟨⟨xs, q, Nat.le_refl _⟩, hR _ s ?_⟩
    rw [hd, List.take_length]
theorem comp_listC {a : Addr} {xs : List V} {fs : St} {D : Addr} {R : Hp → Prop} (z : V) (hS : SqL K H a xs) (hD : H D = none) (hl : xs.length ≤ 1000)
    (he : ∀ (i : Nat) (x : V) (H' : Hp) (Q : VK), xs[i]? = some x → Same H H' → (∀ H'', Same H' H'' → Q z H'') → te (some x :: fs) H' Q)
    (hR : ∀ H', Same H H' → H' D = some (.lst (List.replicate xs.length z)) → R H') : tCompTurn (Itl K a) (fun _ H Q => Q true H) te fs D R H :=
  comp_listS (fun _ _ => z) hS hD hl he fun H' s h => hR H' s (by rw [h]; congr 2; apply List.ext_getElem <;> simp)
end
end L2
set_option Elab.async false
set_option maxHeartbeats 4000000
set_option maxRecDepth 100000
namespace L2
open PySem PySem.Spec PyProof.Rows
section
variable {X : Cx}
theorem bls_eqAt {A : Around} {s : Shared} {ns ms : List Bool} {us ws : List Value} (r : Vals (ns.map V.bl) us) (r' : Vals (ms.map V.bl) ws) :
    ∀ j (h1 : j < us.toArray.size) (h2 : j < ws.toArray.size), SeqAt.EqAt A s us.toArray[j] ws.toArray[j] (decide (ns[j]? = ms[j]?)) := by
  intro j h1 h2
  have l1 := r.length
  have l2 := r'.length
  simp only [List.size_toArray] at h1 h2
  simp only [List.length_map] at l1 l2
  obtain ⟨u, e1, e2⟩ := r.get (i := j) (x := .bl (ns[j]'(by omega))) (by simp)
  obtain ⟨w, f1, f2⟩ := r'.get (i := j) (x := .bl (ms[j]'(by omega))) (by simp)
  cases (show u = Value.bool _ from e2)
  cases (show w = Value.bool _ from f2)
  have g1 : us.toArray[j] = Value.bool (ns[j]'(by omega)) := by
    rw [List.getElem?_eq_getElem h1] at e1
    simpa using Option.some.inj e1
  have g2 : ws.toArray[j] = Value.bool (ms[j]'(by omega)) := by
    rw [List.getElem?_eq_getElem h2] at f1
    simpa using Option.some.inj f1
  rw [g1, g2, List.getElem?_eq_getElem (by omega : j < ns.length), List.getElem?_eq_getElem (by omega : j < ms.length)]
  have := SeqAt.EqAt.bool_bool (A := A) (s := s) (ns[j]'(by omega)) (ms[j]'(by omega))
  rw [show (decide (some (ns[j]'(by omega)) = some (ms[j]'(by omega)))) = (ns[j]'(by omega) == ms[j]'(by omega)) by
    rw [Bool.beq_eq_decide_eq]; simp]
  exact this
theorem all_sameB {ns ms : List Bool} (h : ns.length = ms.length) : ((List.range ns.length).all fun j => decide (ns[j]? = ms[j]?)) = decide (ns = ms) := by
  rw [Bool.eq_iff_iff]
  simp only [List.all_eq_true, List.mem_range, decide_eq_true_eq]
  constructor
  · intro q
    refine List.ext_getElem? fun i => ?_
    by_cases hi : i < ns.length
    · exact q i hi
    · rw [List.getElem?_eq_none (by omega), List.getElem?_eq_none (by omega)]
  · rintro rfl i _; rfl
def rEqBL (K : PySem.W.Frag) : R2 := fun x y H Q => ∃ (p q : Addr) (ns ms : List Bool), x = .ref p ∧ y = .ref q ∧ SqL K H p (ns.map V.bl) ∧ SqL K H q (ms.map V.bl) ∧ Q (.bl (decide (ns = ms))) H
def rNeBL (K : PySem.W.Frag) : R2 := fun x y H Q => ∃ (p q : Addr) (ns ms : List Bool), x = .ref p ∧ y = .ref q ∧ SqL K H p (ns.map V.bl) ∧ SqL K H q (ms.map V.bl) ∧ Q (.bl (!decide (ns = ms))) H
theorem op_eqBL (hu : X.A.units < cLine) : OpR X (compareOp .Eq) (rEqBL X.K) := by
  intro pins s σ H x y v u Q I rx ry h
  obtain ⟨p, q, ns, ms, rfl, rfl, hp, hq, k⟩ := h
  cases (show v = Value.ref p from rx)
  cases (show u = Value.ref q from ry)
  obtain ⟨its, r, pl, _⟩ := I.list hp
  obtain ⟨its', r', pl', _⟩ := I.list hq
  have l1 := r.length
  have l2 := r'.length
  simp only [List.length_map] at l1 l2
  by_cases e : ns.length = ms.length
  · refine SeqAt.eq_listAt pl.isList pl'.isList (by simp only [List.size_toArray]; omega) hu (bls_eqAt r r') ⟨.bl _, H, I, rfl, ?_⟩
    rw [List.size_toArray, ← l1, all_sameB e]
    exact k
  · refine SeqAt.eq_list_lengthsAt pl.isList pl'.isList (by simp only [List.size_toArray, bne_iff_ne]; omega) hu ⟨.bl _, H, I, rfl, ?_⟩
    rw [decide_eq_false (fun z => e (congrArg List.length z))] at k
    exact k
theorem op_neBL (hu : X.A.units < cLine) : OpR X (compareOp .NotEq) (rNeBL X.K) := by
  intro pins s σ H x y v u Q I rx ry h
  obtain ⟨p, q, ns, ms, rfl, rfl, hp, hq, k⟩ := h
  cases (show v = Value.ref p from rx)
  cases (show u = Value.ref q from ry)
  obtain ⟨its, r, pl, _⟩ := I.list hp
  obtain ⟨its', r', pl', _⟩ := I.list hq
  have l1 := r.length
  have l2 := r'.length
  simp only [List.length_map] at l1 l2
  by_cases e : ns.length = ms.length
  · refine SeqAt.RcNeAt.lists pl.isList pl'.isList (by simp only [List.size_toArray]; omega) hu (bls_eqAt r r') X.prog X.w X.xe _ ⟨.bl _, H, I, rfl, ?_⟩
    rw [List.size_toArray, ← l1, all_sameB e]
    exact k
  · refine SeqAt.RcNeAt.lists_lengths pl.isList pl'.isList (by simp only [List.size_toArray, bne_iff_ne]; omega) hu X.prog X.w X.xe _ ⟨.bl _, H, I, rfl, ?_⟩
    rw [decide_eq_false (fun z => e (congrArg List.length z))] at k
    exact k
end
theorem Inv.bigD {X : Cx} {pins : List (Addr × Obj)} {σ : St} {H : Hp} {s : Shared} (I : Inv X pins σ H s) : sysModules < s.heap.objs.size := by
  obtain ⟨o, es, ep, ho, _⟩ := I.mod.glob
  exact Nat.lt_of_lt_of_le (by decide) (Nat.le_of_lt (Heap.lt_size (I.bk _ _ ho)))
def tDNew : TE := fun _ H Q => ∀ p, H p = none → Q (.ref p) (upd H p (.dK []))
theorem pe_dict0 {X : Cx} {pos : Pos} : PE X (.Dict [] [] pos) tDNew := fun pins s σ H Q I h =>
  wpAny_Dict_empty ⟨.ref s.heap.objs.size, _, I.laid (a := s.heap.objs.size) (o := .dK []) (t' := s.toks) (fun _ _ q => Heap.get?_push_of_some _ q) (Nat.le_refl _)
    ⟨Nat.zero_le _, beq_eq_false_iff_ne.mpr (Ne.symm (Nat.ne_of_lt I.bigD)), [], .nil, Heap.DictOf.new s.heap⟩, rfl, h _ (I.hok.fresh (Nat.le_refl _))⟩
def Its (lo st : Int) (n : Nat) : It := ⟨fun i _ => i < n, fun i H x H' => H' = H ∧ x = .int (lo + i * st), fun i _ => n ≤ i⟩
theorem turn_rangeS {P : Program} {w : World} {K : PySem.W.Frag} {tg : Expr} (it : Addr) (lo st : Int) (n : Nat) : Turn P w K tg (Its lo st n) [it] it (fun i h => IsRangeIter h it (lo + (i : Nat) * st) ((n : Int) - (i : Nat)) st) where
  mem := by simp
  obj := fun i h s b hb => by
    have e : b = it := by simpa using hb
    subst e
    exact ⟨_, s, fun v z => by
      have z' : Data.fields _ = Data.cell v := z
      cases z'⟩
  keep := fun i h h' s k => k it (by simp) _ s
  item := by
    intro X hP hw hK hc i pins s σ H E I hf sT hg
    subst hP hw hK
    obtain ⟨f0, f1, f2, f3, f4, f5⟩ := hf it (by simp)
    have W := Walks.range (prog := X.prog) (w := X.w) (I.ok.hd hc) it lo st n
    refine W.item i s _ _ hg sT fun v h' tk hv st' kk => ?_
    obtain ⟨t, rfl⟩ := hv
    have I1 : Inv X pins σ H { s with heap := h', toks := tk } := I.turned (fun b o hb e => kk b o (by simpa using hb) e) f0 f1 f3 f4 f5
    exact ⟨_, rfl, go_of (s := { s with heap := h', toks := tk }) (n := "range_iterator") st' rfl rfl (by decide) ⟨.int (lo + i * st), H, I1, ⟨t, rfl⟩, ⟨rfl, rfl⟩, st', fun b hb => (hf b hb).1⟩⟩
  done := by
    intro X hP hw hK hc i pins s σ H E I hf sT hg
    subst hP hw hK
    obtain ⟨f0, f1, f2, f3, f4, f5⟩ := hf it (by simp)
    exact wpAny_pyNext_range_end (I.ok.hd hc) sT (by have : n ≤ i := hg; omega) fun h' eb => ⟨rfl, I.turned (t' := s.toks) (fun b o hb e => eb b o hb e) f0 f1 f3 f4 f5⟩
  self := fun _ _ _ _ _ s h => wpAny_pyIter_rangeiter s h
def rngN (lo hi st : Int) : Nat := (if lo < hi then (hi - lo - 1) / st + 1 else 0).toNat
section
variable {X : Cx} {tg : Expr}
def iRng3 (ta : TA) : TI := fun σ H R => ta σ H fun vs H1 => ∃ i j k : Int, vs = [.int i, .int j, .int k] ∧ (0 ≤ i ∧ i < 1000000 ∧ 0 ≤ j ∧ j < 1000000 ∧ 0 < k ∧ k < 1000000) ∧ R (Its i k (rngN i j k)) H1
theorem pi_range3 {a b c : Expr} {ta : TA} {p pos : Pos} (hg : Gl X "range") (hm : X.mg "range" = none) (ha : PA X [a, b, c] ta) (hs : starEach [a, b, c] X.env = [(false, eval a X.env), (false, eval b X.env), (false, eval c X.env)] := by rfl) (hs2 : starEach [b, c] X.env = [(false, eval b X.env), (false, eval c X.env)] := by rfl) :
    PI X tg (.Call (.Name "range" p) [a, b, c] [] pos) (iRng3 ta) := by
  intro pins s σ H R I h
  refine Call_ (ld_blt I hg hm boot_range (PyProof.Rows.callWith_type1 (thn (ha pos pins s σ H _ I h) fun us s1 ⟨vs, H1, I1, r1, q1⟩ => ?_) (by rw [hs, hs2]) (by rw [hs2]; rfl)))
  obtain ⟨i, j, k, e, ⟨q1, q2, q3, q4, q5, q6⟩, q⟩ := q1
  subst e
  cases r1 with
  | cons r rr =>
    cases rr with
    | cons r' rr =>
      cases rr with
      | cons r'' rr =>
        cases rr
        obtain ⟨t, rfl⟩ := r
        obtain ⟨t', rfl⟩ := r'
        obtain ⟨t'', rfl⟩ := r''
        refine call_range_3 (by omega) ?_ (Or.inl (PyProof.noPylong_small (by omega)))
        have hsz : Builtin.Range.rangeSize i j k = ((rngN i j k : Nat) : Int) := by
          unfold Builtin.Range.rangeSize rngN
          rw [if_pos q5]
          split
          · have : 0 ≤ (j - i - 1) / k := Int.ediv_nonneg (by omega) (by omega)
            omega
          · rfl
        have hb : Builtin.Range.rangeSize i j k ≤ 1000000 := by
          unfold Builtin.Range.rangeSize
          rw [if_pos q5]
          split
          · have : (j - i - 1) / k ≤ j - i - 1 := Int.ediv_le_self _ (by omega)
            omega
          · omega
        have hsm : Builtin.Range.small i j k = true := by
          have h0 : 0 ≤ Builtin.Range.rangeSize i j k := by rw [hsz]; omega
          unfold Builtin.Range.small
          simp only [Builtin.Range.rangeFitsLong, Bool.and_eq_true, Bool.or_eq_true, decide_eq_true_eq, beq_iff_eq, q5, if_true]
          omega
        refine wpAny_pyIter_range (IsRange.new ..) hsm ?_
        have I2 : Inv X pins σ H1 { s1 with heap := s1.heap.push { cls := .type "range", data := .fields #[.int i t, .int j t', .int k t''] }, toks := s1.toks } := I1.kept fun b o e => Heap.get?_push_of_some _ e
        refine ⟨(s1.heap.push { cls := .type "range", data := .fields #[.int i t, .int j t', .int k t''] }).objs.size, [(s1.heap.push { cls := .type "range", data := .fields #[.int i t, .int j t', .int k t''] }).objs.size], _, _, H1, rfl,
          I2.kept (t' := s1.toks) fun b o e => Heap.get?_push_of_some _ e, turn_rangeS _ i k (rngN i j k), ?_, fun b hb => ?_, q⟩
        · have e1 : i + ((0 : Nat) : Int) * k = i := by simp
          have e2 : ((rngN i j k : Nat) : Int) - ((0 : Nat) : Int) = Builtin.Range.rangeSize i j k := by rw [hsz]; simp
          show IsRangeIter _ _ (i + ((0 : Nat) : Int) * k) (((rngN i j k : Nat) : Int) - ((0 : Nat) : Int)) k
          rw [e1, e2]
          exact Heap.get?_push_size _ rfl
        · have e : b = (s1.heap.push { cls := .type "range", data := .fields #[.int i t, .int j t', .int k t''] }).objs.size := by simpa using hb
          subst e
          exact I2.fpOk (Nat.le_refl _) (I2.hok.fresh (Nat.le_refl _))
theorem for_rangeS {lo st : Int} {n : Nat} {g : TG} {tb : TS} {D : Ends} {σ : St} {H : Hp} (Pv : Nat → St → Hp → Prop) (h0 : Pv 0 σ H)
    (hs : ∀ i σ H, i < n → Pv i σ H → g (.int (lo + i * st)) σ H fun σ2 H2 => tb { D with nx := Pv (i + 1), ct := Pv (i + 1), bk := D.nx } σ2 H2) (hd : ∀ σ H, Pv n σ H → D.nx σ H) :
    ∃ W : Nat → Nat → St → Hp → Prop, (∃ m, W 0 m σ H) ∧ ∀ i m σ H, W i m σ H →
      ((Its lo st n).stop i H ∧ D.nx σ H) ∨ ((Its lo st n).go i H ∧ ∃ N : St → Hp → Prop, (∀ σ' H', N σ' H' → ∃ m', m' < m ∧ W (i + 1) m' σ' H') ∧ ∀ x H', (Its lo st n).yld i H x H' → g x σ H' fun σ2 H2 => tb { D with nx := N, ct := N, bk := D.nx } σ2 H2) := by
  refine ⟨fun i m σ H => m = n - i ∧ i ≤ n ∧ Pv i σ H, ⟨n, by simp, Nat.zero_le _, h0⟩, ?_⟩
  rintro i m σ H ⟨rfl, hi, p⟩
  by_cases hlt : i < n
  · refine .inr ⟨hlt, Pv (i + 1), fun σ' H' p' => ⟨n - (i + 1), by omega, rfl, hlt, p'⟩, fun x H' y => ?_⟩
    obtain ⟨e, y⟩ := y
    subst e y
    exact hs i σ _ hlt p
  · have e : i = n := by omega
    subst e
    exact .inl ⟨Nat.le_refl _, hd σ H p⟩
end
theorem passE0 {X : Cx} {P : Program} {w : World} : Passes (CXE P w) X E0 := fun _ _ _ _ _ _ _ h => by
  obtain ⟨_, _, _, _, _, _, _, _, _, z⟩ := h
  exact z.elim
section
variable {K : PySem.W.Frag} {σ : St} {H : Hp} {Q : VK} {tx : TA}
theorem rd_eqBL {p q : Addr} {ns ms : List Bool} (e : SqL K H p (ns.map V.bl)) (e' : SqL K H q (ms.map V.bl)) (h : Q (.bl (decide (ns = ms))) H) : rEqBL K (.ref p) (.ref q) H Q := ⟨p, q, ns, ms, rfl, rfl, e, e', h⟩
theorem rd_neBL {p q : Addr} {ns ms : List Bool} (e : SqL K H p (ns.map V.bl)) (e' : SqL K H q (ms.map V.bl)) (h : Q (.bl (!decide (ns = ms))) H) : rNeBL K (.ref p) (.ref q) H Q := ⟨p, q, ns, ms, rfl, rfl, e, e', h⟩
theorem rd_iRng3 {R : It → Hp → Prop} (h : tx σ H fun vs H1 => ∃ i j k : Int, vs = [.int i, .int j, .int k] ∧ (0 ≤ i ∧ i < 1000000 ∧ 0 ≤ j ∧ j < 1000000 ∧ 0 < k ∧ k < 1000000) ∧ R (Its i k (rngN i j k)) H1) : iRng3 tx σ H R := h
theorem rd_isiX {x C : Addr} {c : Value} {b : Bool} {u : V} (ru : RelV u c) (hx : H x = some (excO x C)) (q : ExcLook K C) (e : PySem.W.kitOne K (.ref C) c = some b) (h : Q (.bl b) H) : rIsiX K [.ref x, u] H Q := ⟨x, C, c, b, u, rfl, ru, hx, q, e, h⟩
end
end L2
set_option Elab.async false
set_option maxHeartbeats 4000000
set_option maxRecDepth 100000
namespace L2
open PySem PySem.Spec PyProof.Rows
def rRange1 : List V → Hp → VK → Prop := fun xs H Q => ∃ j, xs = [.int j] ∧ ∀ r, H r = none → Q (.ref r) (upd H r (.rng 0 j))
theorem call_range1 {X : Cx} : CallR X (.type "range") rRange1 := by
  intro pins s σ H xs us Q I r h
  obtain ⟨j, rfl, q⟩ := h
  obtain ⟨u, rfl, rx⟩ := vals1 r
  obtain ⟨t, rfl⟩ := rx
  exact call_range_1 ⟨.ref s.heap.objs.size, _, I.laid (o := .rng 0 j) (t' := s.toks + 1 + 1) (fun _ _ q => Heap.get?_push_of_some _ q) (Nat.le_refl _) ⟨_, t, _, Heap.get?_push_size _ rfl⟩, rfl, q _ I.fresh⟩
theorem rd_range1 {H : Hp} {Q : VK} {j : Int} (h : ∀ r, H r = none → Q (.ref r) (upd H r (.rng 0 j))) : rRange1 [.int j] H Q := ⟨j, rfl, h⟩
theorem rd_listRng {H : Hp} {Q : VK} {p : Addr} {lo hi : Int} (e : H p = some (.rng lo hi)) (b : -(2 ^ 20) ≤ lo ∧ lo ≤ 2 ^ 20 ∧ -(2 ^ 20) ≤ hi ∧ hi ≤ 2 ^ 20) (h : ∀ l, H l = none → Q (.ref l) (upd H l (.lst ((List.range (hi - lo).toNat).map fun i => V.int (lo + (i : Nat)))))) : rListRng [.ref p] H Q := ⟨p, lo, hi, rfl, e, b.1, b.2.1, b.2.2.1, b.2.2.2, h⟩
theorem passTry2 {X Y : Cx} {pins : List (Addr × Obj)} {Ec : XK} (h : Y = tryCx X pins Ec) : Passes (CXE Y.prog Y.w) Y Ec := by subst h; exact passTry
theorem pe_callVT {X : Cx} {P : Program} {w : World} {K : PySem.W.Frag} {mg : Str → Option Value} {base : Heap} {A : Around} {k0 i : Nat} {x : Str} {E : XK} {e : Expr} {es : List Expr} {t : TA} {p pos : Pos} (_ : Room k0 A) (hP : X.prog = P) (hw : X.w = w) (hK : X.K = K) (hm : X.mg = mg) (hb : X.base = base) (hA : X.A = A)
    (hN : X.N[i]? = some x) (hv : Vis X.env.scope x) (hx : Passes (CXE X.prog X.w) X E) (ha : PA X (e :: es) t)
    (hdb : (x == ("__debug__" : Str)) = false := by decide) (hcd : (x == ("__classdict__" : Str)) = false := by decide) (he : starEach (e :: es) X.env = (false, eval e X.env) :: starEach es X.env := by rfl) (hpl : (backTo pos (starEach es X.env)).any (·.1) = false := by rfl) :
    PE X (.Call (.Name x p) (e :: es) [] pos) (tCallV P w K mg base A i E t) := by
  subst hP hw hK hm hb hA
  exact pe_callV hN hv hx ha hdb hcd he hpl
end L2
set_option Elab.async false
set_option maxHeartbeats 4000000
set_option maxRecDepth 100000
namespace L2
open PySem PySem.Spec PyProof.Rows
section
variable {K : PySem.W.Frag} {n b c : St → Hp → Prop} {r : VK} {σ : St} {H : Hp} {t u : TS} {te : TE} {g : TG} {tb : TS}
theorem rd_seqF (h : t (Ends.mk (u (Ends.mk n r b c)) r b c) σ H) : tSeq t u (Ends.mk n r b c) σ H := h
theorem rd_retF (h : te σ H r) : tRet te (Ends.mk n r b c) σ H := h
theorem rd_dropF (h : te σ H fun _ H1 => n σ H1) : tDrop te (Ends.mk n r b c) σ H := h
theorem rd_asgF (h : te σ H fun x H1 => g x σ H1 n) : tAsg te g (Ends.mk n r b c) σ H := h
theorem rd_nextF (h : n σ H) : tNext (Ends.mk n r b c) σ H := h
theorem rd_forF {wi : TI} (h : wi σ H fun J H1 => ∃ W : Nat → Nat → St → Hp → Prop, (∃ m, W 0 m σ H1) ∧ ∀ i m σ H, W i m σ H →
    (J.stop i H ∧ n σ H) ∨ (J.go i H ∧ ∃ N : St → Hp → Prop, (∀ σ' H', N σ' H' → ∃ m', m' < m ∧ W (i + 1) m' σ' H') ∧ ∀ x H', J.yld i H x H' → g x σ H' fun σ2 H2 => tb (Ends.mk N r n N) σ2 H2)) : tFor wi g tb (Ends.mk n r b c) σ H := h
theorem rd_parF {i j : Nat} {tx : TA} (h : tx σ H fun vs H1 => ∃ v w, vs = [v, w] ∧ n ((σ.set i (some v)).set j (some w)) H1) : tPar i j tx (Ends.mk n r b c) σ H := h
theorem rd_joinF (J : St → Hp → Prop) (h1 : t (Ends.mk J r b c) σ H) (h2 : ∀ σ' H', J σ' H' → n σ' H') : tJoin t (Ends.mk n r b c) σ H := ⟨J, h1, h2⟩
theorem for_listF {a : Addr} {xs : List V} (Pv : Nat → St → Hp → Prop) (h0 : Pv 0 σ H) (hl : ∀ i σ H, i ≤ xs.length → Pv i σ H → SqL K H a xs)
    (hs : ∀ i x σ H, xs[i]? = some x → Pv i σ H → g x σ H fun σ2 H2 => tb (Ends.mk (Pv (i + 1)) r n (Pv (i + 1))) σ2 H2) (hd : ∀ σ H, Pv xs.length σ H → n σ H) :
    ∃ W : Nat → Nat → St → Hp → Prop, (∃ m, W 0 m σ H) ∧ ∀ i m σ H, W i m σ H →
      ((Itl K a).stop i H ∧ n σ H) ∨ ((Itl K a).go i H ∧ ∃ N : St → Hp → Prop, (∀ σ' H', N σ' H' → ∃ m', m' < m ∧ W (i + 1) m' σ' H') ∧ ∀ x H', (Itl K a).yld i H x H' → g x σ H' fun σ2 H2 => tb (Ends.mk N r n N) σ2 H2) :=
  for_list (D := Ends.mk n r (fun _ _ => False) (fun _ _ => False)) Pv h0 hl hs hd
theorem for_tupF {a : Addr} {xs : List V} (Pv : Nat → St → Hp → Prop) (h0 : Pv 0 σ H) (hl : ∀ i σ H, i ≤ xs.length → Pv i σ H → SqT K H a xs)
    (hs : ∀ i x σ H, xs[i]? = some x → Pv i σ H → g x σ H fun σ2 H2 => tb (Ends.mk (Pv (i + 1)) r n (Pv (i + 1))) σ2 H2) (hd : ∀ σ H, Pv xs.length σ H → n σ H) :
    ∃ W : Nat → Nat → St → Hp → Prop, (∃ m, W 0 m σ H) ∧ ∀ i m σ H, W i m σ H →
      ((Itt K a).stop i H ∧ n σ H) ∨ ((Itt K a).go i H ∧ ∃ N : St → Hp → Prop, (∀ σ' H', N σ' H' → ∃ m', m' < m ∧ W (i + 1) m' σ' H') ∧ ∀ x H', (Itt K a).yld i H x H' → g x σ H' fun σ2 H2 => tb (Ends.mk N r n N) σ2 H2) :=
  for_tup (D := Ends.mk n r (fun _ _ => False) (fun _ _ => False)) Pv h0 hl hs hd
theorem for_rangeF {lo : Int} {k : Nat} (Pv : Nat → St → Hp → Prop) (h0 : Pv 0 σ H)
    (hs : ∀ i σ H, i < k → Pv i σ H → g (.int (lo + i)) σ H fun σ2 H2 => tb (Ends.mk (Pv (i + 1)) r n (Pv (i + 1))) σ2 H2) (hd : ∀ σ H, Pv k σ H → n σ H) :
    ∃ W : Nat → Nat → St → Hp → Prop, (∃ m, W 0 m σ H) ∧ ∀ i m σ H, W i m σ H →
      ((Itr lo k).stop i H ∧ n σ H) ∨ ((Itr lo k).go i H ∧ ∃ N : St → Hp → Prop, (∀ σ' H', N σ' H' → ∃ m', m' < m ∧ W (i + 1) m' σ' H') ∧ ∀ x H', (Itr lo k).yld i H x H' → g x σ H' fun σ2 H2 => tb (Ends.mk N r n N) σ2 H2) :=
  for_range (D := Ends.mk n r (fun _ _ => False) (fun _ _ => False)) Pv h0 hs hd
theorem for_rangeSF {lo st : Int} {k : Nat} (Pv : Nat → St → Hp → Prop) (h0 : Pv 0 σ H)
    (hs : ∀ i σ H, i < k → Pv i σ H → g (.int (lo + i * st)) σ H fun σ2 H2 => tb (Ends.mk (Pv (i + 1)) r n (Pv (i + 1))) σ2 H2) (hd : ∀ σ H, Pv k σ H → n σ H) :
    ∃ W : Nat → Nat → St → Hp → Prop, (∃ m, W 0 m σ H) ∧ ∀ i m σ H, W i m σ H →
      ((Its lo st k).stop i H ∧ n σ H) ∨ ((Its lo st k).go i H ∧ ∃ N : St → Hp → Prop, (∀ σ' H', N σ' H' → ∃ m', m' < m ∧ W (i + 1) m' σ' H') ∧ ∀ x H', (Its lo st k).yld i H x H' → g x σ H' fun σ2 H2 => tb (Ends.mk N r n N) σ2 H2) :=
  for_rangeS (D := Ends.mk n r (fun _ _ => False) (fun _ _ => False)) Pv h0 hs hd
end
end L2
set_option maxRecDepth 100000
set_option maxHeartbeats 4000000
set_option Elab.async false
namespace L2
open PySem
section
variable {prog : Program} {w : World} {A : Around} {R : Result → Shared → Prop} {I : Addr} {fp wr : List Addr} {n : Nat} {P : Nat → Value → Prop} {St : Nat → Heap → Prop} {dv : Value}
theorem args_maxD (a b : Value) : argsOk "max" ⟨[a], [("default", b)]⟩ := by unfold argsOk; kernel_rfl
theorem name_max : (toString "max" ++ toString ".loop" : String) = "max.loop" := by decide
theorem maxD_loop (W : Walks prog w A.in1 I fp wr n P St) (bt : Nat → Nat → Bool) (cm : CmpOf prog w A.in1 .Gt P bt) (S : Addr) (nS : S ∉ fp) :
    ∀ (k j : Nat) (s : Shared) (best : Value) (c : Nat), n - (j + 1) = k → j + 1 ≤ n → St (j + 1) s.heap → P (argBest bt j) best →
    s.heap.get? S = some { cls := .type "list", dict := none, data := .seq #[best, best] c, slots := #[] } →
    (∀ v h2 t2, P (argBest bt (n - 1)) v → (∀ b o, b ∉ wr → b ≠ S → s.heap.get? b = some o → h2.get? b = some o) → R (.ok (.ret v)) { s with heap := h2, toks := t2 }) →
    codeAny (model prog w) A (.builtin "max.loop" ⟨[.ref I, .none, .ref S], [("default", dv)]⟩) R s := by
  have nW : S ∉ wr := fun z => nS (W.sub _ z)
  intro k
  induction k with
  | zero =>
    intro j s best c hk hj st pb at_ rr
    have jn : j + 1 = n := by omega
    refine codeAny_builtin F.entry_max_loop ?_
    rw [Around.under_plainId F.plain_max_loop _]
    show wpAny _ A.in1 (seqItems? (.ref S) >>= _) _ _ s
    refine wpAny_bind (wpAny_seqItems at_ rfl ?_)
    show wpAny _ A.in1 (tryCatch (pyNext (.ref I)) _ >>= _) _ _ s
    refine wpAny_bind (wpAny_tryCatch (W.done s _ _ (jn ▸ st) fun h2 t2 k2 => ?_))
    have at2 := k2 S _ nW at_
    show wpAny _ A.in1 (updateSeq S (fun _ => #[]) >>= _) _ _ _
    refine wpAny_bind ?_
    refine wpAny_updateSeq at2 rfl (wpAny_bind (wpAny_letGo (wpAny_pure ?_)))
    exact rr best _ t2 (by rw [← jn]; exact pb) fun b o b1 b2 e => (Heap.get?_update_other _ _ (Ne.symm b2)).trans (k2 b o b1 e)
  | succ k ih =>
    intro j s best c hk hj st pb at_ rr
    have lt : j + 1 < n := by omega
    refine codeAny_builtin F.entry_max_loop ?_
    rw [Around.under_plainId F.plain_max_loop _]
    show wpAny _ A.in1 (seqItems? (.ref S) >>= _) _ _ s
    refine wpAny_bind (wpAny_seqItems at_ rfl ?_)
    show wpAny _ A.in1 (tryCatch (pyNext (.ref I)) _ >>= _) _ _ s
    refine wpAny_bind (wpAny_tryCatch (W.item (j + 1) s _ _ lt st fun v h2 t2 pv st2 k2 => ?_))
    have at2 := k2 S _ nW at_
    show wpAny _ A.in1 (tryCatch (holding [v, v] (richCompare .Gt v best >>= _)) _ >>= _) _ _ _
    refine wpAny_bind (wpAny_tryCatch (wpAny_holding (wpAny_bind (cm (j + 1) (argBest bt j) v best _ _ _ pv pb ?_))))
    refine wpAny_bind (wpAny_holding (wpAny_truthy_bool ?_))
    refine wpAny_bind (wpAny_letGo (wpAny_pure ?_))
    cases hb : bt (j + 1) (argBest bt j) with
    | true =>
      simp only [if_true]
      refine wpAny_bind ?_
      refine wpAny_updateSeq at2 rfl (wpAny_bind (wpAny_letGo ?_))
      rw [name_max]
      refine wpAny_pure ⟨plainId_quiet F.plain_max_loop _, ih (j + 1) _ v _ (by omega) lt (W.frame _ _ _ st2 fun b bf o e => ?_) (by simp only [argBest, hb, if_true]; exact pv) (Heap.get?_update_self _ at2 rfl)
        fun v3 h3 t3 p3 k3 => ?_⟩
      · exact (Heap.get?_update_other _ _ (fun z : S = b => nS (by rw [z]; exact bf))).trans e
      · exact rr v3 h3 t3 p3 fun b o b1 b2 e => k3 b o b1 b2 ((Heap.get?_update_other _ _ (Ne.symm b2)).trans (k2 b o b1 e))
    | false =>
      simp only [Bool.false_eq_true, if_false]
      refine wpAny_bind (wpAny_letGo ?_)
      rw [name_max]
      refine wpAny_pure ⟨plainId_quiet F.plain_max_loop _, ih (j + 1) _ best c (by omega) lt st2 (by simp only [argBest, hb, Bool.false_eq_true, if_false]; exact pb) at2 fun v3 h3 t3 p3 k3 => ?_⟩
      exact rr v3 h3 t3 p3 fun b o b1 b2 e => k3 b o b1 b2 (k2 b o b1 e)
theorem maxD_start (W : Walks prog w A.in1 I fp wr n P St) (bt : Nat → Nat → Bool) (cm : CmpOf prog w A.in1 .Gt P bt) (S : Addr) (nS : S ∉ fp) (hn : 0 < n) {s : Shared} {c : Nat} (st : St 0 s.heap)
    (at_ : s.heap.get? S = some { cls := .type "list", dict := none, data := .seq #[] c, slots := #[] })
    (rr : ∀ v h2 t2, P (argBest bt (n - 1)) v → (∀ b o, b ∉ wr → b ≠ S → s.heap.get? b = some o → h2.get? b = some o) → R (.ok (.ret v)) { s with heap := h2, toks := t2 }) :
    codeAny (model prog w) A (.builtin "max.loop" ⟨[.ref I, .none, .ref S], [("default", dv)]⟩) R s := by
  have nW : S ∉ wr := fun z => nS (W.sub _ z)
  refine codeAny_builtin F.entry_max_loop ?_
  rw [Around.under_plainId F.plain_max_loop _]
  show wpAny _ A.in1 (seqItems? (.ref S) >>= _) _ _ s
  refine wpAny_bind (wpAny_seqItems at_ rfl ?_)
  show wpAny _ A.in1 (tryCatch (pyNext (.ref I)) _ >>= _) _ _ s
  refine wpAny_bind (wpAny_tryCatch (W.item 0 s _ _ hn st fun v h2 t2 pv st2 k2 => ?_))
  have at2 := k2 S _ nW at_
  show wpAny _ A.in1 (updateSeq S (fun _ => #[v, v]) >>= _) _ _ _
  refine wpAny_bind ?_
  refine wpAny_updateSeq at2 rfl ?_
  rw [name_max]
  refine wpAny_pure ⟨plainId_quiet F.plain_max_loop _, maxD_loop W bt cm S nS _ 0 _ v _ rfl hn (W.frame _ _ _ st2 fun b bf o e => ?_) pv (Heap.get?_update_self _ at2 rfl) fun v3 h3 t3 p3 k3 => ?_⟩
  · exact (Heap.get?_update_other _ _ (fun z : S = b => nS (by rw [z]; exact bf))).trans e
  · exact rr v3 h3 t3 p3 fun b o b1 b2 e => k3 b o b1 b2 ((Heap.get?_update_other _ _ (Ne.symm b2)).trans (k2 b o b1 e))
theorem maxD_none (W : Walks prog w A.in1 I fp wr 0 P St) (S : Addr) {s : Shared} {c : Nat} (st : St 0 s.heap)
    (at_ : s.heap.get? S = some { cls := .type "list", dict := none, data := .seq #[] c, slots := #[] })
    (rr : ∀ h2 t2, (∀ b o, b ∉ wr → b ≠ S → s.heap.get? b = some o → h2.get? b = some o) → R (.ok (.ret dv)) { s with heap := h2, toks := t2 }) :
    codeAny (model prog w) A (.builtin "max.loop" ⟨[.ref I, .none, .ref S], [("default", dv)]⟩) R s := by
  refine codeAny_builtin F.entry_max_loop ?_
  rw [Around.under_plainId F.plain_max_loop _]
  show wpAny _ A.in1 (seqItems? (.ref S) >>= _) _ _ s
  refine wpAny_bind (wpAny_seqItems at_ rfl ?_)
  show wpAny _ A.in1 (tryCatch (pyNext (.ref I)) _ >>= _) _ _ s
  refine wpAny_bind (wpAny_tryCatch (W.done s _ _ st fun h2 t2 k2 => ?_))
  show wpAny _ A.in1 (rule _ >>= _) _ _ _
  refine wpAny_bind (wpAny_rule (wpAny_pure ?_))
  exact rr h2 t2 fun b o b1 _ e => k2 b o b1 e
end
section
variable {prog : Program} {w : World} {A : Around} {E : Value → Shared → Prop} {s : Shared}
theorem callFn_kw {id : String} {b : Builtin} {args : List Value} {kw : List (Str × Value)} {Q : Value → Shared → Prop} (hk : builtinKind id = none) (hp : plainId id = true)
    (hb : entryFor table id = some b) (ha : argsOk id ⟨args, kw⟩)
    (hc : wpAny (model prog w) A.in1 (b ⟨args, kw⟩) (fun fin s' => match fin with
      | .done f => (match (Except.ok f : Result) with | .ok (.ret v) => Q v s' | .ok _ => False | .error e => E e s')
      | .again c' => c'.quiet = true ∧ codeAny (model prog w) A c' (fun r s' => match r with | .ok (.ret v) => Q v s' | .ok _ => False | .error e => E e s') s') E s) :
    wpAny (model prog w) A (call (.builtin id) args kw) Q E s := by
  refine wpAny_call (codeAny_call_builtin hp hb ?_)
  simp only [checkBuiltinCall, hk]
  cases sg : Manifest.signature? id with
  | none => exact wpAny_pure hc
  | some sig =>
    simp only [argsOk, sg] at ha
    have h2 : Bind.checkArgs id sig ⟨args, kw⟩ = pure () := ha
    show wpAny _ A.in1 (Bind.checkArgs id sig ⟨args, kw⟩) _ _ s
    rw [h2]; exact wpAny_pure hc
theorem maxD_ints {l : Addr} {xs : Array (Int × Tok)} {dv : Value} {Q : Value → Shared → Prop} (hh : A.handled = none) (hl : s.heap.IsList l (intItems xs))
    (q1 : 0 < xs.size → ∀ v h2 t2, (intItems xs)[argBest (fun i j => decide (numAt xs i > numAt xs j)) (xs.size - 1)]? = some v → (∀ b o, s.heap.get? b = some o → h2.get? b = some o) → Q v { s with heap := h2, toks := t2 })
    (q0 : xs.size = 0 → ∀ h2 t2, (∀ b o, s.heap.get? b = some o → h2.get? b = some o) → Q dv { s with heap := h2, toks := t2 }) :
    wpAny (model prog w) A (call (.builtin "max") [.ref l] [("default", dv)]) Q E s := by
  refine callFn_kw F.kind_max F.plain_max F.entry_max (args_maxD _ _) ?_
  show wpAny _ A.in1 (Builtin.Builtins.bindParams "max" ["key", "default"] 0 ⟨[], [("default", dv)]⟩ >>= _) _ _ s
  refine wpAny_bind (wpAny_of_eq (show Builtin.Builtins.bindParams "max" ["key", "default"] 0 ⟨[], [("default", dv)]⟩ = pure [none, some dv] from rfl) ?_)
  refine wpAny_bind (wpAny_pure ?_)
  refine wpAny_bind (iter_intList hl fun s2 e st hfp ne => ?_)
  subst e
  have W := Walks.list (prog := prog) (w := w) (A := A.in1) hh _ l ne (intItems xs)
  refine wpAny_bind (wpAny_newObj_type ?_)
  have nS : (s.heap.push { cls := .type "list_iterator", data := .fields #[.ref l, .int 0 0] }).objs.size ∉ [s.heap.objs.size, l] := fun z => Nat.lt_irrefl _ (hfp _ z)
  rw [name_max]
  have fr := W.frame 0 _ ((s.heap.push { cls := .type "list_iterator", data := .fields #[.ref l, .int 0 0] }).push { cls := .type "list", data := .seq ([] : List Value).toArray }) st fun b _ o e => Heap.get?_push_of_some _ e
  have old : ∀ (h2 : Heap), (∀ b o, b ∉ [s.heap.objs.size] → b ≠ (s.heap.push { cls := .type "list_iterator", data := .fields #[.ref l, .int 0 0] }).objs.size → ((s.heap.push { cls := .type "list_iterator", data := .fields #[.ref l, .int 0 0] }).push { cls := .type "list", data := .seq ([] : List Value).toArray }).get? b = some o → h2.get? b = some o) →
      ∀ b o, s.heap.get? b = some o → h2.get? b = some o := fun h2 k2 b o e => by
    have lt := Heap.lt_size e
    refine k2 b o (fun z => ?_) (fun z => ?_) (Heap.get?_push_of_some _ (Heap.get?_push_of_some _ e))
    · have z : b = s.heap.objs.size := by simpa using z
      exact Nat.lt_irrefl _ (z ▸ lt)
    · rw [Heap.size_push] at z
      exact absurd lt (by rw [z]; exact Nat.not_lt.mpr (Nat.le_succ _))
  by_cases h0 : 0 < xs.size
  · exact wpAny_pure ⟨plainId_quiet F.plain_max_loop _, maxD_start W _ (CmpOf.ints_gt (numAt xs) (fun _ _ => intItems_at)) _ nS (by simpa [intItems] using h0) fr (Heap.get?_push_size _ rfl) fun v h2 t2 pv k2 =>
      q1 h0 v h2 t2 (by simpa [intItems] using pv) (old h2 k2)⟩
  · have h0 : xs.size = 0 := by omega
    have hz : (intItems xs).size = 0 := by simpa [intItems] using h0
    rw [hz] at W
    exact wpAny_pure ⟨plainId_quiet F.plain_max_loop _, maxD_none W _ fr (Heap.get?_push_size _ rfl) fun h2 t2 k2 => q0 h0 h2 t2 (old h2 k2)⟩
end
end L2
set_option maxRecDepth 100000
set_option maxHeartbeats 4000000
set_option Elab.async false
namespace L2
open PySem
abbrev ZObj (h : Heap) (z ti tt : Addr) (u v : Value) : Prop := h.get? z = some { cls := .type "zip", dict := none, data := .fields #[u, v, .bool false, .ref ti, .ref tt], slots := #[] }
section
variable {prog : Program} {w : World} {A : Around} {E : Value → Shared → Prop} {s : Shared}
theorem alive_is {a : Addr} {o : Obj} {Q : Option Obj → Shared → Prop} (e : s.heap.get? a = some o) (q : Q (some o) s) : wpAny (model prog w) A (loadIfAlive a) Q E s := by
  have q2 : Q (s.heap.get? a) s := by rw [e]; exact q
  exact fun _ _ _ => q2
theorem zip_notFree {z ti tt a : Addr} {f : Bool} {oa : Obj} {Q : Bool → Shared → Prop} (hz : ZObj s.heap z ti tt (rawInt a) (.bool f)) (ha : s.heap.get? a = some oa)
    (q : ∀ h1, ZObj h1 z ti tt (rawInt a) (.bool true) → Heap.SameBut z s.heap h1 → Q false { s with heap := h1 }) : wpAny (model prog w) A (Builtin.SmallTypes.ownedTupleIsFree (.ref z)) Q E s := by
  unfold Builtin.SmallTypes.ownedTupleIsFree
  refine wpAny_bind (wpAny_field hz rfl (x := rawInt a) rfl ?_)
  show wpAny _ _ (loadIfAlive ((a : Int).toNat) >>= _) _ _ _
  rw [Int.toNat_natCast]
  refine wpAny_bind (alive_is ha ?_)
  simp only [Option.isNone_some, Bool.false_eq_true, if_false]
  refine wpAny_bind (wpAny_field hz rfl (x := .bool f) rfl ?_)
  cases f with
  | true =>
    rw [if_neg (show ¬ ((Value.bool true != Value.bool true) = true) from Bool.false_ne_true)]
    exact wpAny_pure (q _ hz (Heap.SameBut.refl _ _))
  | false =>
    rw [if_pos (show (Value.bool false != Value.bool true) = true from rfl)]
    exact wpAny_bind (wpAny_setField_rec hz (by simp) fun h3 e3 s3 => wpAny_pure (q h3 e3 s3))
theorem zip_nextOut {z ti tt i1 i2 l1 l2 a : Addr} {f : Bool} {oa : Obj} {k : Nat} {xs ys : Array Value} {x y : Value} {Q : Option Value → Shared → Prop}
    (D : ZipApart z ti tt i1 i2 l1 l2) (hz : ZObj s.heap z ti tt (rawInt a) (.bool f)) (ha : s.heap.get? a = some oa) (hp : IsPair s.heap ti (.ref i1) (.ref i2))
    (b1 : s.heap.IsListIter i1 l1 k) (b2 : s.heap.IsListIter i2 l2 k) (c1 : s.heap.IsList l1 xs) (c2 : s.heap.IsList l2 ys) (hx : xs[k]? = some x) (hy : ys[k]? = some y)
    (q : ∀ h', ZObj h' z ti tt (rawInt a) (.bool true) → h'.IsListIter i1 l1 (k + 1) → h'.IsListIter i2 l2 (k + 1) → IsPair h' s.heap.objs.size x y → h'.objs.size = s.heap.objs.size + 1 →
      (∀ c o, c ≠ z → c ≠ i1 → c ≠ i2 → s.heap.get? c = some o → h'.get? c = some o) → Q (some (.ref s.heap.objs.size)) { s with heap := h' }) :
    wpAny (model prog w) A (pyNext (.ref z)) Q E s := by
  have hT : s.TypeIs (.ref z) "zip" := ⟨_, hz, rfl⟩
  unfold pyNext
  refine wpAny_bind (wpAny_attempt (wpAny_callSpecial?_slot (name := Str.ofString "__next__") hT F.slot_zip_next
    (wpAny_call_entry F.slot_zip_next hT F.entry_zip_next ?_ (F.args_zip_next_1 _))))
  show wpAny _ _ (field (.ref z) 2 >>= _) _ _ _
  refine wpAny_bind (wpAny_field hz rfl (x := .bool false) rfl ?_)
  show wpAny _ _ (field (.ref z) 3 >>= _) _ _ _
  refine wpAny_bind (wpAny_field hz rfl (x := .ref ti) rfl ?_)
  refine wpAny_bind (wpAny_seqItems hp rfl ?_)
  show wpAny _ _ (Builtin.SmallTypes.ownedTupleIsFree (.ref z) >>= _) _ _ _
  refine wpAny_bind (zip_notFree hz ha fun h1 z1 s1 => ?_)
  simp only [Bool.false_eq_true, if_false]
  refine wpAny_bind ?_
  simp only [List.forIn_toArray, List.forIn_cons, List.forIn_nil]
  refine wpAny_bind (wpAny_bind (wpAny_holding ?_))
  show wpAny _ _ (Builtin.SmallTypes.nextOf (.ref i1) >>= _) _ _ _
  refine wpAny_bind (wpAny_nextOf_list_item (b1.extBut s1.extBut D.i1z) (c1.extBut s1.extBut D.l1z) hx fun h2 b1' s2 => wpAny_pure (wpAny_pure ?_))
  refine wpAny_bind (wpAny_bind (wpAny_holding ?_))
  show wpAny _ _ (Builtin.SmallTypes.nextOf (.ref i2) >>= _) _ _ _
  refine wpAny_bind (wpAny_nextOf_list_item ((b2.extBut s1.extBut D.i2z).extBut s2.extBut D.i12.symm) ((c2.extBut s1.extBut D.l2z).extBut s2.extBut D.l2i1) hy fun h3 b2' s3 => wpAny_pure (wpAny_pure (wpAny_pure ?_)))
  refine wpAny_bind (wpAny_newTuple ?_ (by show 2 ≤ sizeLine; decide))
  have sz : h3.objs.size = s.heap.objs.size := by rw [s3.1, s2.1, s1.1]
  have up : ∀ c o, h3.get? c = some o → (h3.push { cls := .type "tuple", data := .seq #[x, y] }).get? c = some o := fun c o e => Heap.get?_push_of_some _ e
  refine wpAny_pure ⟨_, rfl, wpAny_pure ?_⟩
  have kp : ∀ c o, c ≠ z → c ≠ i1 → c ≠ i2 → s.heap.get? c = some o → h3.get? c = some o := fun c o n1 n2 n3 e => s3.extBut _ _ n3 (s2.extBut _ _ n2 (s1.extBut _ _ n1 e))
  show Q (some (.ref h3.objs.size)) { s with heap := h3.push { cls := .type "tuple", data := .seq #[x, y] } }
  rw [sz]
  refine q _ (up _ _ (s3.extBut _ _ D.i2z.symm (s2.extBut _ _ D.i1z.symm z1))) ((b1'.extBut s3.extBut D.i12).at fun o e => up _ o e) (b2'.at fun o e => up _ o e) ?_ (by rw [Heap.size_push, sz]) fun c o n1 n2 n3 e => up c o (kp c o n1 n2 n3 e)
  rw [← sz]
  exact Heap.get?_push_size _ rfl
theorem zip_endOut {z ti tt i1 i2 l1 l2 a : Addr} {f : Bool} {oa : Obj} {k : Nat} {xs ys : Array Value} {Q : Option Value → Shared → Prop} (hh : A.handled = none)
    (D : ZipApart z ti tt i1 i2 l1 l2) (hz : ZObj s.heap z ti tt (rawInt a) (.bool f)) (ha : s.heap.get? a = some oa) (hp : IsPair s.heap ti (.ref i1) (.ref i2))
    (b1 : s.heap.IsListIter i1 l1 k) (b2 : s.heap.IsListIter i2 l2 k) (c1 : s.heap.IsList l1 xs) (c2 : s.heap.IsList l2 ys) (fin : xs[k]? = none ∨ ys[k]? = none)
    (q : ∀ h', (∀ c o, c ≠ z → c ≠ i1 → c ≠ i2 → s.heap.get? c = some o → h'.get? c = some o) → Q none { s with heap := h' }) :
    wpAny (model prog w) A (pyNext (.ref z)) Q E s := by
  have hT : s.TypeIs (.ref z) "zip" := ⟨_, hz, rfl⟩
  unfold pyNext
  refine wpAny_bind (wpAny_attempt (wpAny_callSpecial?_slot (name := Str.ofString "__next__") hT F.slot_zip_next
    (wpAny_call_entry F.slot_zip_next hT F.entry_zip_next ?_ (F.args_zip_next_1 _))))
  show wpAny _ _ (field (.ref z) 2 >>= _) _ _ _
  refine wpAny_bind (wpAny_field hz rfl (x := .bool false) rfl ?_)
  show wpAny _ _ (field (.ref z) 3 >>= _) _ _ _
  refine wpAny_bind (wpAny_field hz rfl (x := .ref ti) rfl ?_)
  refine wpAny_bind (wpAny_seqItems hp rfl ?_)
  show wpAny _ _ (Builtin.SmallTypes.ownedTupleIsFree (.ref z) >>= _) _ _ _
  refine wpAny_bind (zip_notFree hz ha fun h1 z1 s1 => ?_)
  simp only [Bool.false_eq_true, if_false]
  refine wpAny_bind ?_
  simp only [List.forIn_toArray, List.forIn_cons, List.forIn_nil]
  refine wpAny_bind (wpAny_bind (wpAny_holding ?_))
  show wpAny _ _ (Builtin.SmallTypes.nextOf (.ref i1) >>= _) _ _ _
  cases hx : xs[k]? with
  | none =>
    refine wpAny_bind (wpAny_nextOf_list_end hh (b1.extBut s1.extBut D.i1z) (c1.extBut s1.extBut D.l1z) hx fun h2 e s2 he => ?_)
    obtain ⟨o, ho, hc⟩ := he
    refine wpAny_bind (wpAny_isInstance (T := "StopIteration") (b := true) ⟨o, ho, hc⟩ isSubtype_stop ?_)
    exact wpAny_pure (q _ fun c o n1 n2 n3 x => s2 _ _ n2 (s1.extBut _ _ n1 x))
  | some x =>
    have hy : ys[k]? = none := by
      rcases fin with z | z
      · rw [hx] at z; cases z
      · exact z
    refine wpAny_bind (wpAny_nextOf_list_item (b1.extBut s1.extBut D.i1z) (c1.extBut s1.extBut D.l1z) hx fun h2 b1' s2 => wpAny_pure (wpAny_pure ?_))
    refine wpAny_bind (wpAny_bind (wpAny_holding ?_))
    show wpAny _ _ (Builtin.SmallTypes.nextOf (.ref i2) >>= _) _ _ _
    refine wpAny_bind (wpAny_nextOf_list_end hh ((b2.extBut s1.extBut D.i2z).extBut s2.extBut D.i12.symm) ((c2.extBut s1.extBut D.l2z).extBut s2.extBut D.l2i1) hy fun h3 e s3 he => ?_)
    obtain ⟨o, ho, hc⟩ := he
    refine wpAny_bind (wpAny_isInstance (T := "StopIteration") (b := true) ⟨o, ho, hc⟩ isSubtype_stop ?_)
    exact wpAny_pure (q _ fun c o n1 n2 n3 x => s3 _ _ n3 (s2.extBut _ _ n2 (s1.extBut _ _ n1 x)))
end
structure ZSt (h : Heap) (z ti tt i1 i2 l1 l2 S : Addr) (xs ys : Array Value) (k : Nat) : Prop where
  pr : IsPair h ti (.ref i1) (.ref i2)
  b1 : h.IsListIter i1 l1 k
  b2 : h.IsListIter i2 l2 k
  c1 : h.IsList l1 xs
  c2 : h.IsList l2 ys
  zz : (IsZip h z ti tt .none ∧ ∃ a b, IsPair h tt a b) ∨ ∃ (a : Addr) (f : Bool) (oa : Obj), ZObj h z ti tt (rawInt a) (.bool f) ∧ h.get? a = some oa ∧ S < a
structure ZLow (z ti tt i1 i2 l1 l2 S : Addr) : Prop where
  z : z < S
  ti : ti < S
  tt : tt < S
  i1 : i1 < S
  i2 : i2 < S
  l1 : l1 < S
  l2 : l2 < S
section
variable {prog : Program} {w : World} {A : Around} {E : Value → Shared → Prop} {s : Shared} {z ti tt i1 i2 l1 l2 S : Addr} {xs ys : Array Value} {k : Nat}
theorem ZSt.keep {h h' : Heap} (st : ZSt h z ti tt i1 i2 l1 l2 S xs ys k) (lo : ZLow z ti tt i1 i2 l1 l2 S) (kp : ∀ b o, b ≠ S → h.get? b = some o → h'.get? b = some o) : ZSt h' z ti tt i1 i2 l1 l2 S xs ys k := by
  refine ⟨kp _ _ (Nat.ne_of_lt lo.ti) st.pr, st.b1.at fun o e => kp _ o (Nat.ne_of_lt lo.i1) e, st.b2.at fun o e => kp _ o (Nat.ne_of_lt lo.i2) e, st.c1.at fun o e => kp _ o (Nat.ne_of_lt lo.l1) e, st.c2.at fun o e => kp _ o (Nat.ne_of_lt lo.l2) e, ?_⟩
  rcases st.zz with ⟨e, a, b, p⟩ | ⟨a, f, oa, e, ha, lt⟩
  · exact .inl ⟨kp _ _ (Nat.ne_of_lt lo.z) e, a, b, kp _ _ (Nat.ne_of_lt lo.tt) p⟩
  · exact .inr ⟨a, f, oa, kp _ _ (Nat.ne_of_lt lo.z) e, kp _ _ (Nat.ne_of_gt lt) ha, lt⟩
theorem ZSt.item {x y : Value} {Q : Option Value → Shared → Prop} (st : ZSt s.heap z ti tt i1 i2 l1 l2 S xs ys k) (D : ZipApart z ti tt i1 i2 l1 l2) (lo : ZLow z ti tt i1 i2 l1 l2 S) (hS : S < s.heap.objs.size) (hx : xs[k]? = some x) (hy : ys[k]? = some y)
    (q : ∀ h', ZSt h' z ti tt i1 i2 l1 l2 S xs ys (k + 1) → IsPair h' s.heap.objs.size x y → h'.objs.size = s.heap.objs.size + 1 →
      (∀ c o, c ≠ z → c ≠ tt → c ≠ i1 → c ≠ i2 → s.heap.get? c = some o → h'.get? c = some o) → Q (some (.ref s.heap.objs.size)) { s with heap := h' }) : wpAny (model prog w) A (pyNext (.ref z)) Q E s := by
  obtain ⟨pr, b1, b2, c1, c2, zz⟩ := st
  rcases zz with ⟨e, a, b, p⟩ | ⟨a, f, oa, e, ha, lt⟩
  · refine wpAny_pyNext_zip_item D e pr p b1 b2 c1 c2 hx hy fun h' a1 a2 a3 a4 a5 a6 hk => q h' ⟨hk _ _ D.TIz D.TITO D.TIi1 D.TIi2 pr, a3, a4, ?_, ?_, .inr ⟨_, false, _, a1, a5, hS⟩⟩ a5 a6 hk
    · exact c1.at fun o e => hk _ o D.l1z D.l1TO D.l1i1 D.l1i2 e
    · exact c2.at fun o e => hk _ o D.l2z D.l2TO D.l2i1 D.l2i2 e
  · refine zip_nextOut D e ha pr b1 b2 c1 c2 hx hy fun h' a1 a3 a4 a5 a6 hk => q h' ⟨hk _ _ D.TIz D.TIi1 D.TIi2 pr, a3, a4, ?_, ?_, .inr ⟨a, true, oa, a1, hk a oa ?_ ?_ ?_ ha, lt⟩⟩ a5 a6 fun c o n1 _ n3 n4 e => hk c o n1 n3 n4 e
    · exact c1.at fun o e => hk _ o D.l1z D.l1i1 D.l1i2 e
    · exact c2.at fun o e => hk _ o D.l2z D.l2i1 D.l2i2 e
    · exact Nat.ne_of_gt (Nat.lt_trans lo.z lt)
    · exact Nat.ne_of_gt (Nat.lt_trans lo.i1 lt)
    · exact Nat.ne_of_gt (Nat.lt_trans lo.i2 lt)
theorem ZSt.fin {Q : Option Value → Shared → Prop} (hh : A.handled = none) (st : ZSt s.heap z ti tt i1 i2 l1 l2 S xs ys k) (D : ZipApart z ti tt i1 i2 l1 l2) (fin : xs[k]? = none ∨ ys[k]? = none)
    (q : ∀ h', (∀ c o, c ≠ z → c ≠ tt → c ≠ i1 → c ≠ i2 → s.heap.get? c = some o → h'.get? c = some o) → Q none { s with heap := h' }) : wpAny (model prog w) A (pyNext (.ref z)) Q E s := by
  obtain ⟨pr, b1, b2, c1, c2, zz⟩ := st
  rcases zz with ⟨e, a, b, p⟩ | ⟨a, f, oa, e, ha, lt⟩
  · exact wpAny_pyNext_zip_end hh D e pr p b1 b2 c1 c2 fin q
  · exact zip_endOut hh D e ha pr b1 b2 c1 c2 fin fun h' hk => q h' fun c o n1 _ n3 n4 e => hk c o n1 n3 n4 e
structure ZG (S : Addr) (xs ys : Array Value) (h : Heap) (as : List Addr) : Prop where
  rise : as.Pairwise (· < ·)
  at_ : ∀ (j : Nat) (a : Addr), as[j]? = some a → S < a ∧ ∃ x y, xs[j]? = some x ∧ ys[j]? = some y ∧ IsPair h a x y
end
section
variable {prog : Program} {w : World} {A : Around} {s : Shared} {R : Result → Shared → Prop} {z ti tt i1 i2 l1 l2 S : Addr} {xs ys : Array Value}
theorem zip_loop (hh : A.handled = none) (D : ZipApart z ti tt i1 i2 l1 l2) (lo : ZLow z ti tt i1 i2 l1 l2 S) {n : Nat} (hn : n = min xs.size ys.size) (hz : n ≤ sizeLine) (res : Value) {h1 : Heap}
    (rr : ∀ h' tk acc c as, (∀ b o, b ≠ S → b ≠ z → b ≠ tt → b ≠ i1 → b ≠ i2 → h1.get? b = some o → h'.get? b = some o) → h'.get? S = some { cls := .type "list", dict := none, data := .seq acc c, slots := #[] } → as.length = n → ZG S xs ys h' as →
      acc.toList = as.map Value.ref → R (.ok (.ret res)) { s with heap := h', toks := tk }) :
    ∀ (k i : Nat) (h : Heap) (tk c : Nat) (acc : Array Value) (as : List Addr), n - i = k → i ≤ n → ZSt h z ti tt i1 i2 l1 l2 S xs ys i → (∀ b o, b ≠ S → b ≠ z → b ≠ tt → b ≠ i1 → b ≠ i2 → h1.get? b = some o → h.get? b = some o) →
      h.get? S = some { cls := .type "list", dict := none, data := .seq acc c, slots := #[] } → acc.toList = as.map Value.ref → as.length = i → ZG S xs ys h as →
      codeAny (model prog w) A (.builtin "list.extend.loop" ⟨[.ref S, .ref z, res], []⟩) R { s with heap := h, toks := tk } := by
  intro k
  induction k with
  | zero =>
    intro i h tk c acc as hk hi st kp at_ ea la G
    have ie : i = n := by omega
    refine codeAny_builtin PySem.F.entry_extend_loop ?_
    rw [Around.under_plainId PySem.F.plain_extend_loop _]
    show wpAny _ A.in1 (pyNext (.ref z) >>= _) _ _ _
    have fin : xs[i]? = none ∨ ys[i]? = none := by
      rcases Nat.le_total xs.size ys.size with q | q
      · exact .inl (Array.getElem?_eq_none (by omega))
      · exact .inr (Array.getElem?_eq_none (by omega))
    refine wpAny_bind (ZSt.fin (s := { s with heap := h, toks := tk }) (A := A.in1) hh st D fin fun h' k2 => ?_)
    have up : ∀ b o, S < b → h.get? b = some o → h'.get? b = some o := fun b o lt e => k2 b o (Nat.ne_of_gt (Nat.lt_trans lo.z lt)) (Nat.ne_of_gt (Nat.lt_trans lo.tt lt)) (Nat.ne_of_gt (Nat.lt_trans lo.i1 lt)) (Nat.ne_of_gt (Nat.lt_trans lo.i2 lt)) e
    refine wpAny_pure (rr h' tk acc c as (fun b o n1 n2 n3 n4 n5 e => k2 b o n2 n3 n4 n5 (kp b o n1 n2 n3 n4 n5 e)) (k2 S _ (Nat.ne_of_gt lo.z) (Nat.ne_of_gt lo.tt) (Nat.ne_of_gt lo.i1) (Nat.ne_of_gt lo.i2) at_) (by omega) ⟨G.rise, fun j a hj => ?_⟩ ea)
    obtain ⟨g0, x, y, g1, g2, g3⟩ := G.at_ j a hj
    exact ⟨g0, x, y, g1, g2, up a _ g0 g3⟩
  | succ k ih =>
    intro i h tk c acc as hk hi st kp at_ ea la G
    have lx : i < xs.size := by omega
    have ly : i < ys.size := by omega
    have hx : xs[i]? = some xs[i] := Array.getElem?_eq_getElem lx
    have hy : ys[i]? = some ys[i] := Array.getElem?_eq_getElem ly
    have hsz : acc.size = i := by rw [← Array.length_toList, ea, List.length_map, la]
    have hS : S < h.objs.size := Heap.lt_size at_
    refine codeAny_builtin PySem.F.entry_extend_loop ?_
    rw [Around.under_plainId PySem.F.plain_extend_loop _]
    show wpAny _ A.in1 (pyNext (.ref z) >>= _) _ _ _
    refine wpAny_bind (ZSt.item (s := { s with heap := h, toks := tk }) st D lo hS hx hy fun h' st2 nw sz k2 => ?_)
    dsimp only at nw sz k2 ⊢
    have at2 := k2 S _ (Nat.ne_of_gt lo.z) (Nat.ne_of_gt lo.tt) (Nat.ne_of_gt lo.i1) (Nat.ne_of_gt lo.i2) at_
    have up : ∀ b o, b ≠ S → h'.get? b = some o → (h'.update S (Obj.mapSeq (·.push (Value.ref h.objs.size)))).get? b = some o := fun b o hb e => (Heap.get?_update_other _ _ (Ne.symm hb)).trans e
    show wpAny _ A.in1 (updateSeq S (·.push (Value.ref h.objs.size)) >>= _) _ _ _
    refine wpAny_bind ?_
    refine wpAny_updateSeq at2 rfl (wpAny_pure ⟨plainId_quiet PySem.F.plain_extend_loop _, ih (i + 1) _ tk _ (acc.push (Value.ref h.objs.size)) (as ++ [h.objs.size]) (by omega) (by omega) (st2.keep lo up)
      (fun b o n1 n2 n3 n4 n5 e => up b o n1 (k2 b o n2 n3 n4 n5 (kp b o n1 n2 n3 n4 n5 e))) (Heap.get?_update_self _ at2 rfl) (by rw [Array.toList_push, ea, List.map_append]; rfl) (by rw [List.length_append, la]; rfl) ⟨?_, ?_⟩⟩) (by rw [hsz]; omega)
    · refine List.pairwise_append.mpr ⟨G.rise, List.pairwise_singleton _ _, fun a ha b hb => ?_⟩
      rw [List.mem_singleton.mp hb]
      obtain ⟨j, hj⟩ := List.mem_iff_getElem?.mp ha
      obtain ⟨_, _, _, _, _, e⟩ := G.at_ j a hj
      exact Heap.lt_size e
    · intro j b hj
      rcases Nat.lt_trichotomy j as.length with q | q | q
      · rw [List.getElem?_append_left q] at hj
        obtain ⟨g0, x, y, g1, g2, g3⟩ := G.at_ j b hj
        exact ⟨g0, x, y, g1, g2, up b _ (Nat.ne_of_gt g0) (k2 b _ (Nat.ne_of_gt (Nat.lt_trans lo.z g0)) (Nat.ne_of_gt (Nat.lt_trans lo.tt g0)) (Nat.ne_of_gt (Nat.lt_trans lo.i1 g0)) (Nat.ne_of_gt (Nat.lt_trans lo.i2 g0)) g3)⟩
      · subst q
        have hb : h.objs.size = b := by simpa using hj
        subst hb
        rw [la]
        exact ⟨hS, _, _, hx, hy, up _ _ (Nat.ne_of_gt hS) nw⟩
      · rw [List.getElem?_eq_none (by rw [List.length_append, List.length_singleton]; omega)] at hj
        cases hj
end
theorem zip_noLen : typeLookup (.type "zip") "__len__" = pure none := by rw [typeLookup_type, builtinLookup_eq_fast]; kernel_rfl
theorem zip_noHint : typeLookup (.type "zip") "__length_hint__" = pure none := by rw [typeLookup_type, builtinLookup_eq_fast]; kernel_rfl
section
variable {prog : Program} {w : World} {A : Around} {s : Shared} {z ti tt i1 i2 l1 l2 S : Addr} {xs ys : Array Value}
theorem zip_extend {R : Result → Shared → Prop} (hh : A.handled = none) (D : ZipApart z ti tt i1 i2 l1 l2) (lo : ZLow z ti tt i1 i2 l1 l2 S) (st : ZSt s.heap z ti tt i1 i2 l1 l2 S xs ys 0) (hz : min xs.size ys.size ≤ sizeLine) (res : Value) (c0 : Nat)
    (at_ : s.heap.get? S = some { cls := .type "list", data := .seq #[] c0 })
    (rr : ∀ h' tk acc c as, (∀ b o, b ≠ S → b ≠ z → b ≠ tt → b ≠ i1 → b ≠ i2 → s.heap.get? b = some o → h'.get? b = some o) → h'.get? S = some { cls := .type "list", dict := none, data := .seq acc c, slots := #[] } → as.length = min xs.size ys.size → ZG S xs ys h' as →
      acc.toList = as.map Value.ref → R (.ok (.ret res)) { s with heap := h', toks := tk }) :
    wpAny (model prog w) A.in1 (Builtin.List.listExtendWith (.ref S) (.ref z) res)
      (fun fin s' => match fin with | .done f => R (.ok f) s' | .again c' => c'.quiet = true ∧ codeAny (model prog w) A c' R s') (fun e s' => R (.error e) s') s := by
  have tz : s.TypeIs (.ref z) "zip" := by
    rcases st.zz with ⟨e, _⟩ | ⟨a, f, oa, e, _⟩
    · exact ⟨_, e, rfl⟩
    · exact ⟨_, e, rfl⟩
  unfold Builtin.List.listExtendWith
  refine wpAny_bind (wpAny_typeOf tz ?_)
  have e1 : Builtin.List.listSameRef (.ref S) (.ref z) = false := by simp [Builtin.List.listSameRef, Nat.ne_of_gt lo.z]
  have e2 : (Value.type "zip" == Value.type "list") = false := by decide
  have e3 : (Value.type "zip" == Value.type "tuple") = false := by decide
  simp only [e1, e2, e3, Bool.or_false, Bool.false_eq_true, if_false]
  have self : ∀ {Q : Value → Shared → Prop} {E : Value → Shared → Prop}, Q (.ref z) s → wpAny (model prog w) A.in1 (pyIter (.ref z)) Q E s := fun q => by
    rcases st.zz with ⟨e, _⟩ | ⟨a, f, oa, e, _⟩
    · exact wpAny_pyIter_zip e q
    · refine wpAny_pyIter_slot tz F.slot_zip_iter (wpAny_call_entry F.slot_zip_iter tz F.entry_zip_iter ?_ (F.args_zip_iter_1 _))
      show wpAny _ _ (ret (.ref z)) _ _ s
      exact wpAny_pure ⟨_, rfl, "zip", _, tz, F.slot_zip_next.lookup, q⟩
  refine wpAny_bind (self ?_)
  refine wpAny_bind (wpAny_holding ?_)
  unfold Builtin.List.listLengthHint
  refine wpAny_bind (wpAny_specialOf tz zip_noLen ?_)
  show wpAny _ A.in1 (specialOf (Value.ref z) (Str.ofString "__length_hint__") >>= _) _ _ _
  refine wpAny_bind (wpAny_specialOf tz zip_noHint ?_)
  refine wpAny_pure ?_
  show wpAny _ A.in1 (rule "list.extend.makes-room" >>= fun _ => Builtin.List.listTouch (.ref S) >>= fun _ =>
    again (.builtin "list.extend.loop" ⟨[.ref S, .ref z, res], []⟩)) _ _ _
  refine wpAny_bind (wpAny_rule ?_)
  refine wpAny_bind ?_
  show wpAny _ A.in1 (updateSeq S (·.push .none) >>= fun _ => updateSeq S (·.pop)) _ _ _
  refine wpAny_bind (wpAny_updateSeq at_ rfl ?_)
  have at2 := Heap.get?_update_self (Obj.mapSeq (·.push Value.none)) at_ rfl
  refine wpAny_updateSeq (hz := by seq_fits) at2 rfl ?_
  have at3 := Heap.get?_update_self (Obj.mapSeq (·.pop)) at2 rfl
  have oth : ∀ b o, b ≠ S → s.heap.get? b = some o → ((s.heap.update S (Obj.mapSeq (·.push Value.none))).update S (Obj.mapSeq (·.pop))).get? b = some o :=
    fun b o hb e => (Heap.get?_update_other _ _ (Ne.symm hb)).trans ((Heap.get?_update_other _ _ (Ne.symm hb)).trans e)
  refine wpAny_pure ⟨plainId_quiet F.plain_extend_loop _, ?_⟩
  exact zip_loop (s := s) (h1 := s.heap) hh D lo rfl hz res rr _ 0 _ s.toks _ #[] [] rfl (Nat.zero_le _) (st.keep lo oth) (fun b o n1 _ _ _ _ e => oth b o n1 e) at3 rfl rfl ⟨List.Pairwise.nil, fun j a hj => by simp at hj⟩
theorem zip_init {R : Result → Shared → Prop} (hh : A.handled = none) (D : ZipApart z ti tt i1 i2 l1 l2) (lo : ZLow z ti tt i1 i2 l1 l2 S) (st : ZSt s.heap z ti tt i1 i2 l1 l2 S xs ys 0) (hz : min xs.size ys.size ≤ sizeLine)
    (at_ : s.heap.get? S = some { cls := .type "list", data := .seq #[] })
    (rr : ∀ h' tk acc c as, (∀ b o, b ≠ S → b ≠ z → b ≠ tt → b ≠ i1 → b ≠ i2 → s.heap.get? b = some o → h'.get? b = some o) → h'.get? S = some { cls := .type "list", dict := none, data := .seq acc c, slots := #[] } → as.length = min xs.size ys.size → ZG S xs ys h' as →
      acc.toList = as.map Value.ref → R (.ok (.ret .none)) { s with heap := h', toks := tk }) :
    wpAny (model prog w) A.in1 (Builtin.«list.__init__» ⟨[.ref S, .ref z], []⟩)
      (fun fin s' => match fin with | .done f => R (.ok f) s' | .again c' => c'.quiet = true ∧ codeAny (model prog w) A c' R s') (fun e s' => R (.error e) s') s := by
  show wpAny _ A.in1 (do let old ← Builtin.List.listItems (.ref S); Builtin.List.listUpdate (.ref S) (fun _ => #[]); letGo old.toList.reverse; Builtin.List.listExtendWith (.ref S) (.ref z) .none) _ _ s
  refine wpAny_bind ?_
  unfold Builtin.List.listItems
  refine wpAny_bind (wpAny_seqItems at_ rfl (wpAny_pure ?_))
  show wpAny _ A.in1 (updateSeq S (fun _ => #[]) >>= fun _ => letGo (#[] : Array Value).toList.reverse >>= fun _ => Builtin.List.listExtendWith (.ref S) (.ref z) .none) _ _ s
  refine wpAny_bind (wpAny_updateSeq at_ rfl ?_)
  have at2 := Heap.get?_update_self (Obj.mapSeq (fun _ => (#[] : Array Value))) at_ rfl
  have oth : ∀ b o, b ≠ S → s.heap.get? b = some o → (s.heap.update S (Obj.mapSeq (fun _ => (#[] : Array Value)))).get? b = some o := fun b o hb e => (Heap.get?_update_other _ _ (Ne.symm hb)).trans e
  refine wpAny_bind (wpAny_letGo ?_)
  exact zip_extend hh D lo (st.keep lo oth) hz .none _ at2 fun h' tk acc c as kp e1 e2 e3 e4 => rr h' tk acc c as (fun b o n1 n2 n3 n4 n5 e => kp b o n1 n2 n3 n4 n5 (oth b o n1 e)) e1 e2 e3 e4
end
section
variable {prog : Program} {w : World} {A : Around} {E : Value → Shared → Prop} {s : Shared}
theorem call_listZip {z ti tt i1 i2 l1 l2 : Addr} {xs ys : Array Value} {Q : Value → Shared → Prop} (hh : A.handled = none) (D : ZipApart z ti tt i1 i2 l1 l2) (lo : ZLow z ti tt i1 i2 l1 l2 s.heap.objs.size) (st : ZSt s.heap z ti tt i1 i2 l1 l2 s.heap.objs.size xs ys 0)
    (hz : min xs.size ys.size ≤ sizeLine)
    (q : ∀ h' tk acc c as, (∀ b o, b ≠ z → b ≠ tt → b ≠ i1 → b ≠ i2 → s.heap.get? b = some o → h'.get? b = some o) → h'.get? s.heap.objs.size = some { cls := .type "list", dict := none, data := .seq acc c, slots := #[] } → as.length = min xs.size ys.size →
      ZG s.heap.objs.size xs ys h' as → acc.toList = as.map Value.ref → Q (.ref s.heap.objs.size) { s with heap := h', toks := tk }) :
    wpAny (model prog w) A (call (.type "list") [.ref z]) Q E s := by
  refine callType_codes (Q₁ := fun obj s₁ => obj = .ref s.heap.objs.size ∧ s₁ = { s with heap := s.heap.push { cls := .type "list", data := .seq #[] } }) F.called_list (F.typeCall_list_1 _) F.entry_list_init
    (code_list_new _ ⟨rfl, rfl⟩) fun obj s1 e1 => ?_
  obtain ⟨rfl, rfl⟩ := e1
  have at_ : (s.heap.push { cls := .type "list", data := .seq #[] }).get? s.heap.objs.size = some { cls := .type "list", data := .seq #[] } := Heap.get?_push_size _ rfl
  refine ⟨⟨_, at_, rfl⟩, F.args_list_init_2 _ _, zip_init (A := A.in1) hh D lo (st.keep lo fun b o _ e => Heap.get?_push_of_some _ e) hz at_ fun h' tk acc c as kp a1 a2 a3 a4 => ?_⟩
  exact ⟨rfl, q h' tk acc c as (fun b o n2 n3 n4 n5 e => kp b o (Nat.ne_of_lt (Heap.lt_size e)) n2 n3 n4 n5 (Heap.get?_push_of_some _ e)) a1 a2 a3 a4⟩
end
end L2
set_option Elab.async false
set_option maxHeartbeats 4000000
set_option maxRecDepth 100000
namespace L2
open PySem PySem.Spec PyProof.Rows
section
variable {X : Cx} {pins : List (Addr × Obj)} {σ : List (Option V)} {H H' : Hp} {s : Shared} {h' : Heap}
theorem Inv.many {t' : Nat} {it : List Addr} (I : Inv X pins σ H s) (itn : ∀ b ∈ it, H b = none ∧ b ≠ X.env.locals ∧ b ∉ X.fs ∧ (b ∈ X.ex ∨ X.s₀.heap.objs.size ≤ b) ∧ (∀ x c, X.env.cells.lookup x = some c → c ≠ b) ∧ (∀ p ∈ X.pn ++ pins, p.1 ≠ b) ∧ H' b = none)
    (k : ∀ b u, b ∉ it → s.heap.get? b = some u → h'.get? b = some u) (out : ∀ b o, H b = some o → H' b = some o)
    (new : ∀ b o, H' b = some o → H b = some o ∨ (s.heap.objs.size ≤ b ∧ ObjOk X.prog X.w H' h' b o)) : Inv X pins σ H' { s with heap := h', toks := t' } := by
  have fr : ∀ b o, s.heap.get? b = some o → H b = none → H' b = none := fun b o e n => by
    cases z : H' b with
    | none => rfl
    | some u =>
      rcases new b u z with q | ⟨q, _⟩
      · rw [n] at q; cases q
      · exact absurd (Heap.lt_size e) (Nat.not_lt.mpr q)
  refine I.step (g' := s.gens) (d' := s.drawn) (ch := it) (fun b hb => ?_) (fun b o _ _ hc z _ => k b o hc z) (fun b o _ _ hc z _ => ⟨o.slots, k b o hc z⟩) (fun b o _ z n => fr b o z n) (fun b o hc z => ⟨o, k b o hc z⟩) (fun b xs z => out b _ z) (fun b o u z => out b _ z)
    (fun b ps z => ⟨#[], by rw [out b _ z]; simp⟩) (fun m hm => ?_) (fun b o z => ?_) I.bare
  · obtain ⟨_, a1, _, a2, a3, a4, _⟩ := itn b hb
    exact ⟨a2, a1, a3, a4⟩
  · obtain ⟨o, es, ep, ho, r⟩ := hm
    exact ⟨o, es, ep, k _ o (fun z => (itn _ z).2.1 rfl) ho, r⟩
  · rcases new b o z with q | ⟨_, q⟩
    · have nb : ∀ c u, H c = some u → c ∉ it := fun c u e z => by rw [(itn c z).1] at e; cases e
      refine (I.hok b o q).stay (fun c v hc e => k c v ?_ e) (fun c e => out c _ e) fun c ys e => out c _ e
      rcases hc with y | y
      · rw [y]; exact nb b o q
      · exact nb c _ y
    · exact q
end
def lay2 (H : Hp) : List Addr → List (V × V) → Hp
  | a :: as, (x, y) :: ps => upd (lay2 H as ps) a (.tup [x, y])
  | _, _ => H
theorem lay2_out {H : Hp} {b : Addr} : ∀ {as : List Addr} {ps : List (V × V)}, b ∉ as → lay2 H as ps b = H b
  | [], _, _ => by unfold lay2; rfl
  | a :: as, [], _ => by unfold lay2; rfl
  | a :: as, (x, y) :: ps, h => by
    unfold lay2
    rw [upd_ne (fun z => h (by rw [z]; exact List.mem_cons_self ..)), lay2_out fun z => h (List.mem_cons_of_mem _ z)]
theorem lay2_at {H : Hp} : ∀ {as : List Addr} {ps : List (V × V)} {j : Nat} {a : Addr} {x y : V}, as.Pairwise (· < ·) → as[j]? = some a → ps[j]? = some (x, y) → lay2 H as ps a = some (.tup [x, y])
  | [], _, j, _, _, _, _, e, _ => by simp at e
  | _ :: _, [], j, _, _, _, _, _, e => by simp at e
  | c :: as, (u, v) :: ps, 0, a, x, y, _, e1, e2 => by
    have e1 : c = a := by simpa using e1
    have e2 : (u, v) = (x, y) := by simpa using e2
    cases e2
    unfold lay2
    rw [e1, upd_same]
  | c :: as, (u, v) :: ps, j + 1, a, x, y, h, e1, e2 => by
    obtain ⟨h1, h2⟩ := List.pairwise_cons.mp h
    have e1 : as[j]? = some a := by simpa using e1
    have e2 : ps[j]? = some (x, y) := by simpa using e2
    unfold lay2
    rw [upd_ne (Nat.ne_of_gt (h1 a (List.mem_of_getElem? e1)))]
    exact lay2_at h2 e1 e2
theorem lay2_inv {H : Hp} {b : Addr} {o : HO} : ∀ {as : List Addr} {ps : List (V × V)}, lay2 H as ps b = some o → H b = some o ∨ ∃ (j : Nat) (x y : V), as[j]? = some b ∧ ps[j]? = some (x, y) ∧ o = .tup [x, y]
  | [], _, h => .inl (by unfold lay2 at h; exact h)
  | _ :: _, [], h => .inl (by unfold lay2 at h; exact h)
  | c :: as, (u, v) :: ps, h => by
    unfold lay2 at h
    by_cases z : b = c
    · subst z
      rw [upd_same] at h
      exact .inr ⟨0, u, v, rfl, rfl, (Option.some.inj h).symm⟩
    · rw [upd_ne z] at h
      rcases lay2_inv h with q | ⟨j, x, y, e1, e2, e3⟩
      · exact .inl q
      · exact .inr ⟨j + 1, x, y, by simpa using e1, by simpa using e2, e3⟩
theorem vals_refs : ∀ (as : List Addr), Vals (as.map V.ref) (as.map Value.ref)
  | [] => .nil
  | _ :: as => .cons rfl (vals_refs as)
def tLZ (K : PySem.W.Frag) (t : TA) : TE := fun σ H Q => t σ H fun vs H1 => ∃ a b xs ys, vs = [.ref a, .ref b] ∧ SqL K H1 a xs ∧ SqL K H1 b ys ∧
  ∀ (l : Addr) (as : List Addr) (H2 : Hp), (∀ d o, H1 d = some o → H2 d = some o) → H1 l = none → H2 l = some (.lst (as.map V.ref)) → as.length = (xs.zip ys).length →
    (∀ (j : Nat) (x y : V), (xs.zip ys)[j]? = some (x, y) → ∃ p, as[j]? = some p ∧ H1 p = none ∧ p ≠ l ∧ H2 p = some (.tup [x, y])) → Q (.ref l) H2
theorem pe_listZip {X : Cx} {p p2 pos pos2 : Pos} {a b : Expr} {t : TA} (hc : X.calm = true) (hg : Gl X "list") (hm : X.mg "list" = none) (hg2 : Gl X "zip") (hm2 : X.mg "zip" = none) (ha : PA X [a, b] t)
    (hs : starEach [a, b] X.env = (false, eval a X.env) :: starEach [b] X.env := by rfl) (hpl : (backTo pos2 (starEach [b] X.env)).any (·.1) = false := by rfl)
    (hs2 : starEach [.Call (.Name "zip" p2) [a, b] [] pos2] X.env = [(false, eval (.Call (.Name "zip" p2) [a, b] [] pos2) X.env)] := by rfl) :
    PE X (.Call (.Name "list" p) [.Call (.Name "zip" p2) [a, b] [] pos2] [] pos) (tLZ X.K t) := by
  intro pins s σ H Q I h
  refine wpAny_Call_Name_kw (ld_blt I hg hm (by decide +kernel : bootBuiltins "list" = some (.type "list")) ?_ (by decide) (by decide))
  refine PyProof.Rows.callWith_type1 ?_ (by rw [hs2]; rfl) (by rfl)
  rw [hs2]
  show wpAny _ _ (spliced ((false, eval (.Call (.Name "zip" p2) [a, b] [] pos2) X.env) :: backTo pos [])) _ _ s
  refine Calls.spliced_cons ?_
  refine wpAny_Call_Name_kw (ld_blt I hg2 hm2 (by decide +kernel : bootBuiltins "zip" = some (.type "zip")) ?_ (by decide) (by decide))
  refine PyProof.Rows.callWith_type1 (thn (ha pos2 pins s σ H _ I h) fun us s1 q1 => ?_) hs hpl
  obtain ⟨vs, H1, I1, r, la, lb, xs, ys, rfl, hx, hy, q⟩ := q1
  obtain ⟨u, u', rfl, r1, r2⟩ := vals2 r
  cases (show u = Value.ref la from r1)
  cases (show u' = Value.ref lb from r2)
  obtain ⟨ix, vx, px, zx⟩ := I1.list hx
  obtain ⟨iy, vy, py, zy⟩ := I1.list hy
  have lta : la < s1.heap.objs.size := by obtain ⟨_, e, _⟩ := px.isList; exact Heap.lt_size e
  have ltb : lb < s1.heap.objs.size := by obtain ⟨_, e, _⟩ := py.isList; exact Heap.lt_size e
  refine call_zip_2 px.isList py.isList fun h2 e1 e2 e3 e4 e5 sz k2 => ?_
  refine Calls.spliced_nil ?_
  have D := zipApart_new lta ltb
  have lo : ZLow (s1.heap.objs.size + 4) (s1.heap.objs.size + 2) (s1.heap.objs.size + 3) s1.heap.objs.size (s1.heap.objs.size + 1) la lb h2.objs.size :=
    ⟨by rw [sz]; exact Nat.add_lt_add_left (by decide) _, by rw [sz]; exact Nat.add_lt_add_left (by decide) _, by rw [sz]; exact Nat.add_lt_add_left (by decide) _, by rw [sz]; exact Nat.lt_add_of_pos_right (by decide), by rw [sz]; exact Nat.add_lt_add_left (by decide) _,
     by rw [sz]; exact Nat.lt_of_lt_of_le lta (Nat.le_add_right _ _), by rw [sz]; exact Nat.lt_of_lt_of_le ltb (Nat.le_add_right _ _)⟩
  have st : ZSt h2 (s1.heap.objs.size + 4) (s1.heap.objs.size + 2) (s1.heap.objs.size + 3) s1.heap.objs.size (s1.heap.objs.size + 1) la lb h2.objs.size ix.toArray iy.toArray 0 :=
    ⟨e2, e4, e5, px.isList.at fun o e => k2 _ o e, py.isList.at fun o e => k2 _ o e, .inl ⟨e1, _, _, e3⟩⟩
  have len1 : xs.length = ix.length := vx.length
  have len2 : ys.length = iy.length := vy.length
  have mn : min ix.toArray.size iy.toArray.size = (xs.zip ys).length := by simp [len1, len2]
  refine call_listZip (s := { s1 with heap := h2 }) (I.ok.hd hc) D lo st (by simp; omega) fun h3 tk acc c as k3 a1 a2 a3 a4 => ?_
  dsimp only at k3 a1 a3
  have big : s1.heap.objs.size ≤ h2.objs.size := by rw [sz]; exact Nat.le_add_right _ _
  have fr : H1 h2.objs.size = none := I1.hok.fresh big
  have ge : ∀ j p, as[j]? = some p → h2.objs.size < p := fun j p e => (a3.at_ j p e).1
  have zl : ∀ {j x y}, (xs.zip ys)[j]? = some (x, y) → xs[j]? = some x ∧ ys[j]? = some y := fun e => by
    have := List.getElem?_zip_eq_some.mp e
    exact this
  have old : ∀ d o, H1 d = some o → d < s1.heap.objs.size := fun d o e => I1.hok.lt e
  let H2 : Hp := upd (lay2 H1 as (xs.zip ys)) h2.objs.size (.lst (as.map V.ref))
  have nin : ∀ d, d ≤ h2.objs.size → d ∉ as := fun d hd hm => by
    obtain ⟨j, e⟩ := List.mem_iff_getElem?.mp hm
    exact absurd (ge j d e) (Nat.not_lt.mpr hd)
  have out : ∀ d o, H1 d = some o → H2 d = some o := fun d o e => by
    have lt := old d o e
    show upd _ _ _ d = _
    rw [upd_ne (Nat.ne_of_lt (Nat.lt_of_lt_of_le lt big)), lay2_out (nin d (Nat.le_of_lt (Nat.lt_of_lt_of_le lt big)))]
    exact e
  have atl : H2 h2.objs.size = some (.lst (as.map V.ref)) := upd_same
  have atp : ∀ (j : Nat) (x y : V), (xs.zip ys)[j]? = some (x, y) → ∃ p, as[j]? = some p ∧ H1 p = none ∧ p ≠ h2.objs.size ∧ H2 p = some (.tup [x, y]) := fun j x y e => by
    have lj : j < as.length := by rw [a2, mn]; exact (List.getElem?_eq_some_iff.mp e).1
    have ej : as[j]? = some as[j] := List.getElem?_eq_getElem lj
    have g := ge j _ ej
    refine ⟨as[j], ej, I1.hok.fresh (Nat.le_trans big (Nat.le_of_lt g)), Nat.ne_of_gt g, ?_⟩
    show upd _ _ _ _ = _
    rw [upd_ne (Nat.ne_of_gt g)]
    exact lay2_at a3.rise ej e
  refine ⟨.ref h2.objs.size, H2, ?_, rfl, q _ as H2 out fr atl (by rw [a2, mn]) atp⟩
  show Inv X pins σ H2 { s1 with heap := h3, toks := tk }
  refine I1.many (t' := tk) (it := []) (fun b hb => nomatch hb) (fun b u _ e => ?_) out fun b o e => ?_
  · have lt := Heap.lt_size e
    refine k3 b u ?_ ?_ ?_ ?_ (k2 b u e)
    · exact Nat.ne_of_lt (Nat.lt_of_lt_of_le lt (Nat.le_add_right _ _))
    · exact Nat.ne_of_lt (Nat.lt_of_lt_of_le lt (Nat.le_add_right _ _))
    · exact Nat.ne_of_lt lt
    · exact Nat.ne_of_lt (Nat.lt_of_lt_of_le lt (Nat.le_add_right _ _))
  · by_cases z : b = h2.objs.size
    · subst z
      rw [atl] at e
      cases e
      refine .inr ⟨big, ?_, acc.toList, c, ?_, ?_⟩
      · rw [List.length_map, a2, mn, List.length_zip]
        exact Nat.le_trans (Nat.min_le_left _ _) zx
      · rw [a4]
        exact vals_refs as
      · rw [a1]
    · replace e : lay2 H1 as (xs.zip ys) b = some o := by
        have e' : upd _ _ _ b = _ := e
        rw [upd_ne z] at e'
        exact e'
      rcases lay2_inv e with q1 | ⟨j, x, y, ej, ez, rfl⟩
      · exact .inl q1
      · have g := ge j b ej
        obtain ⟨_, u, v, eu, ev, ob⟩ := a3.at_ j b ej
        obtain ⟨zx1, zy1⟩ := zl ez
        have ru : RelV x u := by
          obtain ⟨u', hu, r⟩ := vx.get zx1
          have : u' = u := by simpa [hu] using eu
          rw [← this]; exact r
        have rv : RelV y v := by
          obtain ⟨v', hv, r⟩ := vy.get zy1
          have : v' = v := by simpa [hv] using ev
          rw [← this]; exact r
        exact .inr ⟨Nat.le_trans big (Nat.le_of_lt g), by show 2 ≤ sizeLine; decide, [u, v], .cons ru (.cons rv .nil), _, ob, rfl, _, rfl⟩
def tMaxD (K : PySem.W.Frag) (t : TA) (td : TE) : TE := fun σ H Q => t σ H fun vs H1 => td σ H1 fun y H2 => ∃ (a : Addr) (ns : List Int) (d : Int), vs = [.ref a] ∧ y = .int d ∧ SqL K H2 a (ns.map V.int) ∧
  (ns = [] → Q (.int d) H2) ∧ (ns ≠ [] → ∀ M, M ∈ ns → (∀ z ∈ ns, z ≤ M) → Q (.int M) H2)
theorem pe_maxD {X : Cx} {p kp pos : Pos} {l e : Expr} {tl : TA} {td : TE} (hc : X.calm = true) (hg : Gl X "max") (hm : X.mg "max" = none) (hl : PA X [l] tl) (he : PE X e td)
    (hst : backTo pos (starEach [l] X.env) = (false, eval l X.env) :: backTo pos (starEach [] X.env) := by rfl)
    (hpl : (backTo pos (starEach [l] X.env)).any (·.1) = false := by rfl)
    (hall : (backToKw pos (keywordEach [⟨some "default", e, kp⟩] X.env)).all (·.1.isSome) = true := by rfl)
    (hkw : (backToKw pos (keywordEach [⟨some "default", e, kp⟩] X.env)).any (·.1.isNone) = false := by rfl)
    (hks : (backToKw pos (keywordEach [⟨some "default", e, kp⟩] X.env)).filterMap (·.1) = [Str.ofString "default"] := by rfl) :
    PE X (.Call (.Name "max" p) [l] [⟨some "default", e, kp⟩] pos) (tMaxD X.K tl td) := by
  intro pins s σ H Q I h
  refine wpAny_Call_Name_kw (ld_blt I hg hm (by decide +kernel : bootBuiltins "max" = some (.builtin "max")) ?_ (by decide) (by decide))
  refine PyProof.Rows.callWith_kw ?_ hst hpl hall hkw
  refine thn (hl pos pins s σ H _ I h) fun us s1 q1 => ?_
  obtain ⟨vs, H1, I1, r, q⟩ := q1
  refine kwAll_cons (thn (he pins s1 σ H1 _ I1 q) fun u' s2 q2 => ?_)
  obtain ⟨y, H2, I2, ry, a, ns, d, rfl, rfl, hq, q0, qn⟩ := q2
  obtain ⟨t, rfl⟩ := ry
  obtain ⟨u, rfl, rx⟩ := vals1 r
  cases (show u = Value.ref a from rx)
  refine kwAll_nil ?_
  rw [hks]
  show wpAny _ _ (call (.builtin "max") [.ref a] [("default", .int d t)]) _ _ s2
  obtain ⟨its, r', pl, hz⟩ := I2.list hq
  have hi : IntsAre its ns := intsAre_of r'
  obtain ⟨zs, ez⟩ := hi.allInts.items
  have hns : ns = zs.toList.map (·.1) := by rw [← hi.numsOf, ← nums_intItems, ← ez]
  have hsz : ns.length = zs.size := by rw [hns, List.length_map, Array.length_toList]
  have hl' : s2.heap.IsList a its.toArray := pl.isList
  rw [ez] at hl'
  refine maxD_ints (I2.ok.hd hc) hl' (fun pos' v h2 t2 hv hk => ?_) fun z0 h2 t2 hk => ?_
  · obtain ⟨t', rfl⟩ := intItems_at hv
    obtain ⟨g1, g2⟩ := argBest_gt (numAt zs) (zs.size - 1)
    refine ⟨.int _, H2, I2.kept (h' := h2) (t' := t2) hk, ⟨t', rfl⟩, qn (fun z => by rw [z] at hsz; simp at hsz; omega) _ ?_ fun b hb => ?_⟩
    · rw [hns, numAt_eq]
      exact getD_mem (by rw [List.length_map, Array.length_toList]; omega)
    · rw [hns] at hb
      obtain ⟨j, hj, rfl⟩ := mem_getD hb
      rw [List.length_map, Array.length_toList] at hj
      rw [← numAt_eq]
      exact g2 j (by omega)
  · refine ⟨.int d, H2, I2.kept (h' := h2) (t' := t2) hk, ⟨t, rfl⟩, q0 (List.eq_nil_of_length_eq_zero (by omega))⟩
def iEnum0 (K : PySem.W.Frag) (tl : TA) : TI := fun σ H R => tl σ H fun vs H1 => ∃ a, vs = [.ref a] ∧ (∃ xs, SqL K H1 a xs) ∧ R (Ite K a 0) H1
theorem pi_enum {X : Cx} {elts : List Expr} {x1 : Nat} {tp p pos : Pos} {l : Expr} {tl : TA} (hg : Gl X "enumerate") (hm : X.mg "enumerate" = none) (hl : PA X [l] tl)
    (he : starEach [l] X.env = (false, eval l X.env) :: starEach [] X.env := by rfl) (hpl : (backTo pos (starEach [] X.env)).any (·.1) = false := by rfl) :
    PI X (.Tuple elts x1 tp) (.Call (.Name "enumerate" p) [l] [] pos) (iEnum0 X.K tl) := by
  intro pins s σ H R I h
  refine wpAny_Call_Name_kw (ld_blt I hg hm (by decide +kernel : bootBuiltins "enumerate" = some (.type "enumerate")) ?_ (by decide) (by decide))
  refine PyProof.Rows.callWith_type1 (thn (hl pos pins s σ H _ I h) fun us s1 q1 => ?_) he hpl
  obtain ⟨vs, H2, I2, r, a, rfl, ⟨xs, hq⟩, qR⟩ := q1
  obtain ⟨u, rfl, rx⟩ := vals1 r
  cases (show u = Value.ref a from rx)
  obtain ⟨its, rv, p, hz⟩ := I2.list hq
  refine call_enumerate_list p.isList fun h1 e1 e2 z1 kp => ?_
  have I3 : Inv X pins σ H2 { s1 with heap := h1 } := I2.kept (t' := s1.toks) kp
  have ne : s1.heap.objs.size + 1 ≠ s1.heap.objs.size := Nat.succ_ne_self _
  refine wpAny_pyIter_enum e1 ⟨_, _, _, _, H2, rfl, I3, turn_enum a _ _ 0 ne, ⟨⟨.none, by simpa using e1⟩, e2⟩, fun b hb => ?_, qR⟩
  rcases List.mem_cons.mp hb with z | z
  · subst z
    exact I2.fpOk (Nat.le_succ _) (I2.hok.fresh (Nat.le_succ _))
  · have z : b = s1.heap.objs.size := by simpa using z
    subst z
    exact I2.fpOk (Nat.le_refl _) I2.fresh
def tFs (te : TE) : TE := fun σ H Q => te σ H fun x H1 => ∃ i, x = .int i ∧ (i = 0 ∨ i = 1) ∧ ∀ t, Q (.str t) H1
theorem pe_fstr {X : Cx} {a b : Str} {j1 j2 p1 p2 p3 pos} {e : Expr} {te : TE} (he : PE X e te) (l1 : a.length ≤ 500 := by decide) (l2 : b.length ≤ 500 := by decide) :
    PE X (.JoinedStr [.Constant (.str a) j1 p1, .FormattedValue e (-1) none p2, .Constant (.str b) j2 p3] pos) (tFs te) := by
  intro pins s σ H Q I h
  have big : (2000 : Nat) ≤ sizeLine := by decide
  refine wpAny_JoinedStr ?_
  show Joins _ _ _ [eval (.Constant (.str a) j1 p1) X.env, eval (.FormattedValue e (-1) none p2) X.env, eval (.Constant (.str b) j2 p3) X.env] _ _ _
  have la : (Str.empty ++ a).length ≤ 500 := by rw [strLen_append]; show 0 + a.length ≤ 500; omega
  refine Calls.Constant_str ⟨a, _, rfl, by omega, ?_⟩
  refine wpAny_FormattedValue_plain (thn (he pins _ σ H _ (I.tok _) h) fun u s2 q2 => ?_)
  obtain ⟨x, H1, I1, rx, i, rfl, hi, q⟩ := q2
  obtain ⟨t, rfl⟩ := rx
  have hd : i.natAbs.log2 < 1920 := by rcases hi with rfl | rfl <;> decide
  have li : ((toString i : String) : Str).length ≤ 1 := by rcases hi with rfl | rfl <;> decide
  refine wpAny_formatField_int hd ⟨_, _, rfl, ?_, ?_⟩
  · rw [strLen_append]; omega
  refine Calls.Constant_str ⟨b, _, rfl, ?_, ?_⟩
  · rw [strLen_append, strLen_append]; omega
  refine ⟨?_, .str _, H1, I1.tok _, ⟨_, rfl⟩, q _⟩
  rw [strLen_append, strLen_append]; omega
section
variable {K : PySem.W.Frag} {n b c : St → Hp → Prop} {r Q : VK} {σ : St} {H : Hp} {t u tb : TS} {te tv ta td : TE} {tc : TT} {g : TG} {tx tl : TA} {f : Str}
theorem rd_iEnum0 {R : It → Hp → Prop} (h : tl σ H fun vs H1 => ∃ a, vs = [.ref a] ∧ (∃ xs, SqL K H1 a xs) ∧ R (Ite K a 0) H1) : iEnum0 K tl σ H R := h
theorem rd_lz (h : tx σ H fun vs H1 => ∃ a b xs ys, vs = [.ref a, .ref b] ∧ SqL K H1 a xs ∧ SqL K H1 b ys ∧
  ∀ (l : Addr) (as : List Addr) (H2 : Hp), (∀ d o, H1 d = some o → H2 d = some o) → H1 l = none → H2 l = some (.lst (as.map V.ref)) → as.length = (xs.zip ys).length →
    (∀ (j : Nat) (x y : V), (xs.zip ys)[j]? = some (x, y) → ∃ p, as[j]? = some p ∧ H1 p = none ∧ p ≠ l ∧ H2 p = some (.tup [x, y])) → Q (.ref l) H2) : tLZ K tx σ H Q := h
theorem rd_maxD (h : tx σ H fun vs H1 => td σ H1 fun y H2 => ∃ (a : Addr) (ns : List Int) (d : Int), vs = [.ref a] ∧ y = .int d ∧ SqL K H2 a (ns.map V.int) ∧
  (ns = [] → Q (.int d) H2) ∧ (ns ≠ [] → ∀ M, M ∈ ns → (∀ z ∈ ns, z ≤ M) → Q (.int M) H2)) : tMaxD K tx td σ H Q := h
theorem rd_sfldF (h : tv σ H fun y H1 => ta σ H1 fun x H2 => ∃ a C dx fs, x = .ref a ∧ H2 a = some (.ins C dx fs) ∧ Cls K C ∧ NoAttr K C f ∧ fs.length < 1000 ∧ n σ (upd H2 a (.ins C dx (putF f y fs)))) : sFld K ta tv f (Ends.mk n r b c) σ H := h
theorem rd_notInI {p : Addr} {ns : List Int} {i : Int} (e : SqL K H p (ns.map V.int)) (h : Q (.bl (!decide (i ∈ ns))) H) : rIn K true (.int i) (.ref p) H Q := ⟨p, _, rfl, .inl e, rfl, flat_ints ns, by rw [in_ints]; exact h⟩
theorem for_enumF {a : Addr} {k : Int} {xs : List V} (Pv : Nat → St → Hp → Prop) (h0 : Pv 0 σ H) (hl : ∀ i σ H, i ≤ xs.length → Pv i σ H → SqL K H a xs)
    (hs : ∀ i x p σ H, xs[i]? = some x → H p = none → Pv i σ H → g (.ref p) σ (upd H p (.tup [.int (k + (i : Nat)), x])) fun σ2 H2 => tb (Ends.mk (Pv (i + 1)) r n (Pv (i + 1))) σ2 H2) (hd : ∀ σ H, Pv xs.length σ H → n σ H) :
    ∃ W : Nat → Nat → St → Hp → Prop, (∃ m, W 0 m σ H) ∧ ∀ i m σ H, W i m σ H →
      ((Ite K a k).stop i H ∧ n σ H) ∨ ((Ite K a k).go i H ∧ ∃ N : St → Hp → Prop, (∀ σ' H', N σ' H' → ∃ m', m' < m ∧ W (i + 1) m' σ' H') ∧ ∀ x H', (Ite K a k).yld i H x H' → g x σ H' fun σ2 H2 => tb (Ends.mk N r n N) σ2 H2) :=
  for_enum (D := Ends.mk n r (fun _ _ => False) (fun _ _ => False)) Pv h0 hl hs hd
theorem while_byF (Pv : St → Hp → Prop) (μ : St → Nat) (h0 : Pv σ H)
    (hs : ∀ σ H, Pv σ H → tc σ H fun q H1 => if q = true then tb (Ends.mk (fun σ' H' => Pv σ' H' ∧ μ σ' < μ σ) r n (fun σ' H' => Pv σ' H' ∧ μ σ' < μ σ)) σ H1 else n σ H1)
    (mono : ∀ σ H Q Q', (∀ b H1, Q b H1 → Q' b H1) → tc σ H Q → tc σ H Q') : tWhile tc tb (Ends.mk n r b c) σ H :=
  while_by (D := Ends.mk n r b c) Pv (fun σ _ => μ σ) h0 hs mono
theorem rd_isiT {x : V} {m T : String} {q : Bool} (y : TyOf K H x (.type T)) (e : PySem.W.kitOne K (.type T) (.type m) = some q) (h : Q (.bl q) H) : rIsi K [x, .ty m] H Q := ⟨_, m, _, q, rfl, y, e, h⟩
end
end L2
namespace Mine
def partsFrom (row : List Int) : Nat → Int → List Nat → List Int
  | p, s, [] => [s + (row.drop p).sum]
  | p, s, c :: cs => (s + ((row.drop p).take (c - p)).sum) :: partsFrom row c 0 cs
def lawParts (C : List Nat) : Nat → List Int → Int → List Int
  | _, [], s => [s]
  | p, x :: xs, s => if p ∈ C then s :: lawParts C (p + 1) xs x else lawParts C (p + 1) xs (s + x)
def Rising : Nat → Nat → List Nat → Prop
  | _, _, [] => True
  | lo, n, c :: cs => lo ≤ c ∧ c < n ∧ Rising (c + 1) n cs
theorem Rising.mono {n : Nat} : ∀ {lo lo' : Nat} {cs : List Nat}, Rising lo n cs → lo' ≤ lo → Rising lo' n cs
  | _, _, [], _, _ => trivial
  | _, _, _ :: _, ⟨h1, h2, h3⟩, h => ⟨Nat.le_trans h h1, h2, h3⟩
theorem Rising.mem {n : Nat} : ∀ {lo : Nat} {cs : List Nat}, Rising lo n cs → ∀ c ∈ cs, lo ≤ c ∧ c < n
  | _, [], _, c, h => by cases h
  | lo, d :: cs, ⟨h1, h2, h3⟩, c, h => by
    rcases List.mem_cons.mp h with rfl | h
    · exact ⟨h1, h2⟩
    · have := Rising.mem h3 c h
      exact ⟨by omega, this.2⟩
theorem Rising.len {n : Nat} : ∀ {lo : Nat} {cs : List Nat}, Rising lo n cs → lo ≤ n → cs.length + lo ≤ n
  | _, [], _, h => by simpa using h
  | lo, d :: cs, ⟨h1, h2, h3⟩, _ => by
    have := Rising.len h3 (by omega)
    simp only [List.length_cons]; omega
theorem partsFrom_step {row : List Int} {p : Nat} {s : Int} (hp : p < row.length) : ∀ {cs : List Nat}, (∀ c ∈ cs, p < c) → partsFrom row p s cs = partsFrom row (p + 1) (s + row[p]) cs
  | [], _ => by
    simp only [partsFrom]
    rw [List.drop_eq_getElem_cons hp, List.sum_cons, Int.add_assoc]
  | c :: cs, h => by
    have hc := h c (List.mem_cons_self ..)
    simp only [partsFrom]
    rw [List.drop_eq_getElem_cons hp, show c - p = (c - (p + 1)) + 1 by omega, List.take_succ_cons, List.sum_cons, Int.add_assoc]
theorem lawParts_eq {row : List Int} {C : List Nat} : ∀ (k p : Nat) (s : Int) (cs : List Nat), row.length - p = k → p ≤ row.length → Rising p row.length cs → (∀ q, p ≤ q → (q ∈ C ↔ q ∈ cs)) →
    lawParts C p (row.drop p) s = partsFrom row p s cs := by
  intro k
  induction k with
  | zero =>
    intro p s cs hk hp hr _
    have hd : row.drop p = [] := List.drop_eq_nil_of_le (by omega)
    cases cs with
    | nil => rw [hd]; simp [lawParts, partsFrom, hd]
    | cons c cs => exact absurd (hr.2.1) (by have := hr.1; omega)
  | succ k ih =>
    intro p s cs hk hp hr hm
    have hlt : p < row.length := by omega
    rw [List.drop_eq_getElem_cons hlt]
    by_cases hin : p ∈ C
    · have hc := (hm p (Nat.le_refl p)).mp hin
      cases cs with
      | nil => cases hc
      | cons c cs =>
        have e : c = p := by
          rcases List.mem_cons.mp hc with h | h
          · exact h.symm
          · have := (hr.2.2).mem p h
            have := hr.1
            omega
        subst e
        simp only [lawParts, if_pos hin, partsFrom, Nat.sub_self, List.take_zero, List.sum_nil, Int.add_zero]
        congr 1
        rw [partsFrom_step hlt fun d hd => by have := (hr.2.2).mem d hd; omega, Int.zero_add]
        refine ih (c + 1) _ cs (by omega) hlt hr.2.2 fun q hq => ?_
        rw [hm q (by omega), List.mem_cons]
        exact ⟨fun h => h.resolve_left (by omega), .inr⟩
    · have hnc : p ∉ cs := fun h => hin ((hm p (Nat.le_refl p)).mpr h)
      simp only [lawParts, if_neg hin]
      rw [partsFrom_step hlt fun d hd => by
        have := hr.mem d hd
        have : d ≠ p := fun e => hnc (e ▸ hd)
        omega]
      refine ih (p + 1) _ cs (by omega) hlt ?_ fun q hq => hm q (by omega)
      cases cs with
      | nil => trivial
      | cons c cs =>
        have : c ≠ p := fun e => hnc (e ▸ List.mem_cons_self ..)
        exact ⟨by have := hr.1; omega, hr.2.1, hr.2.2⟩
theorem lawParts_cuts {row : List Int} {cs : List Nat} (h : Rising 1 row.length cs) : lawParts cs 0 row 0 = partsFrom row 0 0 cs := by
  have := lawParts_eq (row := row) (C := cs) _ 0 0 cs rfl (Nat.zero_le _) (h.mono (Nat.zero_le _)) fun _ _ => Iff.rfl
  simpa using this
theorem sum_bound {M : Int} (hM : 0 ≤ M) : ∀ {xs : List Int}, (∀ x ∈ xs, 0 ≤ x ∧ x ≤ M) → 0 ≤ xs.sum ∧ xs.sum ≤ M * xs.length
  | [], _ => by simp
  | x :: xs, h => by
    have h1 := h x (List.mem_cons_self ..)
    have h2 := sum_bound hM (xs := xs) fun y hy => h y (List.mem_cons_of_mem _ hy)
    simp only [List.sum_cons, List.length_cons, Int.natCast_add, Int.natCast_one, Int.mul_add, Int.mul_one]
    omega
def evenest (W : Int) : Nat → List Int → Int → Int → Int → Int
  | _, [], _, _, t => t
  | p, x :: xs, a, l, t => if (if W - 2 * (a + x) < 0 then -(W - 2 * (a + x)) else W - 2 * (a + x)) < l then evenest W (p + 1) xs (a + x) (if W - 2 * (a + x) < 0 then -(W - 2 * (a + x)) else W - 2 * (a + x)) (p + 1 : Nat) else evenest W (p + 1) xs (a + x) l t
end Mine
namespace Mine
open PySem L2
seal L2.PS L2.PSs L2.PE L2.PT L2.PW L2.PA L2.PI L2.PG L2.PGs L2.PF L2.PC L2.PO
local macro_rules | `(tactic| walk_at "rd") => `(tactic| repeat' (first | (with_reducible refine rd_seqF ?_) | (with_reducible refine rd_seq ?_)   | ((with_reducible apply rd_var); exact rfl) | (with_reducible refine rd_c ?_) | (with_reducible refine rd_asgF ?_) | (with_reducible refine rd_asg ?_) | (with_reducible refine rd_name ?_) | (with_reducible refine rd_if ?_) | (with_reducible refine rd_retF ?_) | (with_reducible refine rd_ret ?_) | (with_reducible refine rd_dropF ?_) | (with_reducible refine rd_drop ?_) | (with_reducible refine rd_nextF ?_) | (with_reducible refine rd_next ?_) | (with_reducible refine rd_op ?_) | (with_reducible refine rd_un ?_) | (with_reducible refine rd_test ?_) | (with_reducible refine rd_tB ?_) | (with_reducible refine rd_bl ?_) | (with_reducible refine rd_and ?_) | (with_reducible refine rd_or ?_) | (with_reducible refine rd_not ?_) | (with_reducible refine rd_andV ?_) | (with_reducible refine rd_orV ?_) | (with_reducible refine rd_notV ?_) | (with_reducible refine rd_cons ?_) | (with_reducible refine rd_nil ?_) | (with_reducible refine rd_ints ?_) | (with_reducible refine rd_cb ?_) | (with_reducible refine rd_cl ?_) | (with_reducible refine rd_lst ?_) | (with_reducible refine rd_tup ?_) | (with_reducible refine rd_I0 ?_) | (with_reducible refine rd_U ?_) | (with_reducible refine rd_eqI ?_) | (with_reducible refine rd_neI ?_) | (with_reducible refine rd_eqB ?_) | (with_reducible refine rd_neB ?_) | (with_reducible refine rd_chain ?_) | (with_reducible refine rd_chain3 ?_) | (with_reducible refine rd_isB ?_) | (with_reducible refine rd_notB ?_) | (with_reducible refine rd_abs ?_) | (with_reducible refine rd_parF ?_) | (with_reducible refine rd_par ?_) | (with_reducible refine rd_par3F ?_) | (with_reducible refine rd_par3 ?_) | (with_reducible refine rd_two ?_) | (with_reducible refine rd_three ?_) | (with_reducible refine rd_bm ?_) | (with_reducible refine rd_bm0 ?_) | (with_reducible refine rd_sl ?_) | (with_reducible refine rd_part ?_) | (with_reducible refine rd_nopart ?_) | (with_reducible refine rd_int ?_) | (with_reducible refine rd_forF ?_) | (with_reducible refine rd_for ?_) | (with_reducible refine rd_iList ?_) | (with_reducible refine rd_iRng1 ?_) | (with_reducible refine rd_iRng2 ?_) | (with_reducible refine rd_iEnum ?_) | (with_reducible refine rd_comp ?_) | (with_reducible refine rd_gsub ?_) | (with_reducible refine rd_methT ?_) | (with_reducible refine rd_fldT ?_) | (with_reducible refine rd_mkT ?_) | (with_reducible refine rd_max2 ?_) | (with_reducible refine rd_min2 ?_) | (with_reducible refine rd_clE ?_) | (with_reducible refine rd_ifE ?_) | (with_reducible refine rd_iTup ?_) | (with_reducible refine rd_rev ?_) | (with_reducible refine rd_iRng3 ?_) | (with_reducible refine rd_range1 ?_) | (with_reducible refine rd_iEnum0 ?_) | (with_reducible refine rd_lz ?_) | (with_reducible refine rd_maxD ?_) | (with_reducible refine rd_fs ?_) | (with_reducible refine rd_sfldF ?_) | (with_reducible refine iteT ?_) | (with_reducible refine iteF ?_) | ((with_reducible apply rd_lenI); assumption) | ((with_reducible apply rd_len); assumption) | ((with_reducible apply rd_sum); assumption)))
local macro_rules | `(tactic| walk_at "rr") => `(tactic| repeat' (first | (with_reducible refine rd_seqF ?_) | (with_reducible refine rd_seq ?_)   | ((with_reducible apply rd_var); exact rfl) | (with_reducible refine rd_c ?_) | (with_reducible refine rd_asgF ?_) | (with_reducible refine rd_asg ?_) | (with_reducible refine rd_name ?_) | (with_reducible refine rd_if ?_) | (with_reducible refine rd_retF ?_) | (with_reducible refine rd_ret ?_) | (with_reducible refine rd_dropF ?_) | (with_reducible refine rd_drop ?_) | (with_reducible refine rd_nextF ?_) | (with_reducible refine rd_next ?_) | (with_reducible refine rd_op ?_) | (with_reducible refine rd_un ?_) | (with_reducible refine rd_test ?_) | (with_reducible refine rd_tB ?_) | (with_reducible refine rd_bl ?_) | (with_reducible refine rd_and ?_) | (with_reducible refine rd_or ?_) | (with_reducible refine rd_not ?_) | (with_reducible refine rd_andV ?_) | (with_reducible refine rd_orV ?_) | (with_reducible refine rd_notV ?_) | (with_reducible refine rd_cons ?_) | (with_reducible refine rd_nil ?_) | (with_reducible refine rd_ints ?_) | (with_reducible refine rd_cb ?_) | (with_reducible refine rd_cl ?_) | (with_reducible refine rd_lst ?_) | (with_reducible refine rd_tup ?_) | (with_reducible refine rd_I0 ?_) | (with_reducible refine rd_U ?_) | (with_reducible refine rd_eqI ?_) | (with_reducible refine rd_neI ?_) | (with_reducible refine rd_eqB ?_) | (with_reducible refine rd_neB ?_) | (with_reducible refine rd_chain ?_) | (with_reducible refine rd_chain3 ?_) | (with_reducible refine rd_isB ?_) | (with_reducible refine rd_notB ?_) | (with_reducible refine rd_abs ?_) | (with_reducible refine rd_parF ?_) | (with_reducible refine rd_par ?_) | (with_reducible refine rd_par3F ?_) | (with_reducible refine rd_par3 ?_) | (with_reducible refine rd_two ?_) | (with_reducible refine rd_three ?_) | (with_reducible refine rd_bm ?_) | (with_reducible refine rd_bm0 ?_) | (with_reducible refine rd_sl ?_) | (with_reducible refine rd_part ?_) | (with_reducible refine rd_nopart ?_) | (with_reducible refine rd_int ?_) | (with_reducible refine rd_forF ?_) | (with_reducible refine rd_for ?_) | (with_reducible refine rd_iList ?_) | (with_reducible refine rd_iRng1 ?_) | (with_reducible refine rd_iRng2 ?_) | (with_reducible refine rd_iEnum ?_) | (with_reducible refine rd_comp ?_) | (with_reducible refine rd_gsub ?_) | (with_reducible refine rd_methT ?_) | (with_reducible refine rd_fldT ?_) | (with_reducible refine rd_mkT ?_) | (with_reducible refine rd_max2 ?_) | (with_reducible refine rd_min2 ?_) | (with_reducible refine rd_clE ?_) | (with_reducible refine rd_ifE ?_) | (with_reducible refine rd_iTup ?_) | (with_reducible refine rd_rev ?_) | (with_reducible refine rd_iRng3 ?_) | (with_reducible refine rd_range1 ?_) | (with_reducible refine rd_iEnum0 ?_) | (with_reducible refine rd_lz ?_) | (with_reducible refine rd_maxD ?_) | (with_reducible refine rd_fs ?_) | (with_reducible refine rd_sfldF ?_) | (with_reducible refine iteNT ?_) | (with_reducible refine iteNF ?_) | (with_reducible refine iteT ?_) | (with_reducible refine iteF ?_) | ((with_reducible apply rd_lenI); assumption) | ((with_reducible apply rd_len); assumption) | ((with_reducible apply rd_sum); assumption)))
def top (i : Nat) : Stmt := PySem.Challenge.pw_cutrow_k07_refused.main.body.getD i (.Pass ⟨0, 0, 0, 0⟩)
theorem boot_sum : bootBuiltins "sum" = some (.builtin "sum") := by decide +kernel
theorem boot_abs : bootBuiltins "abs" = some (.builtin "abs") := by decide +kernel
theorem boot_all : bootBuiltins "all" = some (.builtin "all") := by decide +kernel
theorem boot_isinstance : bootBuiltins "isinstance" = some (.builtin "isinstance") := by decide +kernel
theorem boot_max : bootBuiltins "max" = some (.builtin "max") := by decide +kernel
theorem boot_int : bootBuiltins "int" = some (.type "int") := by decide +kernel
theorem boot_bool : bootBuiltins "bool" = some (.type "bool") := by decide +kernel
theorem boot_list : bootBuiltins "list" = some (.type "list") := by decide +kernel
theorem boot_range : bootBuiltins "range" = some (.type "range") := by decide +kernel
theorem boot_ValueError : bootBuiltins "ValueError" = some (.type "ValueError") := by decide +kernel
structure Txt (mg : Str → Option Value) : Prop where
  b_len : mg "len" = none
  b_sum : mg "sum" = none
  b_abs : mg "abs" = none
  b_all : mg "all" = none
  b_isinstance : mg "isinstance" = none
  b_max : mg "max" = none
  b_int : mg "int" = none
  b_bool : mg "bool" = none
  b_list : mg "list" = none
  b_range : mg "range" = none
  b_enumerate : mg "enumerate" = none
  b_zip : mg "zip" = none
  b_ValueError : mg "ValueError" = none
  g_MOST_LOAD : ∃ t, mg "MOST_LOAD" = some (.int 1000000 t)
  g_MOST_LOADS : ∃ t, mg "MOST_LOADS" = some (.int 1000000 t)
structure CA where
  CutError : Addr
  BadRow : Addr
  BadNumber : Addr
  BadCuts : Addr
  BadText : Addr
  Fewest : Addr
  Great : Addr
  Least : Addr
  Most : Addr
structure Cl (K : PySem.W.Frag) (mg : Str → Option Value) (a : CA) : Prop where
  m_CutError : mg "CutError" = some (.ref a.CutError)
  x_CutError : ExcLook K a.CutError
  m_BadRow : mg "BadRow" = some (.ref a.BadRow)
  x_BadRow : ExcLook K a.BadRow
  m_BadNumber : mg "BadNumber" = some (.ref a.BadNumber)
  x_BadNumber : ExcLook K a.BadNumber
  m_BadCuts : mg "BadCuts" = some (.ref a.BadCuts)
  x_BadCuts : ExcLook K a.BadCuts
  m_BadText : mg "BadText" = some (.ref a.BadText)
  m_Fewest : mg "Fewest" = some (.ref a.Fewest)
  y_Fewest : InsTy K a.Fewest
  m_Great : mg "Great" = some (.ref a.Great)
  y_Great : InsTy K a.Great
  m_Least : mg "Least" = some (.ref a.Least)
  y_Least : InsTy K a.Least
  m_Most : mg "Most" = some (.ref a.Most)
  y_Most : InsTy K a.Most
  n_Fewest_cuts : NoAttr K a.Fewest "cuts"
  n_Fewest_stretches : NoAttr K a.Fewest "stretches"
  n_Great_place : NoAttr K a.Great "place"
  n_Least_cuts : NoAttr K a.Least "cuts"
  n_Least_number : NoAttr K a.Least "number"
  n_Least_stretches : NoAttr K a.Least "stretches"
  n_Most_cuts : NoAttr K a.Most "cuts"
  n_Most_places : NoAttr K a.Most "places"
  k_BadRow_BadRow : PySem.W.kitOne K (.ref a.BadRow) (.ref a.BadRow) = some true
  k_BadRow_BadNumber : PySem.W.kitOne K (.ref a.BadRow) (.ref a.BadNumber) = some false
  k_BadRow_BadCuts : PySem.W.kitOne K (.ref a.BadRow) (.ref a.BadCuts) = some false
  k_BadRow_BadText : PySem.W.kitOne K (.ref a.BadRow) (.ref a.BadText) = some false
  k_BadRow_ValueError : PySem.W.kitOne K (.ref a.BadRow) (.type "ValueError") = some true
  s_BadRow : PySem.W.subIn K (.ref a.BadRow) (.ref a.CutError) = some true
  k_BadNumber_BadRow : PySem.W.kitOne K (.ref a.BadNumber) (.ref a.BadRow) = some false
  k_BadNumber_BadNumber : PySem.W.kitOne K (.ref a.BadNumber) (.ref a.BadNumber) = some true
  k_BadNumber_BadCuts : PySem.W.kitOne K (.ref a.BadNumber) (.ref a.BadCuts) = some false
  k_BadNumber_BadText : PySem.W.kitOne K (.ref a.BadNumber) (.ref a.BadText) = some false
  k_BadNumber_ValueError : PySem.W.kitOne K (.ref a.BadNumber) (.type "ValueError") = some true
  s_BadNumber : PySem.W.subIn K (.ref a.BadNumber) (.ref a.CutError) = some true
  k_BadCuts_BadRow : PySem.W.kitOne K (.ref a.BadCuts) (.ref a.BadRow) = some false
  k_BadCuts_BadNumber : PySem.W.kitOne K (.ref a.BadCuts) (.ref a.BadNumber) = some false
  k_BadCuts_BadCuts : PySem.W.kitOne K (.ref a.BadCuts) (.ref a.BadCuts) = some true
  k_BadCuts_BadText : PySem.W.kitOne K (.ref a.BadCuts) (.ref a.BadText) = some false
  k_BadCuts_ValueError : PySem.W.kitOne K (.ref a.BadCuts) (.type "ValueError") = some true
  s_BadCuts : PySem.W.subIn K (.ref a.BadCuts) (.ref a.CutError) = some true
theorem kit_int_int (K : PySem.W.Frag) : PySem.W.kitOne K (.type "int") (.type "int") = some true := by unfold PySem.W.kitOne; rfl
theorem kit_list_list (K : PySem.W.Frag) : PySem.W.kitOne K (.type "list") (.type "list") = some true := by unfold PySem.W.kitOne; rfl
theorem kit_int_bool (K : PySem.W.Frag) : PySem.W.kitOne K (.type "int") (.type "bool") = some false := by first | rfl | (unfold PySem.W.kitOne; decide +kernel)
theorem at_int {ns : List Int} {i : Nat} {y : V} (h : (ns.map V.int)[i]? = some y) : ∃ z, y = .int z ∧ ns[i]? = some z := by
  rw [List.getElem?_map] at h
  cases e : ns[i]? with
  | none => rw [e] at h; cases h
  | some z => rw [e] at h; exact ⟨z, (Option.some.inj h).symm, rfl⟩
theorem lt_of_at {α : Type} {xs : List α} {i : Nat} {z : α} (h : xs[i]? = some z) : i < xs.length := (List.getElem?_eq_some_iff.mp h).1
theorem mem_of_at {α : Type} {xs : List α} {i : Nat} {z : α} (h : xs[i]? = some z) : z ∈ xs := List.mem_of_getElem? h
theorem drop_at {α : Type} {xs : List α} {i : Nat} {z : α} (h : xs[i]? = some z) : xs.drop i = z :: xs.drop (i + 1) := by
  obtain ⟨hi, e⟩ := List.getElem?_eq_some_iff.mp h
  rw [List.drop_eq_getElem_cons hi, e]
theorem same_new {H : Hp} {p : Addr} (h : H p = none) (o : HO) : Same H (upd H p o) := fun b u q => by rw [upd_ne (ne_of_none q h)]; exact q
theorem small {n : Nat} (h : n ≤ 1000) : n ≤ sizeLine := Nat.le_of_lt (small1000 h)
def Good (ns : List Int) : Prop := ∀ x ∈ ns, 0 ≤ x ∧ x ≤ 1000000
def ic (cs : List Nat) : List Int := cs.map fun c : Nat => (c : Int)
theorem ic_len (cs : List Nat) : (ic cs).length = cs.length := List.length_map _
theorem at_ic {cs : List Nat} {i : Nat} {z : Int} (h : (ic cs)[i]? = some z) : ∃ c : Nat, z = c ∧ cs[i]? = some c := by
  unfold ic at h
  rw [List.getElem?_map] at h
  cases e : cs[i]? with
  | none => rw [e] at h; cases h
  | some c => rw [e] at h; exact ⟨c, (Option.some.inj h).symm, rfl⟩
theorem Rising.at {n : Nat} : ∀ {lo : Nat} {cs : List Nat} {i c : Nat}, Rising lo n cs → cs[i]? = some c → lo ≤ c ∧ c < n ∧ ∀ d, i ≠ 0 → cs[i - 1]? = some d → d < c
  | _, [], _, _, _, e => by simp at e
  | lo, c0 :: cs, 0, c, ⟨h1, h2, _⟩, e => by
    have : c0 = c := by simpa using e
    subst this
    exact ⟨h1, h2, fun _ z => absurd rfl z⟩
  | lo, c0 :: cs, i + 1, c, ⟨h1, h2, h3⟩, e => by
    have q := Rising.at (i := i) (c := c) h3 (by simpa using e)
    refine ⟨by omega, q.2.1, fun d _ ed => ?_⟩
    cases i with
    | zero =>
      have : c0 = d := by simpa using ed
      omega
    | succ i => exact q.2.2 d (by omega) (by simpa using ed)
theorem cut_ints (ns : List Int) (lo hi : Option Int) : cutV (ns.map V.int) lo hi = (((ns.drop (HT.sIx ns.length 0 lo)).take (HT.sIx ns.length ns.length hi - HT.sIx ns.length 0 lo))).map V.int := by
  unfold cutV
  rw [List.length_map, List.map_take, List.map_drop]
def spCell (K : PySem.W.Frag) : Sp := fun vs H Q _ => ∃ (a : Addr) (ns : List Int) (k : Int), vs = [.ref a, .int k] ∧ SqL K H a (ns.map V.int) ∧ 0 ≤ k ∧ ∀ v, Q (.int v) H
def spDraw : Sp := fun vs H Q _ => ∃ c k m : Int, vs = [.int c, .int k, .int m] ∧ 0 ≤ k ∧ 0 < m ∧ ∀ (r : Int) (H' : Hp), 0 ≤ r → r < m → Same H H' → Q (.int r) H'
def spRow (K : PySem.W.Frag) : Sp := fun vs H Q _ => ∃ (a : Addr) (ns : List Int), vs = [.ref a] ∧ SqL K H a (ns.map V.int) ∧ ns.length ≤ 63 ∧
  ∀ (r : Addr) (H' : Hp) (ms : List Int), ms.length = ns.length → Good ms → Same H H' → H r = none → H' r = some (.lst (ms.map V.int)) → Q (.ref r) H'
def lawBorne (ns : List Int) (cs : List Nat) : List Int := if ns = [] then [] else lawParts cs 0 ns 0
def risingB (n : Int) : Int → List Int → Bool
  | _, [] => true
  | last, c :: cs => decide (last < c) && decide (c < n) && risingB n c cs
def bear (row : List Int) (f e : Int) : Int := ((row.drop f.toNat).take ((e + 1).toNat - f.toNat)).sum
def linkedB (row : List Int) (least : Int) : Int → List (Int × Int) → Bool
  | _, [] => true
  | last, (f, e) :: r => decide (last ≤ f) && decide (f < e) && decide (e < row.length) && !decide (bear row f e < least) && linkedB row least e r
def PairsAt (K : PySem.W.Frag) (H : Hp) : List V → List (Int × Int) → Prop
  | [], [] => True
  | x :: xs, (f, e) :: ps => (∃ p, x = .ref p ∧ SqT K H p [.int f, .int e]) ∧ PairsAt K H xs ps
  | _, _ => False
theorem PairsAt.len {K : PySem.W.Frag} {H : Hp} : ∀ {xs : List V} {ps : List (Int × Int)}, PairsAt K H xs ps → xs.length = ps.length
  | [], [], _ => rfl
  | _ :: _, (_, _) :: _, ⟨_, h⟩ => by rw [List.length_cons, List.length_cons, h.len]
  | [], _ :: _, h => h.elim
  | _ :: _, [], h => h.elim
section
variable {P : Program} {w : World} {K : PySem.W.Frag} {mg : Str → Option Value} {base : Heap} {f : Addr} {fd : FuncData}
theorem at_place {ns : List Int} {k : Int} (h0 : 0 ≤ k) (h : k < ns.length) : ∃ v, ns[k.toNat]? = some v ∧ atI (ns.map V.int) k = some (.int v) := by
  have hk : k.toNat < ns.length := by omega
  refine ⟨ns[k.toNat], by simp [hk], ?_⟩
  have e : k = ((k.toNat : Nat) : Int) := by omega
  have q : atI (ns.map V.int) ((k.toNat : Nat) : Int) = some (.int ns[k.toNat]) := atI_nat (by simp [hk])
  rw [← e] at q
  exact q
theorem sc_cell : FnScope ["_law_script", "_law_k"] ["_law_script", "_law_k"] (defScope (top 43)) := ⟨rfl, rfl, rfl, by decide +kernel, rfl, by decide +kernel, by decide +kernel⟩
theorem ok_cell (T : Txt mg) (F : Fun K "_law_cell_at" "_law_cell_at" (top 43) f fd) : FnOk P w K mg base CX0 1 f fd ["_law_script", "_law_k"] (spCell K) := by
  have S := sc_cell
  refine F.ok S (fun vs H Q E h => ?_) (fun cdv A outer s H vs Q E hr h => ?_)
  · obtain ⟨a, ns, k, rfl, _⟩ := h
    rfl
  obtain ⟨a, ns, k, rfl, hS, h0, q⟩ := h
  refine ⟨_, (pss_cons (ps_if (pt_cmpR op_lt (pv 1) (pe_callB call_len' rfl T.b_len PySem.boot_len (pa_cons (pv 0) pa_nil)) (nomark _))
      (pss_one (ps_ret (pe_ix ix_list (pv 0) (pv 1) (fun _ _ => rfl))))
      pss_nil)
    (pss_one (ps_ret pe_int))), ?_⟩
  try dsimp only [cxOf, Cx.nox, Cx.wish]
  walk_at "rd"
  refine ite2 (fun c => ?_) (fun c => ?_)
  · have c := of_decide_eq_true c
    obtain ⟨v, _, e⟩ := at_place h0 c
    walk_at "rd"
    exact rd_ixL hS e (q v)
  · walk_at "rd"
    exact q 0
theorem prime_at {k : Int} (h0 : 0 ≤ k) (h : k < 16) : ∃ p, atI ([1000003, 1000033, 1000037, 1000039, 1000081, 1000099, 1000117, 1000121, 1000133, 1000151, 1000159, 1000171, 1000183, 1000187, 1000193, 1000199].map V.int) k = some (.int p) ∧ 0 < p := by
  obtain ⟨v, e1, e2⟩ := at_place (ns := [1000003, 1000033, 1000037, 1000039, 1000081, 1000099, 1000117, 1000121, 1000133, 1000151, 1000159, 1000171, 1000183, 1000187, 1000193, 1000199]) h0 (by simpa using h)
  refine ⟨v, e2, ?_⟩
  have m := mem_of_at e1
  revert m v
  intro v _ _ m
  simp only [List.mem_cons, List.not_mem_nil, or_false] at m
  omega
theorem menu_at {k : Int} (h0 : 0 ≤ k) (h : k < 4) : ∃ p, atI ([3, 30, 1000001, 10].map V.int) k = some (.int p) ∧ 3 ≤ p ∧ p ≤ 1000001 := by
  obtain ⟨v, e1, e2⟩ := at_place (ns := [3, 30, 1000001, 10]) h0 (by simpa using h)
  refine ⟨v, e2, ?_⟩
  have m := mem_of_at e1
  simp only [List.mem_cons, List.not_mem_nil, or_false] at m
  omega
theorem sc_draw : FnScope ["_law_cell", "_law_k", "_law_many", "_law_primes"] ["_law_cell", "_law_k", "_law_many"] (defScope (top 44)) := ⟨rfl, rfl, rfl, by decide +kernel, rfl, by decide +kernel, by decide +kernel⟩
theorem ok_draw (T : Txt mg) (F : Fun K "_law_draw" "_law_draw" (top 44) f fd) : FnOk P w K mg base CX0 1 f fd ["_law_cell", "_law_k", "_law_many"] spDraw := by
  have S := sc_draw
  refine F.ok S (fun vs H Q E h => ?_) (fun cdv A outer s H vs Q E hr h => ?_)
  · obtain ⟨c, k, m, rfl, _⟩ := h
    rfl
  obtain ⟨c, k, m, rfl, h0, hm, q⟩ := h
  refine ⟨_, (pss_cons (ps_set (i := 3) S.nd rfl (Or.inl rfl) (pe_tup (pa_ints (js := [1000003, 1000033, 1000037, 1000039, 1000081, 1000099, 1000117, 1000121, 1000133, 1000151, 1000159, 1000171, 1000183, 1000187, 1000193, 1000199]) (.cons (.cons (.cons (.cons (.cons (.cons (.cons (.cons (.cons (.cons (.cons (.cons (.cons (.cons (.cons (.cons .nil)))))))))))))))))))
    (pss_one (ps_ret (pe_op op_mod (pe_op op_mod (pe_op op_add (pe_op op_mul (pv 0) pe_int) (pe_op op_mul (pv 1) pe_int)) (pe_ix ix_tup (pv 3) (pe_op op_mod (pv 1) pe_int) (fun _ _ => rfl))) (pv 2))))), ?_⟩
  try dsimp only [cxOf, Cx.nox, Cx.wish]
  walk_at "rd"
  refine ⟨by show 16 ≤ sizeLine; decide, fun p hp => ?_⟩
  walk_at "rd"
  refine rd_I (.inr ⟨by decide, by decide⟩) ?_
  walk_at "rd"
  refine rd_I (.inr ⟨by decide, by decide⟩) ?_
  walk_at "rd"
  refine rd_I (by decide) ?_
  obtain ⟨pr, e, hpr⟩ := prime_at (k := k % 16) (Int.emod_nonneg _ (by decide)) (Int.emod_lt_of_pos _ (by decide))
  refine rd_ixT (SqT.of upd_same) e ?_
  refine rd_I hpr ?_
  walk_at "rd"
  refine rd_I hm ?_
  exact q _ _ (Int.emod_nonneg _ (by omega)) (Int.emod_lt_of_pos _ hm) (same_new hp _)
end
section
variable {P : Program} {w : World} {K : PySem.W.Frag} {mg : Str → Option Value} {base : Heap} {f : Addr} {fd : FuncData}
theorem sc_row : FnScope ["_law_script", "_law_kind", "_law_most", "_law_row_here", "_law_k", "_law_load"] ["_law_script"] (defScope (top 45)) := ⟨rfl, rfl, rfl, by decide +kernel, rfl, by decide +kernel, by decide +kernel⟩
theorem ok_row (T : Txt mg) (C_law_cell_at : Callee P w K mg base "_law_cell_at" ["_law_script", "_law_k"] 1 (spCell K)) (C_law_draw : Callee P w K mg base "_law_draw" ["_law_cell", "_law_k", "_law_many"] 1 spDraw) (F : Fun K "_law_row" "_law_row" (top 45) f fd) :
    FnOk P w K mg base CX0 2 f fd ["_law_script"] (spRow K) := by
  have S := sc_row
  refine F.ok S (fun vs H Q E h => ?_) (fun cdv A outer s H vs Q E hr h => ?_)
  · obtain ⟨a, ns, rfl, _⟩ := h
    rfl
  obtain ⟨a, ns, rfl, hS, hl, q⟩ := h
  refine ⟨_, (pss_cons (ps_set (i := 1) S.nd rfl (Or.inl rfl) (pe_callC C_law_draw (hr.mono (by decide)) rfl (pa_cons (pe_callC C_law_cell_at (hr.mono (by decide)) rfl (pa_cons (pv 0) (pa_cons pe_int pa_nil))) (pa_cons pe_int (pa_cons pe_int pa_nil)))))
    (pss_cons (ps_set (i := 2) S.nd rfl (Or.inl rfl) (pe_ix ix_tup (pe_tup (pa_cons pe_int (pa_cons pe_int (pa_cons pe_int (pa_cons pe_int pa_nil))))) (pe_callC C_law_draw (hr.mono (by decide)) rfl (pa_cons (pe_callC C_law_cell_at (hr.mono (by decide)) rfl (pa_cons (pv 0) (pa_cons pe_int pa_nil))) (pa_cons pe_int (pa_cons pe_int pa_nil)))) (fun _ _ => rfl)))
    (pss_cons (ps_set (i := 3) S.nd rfl (Or.inl rfl) (pe_lst pa_nil))
    (pss_cons (ps_for PassesOwn.never rfl (pi_range1 rfl T.b_range (pa_cons (pe_callB call_len' rfl T.b_len PySem.boot_len (pa_cons (pv 0) pa_nil)) pa_nil)) (pg_name (i := 4) S.nd rfl (Or.inl rfl))
      (pss_cons (ps_set (i := 5) S.nd rfl (Or.inl rfl) (pe_callC C_law_draw (hr.mono (by decide)) rfl (pa_cons (pe_ix ix_list (pv 0) (pv 4) (fun _ _ => rfl)) (pa_cons (pe_op op_add (pe_op op_mod (pv 4) pe_int) pe_int) (pa_cons (pv 2) pa_nil)))))
      (pss_cons (ps_join (ps_if (PW.pt (pw_and (pt_cmpR op_eq (pv 1) pe_int (nomark _)) (pw_and1 (pt_cmpR op_gt (pe_callC C_law_draw (hr.mono (by decide)) rfl (pa_cons (pe_ix ix_list (pv 0) (pv 4) (fun _ _ => rfl)) (pa_cons (pe_op op_add (pe_op op_mod (pv 4) pe_int) pe_int) (pa_cons pe_int pa_nil)))) pe_int (nomark _)))))
        (pss_one (ps_set (i := 5) S.nd rfl (Or.inl rfl) pe_int))
        pss_nil))
      (pss_cons (ps_join (ps_if (pt_cmpR op_eq (pv 1) pe_int (nomark _))
        (pss_one (ps_set (i := 5) S.nd rfl (Or.inl rfl) (pe_op op_add (pe_op op_fdiv (pv 2) pe_int) (pe_op op_mod (pv 5) pe_int))))
        pss_nil))
      (pss_one (ps_expr (pe_bm PySem.F.plainAttrs_list PySem.F.slot_list_append PySem.F.type_list_append mt_append (pv 3) (pa_cons (pv 5) pa_nil))))))))
    (pss_one (ps_ret (pv 3))))))), ?_⟩
  try dsimp only [cxOf, Cx.nox, Cx.wish]
  walk_at "rd"
  refine ⟨a, ns, 0, rfl, hS, by decide, fun v => ?_⟩
  walk_at "rd"
  refine ⟨v, 6, 4, rfl, by decide, by decide, fun kd H1 _ _ s1 => ?_⟩
  walk_at "rd"
  refine ⟨by show 4 ≤ sizeLine; decide, fun p hp => ?_⟩
  have s2 := s1.trans (same_new hp (.tup ([3, 30, 1000001, 10].map V.int)))
  walk_at "rd"
  refine ⟨a, ns, 1, rfl, s2.seq hS, by decide, fun v' => ?_⟩
  walk_at "rd"
  refine ⟨v', 7, 4, rfl, by decide, by decide, fun ix H2 i0 i1 s3 => ?_⟩
  obtain ⟨mo, em, m1, m2⟩ := menu_at i0 i1
  walk_at "rd"
  refine rd_ixT (SqT.of (s3 _ _ upd_same)) em ?_
  walk_at "rd"
  have s4 := s2.trans s3
  refine ⟨Nat.zero_le _, fun r hr' => ?_⟩
  have s5 := s4.trans (same_new hr' (.lst []))
  have hS5 : SqL K (upd H2 r (.lst [])) a (ns.map V.int) := s5.seq hS
  walk_at "rd"
  refine ⟨_, rfl, by omega, by omega, for_rangeF (lo := 0) (k := ns.length) (fun i σ H3 => ∃ (ms : List Int) (v1 v2 : Option V), σ = [some (.ref a), some (.int kd), some (.int mo), some (.ref r), v1, v2] ∧ Same H H3 ∧ H3 r = some (.lst (ms.map V.int)) ∧ ms.length = i ∧ Good ms)
    ⟨[], none, none, rfl, s5, upd_same, rfl, fun x hx => nomatch hx⟩ ?_ ?_⟩
  · rintro i σ H3 hi ⟨ms, v1, v2, rfl, s6, hr6, ml, gm⟩
    obtain ⟨z, _, ez⟩ := at_place (ns := ns) (k := 0 + (i : Nat)) (by omega) (by omega)
    walk_at "rd"
    refine rd_ixL (s6.seq hS) ez ?_
    walk_at "rd"
    refine rd_I (by decide) ?_
    walk_at "rd"
    refine ⟨_, _, _, rfl, (by have := Int.emod_nonneg (0 + (i : Int)) (b := 5) (by decide); omega), by omega, fun ld H4 l0 l1 s7 => ?_⟩
    walk_at "rd"
    refine rd_joinF (fun σ' H5 => ∃ ld : Int, σ' = [some (.ref a), some (.int kd), some (.int mo), some (.ref r), some (.int (0 + (i : Nat))), some (.int ld)] ∧ Same H3 H5 ∧ 0 ≤ ld ∧ ld < mo) ?_ ?_
    · walk_at "rd"
      refine ite2 (fun c => ?_) (fun c => ?_)
      · walk_at "rd"
        refine rd_ixL ((s6.trans s7).seq hS) ez ?_
        walk_at "rd"
        refine rd_I (by decide) ?_
        walk_at "rd"
        refine ⟨_, _, _, rfl, (by have := Int.emod_nonneg (0 + (i : Int)) (b := 7) (by decide); omega), by decide, fun ld' H5 _ _ s8 => ?_⟩
        walk_at "rd"
        refine ite2 (fun c => ?_) (fun c => ?_)
        · walk_at "rd"
          exact ⟨0, rfl, s7.trans s8, Int.le_refl 0, by omega⟩
        · walk_at "rd"
          exact ⟨ld, rfl, s7.trans s8, l0, l1⟩
      · walk_at "rd"
        exact ⟨ld, rfl, s7, l0, l1⟩
    · rintro σ' H5 ⟨ld, rfl, s9, l0, l1⟩
      walk_at "rd"
      refine rd_joinF (fun σ' H6 => ∃ ld : Int, σ' = [some (.ref a), some (.int kd), some (.int mo), some (.ref r), some (.int (0 + (i : Nat))), some (.int ld)] ∧ H6 = H5 ∧ 0 ≤ ld ∧ ld ≤ 1000000) ?_ ?_
      · walk_at "rd"
        refine ite2 (fun c => ?_) (fun c => ?_)
        · walk_at "rd"
          refine rd_I ⟨by decide, by decide⟩ ?_
          walk_at "rd"
          refine rd_I (by decide) ?_
          walk_at "rd"
          have e1 := Int.emod_nonneg ld (b := 2) (by decide)
          have e2 := Int.emod_lt_of_pos ld (b := 2) (by decide)
          exact ⟨_, rfl, rfl, by omega, by omega⟩
        · walk_at "rd"
          exact ⟨ld, rfl, rfl, l0, by omega⟩
      · rintro σ' H6 ⟨ld, rfl, rfl, g0, g1⟩
        have hr7 := s9 _ _ hr6
        walk_at "rd"
        refine ⟨tyL (SqL.of hr7), ?_⟩
        walk_at "rd"
        refine rd_append (xs := ms.map V.int) hr7 (by rw [List.length_map]; exact small1000 (by omega)) ?_
        walk_at "rd"
        refine ⟨ms ++ [ld], _, _, rfl, fun d o zz => ?_, ?_, by rw [List.length_append, ml]; rfl, fun x hx => ?_⟩
        · have z2 := s9 _ _ (s6 d o zz)
          have ne : d ≠ r := fun y => by
            subst y
            have := s4 _ _ zz
            rw [hr'] at this
            cases this
          rw [upd_ne ne]
          exact z2
        · rw [upd_same, List.map_append]
          rfl
        · rcases List.mem_append.mp hx with y | y
          · exact gm x y
          · have y : x = ld := by simpa using y
            subst y
            exact ⟨g0, g1⟩
  · rintro σ H3 ⟨ms, v1, v2, rfl, s6, hr6, ml, gm⟩
    walk_at "rd"
    exact q r H3 ms ml gm s6 (s4.free hr') hr6
end
def PairsT (H : Hp) : List V → List (Int × Int) → Prop
  | [], [] => True
  | x :: xs, (f, e) :: ps => (∃ p, x = .ref p ∧ H p = some (.tup [.int f, .int e])) ∧ PairsT H xs ps
  | _, _ => False
theorem PairsT.pairs {K : PySem.W.Frag} {H : Hp} : ∀ {xs : List V} {ps : List (Int × Int)}, PairsT H xs ps → PairsAt K H xs ps
  | [], [], _ => trivial
  | _ :: _, (_, _) :: _, ⟨⟨p, h1, h2⟩, h⟩ => ⟨⟨p, h1, .inl (.inl h2)⟩, h.pairs⟩
  | [], _ :: _, h => h.elim
  | _ :: _, [], h => h.elim
theorem PairsT.same {H H' : Hp} (s : Same H H') : ∀ {xs : List V} {ps : List (Int × Int)}, PairsT H xs ps → PairsT H' xs ps
  | [], [], _ => trivial
  | _ :: _, (_, _) :: _, ⟨⟨p, h1, h2⟩, h⟩ => ⟨⟨p, h1, s _ _ h2⟩, h.same s⟩
  | [], _ :: _, h => h.elim
  | _ :: _, [], h => h.elim
theorem PairsT.len {H : Hp} {xs : List V} {ps : List (Int × Int)} (h : PairsT H xs ps) : xs.length = ps.length := (h.pairs (K := [])).len
theorem rising_of {n : Nat} : ∀ {ds : List Nat} {lo : Nat}, Rising lo n ds → risingB n ((lo : Int) - 1) (ic ds) = true
  | [], _, _ => rfl
  | d :: ds, lo, ⟨h1, h2, h3⟩ => by
    have := rising_of h3
    unfold ic at this ⊢
    rw [List.map_cons]
    simp only [risingB, Bool.and_eq_true, decide_eq_true_eq]
    refine ⟨⟨by omega, by omega⟩, ?_⟩
    rw [show ((d : Nat) : Int) = ((d + 1 : Nat) : Int) - 1 by omega]
    exact this
theorem ic_toNat (ds : List Nat) : (ic ds).map Int.toNat = ds := by
  unfold ic
  rw [List.map_map]
  exact (List.map_congr_left (fun x _ => Int.toNat_natCast x)).trans (List.map_id _)
def fits (ns : List Int) (b : Int) (cs : List Int) : Bool := (lawBorne ns (cs.map Int.toNat)).all fun z => decide (z ≤ b)
def dueF (ns : List Int) (b : Int) (cs : List Int) (ps : List (Int × Int)) : Bool := risingB ns.length 0 cs && linkedB ns (b + 1) 0 ps && (decide (cs.length = ps.length) && fits ns b cs)
def dueG (ns : List Int) (b p : Int) : Bool := decide (0 ≤ p) && decide (p < ns.length) && decide (b < ns.getD p.toNat 0)
structure FewAt (C : Addr) (H : Hp) (x cA sA : Addr) (cs : List Int) (xs : List V) (ps : List (Int × Int)) : Prop where
  ex : ∃ dx fs, H x = some (.ins C dx fs) ∧ fs.lookup ("cuts" : Str) = some (.ref cA) ∧ fs.lookup ("stretches" : Str) = some (.ref sA) ∧ fs.lookup ("shows" : Str) = none
  cuts : H cA = some (.lst (cs.map V.int))
  stre : H sA = some (.lst xs)
  prs : PairsT H xs ps
def GreatAt (C : Addr) (H : Hp) (x : Addr) (p : Int) : Prop := ∃ dx fs, H x = some (.ins C dx fs) ∧ fs.lookup ("place" : Str) = some (.int p) ∧ fs.lookup ("shows" : Str) = none
def FewTold (ca : CA) (H H' : Hp) (x : Addr) (ns : List Int) (b : Int) : Prop :=
  (∃ cA sA cs xs ps, FewAt ca.Fewest H' x cA sA cs xs ps ∧ H cA = none ∧ H sA = none ∧ cA ≠ sA ∧ dueF ns b cs ps = true) ∨ ∃ p, GreatAt ca.Great H' x p ∧ dueG ns b p = true
def spFewest (ca : CA) : Sp := fun vs H Q _ => ∃ (a : Addr) (ns : List Int) (b : Int), vs = [.ref a, .int b] ∧ H a = some (.lst (ns.map V.int)) ∧ ns.length ≤ 63 ∧ Good ns ∧ 0 ≤ b ∧ ∀ (x : Addr) (H' : Hp), Same H H' → H x = none → FewTold ca H H' x ns b → Q (.ref x) H'
section
variable {C : Addr} {H : Hp} {x cA sA : Addr} {cs : List Int} {xs : List V} {ps : List (Int × Int)}
end
theorem same_upd {H H' : Hp} {p : Addr} (s : Same H H') (h : H p = none) (o : HO) : Same H (upd H' p o) := fun b u q => by rw [upd_ne (ne_of_none q h)]; exact s b u q
theorem dueF_len {ns : List Int} {b : Int} {cs : List Int} {ps : List (Int × Int)} (h : dueF ns b cs ps = true) : cs.length = ps.length := by
  unfold dueF at h
  simp only [Bool.and_eq_true, decide_eq_true_eq] at h
  exact h.2.1
theorem linked_len {row : List Int} {least : Int} : ∀ {ps : List (Int × Int)} {last : Int}, 0 ≤ last → linkedB row least last ps = true → (ps.length : Int) + last ≤ row.length ∨ ps = []
  | [], _, _, _ => .inr rfl
  | (f, e) :: ps, last, h0, h => by
    simp only [linkedB, Bool.and_eq_true, decide_eq_true_eq] at h
    obtain ⟨⟨⟨⟨h1, h2⟩, h3⟩, _⟩, h5⟩ := h
    refine .inl ?_
    rcases linked_len (by omega) h5 with q | q
    · simp only [List.length_cons]; omega
    · subst q
      simp only [List.length_cons, List.length_nil]; omega
def spLaw (K : PySem.W.Frag) : Sp := fun vs H Q _ => ∃ (a : Addr) (ns : List Int), vs = [.ref a] ∧ SqL K H a (ns.map V.int) ∧ ns.length ≤ 63 ∧ ∀ H', Q (.bl true) H'
theorem good_sum {ns : List Int} (h : Good ns) (hl : ns.length ≤ 63) : 0 ≤ ns.sum ∧ ns.sum ≤ 63000000 := by
  have := sum_bound (M := 1000000) (by decide) h
  omega
def dueL (ns : List Int) (k : Int) (cs : List Int) (num : Int) (ps : List (Int × Int)) : Bool :=
  risingB ns.length 0 cs && decide ((cs.length : Int) < k) && decide (0 ≤ num) && fits ns num cs && (decide (num = 0) || decide (num ∈ ns) || (decide ((ps.length : Int) = k) && linkedB ns num 0 ps))
structure LeastAt (C : Addr) (H : Hp) (x cA sA : Addr) (cs : List Int) (num : Int) (xs : List V) (ps : List (Int × Int)) : Prop where
  ex : ∃ dx fs, H x = some (.ins C dx fs) ∧ fs.lookup ("cuts" : Str) = some (.ref cA) ∧ fs.lookup ("number" : Str) = some (.int num) ∧ fs.lookup ("stretches" : Str) = some (.ref sA) ∧ (fs.lookup ("shows" : Str) = none ∧ fs.lookup ("is_needed" : Str) = none)
  cuts : H cA = some (.lst (cs.map V.int))
  stre : H sA = some (.lst xs)
  prs : PairsT H xs ps
def spLowest (C : Addr) : Sp := fun vs H Q _ => ∃ (a : Addr) (ns : List Int) (k : Int), vs = [.ref a, .int k] ∧ H a = some (.lst (ns.map V.int)) ∧ ns.length ≤ 63 ∧ Good ns ∧ (1 ≤ k ∧ k < 1073741824) ∧
  ∀ (x : Addr) (H' : Hp) (cA sA : Addr) (cs : List Int) (num : Int) (xs : List V) (ps : List (Int × Int)), Same H H' → H x = none → LeastAt C H' x cA sA cs num xs ps → H cA = none → H sA = none → cA ≠ sA → ps.length ≤ 100 → dueL ns k cs num ps = true → Q (.ref x) H'
def betw (row : List Int) : Nat → List Nat → List Int
  | st, [] => [(row.drop st).sum]
  | st, p :: ps => ((row.drop st).take (p - st)).sum :: betw row (p + 1) ps
def dueM (ns : List Int) (b : Int) (cs pl : List Int) : Bool :=
  risingB ns.length 0 cs && risingB ns.length (-1) pl && (betw ns 0 (pl.map Int.toNat)).all (fun z => decide (z < b)) &&
    (if pl = [] then decide (cs = []) else decide (cs.length + 1 = pl.length) && (lawBorne ns (cs.map Int.toNat)).all fun z => decide (b ≤ z))
structure MostAt (C : Addr) (H : Hp) (x cA pA : Addr) (cs pl : List Int) : Prop where
  ex : ∃ dx fs, H x = some (.ins C dx fs) ∧ fs.lookup ("cuts" : Str) = some (.ref cA) ∧ fs.lookup ("places" : Str) = some (.ref pA) ∧ (fs.lookup ("shows" : Str) = none ∧ fs.lookup ("has_full_parts" : Str) = none)
  cuts : H cA = some (.lst (cs.map V.int))
  plac : H pA = some (.lst (pl.map V.int))
theorem lawParts_ne (cs : List Nat) : ∀ (xs : List Int) (p : Nat) (s : Int), lawParts cs p xs s ≠ []
  | [], _, _ => by simp [lawParts]
  | x :: xs, p, s => by
    unfold lawParts
    split
    · simp
    · exact lawParts_ne cs xs _ _
def spFullest (C : Addr) : Sp := fun vs H Q _ => ∃ (a : Addr) (ns : List Int) (b : Int), vs = [.ref a, .int b] ∧ H a = some (.lst (ns.map V.int)) ∧ ns.length ≤ 63 ∧ Good ns ∧ 1 ≤ b ∧
  ∀ (x : Addr) (H' : Hp) (cA pA : Addr) (cs pl : List Int), Same H H' → H x = none → MostAt C H' x cA pA cs pl → H cA = none → H pA = none → cA ≠ pA → dueM ns b cs pl = true → Q (.ref x) H'
def borneM (ns : List Int) (cs : List Nat) : List Int := if ns = [] then [] else partsFrom ns 0 0 cs
theorem borne_law {ns : List Int} {cs : List Nat} (h : Rising 1 ns.length cs) : borneM ns cs = lawBorne ns cs := by
  unfold borneM lawBorne
  split
  · rfl
  · rw [lawParts_cuts h]
theorem seg_succ {row : List Int} {st i : Nat} {z : Int} (hs : st ≤ i) (hz : row[i]? = some z) : ((row.drop st).take (i + 1 - st)).sum = ((row.drop st).take (i - st)).sum + z := by
  have e : i + 1 - st = (i - st) + 1 := by omega
  rw [e, List.take_add_one, List.sum_append, List.getElem?_drop, show st + (i - st) = i by omega, hz]
  simp
theorem seg_one {row : List Int} {i : Nat} {z : Int} (hz : row[i]? = some z) : z = ((row.drop i).take (i + 1 - i)).sum := by
  rw [seg_succ (Nat.le_refl _) hz, Nat.sub_self, List.take_zero]; simp
theorem at_of_drop {row rest : List Int} {i : Nat} {z : Int} (h : row.drop i = z :: rest) : row[i]? = some z ∧ row.drop (i + 1) = rest ∧ i < row.length := by
  have e : row[i]? = some z := by
    have := congrArg (fun l => l[0]?) h
    simpa [List.getElem?_drop] using this
  refine ⟨e, ?_, (List.getElem?_eq_some_iff.mp e).1⟩
  rw [← List.drop_drop, h]; rfl
theorem seg_end {row : List Int} {st i : Nat} (h : row.drop i = []) : ((row.drop st).take (i - st)).sum = (row.drop st).sum := by
  have : row.length ≤ i := by simpa using h
  rw [List.take_of_length_le (by rw [List.length_drop]; omega)]
theorem sum_nonneg {xs : List Int} (h : ∀ x ∈ xs, 0 ≤ x) : 0 ≤ xs.sum := by
  induction xs with
  | nil => simp
  | cons x xs ih =>
    rw [List.sum_cons]
    have := h x (List.mem_cons_self ..)
    have := ih fun y hy => h y (List.mem_cons_of_mem _ hy)
    omega
def needFrom (b : Int) : Nat → Int → List Int → List Nat
  | _, _, [] => []
  | i, acc, z :: r => if b < acc + z then i :: needFrom b (i + 1) z r else needFrom b (i + 1) (acc + z) r
def needed (b : Int) (ns : List Int) : List Nat := needFrom b 0 0 ns
def zipP : Nat → List Nat → List (Int × Int)
  | _, [] => []
  | st, c :: cs => ((st : Int), (c : Int)) :: zipP c cs
theorem zipP_len : ∀ (st : Nat) (cs : List Nat), (zipP st cs).length = cs.length
  | _, [] => rfl
  | st, c :: cs => by simp only [zipP, List.length_cons, zipP_len c cs]
theorem bear_seg {row : List Int} {st i : Nat} : bear row st i = ((row.drop st).take (i + 1 - st)).sum := by
  unfold bear
  rw [show ((i : Int) + 1).toNat = i + 1 by omega, Int.toNat_natCast]
theorem need_good {row : List Int} {b : Int} : ∀ (rest : List Int) (st i : Nat) (acc : Int), row.drop i = rest → st < i → acc = ((row.drop st).take (i - st)).sum → acc ≤ b → (∀ z ∈ rest, z ≤ b) →
    Rising i row.length (needFrom b i acc rest) ∧ (∀ p ∈ partsFrom row st 0 (needFrom b i acc rest), p ≤ b) ∧ ∀ last : Int, last ≤ st → linkedB row (b + 1) last (zipP st (needFrom b i acc rest)) = true
  | [], st, i, acc, hr, hs, ha, hb, _ => by
    refine ⟨trivial, fun p hp => ?_, fun _ _ => rfl⟩
    rw [ha, seg_end hr] at hb
    simp only [needFrom, partsFrom, List.mem_singleton] at hp
    omega
  | z :: r, st, i, acc, hr, hs, ha, hb, hz => by
    obtain ⟨e, hd, il⟩ := at_of_drop hr
    have zb := hz z (List.mem_cons_self ..)
    have rb : ∀ y ∈ r, y ≤ b := fun y hy => hz y (List.mem_cons_of_mem _ hy)
    have sg := seg_succ (Nat.le_of_lt hs) e
    unfold needFrom
    by_cases c : b < acc + z
    · rw [if_pos c]
      obtain ⟨i1, i2, i3⟩ := need_good r i (i + 1) z hd (Nat.lt_succ_self _) (seg_one e) zb rb
      refine ⟨⟨Nat.le_refl _, il, i1⟩, fun p hp => ?_, fun last hl => ?_⟩
      · simp only [partsFrom, List.mem_cons] at hp
        rcases hp with rfl | hp
        · rw [← ha]; omega
        · exact i2 p hp
      · simp only [zipP, linkedB, Bool.and_eq_true, decide_eq_true_eq, Bool.not_eq_true', decide_eq_false_iff_not]
        refine ⟨⟨⟨⟨hl, by omega⟩, by omega⟩, ?_⟩, i3 i (by omega)⟩
        rw [bear_seg, sg, ← ha]
        omega
    · rw [if_neg c]
      obtain ⟨i1, i2, i3⟩ := need_good r st (i + 1) (acc + z) hd (by omega) (by rw [sg, ha]) (by omega) rb
      exact ⟨i1.mono (Nat.le_succ _), i2, i3⟩
theorem needed_good {ns : List Int} {b : Int} (h0 : 0 ≤ b) (h : ∀ z ∈ ns, z ≤ b) :
    Rising 1 ns.length (needed b ns) ∧ (∀ p ∈ borneM ns (needed b ns), p ≤ b) ∧ linkedB ns (b + 1) 0 (zipP 0 (needed b ns)) = true := by
  cases ns with
  | nil => exact ⟨trivial, fun p hp => (by simp [borneM] at hp), rfl⟩
  | cons z r =>
    have zb := h z (List.mem_cons_self ..)
    have e : needed b (z :: r) = needFrom b 1 z r := by
      show (if b < 0 + z then 0 :: needFrom b 1 z r else needFrom b 1 (0 + z) r) = _
      rw [if_neg (by omega), Int.zero_add]
    obtain ⟨i1, i2, i3⟩ := need_good (row := z :: r) (b := b) r 0 1 z rfl (by decide) (by simp) zb fun y hy => h y (List.mem_cons_of_mem _ hy)
    rw [e]
    refine ⟨i1, ?_, i3 0 (by simp)⟩
    unfold borneM
    rw [if_neg (by simp)]
    exact i2
theorem need_count {b M d : Int} (hd : d = b - M + 1) : ∀ (rest : List Int) (i : Nat) (acc : Int), 0 ≤ acc → (∀ z ∈ rest, 0 ≤ z ∧ z ≤ M) → ((needFrom b i acc rest).length : Int) * d ≤ acc + rest.sum
  | [], i, acc, h0, _ => by simp [needFrom]; exact h0
  | z :: r, i, acc, h0, hz => by
    have zb := hz z (List.mem_cons_self ..)
    have rb : ∀ y ∈ r, 0 ≤ y ∧ y ≤ M := fun y hy => hz y (List.mem_cons_of_mem _ hy)
    unfold needFrom
    rw [List.sum_cons]
    by_cases c : b < acc + z
    · rw [if_pos c, List.length_cons]
      have ih := need_count hd r (i + 1) z zb.1 rb
      rw [Int.natCast_add, Int.add_mul]
      simp only [Int.natCast_one, Int.one_mul]
      omega
    · rw [if_neg c]
      have ih := need_count hd r (i + 1) (acc + z) (by omega) rb
      omega
theorem need_sum {b : Int} : ∀ (rest : List Int) (i : Nat) (acc : Int), acc ≤ b → (∀ z ∈ rest, z ≤ b) → acc + rest.sum ≤ (((needFrom b i acc rest).length : Int) + 1) * b
  | [], i, acc, h0, _ => by simp [needFrom]; exact h0
  | z :: r, i, acc, h0, hz => by
    have zb := hz z (List.mem_cons_self ..)
    have rb : ∀ y ∈ r, y ≤ b := fun y hy => hz y (List.mem_cons_of_mem _ hy)
    unfold needFrom
    rw [List.sum_cons]
    by_cases c : b < acc + z
    · rw [if_pos c, List.length_cons]
      have ih := need_sum r (i + 1) z zb rb
      rw [Int.natCast_add, Int.add_mul]
      simp only [Int.natCast_one, Int.one_mul]
      omega
    · rw [if_neg c]
      have ih := need_sum r (i + 1) (acc + z) (by omega) rb
      omega
theorem high_fits {ns : List Int} {M m k : Int} (hz : ∀ z ∈ ns, 0 ≤ z ∧ z ≤ M) (hk : 1 ≤ k) (hm : 0 ≤ m) (hs : ns.sum ≤ k * m) : ((needed (M + m) ns).length : Int) < k := by
  have c := need_count (b := M + m) (M := M) (d := m + 1) (by omega) ns 0 0 (by decide) hz
  have c : ((needed (M + m) ns).length : Int) * (m + 1) ≤ 0 + ns.sum := c
  apply Classical.byContradiction
  intro n
  have le : k * (m + 1) ≤ ((needed (M + m) ns).length : Int) * (m + 1) := Int.mul_le_mul_of_nonneg_right (by omega) (by omega)
  rw [Int.mul_add] at le
  omega
theorem mean_needs {ns : List Int} {m k : Int} (hz : ∀ z ∈ ns, z ≤ m - 1) (hm : 0 ≤ m - 1) (hs : k * (m - 1) < ns.sum) : k ≤ ((needed (m - 1) ns).length : Int) := by
  have c := need_sum (b := m - 1) ns 0 0 hm hz
  have c : 0 + ns.sum ≤ (((needed (m - 1) ns).length : Int) + 1) * (m - 1) := c
  apply Classical.byContradiction
  intro n
  have le : (((needed (m - 1) ns).length : Int) + 1) * (m - 1) ≤ k * (m - 1) := Int.mul_le_mul_of_nonneg_right (by omega) hm
  omega
theorem ceil_facts {s k : Int} (hk : 1 ≤ k) : s ≤ k * (-((-s) / k)) ∧ k * (-((-s) / k) - 1) < s := by
  have h1 := Int.mul_ediv_add_emod (-s) k
  have h2 := Int.emod_nonneg (-s) (show k ≠ 0 by omega)
  have h3 := Int.emod_lt_of_pos (-s) (show 0 < k by omega)
  rw [Int.mul_sub, Int.mul_neg, Int.mul_one]
  omega
theorem ceil_nonneg {s k : Int} (hk : 1 ≤ k) (hs : 0 ≤ s) : 0 ≤ -((-s) / k) := by
  obtain ⟨h1, _⟩ := ceil_facts (s := s) hk
  apply Classical.byContradiction
  intro n
  have : k * (-((-s) / k)) ≤ k * (-1) := Int.mul_le_mul_of_nonneg_left (by omega) (by omega)
  omega
theorem needed_len {ns : List Int} {b : Int} (h0 : 0 ≤ b) (h : ∀ z ∈ ns, z ≤ b) : (needed b ns).length ≤ ns.length := by
  have r := (needed_good h0 h).1
  cases ns with
  | nil => simp [needed, needFrom]
  | cons z r' =>
    have := r.len (by simp)
    omega
theorem linked_take {row : List Int} {least : Int} : ∀ {ps : List (Int × Int)} {last : Int} (n : Nat), linkedB row least last ps = true → linkedB row least last (ps.take n) = true
  | [], _, n, _ => by simp [linkedB]
  | (f, e) :: ps, last, 0, _ => rfl
  | (f, e) :: ps, last, n + 1, h => by
    simp only [List.take_succ_cons, linkedB, Bool.and_eq_true] at h ⊢
    exact ⟨h.1, linked_take n h.2⟩
def fillFrom (b : Int) : Nat → Int → List Int → List Nat
  | _, _, [] => []
  | i, acc, z :: r => if b ≤ acc + z then i :: fillFrom b (i + 1) 0 r else fillFrom b (i + 1) (acc + z) r
def filling (b : Int) (ns : List Int) : List Nat := fillFrom b 0 0 ns
def cutsOf : List Nat → List Nat
  | [] => []
  | [_] => []
  | p :: q :: r => (p + 1) :: cutsOf (q :: r)
theorem cutsOf_eq : ∀ (pl : List Nat), cutsOf pl = pl.dropLast.map (· + 1)
  | [] => rfl
  | [_] => rfl
  | p :: q :: r => by
    rw [cutsOf, cutsOf_eq (q :: r)]; rfl
theorem cutsOf_len : ∀ {pl : List Nat}, pl ≠ [] → (cutsOf pl).length + 1 = pl.length
  | [], h => absurd rfl h
  | [_], _ => rfl
  | p :: q :: r, _ => by
    rw [cutsOf, List.length_cons, cutsOf_len (pl := q :: r) (by simp)]
    rfl
theorem cutsOf_rising {n : Nat} : ∀ {pl : List Nat} {lo : Nat}, Rising lo n pl → Rising (lo + 1) n (cutsOf pl)
  | [], _, _ => trivial
  | [_], _, _ => trivial
  | p :: q :: r, lo, ⟨h1, h2, h3, h4, h5⟩ => by
    unfold cutsOf
    exact ⟨by omega, by omega, cutsOf_rising (pl := q :: r) (lo := p + 1) ⟨h3, h4, h5⟩⟩
theorem fill_good {row : List Int} {b : Int} (hb1 : 1 ≤ b) (hg : ∀ x ∈ row, 0 ≤ x) : ∀ (rest : List Int) (st i : Nat) (acc : Int), row.drop i = rest → st ≤ i → acc = ((row.drop st).take (i - st)).sum → acc < b →
    Rising i row.length (fillFrom b i acc rest) ∧ (∀ p ∈ betw row st (fillFrom b i acc rest), p < b) ∧ (fillFrom b i acc rest ≠ [] → ∀ p ∈ partsFrom row st 0 (cutsOf (fillFrom b i acc rest)), b ≤ p)
  | [], st, i, acc, hr, hs, ha, hb => by
    refine ⟨trivial, fun p hp => ?_, fun z => absurd rfl z⟩
    rw [ha, seg_end hr] at hb
    simp only [fillFrom, betw, List.mem_singleton] at hp
    omega
  | z :: r, st, i, acc, hr, hs, ha, hb => by
    obtain ⟨e, hd, il⟩ := at_of_drop hr
    have sg := seg_succ hs e
    unfold fillFrom
    by_cases c : b ≤ acc + z
    · rw [if_pos c]
      obtain ⟨i1, i2, i3⟩ := fill_good hb1 hg r (i + 1) (i + 1) 0 hd (Nat.le_refl _) (by simp) (by omega)
      refine ⟨⟨Nat.le_refl _, il, i1⟩, fun p hp => ?_, fun _ p hp => ?_⟩
      · simp only [betw, List.mem_cons] at hp
        rcases hp with rfl | hp
        · rw [← ha]; exact hb
        · exact i2 p hp
      · cases q : fillFrom b (i + 1) 0 r with
        | nil =>
          rw [q] at hp
          simp only [cutsOf, partsFrom, List.mem_singleton] at hp
          have split : (row.drop st).sum = ((row.drop st).take (i + 1 - st)).sum + ((row.drop st).drop (i + 1 - st)).sum := by rw [← List.sum_append, List.take_append_drop]
          have nn := sum_nonneg (xs := (row.drop st).drop (i + 1 - st)) fun x hx => hg x (List.mem_of_mem_drop (List.mem_of_mem_drop hx))
          rw [hp, split, sg, ← ha]
          omega
        | cons p0 ps =>
          rw [q] at hp i3
          simp only [cutsOf, partsFrom, List.mem_cons] at hp
          rcases hp with rfl | hp
          · rw [sg, ← ha]; omega
          · exact i3 (by simp) p hp
    · rw [if_neg c]
      obtain ⟨i1, i2, i3⟩ := fill_good hb1 hg r st (i + 1) (acc + z) hd (by omega) (by rw [sg, ha]) (by omega)
      exact ⟨i1.mono (Nat.le_succ _), i2, i3⟩
theorem all_ge {zs : List Int} {b : Int} (h : ∀ p ∈ zs, b ≤ p) : (zs.all fun z => decide (b ≤ z)) = true := List.all_eq_true.mpr fun p hp => decide_eq_true (h p hp)
theorem all_lt {zs : List Int} {b : Int} (h : ∀ p ∈ zs, p < b) : (zs.all fun z => decide (z < b)) = true := List.all_eq_true.mpr fun p hp => decide_eq_true (h p hp)
theorem all_le {zs : List Int} {b : Int} (h : ∀ p ∈ zs, p ≤ b) : (zs.all fun z => decide (z ≤ b)) = true := List.all_eq_true.mpr fun p hp => decide_eq_true (h p hp)
theorem fewest_due {ns : List Int} {b : Int} (h0 : 0 ≤ b) (h : ∀ z ∈ ns, z ≤ b) : dueF ns b (ic (needed b ns)) (zipP 0 (needed b ns)) = true := by
  obtain ⟨g1, g2, g3⟩ := needed_good h0 h
  have r := rising_of g1
  rw [show ((1 : Nat) : Int) - 1 = 0 by decide] at r
  unfold dueF fits
  rw [r, g3, ic_toNat, ← borne_law g1, all_le g2, ic_len, zipP_len, decide_eq_true rfl]
  rfl
theorem fullest_due {ns : List Int} {b : Int} (h1 : 1 ≤ b) (hg : ∀ x ∈ ns, 0 ≤ x) : dueM ns b (ic (cutsOf (filling b ns))) (ic (filling b ns)) = true := by
  obtain ⟨g1, g2, g3⟩ := fill_good (row := ns) h1 hg ns 0 0 0 rfl (Nat.le_refl _) (by simp) (by omega)
  change Rising 0 ns.length (filling b ns) at g1
  change ∀ p ∈ betw ns 0 (filling b ns), p < b at g2
  change filling b ns ≠ [] → ∀ p ∈ partsFrom ns 0 0 (cutsOf (filling b ns)), b ≤ p at g3
  have r1 := rising_of (cutsOf_rising g1)
  rw [show ((0 + 1 : Nat) : Int) - 1 = 0 by decide] at r1
  have r2 := rising_of g1
  rw [show ((0 : Nat) : Int) - 1 = -1 by decide] at r2
  unfold dueM
  rw [r1, r2, ic_toNat, ic_toNat, all_lt g2]
  by_cases e : filling b ns = []
  · rw [if_pos (by rw [e]; rfl), e]; rfl
  · rw [if_neg (fun z => e (by cases q : filling b ns with | nil => rfl | cons a l => rw [q] at z; simp [ic] at z))]
    have nn : ns ≠ [] := fun z => e (by rw [z]; rfl)
    have := borne_law (cutsOf_rising g1)
    unfold borneM at this
    rw [if_neg nn] at this
    rw [← this, all_ge (g3 e), ic_len, ic_len, decide_eq_true (cutsOf_len e)]
    rfl
theorem lowest_due {ns : List Int} {num k : Int} (h0 : 0 ≤ num) (hz : ∀ z ∈ ns, z ≤ num) (hk : ((needed num ns).length : Int) < k) {ps : List (Int × Int)}
    (h : num = 0 ∨ num ∈ ns ∨ ((ps.length : Int) = k ∧ linkedB ns num 0 ps = true)) : dueL ns k (ic (needed num ns)) num ps = true := by
  obtain ⟨g1, g2, _⟩ := needed_good h0 hz
  have r := rising_of g1
  rw [show ((1 : Nat) : Int) - 1 = 0 by decide] at r
  unfold dueL fits
  rw [r, ic_len, decide_eq_true hk, decide_eq_true h0, ic_toNat, ← borne_law g1, all_le g2]
  rcases h with h | h | ⟨h1, h2⟩
  · rw [decide_eq_true h]; rfl
  · rw [decide_eq_true h]; simp
  · rw [decide_eq_true h1, h2]; simp
def spCheckRow : Sp := fun vs H Q _ => ∃ (a : Addr) (ns : List Int), vs = [.ref a] ∧ H a = some (.lst (ns.map V.int)) ∧ ns.length ≤ 63 ∧ Good ns ∧ Q .non H
def spCheckNum : Sp := fun vs H Q _ => ∃ i m : Int, vs = [.int i, .int m] ∧ m ≤ i ∧ Q .non H
def spPartSums (K : PySem.W.Frag) : Sp := fun vs H Q _ => ∃ (a b : Addr) (ns : List Int) (cs : List Nat), vs = [.ref a, .ref b] ∧ SqL K H a (ns.map V.int) ∧ H b = some (.lst ((ic cs).map V.int)) ∧ ns.length ≤ 63 ∧ Rising 1 ns.length cs ∧
  ∀ (r : Addr) (H' : Hp), Same H H' → H r = none → H' r = some (.lst ((borneM ns cs).map V.int)) → Q (.ref r) H'
def spBorne : Sp := fun vs H Q _ => ∃ (a b : Addr) (ns : List Int) (cs : List Nat), vs = [.ref a, .ref b] ∧ H a = some (.lst (ns.map V.int)) ∧ H b = some (.lst ((ic cs).map V.int)) ∧ ns.length ≤ 63 ∧ Good ns ∧ Rising 1 ns.length cs ∧
  ∀ (r : Addr) (H' : Hp), Same H H' → H r = none → H' r = some (.lst ((borneM ns cs).map V.int)) → Q (.ref r) H'
def spHalved : Sp := fun vs H Q _ => ∃ (a : Addr) (ns : List Int), vs = [.ref a] ∧ H a = some (.lst (ns.map V.int)) ∧ ns.length ≤ 63 ∧ Good ns ∧ ∀ H', Same H H' → Q (.int (evenest ns.sum 0 ns 0 ns.sum 0)) H'
def spNeeded : Sp := fun vs H Q _ => ∃ (a : Addr) (ns : List Int) (b : Int), vs = [.ref a, .int b] ∧ H a = some (.lst (ns.map V.int)) ∧ ns.length ≤ 63 ∧ ∀ (r : Addr) (H' : Hp), Same H H' → H r = none → H' r = some (.lst ((ic (needed b ns)).map V.int)) → Q (.ref r) H'
def spNeeding : Sp := fun vs H Q _ => ∃ (a : Addr) (cs : List Nat), vs = [.ref a] ∧ H a = some (.lst ((ic cs).map V.int)) ∧ cs.length ≤ 63 ∧ ∀ (r : Addr) (H' : Hp) (xs : List V), Same H H' → H r = none → H' r = some (.lst xs) → PairsT H' xs (zipP 0 cs) → Q (.ref r) H'
def spFirstAbove : Sp := fun vs H Q _ => ∃ (a : Addr) (ns : List Int) (b : Int), vs = [.ref a, .int b] ∧ H a = some (.lst (ns.map V.int)) ∧ ∀ H', Same H H' → (∀ (p : Nat) (z : Int), ns[p]? = some z → b < z → Q (.int p) H') ∧ ((∀ z ∈ ns, z ≤ b) → Q .non H')
def spLeastNum : Sp := fun vs H Q _ => ∃ (a : Addr) (ns : List Int) (k : Int), vs = [.ref a, .int k] ∧ H a = some (.lst (ns.map V.int)) ∧ ns.length ≤ 63 ∧ Good ns ∧ (1 ≤ k ∧ k < 1073741824) ∧ ∀ (H' : Hp) (num : Int), Same H H' → 0 ≤ num → (∀ z ∈ ns, z ≤ num) → ((needed num ns).length : Int) < k →
  (num = 0 ∨ num ∈ ns ∨ (1 ≤ num ∧ (∀ z ∈ ns, z ≤ num - 1) ∧ k ≤ ((needed (num - 1) ns).length : Int))) → Q (.int num) H'
def spFilling : Sp := fun vs H Q _ => ∃ (a : Addr) (ns : List Int) (b : Int), vs = [.ref a, .int b] ∧ H a = some (.lst (ns.map V.int)) ∧ ns.length ≤ 63 ∧ ∀ (r : Addr) (H' : Hp), Same H H' → H r = none → H' r = some (.lst ((ic (filling b ns)).map V.int)) → Q (.ref r) H'
theorem zipP_pairs {H2 : Hp} : ∀ (cs : List Nat) (st : Nat) (as : List Addr), as.length = cs.length → (∀ (j : Nat) (x y : V), ((V.int st :: (ic cs).map V.int).zip ((ic cs).map V.int))[j]? = some (x, y) → ∃ p, as[j]? = some p ∧ H2 p = some (.tup [x, y])) →
    PairsT H2 (as.map V.ref) (zipP st cs)
  | [], st, [], _, _ => trivial
  | [], st, a :: as, h, _ => by simp at h
  | c :: cs, st, [], h, _ => by simp at h
  | c :: cs, st, a :: as, hl, h => by
    refine ⟨?_, zipP_pairs cs c as (by simpa using hl) fun j x y e => ?_⟩
    · obtain ⟨p, e1, e2⟩ := h 0 (V.int st) (V.int c) rfl
      have e1 : a = p := by simpa using e1
      subst e1
      exact ⟨a, rfl, e2⟩
    · obtain ⟨p, e1, e2⟩ := h (j + 1) x y (by simpa [ic] using e)
      exact ⟨p, by simpa using e1, e2⟩
theorem PairsT.take {H : Hp} : ∀ {xs : List V} {ps : List (Int × Int)} (n : Nat), PairsT H xs ps → PairsT H (xs.take n) (ps.take n)
  | [], [], n, _ => by simp only [List.take_nil]; trivial
  | _ :: _, (_, _) :: _, 0, _ => trivial
  | _ :: _, (_, _) :: _, n + 1, ⟨a, h⟩ => ⟨a, h.take n⟩
  | [], _ :: _, _, h => h.elim
  | _ :: _, [], _, h => h.elim
theorem cut_last (xs : List V) : cutV xs none (some (-1)) = xs.dropLast := by
  unfold cutV HT.sIx
  simp only [List.drop_zero, Nat.sub_zero]
  rw [if_pos (by decide), List.dropLast_eq_take]
  congr 1
  omega
theorem putF_len (f : Str) (v : V) : ∀ fs : List (Str × V), (putF f v fs).length ≤ fs.length + 1
  | [] => Nat.le_refl _
  | (g, x) :: r => by
    rw [show putF f v ((g, x) :: r) = (if g = f then (g, v) :: r else (g, x) :: putF f v r) from rfl]
    have := putF_len f v r
    split <;> simp only [List.length_cons] <;> omega
theorem putF_s1 {f : Str} {v : V} : (putF f v []).length < 1000 := Nat.lt_of_le_of_lt (putF_len _ _ _) (by decide)
theorem putF_s2 {f g : Str} {u v : V} : (putF f u (putF g v [])).length < 1000 := Nat.lt_of_le_of_lt (Nat.le_trans (putF_len _ _ _) (Nat.succ_le_succ (putF_len _ _ _))) (by decide)
def mu2 : St → Nat
  | [_, _, _, _, some (.int lo), some (.int hi), _] => (hi - lo).toNat
  | _ => 0
def plus1 : V → V
  | .int z => .int (z + 1)
  | _ => .non
theorem icCuts (es : List Nat) : ((ic es).map V.int).dropLast.map plus1 = (ic (cutsOf es)).map V.int := by
  rw [cutsOf_eq]
  unfold ic
  rw [← List.map_dropLast, ← List.map_dropLast, List.map_map, List.map_map, List.map_map, List.map_map]
  rfl
section
variable {P : Program} {w : World} {K : PySem.W.Frag} {mg : Str → Option Value} {base : Heap} {f : Addr} {fd : FuncData}
theorem sc_part_sums : FnScope ["row", "cuts", "sums", "start", "cut"] ["row", "cuts"] (defScope (top 18)) := ⟨rfl, rfl, rfl, by decide +kernel, rfl, by decide +kernel, by decide +kernel⟩
theorem ok_part_sums (T : Txt mg)  (F : Fun K "part_sums" "part_sums" (top 18) f fd) : FnOk P w K mg base CX0 1 f fd ["row", "cuts"] (spPartSums K) := by
  have S := sc_part_sums
  refine F.ok S (fun vs H Q E h => ?_) (fun cdv A outer s H vs Q E hr h => ?_)
  · obtain ⟨a, b, ns, cs, rfl, _⟩ := h
    rfl
  obtain ⟨a, b, ns, cs, rfl, hS, hb, hl, hri, q⟩ := h
  refine ⟨_, (pss_cons (ps_if (pt_cmpR op_eq (pe_callB call_len' rfl T.b_len PySem.boot_len (pa_cons (pv 0) pa_nil)) pe_int (nomark _))
      (pss_one (ps_ret (pe_lst pa_nil)))
      pss_nil)
    (pss_cons (ps_set (i := 2) S.nd rfl (Or.inl rfl) (pe_lst pa_nil))
    (pss_cons (ps_set (i := 3) S.nd rfl (Or.inl rfl) pe_int)
    (pss_cons (ps_for PassesOwn.never rfl (pi_list (pv 1)) (pg_name (i := 4) S.nd rfl (Or.inl rfl))
      (pss_cons (ps_expr (pe_bm PySem.F.plainAttrs_list PySem.F.slot_list_append PySem.F.type_list_append mt_append (pv 2) (pa_cons (pe_callB (call_sum' rfl) rfl T.b_sum boot_sum (pa_cons (pe_slice sl_list (pv 0) (po_some (pv 3)) (po_some (pv 4))) pa_nil)) pa_nil)))
      (pss_one (ps_set (i := 3) S.nd rfl (Or.inl rfl) (pv 4)))))
    (pss_cons (ps_expr (pe_bm PySem.F.plainAttrs_list PySem.F.slot_list_append PySem.F.type_list_append mt_append (pv 2) (pa_cons (pe_callB (call_sum' rfl) rfl T.b_sum boot_sum (pa_cons (pe_slice sl_list (pv 0) (po_some (pv 3)) po_none) pa_nil)) pa_nil)))
    (pss_one (ps_ret (pv 2)))))))), ?_⟩
  try dsimp only [cxOf, Cx.nox, Cx.wish]
  have hkS : ∀ {H2 : Hp}, Same H H2 → SqL K H2 a (ns.map V.int) := fun s2 => s2.seq hS
  walk_at "rd"
  refine ite2 (fun c => ?_) (fun c => ?_)
  · have c : ns = [] := by
      have := of_decide_eq_true c
      exact List.eq_nil_of_length_eq_zero (by omega)
    walk_at "rd"
    refine ⟨Nat.zero_le _, fun r hr' => ?_⟩
    exact q r _ (same_new hr' _) hr' (by rw [upd_same, borneM, if_pos c]; rfl)
  · have c : ns ≠ [] := fun z => c (by rw [z]; rfl)
    walk_at "rd"
    refine ⟨Nat.zero_le _, fun r hr' => ?_⟩
    walk_at "rd"
    have nrb : r ≠ b := fun z => by rw [z, hb] at hr'; cases hr'
    have cl : cs.length + 1 ≤ 64 := by
      by_cases z : ns.length = 0
      · exact absurd (List.eq_nil_of_length_eq_zero z) c
      · have := hri.len (by omega)
        omega
    refine ⟨b, rfl, ⟨_, SqL.of (by rw [upd_ne nrb.symm]; exact hb)⟩, for_listF (K := K) (a := b) (xs := (ic cs).map V.int)
      (fun i σ H2 => ∃ (st : Nat) (v : Option V) (done : List Int), σ = [some (.ref a), some (.ref b), some (.ref r), some (.int st), v] ∧ Same H H2 ∧ H2 r = some (.lst (done.map V.int)) ∧ done.length = i ∧ done ++ partsFrom ns st 0 (cs.drop i) = partsFrom ns 0 0 cs ∧ st ≤ ns.length) ⟨0, none, [], rfl, same_new hr' _, upd_same, rfl, rfl, Nat.zero_le _⟩ (fun i σ H2 _ hh => ?_) ?_ ?_⟩
    · obtain ⟨_, _, _, _, sm, _⟩ := hh
      exact SqL.of (sm _ _ hb)
    · rintro i y σ H2 hi ⟨st, v, done, rfl, sm, hd, dl, eq, sl⟩
      obtain ⟨z, rfl, hz⟩ := at_int hi
      obtain ⟨c, rfl, hc⟩ := at_ic hz
      obtain ⟨g1, g2, _⟩ := hri.at hc
      have il : i < cs.length := lt_of_at hc
      walk_at "rd"
      refine ⟨tyL (SqL.of hd), ?_⟩
      walk_at "rd"
      refine rd_slL (hkS sm) fun p hp => ?_
      have nrp : r ≠ p := fun z => by rw [← z, hd] at hp; cases hp
      walk_at "rd"
      refine rd_sum (ns := (ns.drop st).take (c - st)) (SqL.of ?_) ?_
      · rw [upd_same, cut_ints, HT.sIx_nat, HT.sIx_nat, Nat.min_eq_left sl, Nat.min_eq_left (Nat.le_of_lt g2)]
      walk_at "rd"
      refine rd_append (xs := done.map V.int) (by rw [upd_ne nrp]; exact hd) (by rw [List.length_map]; exact small1000 (by omega)) ?_
      walk_at "rd"
      refine ⟨c, _, done ++ [((ns.drop st).take (c - st)).sum], rfl, fun d o z => ?_, ?_, ?_, ?_, Nat.le_of_lt g2⟩
      · have z2 := sm d o z
        rw [upd_ne (ne_of_none z hr'), upd_ne (ne_of_none z2 hp)]
        exact z2
      · rw [upd_same, List.map_append]
        rfl
      · rw [List.length_append, dl]
        rfl
      · rw [← eq, drop_at hc, List.append_assoc]
        simp only [partsFrom, Int.zero_add, List.singleton_append]
    · rintro σ H2 ⟨st, v, done, rfl, sm, hd, dl, eq, sl⟩
      rw [List.length_map, ic_len] at dl eq
      walk_at "rd"
      refine ⟨tyL (SqL.of hd), ?_⟩
      walk_at "rd"
      refine rd_slL (hkS sm) fun p hp => ?_
      have nrp : r ≠ p := fun z => by rw [← z, hd] at hp; cases hp
      walk_at "rd"
      refine rd_sum (ns := ns.drop st) (SqL.of ?_) ?_
      · rw [upd_same, cut_ints, HT.sIx_nat, HT.sIx_none, Nat.min_eq_left sl, List.take_of_length_le (by rw [List.length_drop]; omega)]
      walk_at "rd"
      refine rd_append (xs := done.map V.int) (by rw [upd_ne nrp]; exact hd) (by rw [List.length_map]; exact small1000 (by omega)) ?_
      walk_at "rd"
      refine q r _ (fun d o z => ?_) hr' ?_
      · have z2 := sm d o z
        rw [upd_ne (ne_of_none z hr'), upd_ne (ne_of_none z2 hp)]
        exact z2
      · rw [upd_same, borneM, if_neg c, ← eq, List.drop_eq_nil_of_le (Nat.le_refl _), List.map_append]
        simp only [partsFrom, Int.zero_add]
        rfl
end
def spMkF (C : Addr) : Sp := fun vs H Q _ => ∃ (x dx a b : Addr) (cs : List Int) (xs : List V), vs = [.ref x, .ref a, .ref b] ∧ H x = some (.ins C dx []) ∧ H a = some (.lst (cs.map V.int)) ∧ H b = some (.lst xs) ∧ cs.length ≤ 200 ∧ xs.length ≤ 200 ∧
  ∀ (cA sA : Addr) (fs : List (Str × V)) (H' : Hp), H' x = some (.ins C dx fs) → fs.lookup ("cuts" : Str) = some (.ref cA) → fs.lookup ("stretches" : Str) = some (.ref sA) → fs.lookup ("shows" : Str) = none → H cA = none → H sA = none → cA ≠ sA → H' cA = some (.lst (cs.map V.int)) → H' sA = some (.lst xs) → (∀ d o, d ≠ x → H d = some o → H' d = some o) → Q .non H'
def spMkL (C : Addr) : Sp := fun vs H Q _ => ∃ (x dx a b : Addr) (cs : List Int) (num : Int) (xs : List V), vs = [.ref x, .ref a, .int num, .ref b] ∧ H x = some (.ins C dx []) ∧ H a = some (.lst (cs.map V.int)) ∧ H b = some (.lst xs) ∧ cs.length ≤ 200 ∧ xs.length ≤ 200 ∧
  ∀ (cA sA : Addr) (fs : List (Str × V)) (H' : Hp), H' x = some (.ins C dx fs) → fs.lookup ("cuts" : Str) = some (.ref cA) → fs.lookup ("number" : Str) = some (.int num) → fs.lookup ("stretches" : Str) = some (.ref sA) → fs.lookup ("shows" : Str) = none ∧ fs.lookup ("is_needed" : Str) = none → H cA = none → H sA = none → cA ≠ sA → H' cA = some (.lst (cs.map V.int)) → H' sA = some (.lst xs) → (∀ d o, d ≠ x → H d = some o → H' d = some o) → Q .non H'
def spMkM (C : Addr) : Sp := fun vs H Q _ => ∃ (x dx a b : Addr) (cs pl : List Int), vs = [.ref x, .ref a, .ref b] ∧ H x = some (.ins C dx []) ∧ H a = some (.lst (cs.map V.int)) ∧ H b = some (.lst (pl.map V.int)) ∧ cs.length ≤ 200 ∧ pl.length ≤ 200 ∧
  ∀ (cA sA : Addr) (fs : List (Str × V)) (H' : Hp), H' x = some (.ins C dx fs) → fs.lookup ("cuts" : Str) = some (.ref cA) → fs.lookup ("places" : Str) = some (.ref sA) → fs.lookup ("shows" : Str) = none ∧ fs.lookup ("has_full_parts" : Str) = none → H cA = none → H sA = none → cA ≠ sA → H' cA = some (.lst (cs.map V.int)) → H' sA = some (.lst (pl.map V.int)) → (∀ d o, d ≠ x → H d = some o → H' d = some o) → Q .non H'
def spMkG (C : Addr) : Sp := fun vs H Q _ => ∃ (x dx : Addr) (p : Int), vs = [.ref x, .int p] ∧ H x = some (.ins C dx []) ∧
  ∀ (fs : List (Str × V)) (H' : Hp), H' x = some (.ins C dx fs) → fs.lookup ("place" : Str) = some (.int p) → fs.lookup ("shows" : Str) = none → (∀ d o, d ≠ x → H d = some o → H' d = some o) → Q .non H'
section
variable {C : Addr} {H1 : Hp} {x dx a b : Addr} {cs pl : List Int} {xs : List V} {num : Int} {R : Hp → Prop}
theorem mk_same {H2 : Hp} (hx : H1 x = none) (hd : H1 dx = none) (h : ∀ d o, d ≠ x → upd (upd H1 dx (.own x)) x (.ins C dx []) d = some o → H2 d = some o) : Same H1 H2 := fun d o e => by
  have n1 : d ≠ x := ne_of_none e hx
  have n2 : d ≠ dx := ne_of_none e hd
  exact h d o n1 (by rw [upd_ne n1, upd_ne n2]; exact e)
theorem mk_free {o1 o2 : HO} {d : Addr} (h : upd (upd H1 dx o1) x o2 d = none) : H1 d = none := by
  by_cases n1 : d = x
  · rw [n1, upd_same] at h; cases h
  · rw [upd_ne n1] at h
    by_cases n2 : d = dx
    · rw [n2, upd_same] at h; cases h
    · rw [upd_ne n2] at h; exact h
theorem mk_old {o1 o2 o : HO} {d : Addr} (hx : H1 x = none) (hd : H1 dx = none) (h : H1 d = some o) : upd (upd H1 dx o1) x o2 d = some o := by
  rw [upd_ne (ne_of_none h hx), upd_ne (ne_of_none h hd)]; exact h
theorem mkF_use {ps : List (Int × Int)} (hx : H1 x = none) (hd : H1 dx = none) (ha : H1 a = some (.lst (cs.map V.int))) (hb : H1 b = some (.lst xs)) (hp : PairsT H1 xs ps) (l1 : cs.length ≤ 200) (l2 : xs.length ≤ 200)
    (q : ∀ (cA sA : Addr) (H2 : Hp), Same H1 H2 → FewAt C H2 x cA sA cs xs ps → H1 cA = none → H1 sA = none → cA ≠ sA → R H2) :
    spMkF C [.ref x, .ref a, .ref b] (upd (upd H1 dx (.own x)) x (.ins C dx [])) (fun v H2 => v = .non ∧ R H2) E0 :=
  ⟨x, dx, a, b, cs, xs, rfl, upd_same, mk_old hx hd ha, mk_old hx hd hb, l1, l2, fun cA sA fs H' e1 e2 e3 e4 e5 e6 e7 e8 e9 e10 =>
    ⟨rfl, q cA sA H' (mk_same hx hd e10) ⟨⟨dx, fs, e1, e2, e3, e4⟩, e8, e9, hp.same (mk_same hx hd e10)⟩ (mk_free e5) (mk_free e6) e7⟩⟩
theorem mkL_use {ps : List (Int × Int)} (hx : H1 x = none) (hd : H1 dx = none) (ha : H1 a = some (.lst (cs.map V.int))) (hb : H1 b = some (.lst xs)) (hp : PairsT H1 xs ps) (l1 : cs.length ≤ 200) (l2 : xs.length ≤ 200)
    (q : ∀ (cA sA : Addr) (H2 : Hp), Same H1 H2 → LeastAt C H2 x cA sA cs num xs ps → H1 cA = none → H1 sA = none → cA ≠ sA → R H2) :
    spMkL C [.ref x, .ref a, .int num, .ref b] (upd (upd H1 dx (.own x)) x (.ins C dx [])) (fun v H2 => v = .non ∧ R H2) E0 :=
  ⟨x, dx, a, b, cs, num, xs, rfl, upd_same, mk_old hx hd ha, mk_old hx hd hb, l1, l2, fun cA sA fs H' e1 e2 e2' e3 e4 e5 e6 e7 e8 e9 e10 =>
    ⟨rfl, q cA sA H' (mk_same hx hd e10) ⟨⟨dx, fs, e1, e2, e2', e3, e4⟩, e8, e9, hp.same (mk_same hx hd e10)⟩ (mk_free e5) (mk_free e6) e7⟩⟩
theorem mkM_use (hx : H1 x = none) (hd : H1 dx = none) (ha : H1 a = some (.lst (cs.map V.int))) (hb : H1 b = some (.lst (pl.map V.int))) (l1 : cs.length ≤ 200) (l2 : pl.length ≤ 200)
    (q : ∀ (cA sA : Addr) (H2 : Hp), Same H1 H2 → MostAt C H2 x cA sA cs pl → H1 cA = none → H1 sA = none → cA ≠ sA → R H2) :
    spMkM C [.ref x, .ref a, .ref b] (upd (upd H1 dx (.own x)) x (.ins C dx [])) (fun v H2 => v = .non ∧ R H2) E0 :=
  ⟨x, dx, a, b, cs, pl, rfl, upd_same, mk_old hx hd ha, mk_old hx hd hb, l1, l2, fun cA sA fs H' e1 e2 e3 e4 e5 e6 e7 e8 e9 e10 =>
    ⟨rfl, q cA sA H' (mk_same hx hd e10) ⟨⟨dx, fs, e1, e2, e3, e4⟩, e8, e9⟩ (mk_free e5) (mk_free e6) e7⟩⟩
theorem mkG_use {p : Int} (hx : H1 x = none) (hd : H1 dx = none) (q : ∀ (H2 : Hp), Same H1 H2 → GreatAt C H2 x p → R H2) :
    spMkG C [.ref x, .int p] (upd (upd H1 dx (.own x)) x (.ins C dx [])) (fun v H2 => v = .non ∧ R H2) E0 :=
  ⟨x, dx, p, rfl, upd_same, fun fs H' e1 e2 e3 e4 => ⟨rfl, q H' (mk_same hx hd e4) ⟨dx, fs, e1, e2, e3⟩⟩⟩
end
theorem cut_to (xs : List V) {k : Int} (h0 : 0 ≤ k) (h : k ≤ xs.length) : cutV xs none (some k) = xs.take k.toNat := by
  obtain ⟨n, rfl⟩ := Int.eq_ofNat_of_zero_le h0
  unfold cutV
  rw [HT.sIx_none, HT.sIx_nat, Nat.min_eq_left (by omega), List.drop_zero, Nat.sub_zero]
  rfl
inductive Thing (H : Hp) : V → String → Prop where
  | non : Thing H .non "NoneType"
  | bl (b : Bool) : Thing H (.bl b) "bool"
  | int (i : Int) : Thing H (.int i) "int"
  | str (x : Str) : Thing H (.str x) "str"
  | lst {a : Addr} {xs : List V} (e : H a = some (.lst xs)) : Thing H (.ref a) "list"
  | tup {a : Addr} {xs : List V} (e : H a = some (.tup xs)) : Thing H (.ref a) "tuple"
  | dic {a : Addr} {kvs : List (Key × V)} (e : H a = some (.dK kvs)) : Thing H (.ref a) "dict"
theorem Thing.ty {K : PySem.W.Frag} {H : Hp} {v : V} {n : String} (h : Thing H v n) : TyOf K H v (.type n) := by
  cases h with
  | non => exact .non
  | bl b => exact .bl b
  | int i => exact .int i
  | str x => exact .str x
  | lst e => exact .lst e
  | tup e => exact .tup e
  | dic e => exact .dK e
theorem Thing.same {H H' : Hp} {v : V} {n : String} (h : Thing H v n) (s : Same H H') : Thing H' v n := by
  cases h with
  | non => exact .non
  | bl b => exact .bl b
  | int i => exact .int i
  | str x => exact .str x
  | lst e => exact .lst (s _ _ e)
  | tup e => exact .tup (s _ _ e)
  | dic e => exact .dic (s _ _ e)
def loadV : V → Bool
  | .int i => decide (0 ≤ i) && decide (i ≤ 1000000)
  | _ => false
def risesV (n : Int) : Int → List V → Bool
  | _, [] => true
  | last, .int c :: cs => decide (last < c) && decide (c < n) && risesV n c cs
  | _, _ :: _ => false
def Things (H : Hp) (v : V) (xs : List V) : Prop := ∃ a, v = .ref a ∧ H a = some (.lst xs) ∧ xs.length ≤ 1000 ∧ ∀ x ∈ xs, ∃ n, Thing H x n
theorem Things.same {H H' : Hp} {v : V} {xs : List V} (h : Things H v xs) (s : Same H H') : Things H' v xs := by
  obtain ⟨a, h1, h2, h3, h4⟩ := h
  exact ⟨a, h1, s _ _ h2, h3, fun x hx => (h4 x hx).imp fun n q => q.same s⟩
def NotRow (H : Hp) (v : V) : Prop := (∃ n, Thing H v n ∧ n ≠ "list") ∨ ∃ xs, Things H v xs ∧ ∃ x ∈ xs, loadV x = false
def NotNum (least : Int) (H : Hp) (v : V) : Prop := (∃ n, Thing H v n ∧ n ≠ "int") ∨ ∃ i, v = .int i ∧ i < least
def NotCuts (many : Nat) (H : Hp) (v : V) : Prop := (∃ n, Thing H v n ∧ n ≠ "list") ∨ ∃ xs, Things H v xs ∧ risesV many 0 xs = false
theorem NotRow.same {H H' : Hp} {v : V} (h : NotRow H v) (s : Same H H') : NotRow H' v :=
  h.imp (fun ⟨n, a, b⟩ => ⟨n, a.same s, b⟩) fun ⟨xs, a, b⟩ => ⟨xs, a.same s, b⟩
theorem NotNum.same {m : Int} {H H' : Hp} {v : V} (h : NotNum m H v) (s : Same H H') : NotNum m H' v :=
  h.imp (fun ⟨n, a, b⟩ => ⟨n, a.same s, b⟩) id
theorem NotCuts.same {m : Nat} {H H' : Hp} {v : V} (h : NotCuts m H v) (s : Same H H') : NotCuts m H' v :=
  h.imp (fun ⟨n, a, b⟩ => ⟨n, a.same s, b⟩) fun ⟨xs, a, b⟩ => ⟨xs, a.same s, b⟩
def RowAt (H : Hp) (a : Addr) (ns : List Int) : Prop := H a = some (.lst (ns.map V.int)) ∧ ns.length ≤ 63 ∧ Good ns
theorem RowAt.same {H H' : Hp} {a : Addr} {ns : List Int} (h : RowAt H a ns) (s : Same H H') : RowAt H' a ns := ⟨s _ _ h.1, h.2⟩
def Refuses (C : Addr) (H : Hp) (E : XK) : Prop := ∀ H', Same H H' → E (.ref C) none H'
theorem Refuses.on {C : Addr} {H H' : Hp} {E : XK} (h : Refuses C H E) (s : Same H H') : Refuses C H' E := fun H2 s2 => h H2 (s.trans s2)
def bRow (ca : CA) (one : Bool) : Sp := fun vs H _ E => ∃ v u, vs = (if one then [v] else [v, u]) ∧ NotRow H v ∧ Refuses ca.BadRow H E
def bCuts (ca : CA) : Sp := fun vs H _ E => ∃ a ns u, vs = [.ref a, u] ∧ RowAt H a ns ∧ NotCuts ns.length H u ∧ Refuses ca.BadCuts H E
def bNum (ca : CA) (least : Int) : Sp := fun vs H _ E => ∃ a ns u, vs = [.ref a, u] ∧ RowAt H a ns ∧ NotNum least H u ∧ Refuses ca.BadNumber H E
def spBorne7 (ca : CA) : Sp := fun vs H Q E => bRow ca false vs H Q E ∨ bCuts ca vs H Q E ∨ spBorne vs H Q E
def spHalved7 (ca : CA) : Sp := fun vs H Q E => bRow ca true vs H Q E ∨ spHalved vs H Q E
def spWritten7 (ca : CA) : Sp := fun vs H Q E => bRow ca false vs H Q E ∨ bCuts ca vs H Q E
def spFewest7 (ca : CA) : Sp := fun vs H Q E => bRow ca false vs H Q E ∨ bNum ca 0 vs H Q E ∨ spFewest ca vs H Q E
def spLowest7 (ca : CA) : Sp := fun vs H Q E => bRow ca false vs H Q E ∨ bNum ca 1 vs H Q E ∨ spLowest ca.Least vs H Q E
def spFullest7 (ca : CA) : Sp := fun vs H Q E => bRow ca false vs H Q E ∨ bNum ca 1 vs H Q E ∨ spFullest ca.Most vs H Q E
def KindOf (ca : CA) (C : Addr) (bs : List Bool) : Prop := (C = ca.BadRow ∧ bs = [true, false, false, false, true]) ∨ (C = ca.BadNumber ∧ bs = [false, true, false, false, true]) ∨ (C = ca.BadCuts ∧ bs = [false, false, true, false, true])
def spKinds (ca : CA) : Sp := fun vs H Q _ => ∃ (x C : Addr) (bs : List Bool), vs = [.ref x] ∧ H x = some (excO x C) ∧ KindOf ca C bs ∧ ∀ (r : Addr) (H' : Hp), Same H H' → H r = none → H' r = some (.lst (bs.map V.bl)) → Q (.ref r) H'
def spWithRow (ca : CA) : Sp := fun vs H _ E => ∃ (d : Int) (v : V), vs = [.int d, v] ∧ 0 ≤ d ∧ d < 6 ∧ NotRow H v ∧ Refuses ca.BadRow H E
def spWithNum (ca : CA) : Sp := fun vs H _ E => ∃ (d : Int) (v : V), vs = [.int d, v] ∧ 0 ≤ d ∧ d < 3 ∧ NotNum (if d = 0 then 0 else 1) H v ∧ Refuses ca.BadNumber H E
def Asks (P : Program) (w : World) (K : PySem.W.Frag) (mg : Str → Option Value) (base : Heap) (f : Addr) (one other : V) (H : Hp) (C : Addr) : Prop :=
  ∃ fd ps k sp, FnOk P w K mg base (CXE P w) k f fd ps sp ∧ k ≤ 11 ∧ PySem.W.keepIn K (.ref f) = true ∧ Binds K fd ps [] ∧ ∀ Q E, Refuses C H E → sp [one, other] H Q E
structure CalleeV (P : Program) (w : World) (K : PySem.W.Frag) (mg : Str → Option Value) (base : Heap) (x : Str) (f : Addr) (ps : List Str) (k : Nat) (sp : Sp) : Prop where
  ex : ∃ fd, FnOk P w K mg base (CXE P w) k f fd ps sp ∧ PySem.W.keepIn K (.ref f) = true ∧ Binds K fd ps []
  at_ : mg x = some (.ref f)
theorem CalleeV.asks {P : Program} {w : World} {K : PySem.W.Frag} {mg : Str → Option Value} {base : Heap} {x : Str} {f : Addr} {ps : List Str} {k : Nat} {sp : Sp} {one other : V} {H : Hp} {C : Addr} (h : CalleeV P w K mg base x f ps k sp) (hk : k ≤ 11) (q : ∀ Q E, Refuses C H E → sp [one, other] H Q E) : Asks P w K mg base f one other H C := by
  obtain ⟨fd, a, b, c⟩ := h.ex
  exact ⟨fd, ps, k, sp, a, hk, b, c, q⟩
def spTold (P : Program) (w : World) (K : PySem.W.Frag) (mg : Str → Option Value) (base : Heap) (ca : CA) : Sp := fun vs H Q _ => ∃ (f : Addr) (one other : V) (C : Addr) (bs : List Bool), vs = [.ref f, one, other] ∧ Asks P w K mg base f one other H C ∧ KindOf ca C bs ∧
  ∀ (r : Addr) (H' : Hp), Same H H' → H r = none → H' r = some (.lst (bs.map V.bl)) → Q (.ref r) H'
def spAll (P : Program) (w : World) (K : PySem.W.Frag) (mg : Str → Option Value) (base : Heap) (ca : CA) : Sp := fun vs H Q _ => ∃ (f d t u : Addr) (ds : List Int) (xs : List V) (C : Addr) (bs : List Bool), vs = [.ref f, .ref d, .ref t, .ref u] ∧ H d = some (.lst (ds.map V.int)) ∧ H t = some (.lst xs) ∧ H u = some (.lst (bs.map V.bl)) ∧
  xs.length ≤ 1000 ∧ KindOf ca C bs ∧ (∀ e ∈ ds, ∀ x ∈ xs, ∀ H', Same H H' → Asks P w K mg base f (.int e) x H' C) ∧ ∀ H', Same H H' → Q (.bl true) H'
theorem kit7 (K : PySem.W.Frag) : PySem.W.kitOne K (.type "NoneType") (.type "int") = some false ∧ PySem.W.kitOne K (.type "bool") (.type "int") = some true ∧ PySem.W.kitOne K (.type "bool") (.type "bool") = some true ∧ PySem.W.kitOne K (.type "str") (.type "int") = some false ∧
    PySem.W.kitOne K (.type "list") (.type "int") = some false ∧ PySem.W.kitOne K (.type "tuple") (.type "int") = some false ∧ PySem.W.kitOne K (.type "dict") (.type "int") = some false := by
  refine ⟨?_, ?_, ?_, ?_, ?_, ?_, ?_⟩ <;> first | rfl | (unfold PySem.W.kitOne; rfl) | (unfold PySem.W.kitOne; decide +kernel)
theorem kit7L (K : PySem.W.Frag) : PySem.W.kitOne K (.type "NoneType") (.type "list") = some false ∧ PySem.W.kitOne K (.type "bool") (.type "list") = some false ∧ PySem.W.kitOne K (.type "int") (.type "list") = some false ∧ PySem.W.kitOne K (.type "str") (.type "list") = some false ∧
    PySem.W.kitOne K (.type "tuple") (.type "list") = some false ∧ PySem.W.kitOne K (.type "dict") (.type "list") = some false := by
  refine ⟨?_, ?_, ?_, ?_, ?_, ?_⟩ <;> first | rfl | (unfold PySem.W.kitOne; rfl) | (unfold PySem.W.kitOne; decide +kernel)
theorem Thing.notList {K : PySem.W.Frag} {H : Hp} {v : V} {n : String} (h : Thing H v n) (ne : n ≠ "list") : PySem.W.kitOne K (.type n) (.type "list") = some false := by
  obtain ⟨h1, h2, h3, h4, h5, h6⟩ := kit7L K
  cases h with
  | lst _ => exact absurd rfl ne
  | _ => assumption
theorem rising_len7 {n : Nat} {cs : List Nat} (h : Rising 1 n cs) (hl : n ≤ 63) : cs.length ≤ 1000 := by
  cases cs with
  | nil => simp
  | cons c cs =>
    have := h.len (by have := h.2.1; omega)
    omega
def isWholeV : V → Bool
  | .int _ => true
  | _ => false
def wfV (m : Int) : V → Bool
  | .int i => decide (m ≤ i)
  | _ => false
theorem NotNum.wf {m : Int} {H : Hp} {v : V} (h : NotNum m H v) : wfV m v = false ∧ ∃ n, Thing H v n := by
  rcases h with ⟨n, t, ne⟩ | ⟨i, rfl, h⟩
  · refine ⟨?_, n, t⟩
    cases t with
    | int i => exact absurd rfl ne
    | _ => rfl
  · exact ⟨decide_eq_false (by omega), _, .int i⟩
theorem rowThings {H : Hp} {a : Addr} {ns : List Int} (h : H a = some (.lst (ns.map V.int))) (l : ns.length ≤ 63) : Things H (.ref a) (ns.map V.int) :=
  ⟨a, rfl, h, by rw [List.length_map]; omega, fun x hx => by
    obtain ⟨i, _, rfl⟩ := List.mem_map.mp hx
    exact ⟨_, .int i⟩⟩
theorem good_all {ns : List Int} (h : Good ns) : (ns.map V.int).all loadV = true := by
  rw [List.all_eq_true]
  intro x hx
  obtain ⟨i, hi, rfl⟩ := List.mem_map.mp hx
  have := h i hi
  show (decide (0 ≤ i) && decide (i ≤ 1000000)) = true
  rw [decide_eq_true this.1, decide_eq_true this.2]
  rfl
theorem rises_ints (n : Nat) : ∀ (m : Int) (cs : List Int), risesV n m (cs.map V.int) = risingB n m cs
  | _, [] => rfl
  | m, c :: cs => by
    simp only [List.map_cons, risesV, risingB, rises_ints n c cs]
def spWhole7 : Sp := fun vs H Q _ => ∃ v n, vs = [v] ∧ Thing H v n ∧ Q (.bl (isWholeV v)) H
def spWF7 : Sp := fun vs H Q _ => ∃ v n m, vs = [v, .int m] ∧ Thing H v n ∧ Q (.bl (wfV m v)) H
def spLoad7 : Sp := fun vs H Q _ => ∃ v n, vs = [v] ∧ Thing H v n ∧ Q (.bl (loadV v)) H
def spIsRow7 : Sp := fun vs H Q _ => (∃ v n, vs = [v] ∧ Thing H v n ∧ n ≠ "list" ∧ Q (.bl false) H) ∨ ∃ v xs, vs = [v] ∧ Things H v xs ∧ Q (.bl (xs.all loadV)) H
def spRise7 : Sp := fun vs H Q _ => (∃ (v : V) (a : Addr) (m : Int) (n : String), vs = [v, .ref a, .int m] ∧ Thing H v n ∧ n ≠ "list" ∧ Q (.bl false) H) ∨ ∃ (v : V) (a : Addr) (ns : List Int) (m : Int) (xs : List V), vs = [v, .ref a, .int m] ∧ H a = some (.lst (ns.map V.int)) ∧ Things H v xs ∧ Q (.bl (risesV ((ns.length : Nat) : Int) (m - 1) xs)) H
def spAreCuts7 : Sp := fun vs H Q _ => (∃ (v : V) (a : Addr) (n : String), vs = [v, .ref a] ∧ Thing H v n ∧ n ≠ "list" ∧ Q (.bl false) H) ∨ ∃ (v : V) (a : Addr) (ns : List Int) (xs : List V), vs = [v, .ref a] ∧ H a = some (.lst (ns.map V.int)) ∧ Things H v xs ∧ Q (.bl (risesV ((ns.length : Nat) : Int) 0 xs)) H
def spCheckRow7 (ca : CA) : Sp := fun vs H Q E => (∃ v, vs = [v] ∧ NotRow H v ∧ Refuses ca.BadRow H E) ∨ spCheckRow vs H Q E
def spCheckCuts7 (ca : CA) : Sp := fun vs H Q E => (∃ v a ns, vs = [v, .ref a] ∧ RowAt H a ns ∧ NotCuts ns.length H v ∧ Refuses ca.BadCuts H E) ∨ (∃ (b a : Addr) (ns : List Int) (cs : List Nat), vs = [.ref b, .ref a] ∧ H a = some (.lst (ns.map V.int)) ∧ H b = some (.lst ((ic cs).map V.int)) ∧ cs.length ≤ 1000 ∧ Rising 1 ns.length cs ∧ Q .non H)
def spCheckNum7 (ca : CA) : Sp := fun vs H Q E => (∃ (v : V) (m : Int), vs = [v, .int m] ∧ (m = 0 ∨ m = 1) ∧ NotNum m H v ∧ Refuses ca.BadNumber H E) ∨ spCheckNum vs H Q E
section
variable {P : Program} {w : World} {K : PySem.W.Frag} {mg : Str → Option Value} {base : Heap} {f : Addr} {fd : FuncData} {ca : CA}
theorem sc_is_whole : FnScope ["value"] ["value"] (defScope (top 10)) := ⟨rfl, rfl, rfl, by decide +kernel, rfl, by decide +kernel, by decide +kernel⟩
theorem ok_is_whole (T : Txt mg)  (F : Fun K "is_whole" "is_whole" (top 10) f fd) : FnOk P w K mg base CX0 1 f fd ["value"] spWhole7 := by
  have S := sc_is_whole
  refine F.ok S (fun vs H Q E h => ?_) (fun cdv A outer s H vs Q E hr h => ?_)
  · rcases h with ⟨v, n, rfl, _⟩ <;> rfl
  refine ⟨_, (pss_one (ps_ret (pe_and (pe_callB call_isi' rfl T.b_isinstance boot_isinstance (pa_cons (pv 0) (pa_cons (pe_bltn (v := .ty "int") rfl T.b_int boot_int rfl) pa_nil))) (pe_one (pe_not (pe_callB call_isi' rfl T.b_isinstance boot_isinstance (pa_cons (pv 0) (pa_cons (pe_bltn (v := .ty "bool") rfl T.b_bool boot_bool rfl) pa_nil)))))))), ?_⟩
  try dsimp only [cxOf, Cx.nox, Cx.wish]
  obtain ⟨v, n, rfl, t, q⟩ := h
  obtain ⟨k1, k2, k3, k4, k5, k6, k7⟩ := kit7 K
  walk_at "rd"
  cases t with
  | non =>
    refine rd_isiT .non k1 ?_
    walk_at "rd"
    exact q
  | bl b =>
    refine rd_isiT (.bl b) k2 ?_
    walk_at "rd"
    refine rd_isiT (.bl b) k3 ?_
    walk_at "rd"
    exact q
  | int i =>
    refine rd_isiT (.int i) (kit_int_int K) ?_
    walk_at "rd"
    refine rd_isiT (.int i) (kit_int_bool K) ?_
    walk_at "rd"
    exact q
  | str x =>
    refine rd_isiT (.str x) k4 ?_
    walk_at "rd"
    exact q
  | lst e =>
    refine rd_isiT (.lst e) k5 ?_
    walk_at "rd"
    exact q
  | tup e =>
    refine rd_isiT (.tup e) k6 ?_
    walk_at "rd"
    exact q
  | dic e =>
    refine rd_isiT (.dK e) k7 ?_
    walk_at "rd"
    exact q
theorem sc_is_whole_from : FnScope ["value", "least"] ["value", "least"] (defScope (top 11)) := ⟨rfl, rfl, rfl, by decide +kernel, rfl, by decide +kernel, by decide +kernel⟩
theorem ok_is_whole_from (T : Txt mg) (C_is_whole : Callee P w K mg base "is_whole" ["value"] 1 spWhole7) (F : Fun K "is_whole_from" "is_whole_from" (top 11) f fd) : FnOk P w K mg base CX0 2 f fd ["value", "least"] spWF7 := by
  have S := sc_is_whole_from
  refine F.ok S (fun vs H Q E h => ?_) (fun cdv A outer s H vs Q E hr h => ?_)
  · rcases h with ⟨v, n, m, rfl, _⟩ <;> rfl
  refine ⟨_, (pss_one (ps_ret (pe_and (pe_callC C_is_whole (hr.mono (by decide)) rfl (pa_cons (pv 0) pa_nil)) (pe_one (pe_cmpR op_ge (pv 0) (pv 1) (nomark _)))))), ?_⟩
  try dsimp only [cxOf, Cx.nox, Cx.wish]
  obtain ⟨v, n, m, rfl, t, q⟩ := h
  walk_at "rd"
  refine ⟨v, n, rfl, t, ?_⟩
  cases v with
  | int i =>
    rw [show isWholeV (.int i) = true from rfl]
    walk_at "rd"
    exact q
  | non =>
    walk_at "rd"
    exact q
  | bl b =>
    walk_at "rd"
    exact q
  | str b =>
    walk_at "rd"
    exact q
  | ref b =>
    walk_at "rd"
    exact q
  | _ => cases t
theorem sc_is_load : FnScope ["value"] ["value"] (defScope (top 12)) := ⟨rfl, rfl, rfl, by decide +kernel, rfl, by decide +kernel, by decide +kernel⟩
theorem ok_is_load (T : Txt mg) (C_is_whole_from : Callee P w K mg base "is_whole_from" ["value", "least"] 2 spWF7) (F : Fun K "is_load" "is_load" (top 12) f fd) : FnOk P w K mg base CX0 3 f fd ["value"] spLoad7 := by
  have S := sc_is_load
  refine F.ok S (fun vs H Q E h => ?_) (fun cdv A outer s H vs Q E hr h => ?_)
  · rcases h with ⟨v, n, rfl, _⟩ <;> rfl
  refine ⟨_, (pss_one (ps_ret (pe_and (pe_callC C_is_whole_from (hr.mono (by decide)) rfl (pa_cons (pv 0) (pa_cons pe_int pa_nil))) (pe_one (pe_cmpR op_le (pv 0) (pe_globI T.g_MOST_LOAD rfl) (nomark _)))))), ?_⟩
  try dsimp only [cxOf, Cx.nox, Cx.wish]
  obtain ⟨v, n, rfl, t, q⟩ := h
  walk_at "rd"
  refine ⟨v, n, 0, rfl, t, ?_⟩
  cases v with
  | int i =>
    have e : wfV 0 (.int i) = decide (0 ≤ i) := rfl
    have e2 : loadV (.int i) = (decide (0 ≤ i) && decide (i ≤ 1000000)) := rfl
    rw [e]
    rw [e2] at q
    by_cases c : 0 ≤ i
    · rw [decide_eq_true c] at q
      rw [decide_eq_true c]
      walk_at "rd"
      exact q
    · rw [decide_eq_false c] at q
      rw [decide_eq_false c]
      walk_at "rd"
      exact q
  | non =>
    walk_at "rd"
    exact q
  | bl b =>
    walk_at "rd"
    exact q
  | str b =>
    walk_at "rd"
    exact q
  | ref b =>
    walk_at "rd"
    exact q
  | _ => cases t
theorem sc_is_row : FnScope ["value", "load"] ["value"] (defScope (top 13)) := ⟨rfl, rfl, rfl, by decide +kernel, rfl, by decide +kernel, by decide +kernel⟩
theorem ok_is_row (T : Txt mg) (C_is_load : Callee P w K mg base "is_load" ["value"] 3 spLoad7) (F : Fun K "is_row" "is_row" (top 13) f fd) : FnOk P w K mg base CX0 4 f fd ["value"] spIsRow7 := by
  have S := sc_is_row
  refine F.ok S (fun vs H Q E h => ?_) (fun cdv A outer s H vs Q E hr h => ?_)
  · rcases h with ⟨v, n, rfl, _⟩ | ⟨v, xs, rfl, _⟩ <;> rfl
  refine ⟨_, (pss_cons (ps_if (PW.pt (pw_or (pt_not (pt_val (pe_callB call_isi' rfl T.b_isinstance boot_isinstance (pa_cons (pv 0) (pa_cons (pe_bltn (v := .ty "list") rfl T.b_list boot_list rfl) pa_nil))))) (pw_or1 (pt_cmpR op_gt (pe_callB call_len' rfl T.b_len PySem.boot_len (pa_cons (pv 0) pa_nil)) (pe_globI T.g_MOST_LOADS rfl) (nomark _)))))
      (pss_one (ps_ret pe_bl))
      pss_nil)
    (pss_cons (ps_for PassesOwn.never rfl (pi_list (pv 0)) (pg_name (i := 1) S.nd rfl (Or.inl rfl))
      (pss_one (ps_if (pt_not (pt_val (pe_callC C_is_load (hr.mono (by decide)) rfl (pa_cons (pv 1) pa_nil))))
        (pss_one (ps_ret pe_bl))
        pss_nil)))
    (pss_one (ps_ret pe_bl)))), ?_⟩
  try dsimp only [cxOf, Cx.nox, Cx.wish]
  rcases h with ⟨v, n, rfl, t, ne, q⟩ | ⟨v, xs, rfl, ⟨a, rfl, ha, hl, hx⟩, q⟩
  · walk_at "rd"
    refine rd_isiT t.ty (t.notList ne) ?_
    walk_at "rd"
    rw [Bool.not_false]
    walk_at "rd"
    exact q
  have hS : SqL K H a xs := SqL.of ha
  walk_at "rd"
  refine rd_isiT (.lst ha) (kit_list_list K) ?_
  walk_at "rd"
  rw [Bool.not_true]
  walk_at "rd"
  rw [decide_eq_false (by omega)]
  walk_at "rd"
  refine ⟨a, rfl, ⟨_, hS⟩, for_listF (K := K) (a := a) (xs := xs) (fun i σ H2 => ∃ v, σ = [some (.ref a), v] ∧ H2 = H ∧ (xs.drop i).all loadV = xs.all loadV) ⟨none, rfl, rfl, rfl⟩ (fun i σ H2 _ hh => ?_) ?_ ?_⟩
  · obtain ⟨_, _, rfl, _⟩ := hh
    exact hS
  · rintro i y σ H2 hi ⟨v, rfl, rfl, eq⟩
    obtain ⟨n, t⟩ := hx y (mem_of_at hi)
    rw [drop_at hi, List.all_cons] at eq
    walk_at "rd"
    refine ⟨y, n, rfl, t, ?_⟩
    walk_at "rd"
    cases c : loadV y with
    | true =>
      rw [c, Bool.true_and] at eq
      rw [Bool.not_true]
      walk_at "rd"
      exact ⟨_, rfl, rfl, eq⟩
    | false =>
      rw [c, Bool.false_and] at eq
      rw [← eq] at q
      rw [Bool.not_false]
      walk_at "rd"
      exact q
  · rintro σ H2 ⟨v, rfl, rfl, eq⟩
    rw [List.drop_eq_nil_of_le (Nat.le_refl _)] at eq
    rw [← eq] at q
    walk_at "rd"
    exact q
theorem sc_are_rising_places : FnScope ["value", "row", "least", "free", "place"] ["value", "row", "least"] (defScope (top 14)) := ⟨rfl, rfl, rfl, by decide +kernel, rfl, by decide +kernel, by decide +kernel⟩
theorem ok_are_rising_places (T : Txt mg) (C_is_whole_from : Callee P w K mg base "is_whole_from" ["value", "least"] 2 spWF7) (F : Fun K "are_rising_places" "are_rising_places" (top 14) f fd) : FnOk P w K mg base CX0 3 f fd ["value", "row", "least"] spRise7 := by
  have S := sc_are_rising_places
  refine F.ok S (fun vs H Q E h => ?_) (fun cdv A outer s H vs Q E hr h => ?_)
  · rcases h with ⟨v, a, m, n, rfl, _⟩ | ⟨v, a, ns, m, xs, rfl, _⟩ <;> rfl
  refine ⟨_, (pss_cons (ps_if (pt_not (pt_val (pe_callB call_isi' rfl T.b_isinstance boot_isinstance (pa_cons (pv 0) (pa_cons (pe_bltn (v := .ty "list") rfl T.b_list boot_list rfl) pa_nil)))))
      (pss_one (ps_ret pe_bl))
      pss_nil)
    (pss_cons (ps_set (i := 3) S.nd rfl (Or.inl rfl) (pv 2))
    (pss_cons (ps_for PassesOwn.never rfl (pi_list (pv 0)) (pg_name (i := 4) S.nd rfl (Or.inl rfl))
      (pss_cons (ps_if (PW.pt (pw_or (pt_not (pt_val (pe_callC C_is_whole_from (hr.mono (by decide)) rfl (pa_cons (pv 4) (pa_cons (pv 3) pa_nil))))) (pw_or1 (pt_cmpR op_ge (pv 4) (pe_callB call_len' rfl T.b_len PySem.boot_len (pa_cons (pv 1) pa_nil)) (nomark _)))))
        (pss_one (ps_ret pe_bl))
        pss_nil)
      (pss_one (ps_set (i := 3) S.nd rfl (Or.inl rfl) (pe_op op_add (pv 4) pe_int)))))
    (pss_one (ps_ret pe_bl))))), ?_⟩
  try dsimp only [cxOf, Cx.nox, Cx.wish]
  rcases h with ⟨v, a, m, n, rfl, t, ne, q⟩ | ⟨v, a, ns, m, xs, rfl, ha, ⟨b, rfl, hb, hl, hx⟩, q⟩
  · walk_at "rd"
    refine rd_isiT t.ty (t.notList ne) ?_
    walk_at "rd"
    rw [Bool.not_false]
    walk_at "rd"
    exact q
  have hS : SqL K H a (ns.map V.int) := SqL.of ha
  have hB : SqL K H b xs := SqL.of hb
  walk_at "rd"
  refine rd_isiT (.lst hb) (kit_list_list K) ?_
  walk_at "rd"
  rw [Bool.not_true]
  walk_at "rd"
  refine ⟨b, rfl, ⟨_, hB⟩, for_listF (K := K) (a := b) (xs := xs) (fun i σ H2 => ∃ (g : Int) (v : Option V), σ = [some (.ref b), some (.ref a), some (.int m), some (.int g), v] ∧ H2 = H ∧ risesV ((ns.length : Nat) : Int) (g - 1) (xs.drop i) = risesV ((ns.length : Nat) : Int) (m - 1) xs) ⟨m, none, rfl, rfl, rfl⟩ (fun i σ H2 _ hh => ?_) ?_ ?_⟩
  · obtain ⟨_, _, _, rfl, _⟩ := hh
    exact hB
  · rintro i y σ H2 hi ⟨g, v, rfl, rfl, eq⟩
    obtain ⟨n, t⟩ := hx y (mem_of_at hi)
    rw [drop_at hi] at eq
    walk_at "rd"
    refine ⟨y, n, g, rfl, t, ?_⟩
    walk_at "rd"
    cases y with
    | int z =>
      have e : wfV g (.int z) = decide (g ≤ z) := rfl
      rw [e]
      simp only [risesV] at eq
      by_cases c1 : g ≤ z
      · rw [decide_eq_true c1, Bool.not_true]
        walk_at "rd"
        by_cases c2 : z < ns.length
        · rw [decide_eq_false (by omega)]
          walk_at "rd"
          refine ⟨_, _, rfl, rfl, ?_⟩
          rw [← eq, decide_eq_true (show g - 1 < z by omega), decide_eq_true c2, show z + 1 - 1 = z by omega]
          simp
        · rw [decide_eq_true (by omega)]
          walk_at "rd"
          rw [decide_eq_false c2, Bool.and_false, Bool.false_and] at eq
          rw [← eq] at q
          exact q
      · rw [decide_eq_false c1, Bool.not_false]
        walk_at "rd"
        rw [decide_eq_false (show ¬ g - 1 < z by omega), Bool.false_and, Bool.false_and] at eq
        rw [← eq] at q
        exact q
    | non =>
      rw [show wfV g .non = false from rfl, Bool.not_false]
      walk_at "rd"
      simp only [risesV] at eq
      rw [← eq] at q
      exact q
    | bl b =>
      rw [show wfV g (.bl b) = false from rfl, Bool.not_false]
      walk_at "rd"
      simp only [risesV] at eq
      rw [← eq] at q
      exact q
    | str b =>
      rw [show wfV g (.str b) = false from rfl, Bool.not_false]
      walk_at "rd"
      simp only [risesV] at eq
      rw [← eq] at q
      exact q
    | ref b =>
      rw [show wfV g (.ref b) = false from rfl, Bool.not_false]
      walk_at "rd"
      simp only [risesV] at eq
      rw [← eq] at q
      exact q
    | _ => cases t
  · rintro σ H2 ⟨g, v, rfl, rfl, eq⟩
    rw [List.drop_eq_nil_of_le (Nat.le_refl _)] at eq
    walk_at "rd"
    rw [← eq] at q
    exact q
theorem sc_are_cuts : FnScope ["value", "row"] ["value", "row"] (defScope (top 15)) := ⟨rfl, rfl, rfl, by decide +kernel, rfl, by decide +kernel, by decide +kernel⟩
theorem ok_are_cuts (T : Txt mg) (C_are_rising_places : Callee P w K mg base "are_rising_places" ["value", "row", "least"] 3 spRise7) (F : Fun K "are_cuts" "are_cuts" (top 15) f fd) : FnOk P w K mg base CX0 4 f fd ["value", "row"] spAreCuts7 := by
  have S := sc_are_cuts
  refine F.ok S (fun vs H Q E h => ?_) (fun cdv A outer s H vs Q E hr h => ?_)
  · rcases h with ⟨v, a, n, rfl, _⟩ | ⟨v, a, ns, xs, rfl, _⟩ <;> rfl
  refine ⟨_, (pss_one (ps_ret (pe_callC C_are_rising_places (hr.mono (by decide)) rfl (pa_cons (pv 0) (pa_cons (pv 1) (pa_cons pe_int pa_nil)))))), ?_⟩
  try dsimp only [cxOf, Cx.nox, Cx.wish]
  rcases h with ⟨v, a, n, rfl, t, ne, q⟩ | ⟨v, a, ns, xs, rfl, ha, hx, q⟩
  · walk_at "rd"
    exact .inl ⟨v, a, 1, n, rfl, t, ne, q⟩
  · walk_at "rd"
    exact .inr ⟨v, a, ns, 1, xs, rfl, ha, hx, q⟩
theorem sc_check_row : FnScope ["value"] ["value"] (defScope (top 16)) := ⟨rfl, rfl, rfl, by decide +kernel, rfl, by decide +kernel, by decide +kernel⟩
theorem ok_check_row (T : Txt mg) (c : Cl K mg ca) (C_is_row : Callee P w K mg base "is_row" ["value"] 4 spIsRow7) (F : Fun K "check_row" "check_row" (top 16) f fd) : FnOk P w K mg base (CXE P w) 5 f fd ["value"] (spCheckRow7 ca) := by
  have S := sc_check_row
  refine F.okE S (fun vs H Q E h => ?_) (fun cdv A outer s H vs Q E hr h => ?_)
  · rcases h with ⟨v, rfl, _⟩ | ⟨a, ns, rfl, _⟩ <;> rfl
  refine ⟨_, (pss_one (ps_if (pt_not (pt_val (pe_callC C_is_row (hr.mono (by decide)) rfl (pa_cons (pv 0) pa_nil))))
      (pss_one (ps_raise raisesE rfl rfl c.m_BadRow c.x_BadRow.cls (pa_cons pe_str pa_nil)))
      pss_nil)), ?_⟩
  try dsimp only [cxOf, Cx.nox, Cx.wish]
  rcases h with ⟨v, rfl, nr, hf⟩ | ⟨a, ns, rfl, ha, hl, hg, q⟩
  · walk_at "rd"
    rcases nr with ⟨n, t, ne⟩ | ⟨xs, hx, x, hm, hb⟩
    · refine .inl ⟨v, n, rfl, t, ne, ?_⟩
      walk_at "rd"
      rw [Bool.not_false]
      walk_at "rd"
      exact ⟨by simp [sizeLine], hf H (Same.refl H)⟩
    · refine .inr ⟨v, xs, rfl, hx, ?_⟩
      have e : xs.all loadV = false := by
        rw [← Bool.not_eq_true, List.all_eq_true]
        intro z
        rw [z x hm] at hb
        cases hb
      rw [e]
      walk_at "rd"
      rw [Bool.not_false]
      walk_at "rd"
      exact ⟨by simp [sizeLine], hf H (Same.refl H)⟩
  · walk_at "rd"
    refine .inr ⟨.ref a, _, rfl, rowThings ha hl, ?_⟩
    rw [good_all hg]
    walk_at "rd"
    rw [Bool.not_true]
    walk_at "rd"
    exact q
theorem sc_check_cuts : FnScope ["value", "row"] ["value", "row"] (defScope (top 17)) := ⟨rfl, rfl, rfl, by decide +kernel, rfl, by decide +kernel, by decide +kernel⟩
theorem ok_check_cuts (T : Txt mg) (c : Cl K mg ca) (C_are_cuts : Callee P w K mg base "are_cuts" ["value", "row"] 4 spAreCuts7) (F : Fun K "check_cuts" "check_cuts" (top 17) f fd) : FnOk P w K mg base (CXE P w) 5 f fd ["value", "row"] (spCheckCuts7 ca) := by
  have S := sc_check_cuts
  refine F.okE S (fun vs H Q E h => ?_) (fun cdv A outer s H vs Q E hr h => ?_)
  · rcases h with ⟨v, a, ns, rfl, _⟩ | ⟨b, a, ns, cs, rfl, _⟩ <;> rfl
  refine ⟨_, (pss_one (ps_if (pt_not (pt_val (pe_callC C_are_cuts (hr.mono (by decide)) rfl (pa_cons (pv 0) (pa_cons (pv 1) pa_nil)))))
      (pss_one (ps_raise raisesE rfl rfl c.m_BadCuts c.x_BadCuts.cls (pa_cons pe_str pa_nil)))
      pss_nil)), ?_⟩
  try dsimp only [cxOf, Cx.nox, Cx.wish]
  rcases h with ⟨v, a, ns, rfl, ra, nc, hf⟩ | ⟨b, a, ns, cs, rfl, ha, hb, hl, hri, q⟩
  · walk_at "rd"
    rcases nc with ⟨n, t, ne⟩ | ⟨xs, hx, hb⟩
    · refine .inl ⟨v, a, n, rfl, t, ne, ?_⟩
      walk_at "rd"
      rw [Bool.not_false]
      walk_at "rd"
      exact ⟨by simp [sizeLine], hf H (Same.refl H)⟩
    · refine .inr ⟨v, a, ns, xs, rfl, ra.1, hx, ?_⟩
      rw [hb]
      walk_at "rd"
      rw [Bool.not_false]
      walk_at "rd"
      exact ⟨by simp [sizeLine], hf H (Same.refl H)⟩
  · walk_at "rd"
    refine .inr ⟨.ref b, a, ns, (ic cs).map V.int, rfl, ha, ⟨b, rfl, hb, by rw [List.length_map, ic_len]; exact hl, fun x hx => ?_⟩, ?_⟩
    · obtain ⟨i, _, rfl⟩ := List.mem_map.mp hx
      exact ⟨_, .int i⟩
    have rr := rising_of hri
    rw [show ((1 : Nat) : Int) - 1 = 0 by decide] at rr
    rw [rises_ints, rr]
    walk_at "rd"
    rw [Bool.not_true]
    walk_at "rd"
    exact q
theorem sc_check_number : FnScope ["value", "least"] ["value", "least"] (defScope (top 28)) := ⟨rfl, rfl, rfl, by decide +kernel, rfl, by decide +kernel, by decide +kernel⟩
theorem ok_check_number (T : Txt mg) (c : Cl K mg ca) (C_is_whole_from : Callee P w K mg base "is_whole_from" ["value", "least"] 2 spWF7) (F : Fun K "check_number" "check_number" (top 28) f fd) : FnOk P w K mg base (CXE P w) 3 f fd ["value", "least"] (spCheckNum7 ca) := by
  have S := sc_check_number
  refine F.okE S (fun vs H Q E h => ?_) (fun cdv A outer s H vs Q E hr h => ?_)
  · rcases h with ⟨v, m, rfl, _⟩ | ⟨i, m, rfl, _⟩ <;> rfl
  refine ⟨_, (pss_one (ps_if (pt_not (pt_val (pe_callC C_is_whole_from (hr.mono (by decide)) rfl (pa_cons (pv 0) (pa_cons (pv 1) pa_nil)))))
      (pss_one (ps_raise raisesE rfl rfl c.m_BadNumber c.x_BadNumber.cls (pa_cons (pe_fstr (pv 1)) pa_nil)))
      pss_nil)), ?_⟩
  try dsimp only [cxOf, Cx.nox, Cx.wish]
  rcases h with ⟨v, m, rfl, hm, nn, hf⟩ | ⟨i, m, rfl, h1, q⟩
  · obtain ⟨wf, n, t⟩ := nn.wf
    walk_at "rd"
    refine ⟨v, n, m, rfl, t, ?_⟩
    rw [wf]
    walk_at "rd"
    rw [Bool.not_false]
    walk_at "rd"
    exact ⟨.int m, rfl, m, rfl, hm, fun t => ⟨by simp [sizeLine], hf H (Same.refl H)⟩⟩
  · walk_at "rd"
    refine ⟨.int i, _, m, rfl, .int i, ?_⟩
    rw [show wfV m (.int i) = decide (m ≤ i) from rfl, decide_eq_true h1]
    walk_at "rd"
    rw [Bool.not_true]
    walk_at "rd"
    exact q
end
section
variable {P : Program} {w : World} {K : PySem.W.Frag} {mg : Str → Option Value} {base : Heap} {f : Addr} {fd : FuncData} {ca : CA}
theorem sc_Fewest_init : FnScope ["self", "cuts", "stretches"] ["self", "cuts", "stretches"] (defScope (inClass (top 23) 0)) := ⟨rfl, rfl, rfl, by decide +kernel, rfl, by decide +kernel, by decide +kernel⟩
theorem ok_Fewest_init (T : Txt mg) (c : Cl K mg ca) (F : Fun K "__init__" "Fewest.__init__" (inClass (top 23) 0) f fd) : FnOk P w K mg base CX0 2 f fd ["self", "cuts", "stretches"] (spMkF ca.Fewest) := by
  have S := sc_Fewest_init
  refine F.ok S (fun vs H Q E h => ?_) (fun cdv A outer s H vs Q E hr h => ?_)
  · obtain ⟨x, dx, a, b, cs, xs, rfl, _⟩ := h
    rfl
  obtain ⟨x, dx, a, b, cs, xs, rfl, hx, ha, hb, l1, l2, q⟩ := h
  refine ⟨_, (pss_cons (ps_fld (pv 0) (pe_callTy call_list' rfl T.b_list boot_list (pa_cons (pv 1) pa_nil)) rfl)
    (pss_one (ps_fld (pv 0) (pe_callTy call_list' rfl T.b_list boot_list (pa_cons (pv 2) pa_nil)) rfl))), ?_⟩
  try dsimp only [cxOf, Cx.nox, Cx.wish]
  walk_at "rd"
  refine rd_listOf (SqL.of ha) fun cA hcA => ?_
  have xc : x ≠ cA := ne_of_none hx hcA
  walk_at "rd"
  refine ⟨x, _, dx, _, rfl, by rw [upd_ne xc]; exact hx, c.y_Fewest.cl, c.n_Fewest_cuts, by decide, ?_⟩
  walk_at "rd"
  have nb1 : b ≠ x := ne_of hb hx (by intro z; cases z)
  refine rd_listOf (SqL.of (by rw [upd_ne nb1, upd_ne (ne_of_none hb hcA)]; exact hb)) fun sA hsA => ?_
  have xs' : sA ≠ x := fun z => by rw [z, upd_same] at hsA; cases hsA
  rw [upd_ne xs'] at hsA
  have sc : sA ≠ cA := fun z => by rw [z, upd_same] at hsA; cases hsA
  rw [upd_ne sc] at hsA
  walk_at "rd"
  refine ⟨x, _, dx, _, rfl, by rw [upd_ne xs'.symm, upd_same], c.y_Fewest.cl, c.n_Fewest_stretches, putF_s1, ?_⟩
  refine q cA sA _ _ upd_same rfl rfl rfl hcA hsA sc.symm ?_ ?_ ?_
  · rw [upd_ne xc.symm, upd_ne sc.symm, upd_ne xc.symm, upd_same]
  · rw [upd_ne xs', upd_same]
  · intro d o nd e
    rw [upd_ne nd, upd_ne (ne_of_none e hsA), upd_ne nd, upd_ne (ne_of_none e hcA)]
    exact e
theorem sc_Great_init : FnScope ["self", "place"] ["self", "place"] (defScope (inClass (top 24) 0)) := ⟨rfl, rfl, rfl, by decide +kernel, rfl, by decide +kernel, by decide +kernel⟩
theorem ok_Great_init (T : Txt mg) (c : Cl K mg ca) (F : Fun K "__init__" "Great.__init__" (inClass (top 24) 0) f fd) : FnOk P w K mg base CX0 2 f fd ["self", "place"] (spMkG ca.Great) := by
  have S := sc_Great_init
  refine F.ok S (fun vs H Q E h => ?_) (fun cdv A outer s H vs Q E hr h => ?_)
  · obtain ⟨x, dx, p, rfl, _⟩ := h
    rfl
  obtain ⟨x, dx, p, rfl, hx, q⟩ := h
  refine ⟨_, (pss_one (ps_fld (pv 0) (pv 1) rfl)), ?_⟩
  try dsimp only [cxOf, Cx.nox, Cx.wish]
  walk_at "rd"
  refine ⟨x, _, dx, _, rfl, hx, c.y_Great.cl, c.n_Great_place, by decide, ?_⟩
  refine q _ _ upd_same rfl rfl ?_
  intro d o nd e
  rw [upd_ne nd]
  exact e
theorem sc_Least_init : FnScope ["self", "cuts", "number", "stretches"] ["self", "cuts", "number", "stretches"] (defScope (inClass (top 25) 0)) := ⟨rfl, rfl, rfl, by decide +kernel, rfl, by decide +kernel, by decide +kernel⟩
theorem ok_Least_init (T : Txt mg) (c : Cl K mg ca) (F : Fun K "__init__" "Least.__init__" (inClass (top 25) 0) f fd) : FnOk P w K mg base CX0 2 f fd ["self", "cuts", "number", "stretches"] (spMkL ca.Least) := by
  have S := sc_Least_init
  refine F.ok S (fun vs H Q E h => ?_) (fun cdv A outer s H vs Q E hr h => ?_)
  · obtain ⟨x, dx, a, b, cs, num, xs, rfl, _⟩ := h
    rfl
  obtain ⟨x, dx, a, b, cs, num, xs, rfl, hx, ha, hb, l1, l2, q⟩ := h
  refine ⟨_, (pss_cons (ps_fld (pv 0) (pe_callTy call_list' rfl T.b_list boot_list (pa_cons (pv 1) pa_nil)) rfl)
    (pss_cons (ps_fld (pv 0) (pv 2) rfl)
    (pss_one (ps_fld (pv 0) (pe_callTy call_list' rfl T.b_list boot_list (pa_cons (pv 3) pa_nil)) rfl)))), ?_⟩
  try dsimp only [cxOf, Cx.nox, Cx.wish]
  walk_at "rd"
  refine rd_listOf (SqL.of ha) fun cA hcA => ?_
  have xc : x ≠ cA := ne_of_none hx hcA
  walk_at "rd"
  refine ⟨x, _, dx, _, rfl, by rw [upd_ne xc]; exact hx, c.y_Least.cl, c.n_Least_cuts, by decide, ?_⟩
  walk_at "rd"
  refine ⟨x, _, dx, _, rfl, upd_same, c.y_Least.cl, c.n_Least_number, putF_s1, ?_⟩
  walk_at "rd"
  have nb1 : b ≠ x := ne_of hb hx (by intro z; cases z)
  refine rd_listOf (SqL.of (by rw [upd_ne nb1, upd_ne nb1, upd_ne (ne_of_none hb hcA)]; exact hb)) fun sA hsA => ?_
  have xs' : sA ≠ x := fun z => by rw [z, upd_same] at hsA; cases hsA
  rw [upd_ne xs', upd_ne xs'] at hsA
  have sc : sA ≠ cA := fun z => by rw [z, upd_same] at hsA; cases hsA
  rw [upd_ne sc] at hsA
  walk_at "rd"
  refine ⟨x, _, dx, _, rfl, by rw [upd_ne xs'.symm, upd_same], c.y_Least.cl, c.n_Least_stretches, putF_s2, ?_⟩
  refine q cA sA _ _ upd_same rfl rfl rfl ⟨rfl, rfl⟩ hcA hsA sc.symm ?_ ?_ ?_
  · rw [upd_ne xc.symm, upd_ne sc.symm, upd_ne xc.symm, upd_ne xc.symm, upd_same]
  · rw [upd_ne xs', upd_same]
  · intro d o nd e
    rw [upd_ne nd, upd_ne (ne_of_none e hsA), upd_ne nd, upd_ne nd, upd_ne (ne_of_none e hcA)]
    exact e
theorem sc_Most_init : FnScope ["self", "cuts", "places"] ["self", "cuts", "places"] (defScope (inClass (top 26) 0)) := ⟨rfl, rfl, rfl, by decide +kernel, rfl, by decide +kernel, by decide +kernel⟩
theorem ok_Most_init (T : Txt mg) (c : Cl K mg ca) (F : Fun K "__init__" "Most.__init__" (inClass (top 26) 0) f fd) : FnOk P w K mg base CX0 2 f fd ["self", "cuts", "places"] (spMkM ca.Most) := by
  have S := sc_Most_init
  refine F.ok S (fun vs H Q E h => ?_) (fun cdv A outer s H vs Q E hr h => ?_)
  · obtain ⟨x, dx, a, b, cs, pl, rfl, _⟩ := h
    rfl
  obtain ⟨x, dx, a, b, cs, pl, rfl, hx, ha, hb, l1, l2, q⟩ := h
  refine ⟨_, (pss_cons (ps_fld (pv 0) (pe_callTy call_list' rfl T.b_list boot_list (pa_cons (pv 1) pa_nil)) rfl)
    (pss_one (ps_fld (pv 0) (pe_callTy call_list' rfl T.b_list boot_list (pa_cons (pv 2) pa_nil)) rfl))), ?_⟩
  try dsimp only [cxOf, Cx.nox, Cx.wish]
  walk_at "rd"
  refine rd_listOf (SqL.of ha) fun cA hcA => ?_
  have xc : x ≠ cA := ne_of_none hx hcA
  walk_at "rd"
  refine ⟨x, _, dx, _, rfl, by rw [upd_ne xc]; exact hx, c.y_Most.cl, c.n_Most_cuts, by decide, ?_⟩
  walk_at "rd"
  have nb1 : b ≠ x := ne_of hb hx (by intro z; cases z)
  refine rd_listOf (SqL.of (by rw [upd_ne nb1, upd_ne (ne_of_none hb hcA)]; exact hb)) fun sA hsA => ?_
  have xs' : sA ≠ x := fun z => by rw [z, upd_same] at hsA; cases hsA
  rw [upd_ne xs'] at hsA
  have sc : sA ≠ cA := fun z => by rw [z, upd_same] at hsA; cases hsA
  rw [upd_ne sc] at hsA
  walk_at "rd"
  refine ⟨x, _, dx, _, rfl, by rw [upd_ne xs'.symm, upd_same], c.y_Most.cl, c.n_Most_places, putF_s1, ?_⟩
  refine q cA sA _ _ upd_same rfl rfl ⟨rfl, rfl⟩ hcA hsA sc.symm ?_ ?_ ?_
  · rw [upd_ne xc.symm, upd_ne sc.symm, upd_ne xc.symm, upd_same]
  · rw [upd_ne xs', upd_same]
  · intro d o nd e
    rw [upd_ne nd, upd_ne (ne_of_none e hsA), upd_ne nd, upd_ne (ne_of_none e hcA)]
    exact e
end
section
variable {P : Program} {w : World} {K : PySem.W.Frag} {mg : Str → Option Value} {base : Heap} {f : Addr} {fd : FuncData} {ca : CA}
theorem sc_needed_cuts : FnScope ["row", "bound", "cuts", "bears", "place", "load"] ["row", "bound"] (defScope (top 29)) := ⟨rfl, rfl, rfl, by decide +kernel, rfl, by decide +kernel, by decide +kernel⟩
theorem ok_needed_cuts (T : Txt mg)  (F : Fun K "needed_cuts" "needed_cuts" (top 29) f fd) : FnOk P w K mg base CX0 1 f fd ["row", "bound"] spNeeded := by
  have S := sc_needed_cuts
  refine F.ok S (fun vs H Q E h => ?_) (fun cdv A outer s H vs Q E hr h => ?_)
  · obtain ⟨a, ns, b, rfl, _⟩ := h
    rfl
  obtain ⟨a, ns, b, rfl, ha, hl, q⟩ := h
  refine ⟨_, (pss_cons (ps_set (i := 2) S.nd rfl (Or.inl rfl) (pe_lst pa_nil))
    (pss_cons (ps_set (i := 3) S.nd rfl (Or.inl rfl) pe_int)
    (pss_cons (ps_for PassesOwn.never rfl (pi_enum rfl T.b_enumerate (pa_cons (pv 0) pa_nil)) (pg_tup rfl (pgs_cons (pg_name (i := 4) S.nd rfl (Or.inl rfl)) (pgs_cons (pg_name (i := 5) S.nd rfl (Or.inl rfl)) pgs_nil)))
      (pss_cons (ps_set (i := 3) S.nd rfl (Or.inl rfl) (pe_op op_add (pv 3) (pv 5)))
      (pss_one (ps_if (pt_cmpR op_gt (pv 3) (pv 1) (nomark _))
        (pss_cons (ps_expr (pe_bm PySem.F.plainAttrs_list PySem.F.slot_list_append PySem.F.type_list_append mt_append (pv 2) (pa_cons (pv 4) pa_nil)))
        (pss_one (ps_set (i := 3) S.nd rfl (Or.inl rfl) (pv 5))))
        pss_nil))))
    (pss_one (ps_ret (pv 2)))))), ?_⟩
  try dsimp only [cxOf, Cx.nox, Cx.wish]
  walk_at "rd"
  refine ⟨Nat.zero_le _, fun r hr' => ?_⟩
  walk_at "rd"
  have nra : r ≠ a := fun z => by rw [z, ha] at hr'; cases hr'
  refine ⟨a, rfl, ⟨_, SqL.of (by rw [upd_ne nra.symm]; exact ha)⟩, for_enumF (K := K) (a := a) (k := 0) (xs := ns.map V.int)
    (fun i σ H2 => ∃ (acc : Int) (v1 v2 : Option V) (done : List Nat), σ = [some (.ref a), some (.int b), some (.ref r), some (.int acc), v1, v2] ∧ Same H H2 ∧ H2 r = some (.lst ((ic done).map V.int)) ∧ done.length ≤ i ∧ done ++ needFrom b i acc (ns.drop i) = needed b ns)
    ⟨0, none, none, [], rfl, same_new hr' _, upd_same, Nat.le_refl _, rfl⟩ (fun i σ H2 _ hh => ?_) ?_ ?_⟩
  · obtain ⟨_, _, _, _, _, sm, _⟩ := hh
    exact SqL.of (sm _ _ ha)
  · rintro i y p σ H2 hi hp ⟨acc, v1, v2, done, rfl, sm, hd, dl, eq⟩
    obtain ⟨z, rfl, hz⟩ := at_int hi
    have il : i < ns.length := lt_of_at hz
    have nrp : r ≠ p := fun z => by rw [z, hp] at hd; cases hd
    rw [drop_at hz] at eq
    simp only [needFrom] at eq
    refine ⟨_, _, rfl, SqT.of upd_same, rfl, _, _, rfl, _, _, rfl, rfl, ?_⟩
    walk_at "rd"
    refine ite2 (fun c => ?_) (fun c => ?_)
    · have c : b < acc + z := of_decide_eq_true c
      rw [if_pos c] at eq
      walk_at "rd"
      refine ⟨tyL (SqL.of (by rw [upd_ne nrp]; exact hd)), ?_⟩
      walk_at "rd"
      refine rd_append (xs := (ic done).map V.int) (by rw [upd_ne nrp]; exact hd) (by rw [List.length_map, ic_len]; exact small1000 (by omega)) ?_
      walk_at "rd"
      refine ⟨z, _, _, done ++ [i], rfl, fun d o z => ?_, ?_, ?_, ?_⟩
      · have z2 := sm d o z
        rw [upd_ne (ne_of_none z hr'), upd_ne (ne_of_none z2 hp)]
        exact z2
      · rw [upd_same, Int.zero_add]
        unfold ic
        rw [List.map_append, List.map_append]
        rfl
      · rw [List.length_append]
        show done.length + 1 ≤ i + 1
        omega
      · rw [← eq, List.append_assoc]
        rfl
    · have c : ¬ (b < acc + z) := of_decide_eq_false (Bool.eq_false_iff.mpr c)
      rw [if_neg c] at eq
      walk_at "rd"
      exact ⟨_, _, _, done, rfl, sm.trans (same_new hp _), by rw [upd_ne nrp]; exact hd, by omega, eq⟩
  · rintro σ H2 ⟨acc, v1, v2, done, rfl, sm, hd, dl, eq⟩
    rw [List.length_map, List.drop_eq_nil_of_le (Nat.le_refl _)] at eq
    simp only [needFrom, List.append_nil] at eq
    walk_at "rd"
    exact q r H2 sm hr' (by rw [hd, eq])
theorem sc_filling_places : FnScope ["row", "bound", "places", "bears", "place", "load"] ["row", "bound"] (defScope (top 35)) := ⟨rfl, rfl, rfl, by decide +kernel, rfl, by decide +kernel, by decide +kernel⟩
theorem ok_filling_places (T : Txt mg)  (F : Fun K "filling_places" "filling_places" (top 35) f fd) : FnOk P w K mg base CX0 1 f fd ["row", "bound"] spFilling := by
  have S := sc_filling_places
  refine F.ok S (fun vs H Q E h => ?_) (fun cdv A outer s H vs Q E hr h => ?_)
  · obtain ⟨a, ns, b, rfl, _⟩ := h
    rfl
  obtain ⟨a, ns, b, rfl, ha, hl, q⟩ := h
  refine ⟨_, (pss_cons (ps_set (i := 2) S.nd rfl (Or.inl rfl) (pe_lst pa_nil))
    (pss_cons (ps_set (i := 3) S.nd rfl (Or.inl rfl) pe_int)
    (pss_cons (ps_for PassesOwn.never rfl (pi_enum rfl T.b_enumerate (pa_cons (pv 0) pa_nil)) (pg_tup rfl (pgs_cons (pg_name (i := 4) S.nd rfl (Or.inl rfl)) (pgs_cons (pg_name (i := 5) S.nd rfl (Or.inl rfl)) pgs_nil)))
      (pss_cons (ps_set (i := 3) S.nd rfl (Or.inl rfl) (pe_op op_add (pv 3) (pv 5)))
      (pss_one (ps_if (pt_cmpR op_ge (pv 3) (pv 1) (nomark _))
        (pss_cons (ps_expr (pe_bm PySem.F.plainAttrs_list PySem.F.slot_list_append PySem.F.type_list_append mt_append (pv 2) (pa_cons (pv 4) pa_nil)))
        (pss_one (ps_set (i := 3) S.nd rfl (Or.inl rfl) pe_int)))
        pss_nil))))
    (pss_one (ps_ret (pv 2)))))), ?_⟩
  try dsimp only [cxOf, Cx.nox, Cx.wish]
  walk_at "rd"
  refine ⟨Nat.zero_le _, fun r hr' => ?_⟩
  walk_at "rd"
  have nra : r ≠ a := fun z => by rw [z, ha] at hr'; cases hr'
  refine ⟨a, rfl, ⟨_, SqL.of (by rw [upd_ne nra.symm]; exact ha)⟩, for_enumF (K := K) (a := a) (k := 0) (xs := ns.map V.int)
    (fun i σ H2 => ∃ (acc : Int) (v1 v2 : Option V) (done : List Nat), σ = [some (.ref a), some (.int b), some (.ref r), some (.int acc), v1, v2] ∧ Same H H2 ∧ H2 r = some (.lst ((ic done).map V.int)) ∧ done.length ≤ i ∧ done ++ fillFrom b i acc (ns.drop i) = filling b ns)
    ⟨0, none, none, [], rfl, same_new hr' _, upd_same, Nat.le_refl _, rfl⟩ (fun i σ H2 _ hh => ?_) ?_ ?_⟩
  · obtain ⟨_, _, _, _, _, sm, _⟩ := hh
    exact SqL.of (sm _ _ ha)
  · rintro i y p σ H2 hi hp ⟨acc, v1, v2, done, rfl, sm, hd, dl, eq⟩
    obtain ⟨z, rfl, hz⟩ := at_int hi
    have il : i < ns.length := lt_of_at hz
    have nrp : r ≠ p := fun z => by rw [z, hp] at hd; cases hd
    rw [drop_at hz] at eq
    simp only [fillFrom] at eq
    refine ⟨_, _, rfl, SqT.of upd_same, rfl, _, _, rfl, _, _, rfl, rfl, ?_⟩
    walk_at "rd"
    refine ite2 (fun c => ?_) (fun c => ?_)
    · have c : b ≤ acc + z := of_decide_eq_true c
      rw [if_pos c] at eq
      walk_at "rd"
      refine ⟨tyL (SqL.of (by rw [upd_ne nrp]; exact hd)), ?_⟩
      walk_at "rd"
      refine rd_append (xs := (ic done).map V.int) (by rw [upd_ne nrp]; exact hd) (by rw [List.length_map, ic_len]; exact small1000 (by omega)) ?_
      walk_at "rd"
      refine ⟨0, _, _, done ++ [i], rfl, fun d o z => ?_, ?_, ?_, ?_⟩
      · have z2 := sm d o z
        rw [upd_ne (ne_of_none z hr'), upd_ne (ne_of_none z2 hp)]
        exact z2
      · rw [upd_same, Int.zero_add]
        unfold ic
        rw [List.map_append, List.map_append]
        rfl
      · rw [List.length_append]
        show done.length + 1 ≤ i + 1
        omega
      · rw [← eq, List.append_assoc]
        rfl
    · have c : ¬ (b ≤ acc + z) := of_decide_eq_false (Bool.eq_false_iff.mpr c)
      rw [if_neg c] at eq
      walk_at "rd"
      exact ⟨_, _, _, done, rfl, sm.trans (same_new hp _), by rw [upd_ne nrp]; exact hd, by omega, eq⟩
  · rintro σ H2 ⟨acc, v1, v2, done, rfl, sm, hd, dl, eq⟩
    rw [List.length_map, List.drop_eq_nil_of_le (Nat.le_refl _)] at eq
    simp only [fillFrom, List.append_nil] at eq
    walk_at "rd"
    exact q r H2 sm hr' (by rw [hd, eq])
theorem sc_needing_stretches : FnScope ["cuts"] ["cuts"] (defScope (top 30)) := ⟨rfl, rfl, rfl, by decide +kernel, rfl, by decide +kernel, by decide +kernel⟩
theorem ok_needing_stretches (T : Txt mg)  (F : Fun K "needing_stretches" "needing_stretches" (top 30) f fd) : FnOk P w K mg base CX0 1 f fd ["cuts"] spNeeding := by
  have S := sc_needing_stretches
  refine F.ok S (fun vs H Q E h => ?_) (fun cdv A outer s H vs Q E hr h => ?_)
  · obtain ⟨a, cs, rfl, _⟩ := h
    rfl
  obtain ⟨a, cs, rfl, ha, hl, q⟩ := h
  refine ⟨_, (pss_one (ps_ret (pe_listZip rfl rfl T.b_list rfl T.b_zip (pa_cons (pe_op op_cat (pe_lst (pa_cons pe_int pa_nil)) (pv 0)) (pa_cons (pv 0) pa_nil))))), ?_⟩
  try dsimp only [cxOf, Cx.nox, Cx.wish]
  walk_at "rd"
  refine ⟨by show 1 ≤ sizeLine; decide, fun p hp => ?_⟩
  walk_at "rd"
  have npa : a ≠ p := ne_of_none ha hp
  refine rd_cat (xs := [.int 0]) (zs := (ic cs).map V.int) upd_same (by rw [upd_ne npa]; exact ha) (by rw [List.length_map, ic_len]; exact small (by simp; omega)) fun r hr => ?_
  have s1 : Same H (upd (upd H p (.lst [.int 0])) r (.lst ([.int 0] ++ (ic cs).map V.int))) := (same_new hp _).trans (same_new hr _)
  walk_at "rd"
  refine ⟨r, a, _, (ic cs).map V.int, rfl, SqL.of upd_same, SqL.of (s1 _ _ ha), fun l as H2 out fl hl' ln at_ => ?_⟩
  refine q l H2 (as.map V.ref) (s1.trans out) (s1.free fl) hl' (zipP_pairs cs 0 as ?_ fun j x y e => ?_)
  · rw [ln]
    simp [ic]
  · obtain ⟨p', e1, _, _, e2⟩ := at_ j x y e
    exact ⟨p', e1, e2⟩
theorem sc_first_above : FnScope ["row", "bound", "place", "load"] ["row", "bound"] (defScope (top 31)) := ⟨rfl, rfl, rfl, by decide +kernel, rfl, by decide +kernel, by decide +kernel⟩
theorem ok_first_above (T : Txt mg)  (F : Fun K "first_above" "first_above" (top 31) f fd) : FnOk P w K mg base CX0 1 f fd ["row", "bound"] spFirstAbove := by
  have S := sc_first_above
  refine F.ok S (fun vs H Q E h => ?_) (fun cdv A outer s H vs Q E hr h => ?_)
  · obtain ⟨a, ns, b, rfl, _⟩ := h
    rfl
  obtain ⟨a, ns, b, rfl, ha, q⟩ := h
  refine ⟨_, (pss_cons (ps_for PassesOwn.never rfl (pi_enum rfl T.b_enumerate (pa_cons (pv 0) pa_nil)) (pg_tup rfl (pgs_cons (pg_name (i := 2) S.nd rfl (Or.inl rfl)) (pgs_cons (pg_name (i := 3) S.nd rfl (Or.inl rfl)) pgs_nil)))
      (pss_one (ps_if (pt_cmpR op_gt (pv 3) (pv 1) (nomark _))
        (pss_one (ps_ret (pv 2)))
        pss_nil)))
    (pss_one (ps_ret pe_non))), ?_⟩
  try dsimp only [cxOf, Cx.nox, Cx.wish]
  have hS : SqL K H a (ns.map V.int) := SqL.of ha
  walk_at "rd"
  refine ⟨a, rfl, ⟨_, hS⟩, for_enumF (K := K) (a := a) (k := 0) (xs := ns.map V.int)
    (fun i σ H2 => ∃ (v1 v2 : Option V), σ = [some (.ref a), some (.int b), v1, v2] ∧ Same H H2 ∧ ∀ z ∈ ns.take i, z ≤ b)
    ⟨none, none, rfl, Same.refl H, fun z hz => (by simp at hz)⟩ (fun i σ H2 _ hh => ?_) ?_ ?_⟩
  · obtain ⟨_, _, _, sm, _⟩ := hh
    exact sm.seq hS
  · rintro i y p σ H2 hi hp ⟨v1, v2, rfl, sm, al⟩
    obtain ⟨z, rfl, hz⟩ := at_int hi
    refine ⟨_, _, rfl, SqT.of upd_same, rfl, _, _, rfl, _, _, rfl, rfl, ?_⟩
    walk_at "rd"
    refine ite2 (fun c => ?_) (fun c => ?_)
    · have c : b < z := of_decide_eq_true c
      walk_at "rd"
      rw [Int.zero_add]
      exact (q _ (sm.trans (same_new hp _))).1 i z hz c
    · have c : ¬ b < z := of_decide_eq_false (Bool.eq_false_iff.mpr c)
      walk_at "rd"
      refine ⟨_, _, rfl, sm.trans (same_new hp _), fun y hy => ?_⟩
      rw [List.take_add_one, hz] at hy
      rcases List.mem_append.mp hy with hy | hy
      · exact al y hy
      · have : y = z := by simpa using hy
        omega
  · rintro σ H2 ⟨v1, v2, rfl, sm, al⟩
    walk_at "rd"
    refine (q H2 sm).2 fun z hz => al z ?_
    rw [List.length_map, List.take_length]
    exact hz
theorem sc_least_number : FnScope ["row", "count", "greatest", "mean", "low", "high", "middle"] ["row", "count"] (defScope (top 33)) := ⟨rfl, rfl, rfl, by decide +kernel, rfl, by decide +kernel, by decide +kernel⟩
theorem ok_least_number (T : Txt mg) (C_needed_cuts : Callee P w K mg base "needed_cuts" ["row", "bound"] 1 spNeeded) (F : Fun K "least_number" "least_number" (top 33) f fd) : FnOk P w K mg base CX0 7 f fd ["row", "count"] spLeastNum := by
  have S := sc_least_number
  refine F.ok S (fun vs H Q E h => ?_) (fun cdv A outer s H vs Q E hr h => ?_)
  · obtain ⟨a, ns, k, rfl, _⟩ := h
    rfl
  obtain ⟨a, ns, k, rfl, ha, hl, hg, h1, q⟩ := h
  refine ⟨_, (pss_cons (ps_join (ps_set (i := 2) S.nd rfl (Or.inl rfl) (pe_maxD rfl rfl T.b_max (pa_cons (pv 0) pa_nil) pe_int)))
    (pss_cons (ps_set (i := 3) S.nd rfl (Or.inl rfl) (pe_un un_neg (pe_op op_fdiv (pe_un un_neg (pe_callB (call_sum' rfl) rfl T.b_sum boot_sum (pa_cons (pv 0) pa_nil))) (pv 1))))
    (pss_cons (ps_set (i := 4) S.nd rfl (Or.inl rfl) (pe_callB (call_max2' rfl) rfl T.b_max boot_max (pa_cons (pv 2) (pa_cons (pv 3) pa_nil))))
    (pss_cons (ps_set (i := 5) S.nd rfl (Or.inl rfl) (pe_op op_add (pv 2) (pv 3)))
    (pss_cons (ps_while PassesOwn.never (pt_cmpR op_lt (pv 4) (pv 5) (nomark _))
      (pss_cons (ps_set (i := 6) S.nd rfl (Or.inl rfl) (pe_op op_fdiv (pe_op op_add (pv 4) (pv 5)) pe_int))
      (pss_one (ps_if (pt_cmpR op_lt (pe_callB call_len' rfl T.b_len PySem.boot_len (pa_cons (pe_callC C_needed_cuts (hr.mono (by decide)) rfl (pa_cons (pv 0) (pa_cons (pv 6) pa_nil))) pa_nil)) (pv 1) (nomark _))
        (pss_one (ps_set (i := 5) S.nd rfl (Or.inl rfl) (pv 6)))
        (pss_one (ps_set (i := 4) S.nd rfl (Or.inl rfl) (pe_op op_add (pv 6) pe_int)))))))
    (pss_one (ps_ret (pv 4)))))))), ?_⟩
  try dsimp only [cxOf, Cx.nox, Cx.wish]
  have hS : SqL K H a (ns.map V.int) := SqL.of ha
  have sb := good_sum hg hl
  walk_at "rd"
  refine rd_joinF (fun σ H2 => ∃ M : Int, σ = [some (.ref a), some (.int k), some (.int M), none, none, none, none] ∧ H2 = H ∧ 0 ≤ M ∧ (∀ z ∈ ns, 0 ≤ z ∧ z ≤ M) ∧ (M = 0 ∨ M ∈ ns)) ?_ ?_
  · walk_at "rd"
    refine ⟨a, ns, 0, rfl, rfl, hS, fun e => ?_, fun ne M hM hle => ?_⟩
    · walk_at "rd"
      exact ⟨0, rfl, rfl, Int.le_refl _, fun z hz => (by rw [e] at hz; cases hz), .inl rfl⟩
    · walk_at "rd"
      exact ⟨M, rfl, rfl, (hg M hM).1, fun z hz => ⟨(hg z hz).1, hle z hz⟩, .inr hM⟩
  rintro σ' H' ⟨M, rfl, rfl, M0, hM, hMn⟩
  walk_at "rd"
  refine rd_I ⟨by omega, h1.2⟩ ?_
  walk_at "rd"
  generalize hm : -(-ns.sum / k) = m
  obtain ⟨f1, f2⟩ := ceil_facts (s := ns.sum) h1.1
  have m0 := ceil_nonneg h1.1 sb.1
  rw [hm] at f1 f2 m0
  generalize hlo : (if m > M then m else M) = lo0
  have lM : M ≤ lo0 ∧ m ≤ lo0 ∧ (lo0 = M ∨ (lo0 = m ∧ M < m)) := by
    rw [← hlo]
    split <;> omega
  refine while_byF (fun σ H2 => ∃ (lo hi : Int) (v : Option V), σ = [some (.ref a), some (.int k), some (.int M), some (.int m), some (.int lo), some (.int hi), v] ∧ Same H' H2 ∧ lo0 ≤ lo ∧ lo ≤ hi ∧ ((needed hi ns).length : Int) < k ∧ (lo = lo0 ∨ k ≤ ((needed (lo - 1) ns).length : Int))) mu2
    ⟨lo0, M + m, none, rfl, Same.refl _, Int.le_refl _, by omega, high_fits hM h1.1 m0 f1, .inl rfl⟩ ?_ ?_
  · rintro σ H2 ⟨lo, hi, v, rfl, sm, g1, g2, g3, g4⟩
    walk_at "rd"
    refine ite2 (fun c => ?_) (fun c => ?_)
    · have c : lo < hi := of_decide_eq_true c
      walk_at "rd"
      refine rd_I ⟨by decide, by decide⟩ ?_
      walk_at "rd"
      refine ⟨a, ns, _, rfl, sm _ _ ha, hl, fun r H3 s3 hr3 hd3 => ?_⟩
      walk_at "rd"
      refine rd_lenI (SqL.of hd3) ?_
      walk_at "rd"
      rw [ic_len]
      refine ite2 (fun c2 => ?_) (fun c2 => ?_)
      · have c2 := of_decide_eq_true c2
        walk_at "rd"
        refine ⟨⟨lo, _, _, rfl, sm.trans s3, g1, by omega, c2, g4⟩, ?_⟩
        show ((lo + hi) / 2 - lo).toNat < (hi - lo).toNat
        omega
      · have c2 := of_decide_eq_false (Bool.eq_false_iff.mpr c2)
        walk_at "rd"
        refine ⟨⟨_, hi, _, rfl, sm.trans s3, by omega, by omega, g3, .inr ?_⟩, ?_⟩
        · rw [show (lo + hi) / 2 + 1 - 1 = (lo + hi) / 2 by omega]
          omega
        · show (hi - ((lo + hi) / 2 + 1)).toNat < (hi - lo).toNat
          omega
    · have c : ¬ lo < hi := of_decide_eq_false (Bool.eq_false_iff.mpr c)
      have e : hi = lo := by omega
      subst e
      walk_at "rd"
      refine q H2 hi sm (by omega) (fun z hz => by have := hM z hz; omega) g3 ?_
      by_cases e1 : hi = M
      · rw [e1]
        rcases hMn with z | z
        · exact .inl z
        · exact .inr (.inl z)
      · refine .inr (.inr ⟨by omega, fun z hz => by have := hM z hz; omega, ?_⟩)
        rcases g4 with z | z
        · have e2 : hi = m := by omega
          rw [e2]
          exact mean_needs (fun z hz => by have := hM z hz; omega) (by omega) f2
        · exact z
  · rintro σ H2 Q1 Q2 hq ⟨v1, e1, v2, e2, i, j, e3, e4, b', e5, t⟩
    exact ⟨v1, e1, v2, e2, i, j, e3, e4, b', e5, hq _ _ t⟩
end
section
variable {P : Program} {w : World} {K : PySem.W.Frag} {mg : Str → Option Value} {base : Heap} {f : Addr} {fd : FuncData} {ca : CA}
theorem sc_borne : FnScope ["row", "cuts"] ["row", "cuts"] (defScope (top 19)) := ⟨rfl, rfl, rfl, by decide +kernel, rfl, by decide +kernel, by decide +kernel⟩
theorem ok_borne (T : Txt mg) (C_check_row : CalleeE P w K mg base "check_row" ["value"] 5 (spCheckRow7 ca)) (C_check_cuts : CalleeE P w K mg base "check_cuts" ["value", "row"] 5 (spCheckCuts7 ca)) (C_part_sums : Callee P w K mg base "part_sums" ["row", "cuts"] 1 (spPartSums K)) (F : Fun K "borne" "borne" (top 19) f fd) : FnOk P w K mg base (CXE P w) 9 f fd ["row", "cuts"] (spBorne7 ca) := by
  have S := sc_borne
  refine F.okE S (fun vs H Q E h => ?_) (fun cdv A outer s H vs Q E hr h => ?_)
  · rcases h with ⟨v, u, rfl, _⟩ | ⟨a, ns, u, rfl, _⟩ | ⟨a, b, ns, cs, rfl, _⟩ <;> rfl
  refine ⟨_, (pss_cons (ps_expr (pe_callE C_check_row (hr.mono (by decide)) passE rfl (pa_cons (pv 0) pa_nil)))
    (pss_cons (ps_expr (pe_callE C_check_cuts (hr.mono (by decide)) passE rfl (pa_cons (pv 1) (pa_cons (pv 0) pa_nil))))
    (pss_one (ps_ret (pe_callC C_part_sums (hr.mono (by decide)) rfl (pa_cons (pv 0) (pa_cons (pv 1) pa_nil))))))), ?_⟩
  try dsimp only [cxOf, Cx.nox, Cx.wish]
  rcases h with ⟨v, u, rfl, nr, hf⟩ | ⟨a, ns, u, rfl, ra, nn, hf⟩ | ⟨a, b, ns, cs, rfl, ha, hb, hl, hg, hri, q⟩
  · walk_at "rd"
    exact .inl ⟨v, rfl, nr, hf⟩
  · walk_at "rd"
    refine .inr ⟨a, ns, rfl, ra.1, ra.2.1, ra.2.2, ?_⟩
    walk_at "rd"
    exact .inl ⟨u, a, ns, rfl, ra, nn, hf⟩
  · walk_at "rd"
    refine .inr ⟨a, ns, rfl, ha, hl, hg, ?_⟩
    walk_at "rd"
    refine .inr ⟨b, a, ns, cs, rfl, ha, hb, rising_len7 hri hl, hri, ?_⟩
    walk_at "rd"
    exact ⟨a, b, ns, cs, rfl, SqL.of ha, hb, hl, hri, q⟩
theorem sc_halved : FnScope ["row", "whole", "ahead", "best", "least", "place", "load", "apart"] ["row"] (defScope (top 20)) := ⟨rfl, rfl, rfl, by decide +kernel, rfl, by decide +kernel, by decide +kernel⟩
theorem ok_halved (T : Txt mg) (C_check_row : CalleeE P w K mg base "check_row" ["value"] 5 (spCheckRow7 ca)) (F : Fun K "halved" "halved" (top 20) f fd) : FnOk P w K mg base (CXE P w) 9 f fd ["row"] (spHalved7 ca) := by
  have S := sc_halved
  refine F.okE S (fun vs H Q E h => ?_) (fun cdv A outer s H vs Q E hr h => ?_)
  · rcases h with ⟨v, u, rfl, _⟩ | ⟨a, ns, rfl, _⟩ <;> rfl
  refine ⟨_, (pss_cons (ps_expr (pe_callE C_check_row (hr.mono (by decide)) passE rfl (pa_cons (pv 0) pa_nil)))
    (pss_cons (ps_set (i := 1) S.nd rfl (Or.inl rfl) (pe_callB (call_sum' rfl) rfl T.b_sum boot_sum (pa_cons (pv 0) pa_nil)))
    (pss_cons (ps_set (i := 2) S.nd rfl (Or.inl rfl) pe_int)
    (pss_cons (ps_set (i := 3) S.nd rfl (Or.inl rfl) pe_int)
    (pss_cons (ps_set (i := 4) S.nd rfl (Or.inl rfl) (pv 1))
    (pss_cons (ps_for passOwnE rfl (pi_enumS rfl T.b_enumerate (pa_cons (pv 0) pa_nil) pe_int) (pg_tup rfl (pgs_cons (pg_name (i := 5) S.nd rfl (Or.inl rfl)) (pgs_cons (pg_name (i := 6) S.nd rfl (Or.inl rfl)) pgs_nil)))
      (pss_cons (ps_set (i := 2) S.nd rfl (Or.inl rfl) (pe_op op_add (pv 2) (pv 6)))
      (pss_cons (ps_set (i := 7) S.nd rfl (Or.inl rfl) (pe_callB call_abs' rfl T.b_abs boot_abs (pa_cons (pe_op op_sub (pv 1) (pe_op op_mul pe_int (pv 2))) pa_nil)))
      (pss_one (ps_if (pt_cmpR op_lt (pv 7) (pv 4) (nomark _))
        (pss_cons (ps_set (i := 3) S.nd rfl (Or.inl rfl) (pv 5))
        (pss_one (ps_set (i := 4) S.nd rfl (Or.inl rfl) (pv 7))))
        pss_nil)))))
    (pss_one (ps_ret (pv 3))))))))), ?_⟩
  try dsimp only [cxOf, Cx.nox, Cx.wish]
  rcases h with ⟨v, u, rfl, nr, hf⟩ | ⟨a, ns, rfl, ha, hl, hg, q⟩
  · walk_at "rd"
    exact .inl ⟨v, rfl, nr, hf⟩
  · have hS : SqL K H a (ns.map V.int) := SqL.of ha
    walk_at "rd"
    refine .inr ⟨a, ns, rfl, ha, hl, hg, ?_⟩
    walk_at "rd"
    refine ⟨a, 1, rfl, rfl, ⟨_, hS⟩, by decide, by decide, for_enumF (K := K) (a := a) (k := 1) (xs := ns.map V.int)
      (fun i σ H2 => ∃ (ah be le : Int) (v1 v2 v3 : Option V), σ = [some (.ref a), some (.int ns.sum), some (.int ah), some (.int be), some (.int le), v1, v2, v3] ∧ Same H H2 ∧ evenest ns.sum i (ns.drop i) ah le be = evenest ns.sum 0 ns 0 ns.sum 0)
      ⟨0, 0, ns.sum, none, none, none, rfl, Same.refl H, rfl⟩ (fun i σ H2 _ hh => ?_) ?_ ?_⟩
    · obtain ⟨_, _, _, _, _, _, _, sm, _⟩ := hh
      exact sm.seq hS
    · rintro i y p σ H2 hi hp ⟨ah, be, le, v1, v2, v3, rfl, sm, eq⟩
      obtain ⟨z, rfl, hz⟩ := at_int hi
      have il : i < ns.length := lt_of_at hz
      refine ⟨_, _, rfl, SqT.of upd_same, rfl, _, _, rfl, _, _, rfl, rfl, ?_⟩
      walk_at "rd"
      refine rd_I (.inl ⟨by decide, by decide⟩) ?_
      walk_at "rd"
      rw [drop_at hz] at eq
      simp only [evenest] at eq
      refine ite2 (fun c => ?_) (fun c => ?_)
      · have c := of_decide_eq_true c
        rw [if_pos c] at eq
        walk_at "rd"
        refine ⟨_, _, _, _, _, _, rfl, sm.trans (same_new hp _), ?_⟩
        rw [← eq]
        congr 1
        omega
      · have c := of_decide_eq_false (Bool.eq_false_iff.mpr c)
        rw [if_neg c] at eq
        walk_at "rd"
        exact ⟨_, _, _, _, _, _, rfl, sm.trans (same_new hp _), eq⟩
    · rintro σ H2 ⟨ah, be, le, v1, v2, v3, rfl, sm, eq⟩
      rw [List.length_map, List.drop_eq_nil_of_le (Nat.le_refl _)] at eq
      walk_at "rd"
      have := q H2 sm
      rw [← eq] at this
      exact this
theorem sc_written : FnScope ["row", "cuts", "parts", "start", "cut"] ["row", "cuts"] (defScope (top 41)) := ⟨rfl, rfl, rfl, by decide +kernel, rfl, by decide +kernel, by decide +kernel⟩
theorem ok_written (T : Txt mg) (C_check_row : CalleeE P w K mg base "check_row" ["value"] 5 (spCheckRow7 ca)) (C_check_cuts : CalleeE P w K mg base "check_cuts" ["value", "row"] 5 (spCheckCuts7 ca)) (F : Fun K "written" "written" (top 41) f fd) : FnOk P w K mg base (CXE P w) 9 f fd ["row", "cuts"] (spWritten7 ca) := by
  have S := sc_written
  refine F.okE S (fun vs H Q E h => ?_) (fun cdv A outer s H vs Q E hr h => ?_)
  · rcases h with ⟨v, u, rfl, _⟩ | ⟨a, ns, u, rfl, _⟩ <;> rfl
  refine ⟨_, (pss_cons (ps_expr (pe_callE C_check_row (hr.mono (by decide)) passE rfl (pa_cons (pv 0) pa_nil)))
    (pss_cons (ps_expr (pe_callE C_check_cuts (hr.mono (by decide)) passE rfl (pa_cons (pv 1) (pa_cons (pv 0) pa_nil))))
    (pss_cons ps_never
    (pss_cons ps_never
    (pss_cons ps_never
    (pss_cons ps_never
    (pss_one ps_never))))))), ?_⟩
  try dsimp only [cxOf, Cx.nox, Cx.wish]
  rcases h with ⟨v, u, rfl, nr, hf⟩ | ⟨a, ns, u, rfl, ra, nn, hf⟩
  · walk_at "rd"
    exact .inl ⟨v, rfl, nr, hf⟩
  · walk_at "rd"
    refine .inr ⟨a, ns, rfl, ra.1, ra.2.1, ra.2.2, ?_⟩
    walk_at "rd"
    exact .inl ⟨u, a, ns, rfl, ra, nn, hf⟩
theorem sc_fewest : FnScope ["row", "bound", "place", "cuts"] ["row", "bound"] (defScope (top 32)) := ⟨rfl, rfl, rfl, by decide +kernel, rfl, by decide +kernel, by decide +kernel⟩
theorem ok_fewest (T : Txt mg) (c : Cl K mg ca) (C_check_row : CalleeE P w K mg base "check_row" ["value"] 5 (spCheckRow7 ca)) (C_check_number : CalleeE P w K mg base "check_number" ["value", "least"] 3 (spCheckNum7 ca)) (C_first_above : Callee P w K mg base "first_above" ["row", "bound"] 1 spFirstAbove) (C_needed_cuts : Callee P w K mg base "needed_cuts" ["row", "bound"] 1 spNeeded) (C_needing_stretches : Callee P w K mg base "needing_stretches" ["cuts"] 1 spNeeding) (M_Fewest : MakeC P w K mg base "Fewest" ca.Fewest ["self", "cuts", "stretches"] 2 (spMkF ca.Fewest)) (M_Great : MakeC P w K mg base "Great" ca.Great ["self", "place"] 2 (spMkG ca.Great)) (F : Fun K "fewest" "fewest" (top 32) f fd) : FnOk P w K mg base (CXE P w) 9 f fd ["row", "bound"] (spFewest7 ca) := by
  have S := sc_fewest
  refine F.okE S (fun vs H Q E h => ?_) (fun cdv A outer s H vs Q E hr h => ?_)
  · rcases h with ⟨v, u, rfl, _⟩ | ⟨a, ns, u, rfl, _⟩ | ⟨a, ns, b, rfl, _⟩ <;> rfl
  refine ⟨_, (pss_cons (ps_expr (pe_callE C_check_row (hr.mono (by decide)) passE rfl (pa_cons (pv 0) pa_nil)))
    (pss_cons (ps_expr (pe_callE C_check_number (hr.mono (by decide)) passE rfl (pa_cons (pv 1) (pa_cons pe_int pa_nil))))
    (pss_cons (ps_set (i := 2) S.nd rfl (Or.inl rfl) (pe_callC C_first_above (hr.mono (by decide)) rfl (pa_cons (pv 0) (pa_cons (pv 1) pa_nil))))
    (pss_cons (ps_if (pt_cmpR op_notN (pv 2) pe_non (nomark _))
      (pss_one (ps_ret (pe_makeC M_Great (hr.mono (by decide)) rfl (pa_cons (pv 2) pa_nil))))
      pss_nil)
    (pss_cons (ps_set (i := 3) S.nd rfl (Or.inl rfl) (pe_callC C_needed_cuts (hr.mono (by decide)) rfl (pa_cons (pv 0) (pa_cons (pv 1) pa_nil))))
    (pss_one (ps_ret (pe_makeC M_Fewest (hr.mono (by decide)) rfl (pa_cons (pv 3) (pa_cons (pe_callC C_needing_stretches (hr.mono (by decide)) rfl (pa_cons (pv 3) pa_nil)) pa_nil)))))))))), ?_⟩
  try dsimp only [cxOf, Cx.nox, Cx.wish]
  rcases h with ⟨v, u, rfl, nr, hf⟩ | ⟨a, ns, u, rfl, ra, nn, hf⟩ | ⟨a, ns, b, rfl, ha, hl, hg, h0, q⟩
  · walk_at "rd"
    exact .inl ⟨v, rfl, nr, hf⟩
  · walk_at "rd"
    refine .inr ⟨a, ns, rfl, ra.1, ra.2.1, ra.2.2, ?_⟩
    walk_at "rd"
    exact .inl ⟨u, 0, rfl, .inl rfl, nn, hf⟩
  · walk_at "rd"
    refine .inr ⟨a, ns, rfl, ha, hl, hg, ?_⟩
    walk_at "rd"
    refine .inr ⟨b, 0, rfl, h0, ?_⟩
    walk_at "rd"
    refine ⟨a, ns, b, rfl, ha, fun H1 s1 => ⟨fun p z hp hz => ?_, fun hall => ?_⟩⟩
    · walk_at "rd"
      refine ⟨rfl, ?_⟩
      rw [decide_eq_false (by intro z; cases z)]
      walk_at "rr"
      intro x dx hx hdx ne
      refine mkG_use hx hdx fun H2 s2 ga => ?_
      refine q x H2 (s1.trans s2) (s1.free hx) (.inr ⟨p, ga, ?_⟩)
      have pl := lt_of_at hp
      unfold dueG
      rw [decide_eq_true (by omega), decide_eq_true (by omega), Int.toNat_natCast, List.getD_eq_getElem?_getD, hp]
      exact decide_eq_true hz
    · walk_at "rd"
      refine ⟨rfl, ?_⟩
      rw [decide_eq_true rfl]
      walk_at "rr"
      refine ⟨a, ns, b, rfl, s1 _ _ ha, hl, fun r H2 s2 hr2 hd2 => ?_⟩
      have nl := needed_len h0 hall
      walk_at "rd"
      refine ⟨r, needed b ns, rfl, hd2, by omega, fun r2 H3 xs s3 hr3 hd3 hp3 => ?_⟩
      walk_at "rd"
      intro x dx hx hdx ne
      have xl := hp3.len
      rw [zipP_len] at xl
      refine mkF_use hx hdx (s3 _ _ hd2) hd3 hp3 (by rw [ic_len]; omega) (by omega) fun cA sA H4 s4 fa n1 n2 n3 => ?_
      have s13 := s1.trans (s2.trans s3)
      exact q x H4 (s13.trans s4) (s13.free hx) (.inl ⟨cA, sA, _, xs, _, fa, s13.free n1, s13.free n2, n3, fewest_due h0 hall⟩)
theorem sc_lowest : FnScope ["row", "count", "number", "stretches"] ["row", "count"] (defScope (top 34)) := ⟨rfl, rfl, rfl, by decide +kernel, rfl, by decide +kernel, by decide +kernel⟩
theorem ok_lowest (T : Txt mg) (c : Cl K mg ca) (C_check_row : CalleeE P w K mg base "check_row" ["value"] 5 (spCheckRow7 ca)) (C_check_number : CalleeE P w K mg base "check_number" ["value", "least"] 3 (spCheckNum7 ca)) (C_least_number : Callee P w K mg base "least_number" ["row", "count"] 7 spLeastNum) (C_needed_cuts : Callee P w K mg base "needed_cuts" ["row", "bound"] 1 spNeeded) (C_needing_stretches : Callee P w K mg base "needing_stretches" ["cuts"] 1 spNeeding) (M_Least : MakeC P w K mg base "Least" ca.Least ["self", "cuts", "number", "stretches"] 2 (spMkL ca.Least)) (F : Fun K "lowest" "lowest" (top 34) f fd) : FnOk P w K mg base (CXE P w) 9 f fd ["row", "count"] (spLowest7 ca) := by
  have S := sc_lowest
  refine F.okE S (fun vs H Q E h => ?_) (fun cdv A outer s H vs Q E hr h => ?_)
  · rcases h with ⟨v, u, rfl, _⟩ | ⟨a, ns, u, rfl, _⟩ | ⟨a, ns, k, rfl, _⟩ <;> rfl
  refine ⟨_, (pss_cons (ps_expr (pe_callE C_check_row (hr.mono (by decide)) passE rfl (pa_cons (pv 0) pa_nil)))
    (pss_cons (ps_expr (pe_callE C_check_number (hr.mono (by decide)) passE rfl (pa_cons (pv 1) (pa_cons pe_int pa_nil))))
    (pss_cons (ps_set (i := 2) S.nd rfl (Or.inl rfl) (pe_callC C_least_number (hr.mono (by decide)) rfl (pa_cons (pv 0) (pa_cons (pv 1) pa_nil))))
    (pss_cons (ps_set (i := 3) S.nd rfl (Or.inl rfl) (pe_lst pa_nil))
    (pss_cons (ps_join (ps_if (PW.pt (pw_and (pt_cmpR op_gt (pv 2) pe_int (nomark _)) (pw_and1 (pt_cmpR op_notIn_seq (pv 2) (pv 0) (by with_unfolding_all rfl)))))
      (pss_one (ps_set (i := 3) S.nd rfl (Or.inl rfl) (pe_slice sl_list (pe_callC C_needing_stretches (hr.mono (by decide)) rfl (pa_cons (pe_callC C_needed_cuts (hr.mono (by decide)) rfl (pa_cons (pv 0) (pa_cons (pe_op op_sub (pv 2) pe_int) pa_nil))) pa_nil)) po_none (po_some (pv 1)))))
      pss_nil))
    (pss_one (ps_ret (pe_makeC M_Least (hr.mono (by decide)) rfl (pa_cons (pe_callC C_needed_cuts (hr.mono (by decide)) rfl (pa_cons (pv 0) (pa_cons (pv 2) pa_nil))) (pa_cons (pv 2) (pa_cons (pv 3) pa_nil))))))))))), ?_⟩
  try dsimp only [cxOf, Cx.nox, Cx.wish]
  rcases h with ⟨v, u, rfl, nr, hf⟩ | ⟨a, ns, u, rfl, ra, nn, hf⟩ | ⟨a, ns, k, rfl, ha, hl, hg, h1, q⟩
  · walk_at "rd"
    exact .inl ⟨v, rfl, nr, hf⟩
  · walk_at "rd"
    refine .inr ⟨a, ns, rfl, ra.1, ra.2.1, ra.2.2, ?_⟩
    walk_at "rd"
    exact .inl ⟨u, 1, rfl, .inr rfl, nn, hf⟩
  · walk_at "rd"
    refine .inr ⟨a, ns, rfl, ha, hl, hg, ?_⟩
    walk_at "rd"
    refine .inr ⟨k, 1, rfl, h1.1, ?_⟩
    walk_at "rd"
    refine ⟨a, ns, k, rfl, ha, hl, hg, h1, fun H1 num s1 n0 hz hk hn => ?_⟩
    walk_at "rd"
    refine ⟨Nat.zero_le _, fun sA0 hs0 => ?_⟩
    have s2 : Same H (upd H1 sA0 (.lst [])) := s1.trans (same_new hs0 _)
    walk_at "rd"
    refine rd_joinF (fun σ H2 => ∃ (sA : Addr) (xs : List V) (ps : List (Int × Int)), σ = [some (.ref a), some (.int k), some (.int num), some (.ref sA)] ∧ Same H H2 ∧ H2 sA = some (.lst xs) ∧ PairsT H2 xs ps ∧ ps.length ≤ 100 ∧ (num = 0 ∨ num ∈ ns ∨ ((ps.length : Int) = k ∧ linkedB ns num 0 ps = true))) ?_ ?_
    · walk_at "rd"
      by_cases c1 : 0 < num
      · rw [decide_eq_true (show num > 0 from c1)]
        walk_at "rd"
        refine rd_notInI (SqL.of (s2 _ _ ha)) ?_
        walk_at "rd"
        by_cases c2 : num ∈ ns
        · rw [decide_eq_true c2]
          walk_at "rr"
          exact ⟨sA0, [], [], rfl, s2, upd_same, trivial, by decide, .inr (.inl c2)⟩
        · rw [decide_eq_false c2]
          have hn : 1 ≤ num ∧ (∀ z ∈ ns, z ≤ num - 1) ∧ k ≤ ((needed (num - 1) ns).length : Int) := by
            rcases hn with z | z | z
            · omega
            · exact absurd z c2
            · exact z
          walk_at "rr"
          refine ⟨a, ns, _, rfl, s2 _ _ ha, hl, fun r H3 s3 hr3 hd3 => ?_⟩
          have nl := needed_len (show 0 ≤ num - 1 by omega) hn.2.1
          walk_at "rd"
          refine ⟨r, _, rfl, hd3, by omega, fun r2 H4 xs s4 hr4 hd4 hp4 => ?_⟩
          have xl := hp4.len
          rw [zipP_len] at xl
          walk_at "rd"
          refine rd_slL (SqL.of hd4) fun p hp => ?_
          walk_at "rd"
          have s14 := s2.trans (s3.trans (s4.trans (same_new hp (.lst (cutV xs none (some k))))))
          refine ⟨p, xs.take k.toNat, (zipP 0 (needed (num - 1) ns)).take k.toNat, rfl, s14, ?_, (hp4.same (same_new hp _)).take _, ?_, .inr (.inr ⟨?_, ?_⟩)⟩
          · rw [upd_same, cut_to xs (by omega) (by omega)]
          · rw [List.length_take, zipP_len]
            omega
          · rw [List.length_take, zipP_len]
            omega
          · have := (needed_good (show 0 ≤ num - 1 by omega) hn.2.1).2.2
            rw [show num - 1 + 1 = num by omega] at this
            exact linked_take _ this
      · rw [decide_eq_false (show ¬ num > 0 from c1)]
        walk_at "rr"
        exact ⟨sA0, [], [], rfl, s2, upd_same, trivial, by decide, .inl (by omega)⟩
    rintro σ' H2 ⟨sA, xs, ps, rfl, s3, hs, hp, lp, hn'⟩
    walk_at "rd"
    refine ⟨a, ns, num, rfl, s3 _ _ ha, hl, fun r H4 s4 hr4 hd4 => ?_⟩
    have nl := needed_len n0 hz
    walk_at "rd"
    intro x dx hx hdx ne
    have xl := hp.len
    have s14 := s3.trans s4
    refine mkL_use hx hdx hd4 (s4 _ _ hs) (hp.same s4) (by rw [ic_len]; omega) (by omega) fun cA sA' H5 s5 fa n1 n2 n3 => ?_
    exact q x H5 cA sA' _ num xs ps (s14.trans s5) (s14.free hx) fa (s14.free n1) (s14.free n2) n3 lp (lowest_due n0 hz hk hn')
theorem sc_fullest : FnScope ["row", "bound", "places"] ["row", "bound"] (defScope (top 36)) := ⟨rfl, rfl, rfl, by decide +kernel, rfl, by decide +kernel, by decide +kernel⟩
theorem ok_fullest (T : Txt mg) (c : Cl K mg ca) (C_check_row : CalleeE P w K mg base "check_row" ["value"] 5 (spCheckRow7 ca)) (C_check_number : CalleeE P w K mg base "check_number" ["value", "least"] 3 (spCheckNum7 ca)) (C_filling_places : Callee P w K mg base "filling_places" ["row", "bound"] 1 spFilling) (M_Most : MakeC P w K mg base "Most" ca.Most ["self", "cuts", "places"] 2 (spMkM ca.Most)) (F : Fun K "fullest" "fullest" (top 36) f fd) : FnOk P w K mg base (CXE P w) 9 f fd ["row", "bound"] (spFullest7 ca) := by
  have S := sc_fullest
  refine F.okE S (fun vs H Q E h => ?_) (fun cdv A outer s H vs Q E hr h => ?_)
  · rcases h with ⟨v, u, rfl, _⟩ | ⟨a, ns, u, rfl, _⟩ | ⟨a, ns, b, rfl, _⟩ <;> rfl
  refine ⟨_, (pss_cons (ps_expr (pe_callE C_check_row (hr.mono (by decide)) passE rfl (pa_cons (pv 0) pa_nil)))
    (pss_cons (ps_expr (pe_callE C_check_number (hr.mono (by decide)) passE rfl (pa_cons (pv 1) (pa_cons pe_int pa_nil))))
    (pss_cons (ps_set (i := 2) S.nd rfl (Or.inl rfl) (pe_callC C_filling_places (hr.mono (by decide)) rfl (pa_cons (pv 0) (pa_cons (pv 1) pa_nil))))
    (pss_one (ps_ret (pe_makeC M_Most (hr.mono (by decide)) rfl (pa_cons (pe_comp rfl rfl (by decide +kernel) (by decide +kernel) rfl (fr := []) (by decide +kernel) .nil (by decide +kernel) (pi_list (pe_slice sl_list (pv 2) po_none (po_some (pe_un un_neg pe_int)))) (fun _ _ _ _ _ => pf_nil) (fun _ _ _ _ _ => (pe_op op_add (pv 0) pe_int))) (pa_cons (pv 2) pa_nil)))))))), ?_⟩
  try dsimp only [cxOf, Cx.nox, Cx.wish]
  rcases h with ⟨v, u, rfl, nr, hf⟩ | ⟨a, ns, u, rfl, ra, nn, hf⟩ | ⟨a, ns, b, rfl, ha, hl, hg, h1, q⟩
  · walk_at "rd"
    exact .inl ⟨v, rfl, nr, hf⟩
  · walk_at "rd"
    refine .inr ⟨a, ns, rfl, ra.1, ra.2.1, ra.2.2, ?_⟩
    walk_at "rd"
    exact .inl ⟨u, 1, rfl, .inr rfl, nn, hf⟩
  · walk_at "rd"
    refine .inr ⟨a, ns, rfl, ha, hl, hg, ?_⟩
    walk_at "rd"
    refine .inr ⟨b, 1, rfl, h1, ?_⟩
    walk_at "rd"
    refine ⟨a, ns, b, rfl, ha, hl, fun r H1 s1 hr1 hd1 => ?_⟩
    walk_at "rd"
    refine rd_slL (SqL.of hd1) fun p hp => ?_
    rw [cut_last]
    have fl : (filling b ns).length ≤ 63 := by
      have := (fill_good (row := ns) h1 (fun x hx => (hg x hx).1) ns 0 0 0 rfl (Nat.le_refl _) (by simp) (by omega)).1.len (Nat.zero_le _)
      have : (filling b ns).length ≤ ns.length := this
      omega
    have s2 := s1.trans (same_new hp (.lst ((ic (filling b ns)).map V.int).dropLast))
    refine ⟨p, rfl, ⟨_, SqL.of upd_same⟩, fun D hD => comp_list plus1 (SqL.of upd_same) hD (by rw [List.length_dropLast, List.length_map, ic_len]; omega) (fun i y H2 Q' hi sm q' => ?_) ?_⟩
    · have hy := (List.dropLast_sublist _).subset (List.mem_of_getElem? hi)
      obtain ⟨z, _, rfl⟩ := List.mem_map.mp hy
      walk_at "rd"
      exact q'
    rw [icCuts]
    have s3 := s2.trans (same_new hD (.lst ((ic (cutsOf (filling b ns))).map V.int)))
    walk_at "rd"
    intro x dx hx hdx ne
    have cl : (cutsOf (filling b ns)).length ≤ 63 := by
      by_cases z : filling b ns = []
      · rw [z]; decide
      · have := cutsOf_len z
        omega
    refine mkM_use hx hdx (cs := ic (cutsOf (filling b ns))) (pl := ic (filling b ns)) upd_same ?_ (by rw [ic_len]; omega) (by rw [ic_len]; omega) fun cA sA H5 s5 fa n1 n2 n3 => ?_
    · exact (same_new hD _) _ _ ((same_new hp _) _ _ hd1)
    exact q x H5 cA sA _ _ (s3.trans s5) (s3.free hx) fa (s3.free n1) (s3.free n2) n3 (fullest_due h1 fun x hx => (hg x hx).1)
end
def hide (H : Hp) (r : Addr) : Hp := fun b => if b = r then none else H b
theorem hide_same (H : Hp) (r : Addr) : Same (hide H r) H := fun b o e => by
  unfold hide at e
  split at e
  · cases e
  · exact e
theorem hide_upd (H : Hp) (r : Addr) (o : HO) : hide (upd H r o) r = hide H r := by
  funext b
  unfold hide
  split
  · rfl
  · rename_i h; exact upd_ne h
theorem hide_new {H : Hp} {r : Addr} (h : H r = none) : hide H r = H := by
  funext b
  unfold hide
  split
  · rename_i e; rw [e, h]
  · rfl
theorem hide_more {H H' : Hp} (r : Addr) (s : Same H H') : Same (hide H r) (hide H' r) := fun b o e => by
  unfold hide at e ⊢
  split at e
  · cases e
  · rename_i h; rw [if_neg h]; exact s b o e
theorem things1 {H : Hp} {p : Addr} {x : V} {n : String} (h : H p = some (.lst [x])) (t : Thing H x n) : Things H (.ref p) [x] :=
  ⟨p, rfl, h, by simp, fun y hy => by rw [List.mem_singleton.mp hy]; exact ⟨n, t⟩⟩
theorem notRow1 {H : Hp} {p : Addr} {x : V} {n : String} (h : H p = some (.lst [x])) (t : Thing H x n) (b : loadV x = false) : NotRow H (.ref p) := .inr ⟨[x], things1 h t, x, List.mem_singleton.mpr rfl, b⟩
theorem notCuts1 {H : Hp} {p : Addr} {x : V} {n : String} {m : Nat} (h : H p = some (.lst [x])) (t : Thing H x n) (b : risesV m 0 [x] = false) : NotCuts m H (.ref p) := .inr ⟨[x], things1 h t, b⟩
theorem notCuts2 {H : Hp} {p : Addr} {x y : Int} {m : Nat} (h : H p = some (.lst [.int x, .int y])) (b : y ≤ x) : NotCuts m H (.ref p) :=
  .inr ⟨_, ⟨p, rfl, h, by simp, fun z hz => by
    simp only [List.mem_cons, List.not_mem_nil, or_false] at hz
    rcases hz with rfl | rfl
    · exact ⟨_, .int x⟩
    · exact ⟨_, .int y⟩⟩, by
      simp only [risesV]
      rw [decide_eq_false (show ¬ x < y by omega)]
      simp⟩
theorem load_no {i : Int} (h : i < 0 ∨ 1000000 < i) : loadV (.int i) = false := by
  show (decide (0 ≤ i) && decide (i ≤ 1000000)) = false
  rcases h with h | h
  · rw [decide_eq_false (show ¬ 0 ≤ i by omega)]; rfl
  · rw [decide_eq_false (show ¬ i ≤ 1000000 by omega)]; exact Bool.and_false _
theorem rise_no {i : Int} {m : Nat} (h : i ≤ 0 ∨ (m : Int) ≤ i) : risesV m 0 [.int i] = false := by
  simp only [risesV]
  rcases h with h | h
  · rw [decide_eq_false (show ¬ 0 < i by omega)]; rfl
  · rw [decide_eq_false (show ¬ i < (m : Int) by omega)]; simp
def g3 : List Int := [1000000, 1000000, 1000000]
theorem good3 : Good g3 := by
  intro x hx
  simp only [g3, List.mem_cons, List.not_mem_nil, or_false] at hx
  omega
theorem lawParts_sum (cs : List Nat) : ∀ (xs : List Int) (p : Nat) (s : Int), (lawParts cs p xs s).sum = s + xs.sum
  | [], _, s => by simp [lawParts]
  | x :: xs, p, s => by
    unfold lawParts
    split
    · rw [List.sum_cons, lawParts_sum cs xs, List.sum_cons]
    · rw [lawParts_sum cs xs, List.sum_cons]; omega
theorem borne3 (cs : List Nat) : (lawBorne g3 cs).sum = 3000000 := by
  unfold lawBorne
  rw [if_neg (by decide), lawParts_sum]
  rfl
theorem sum_le0 : ∀ {xs : List Int}, (∀ x ∈ xs, x ≤ 0) → xs.sum ≤ 0
  | [], _ => by simp
  | x :: xs, h => by
    have h1 := h x (List.mem_cons_self ..)
    have h2 := sum_le0 (xs := xs) fun y hy => h y (List.mem_cons_of_mem _ hy)
    rw [List.sum_cons]; omega
theorem sum_ge {b : Int} (hb : 0 ≤ b) : ∀ {xs : List Int}, (∀ x ∈ xs, b ≤ x) → 0 ≤ xs.sum ∧ (xs ≠ [] → b ≤ xs.sum)
  | [], _ => by simp
  | x :: xs, h => by
    have h1 := h x (List.mem_cons_self ..)
    have h2 := (sum_ge hb (xs := xs) fun y hy => h y (List.mem_cons_of_mem _ hy)).1
    rw [List.sum_cons]
    exact ⟨by omega, fun _ => by omega⟩
theorem bear3 (f e : Int) : bear g3 f e ≤ 3000000 := by
  have hg : Good ((g3.drop f.toNat).take ((e + 1).toNat - f.toNat)) := fun x hx => good3 x (List.mem_of_mem_drop (List.mem_of_mem_take hx))
  have hl : ((g3.drop f.toNat).take ((e + 1).toNat - f.toNat)).length ≤ 3 := by
    rw [List.length_take, List.length_drop]
    have : g3.length = 3 := rfl
    omega
  have := sum_bound (M := 1000000) (by decide) hg
  unfold bear
  omega
theorem few3 {cs : List Int} {ps : List (Int × Int)} (h : dueF g3 1000000000 cs ps = true) : cs = [] := by
  have hl := dueF_len h
  unfold dueF at h
  simp only [Bool.and_eq_true] at h
  have hp := h.1.2
  cases ps with
  | nil => exact List.eq_nil_of_length_eq_zero hl
  | cons p ps =>
    obtain ⟨f, e⟩ := p
    simp only [linkedB, Bool.and_eq_true, Bool.not_eq_true', decide_eq_false_iff_not] at hp
    have := bear3 f e
    omega
theorem great3 {p : Int} (h : dueG g3 1000000000 p = true) : False := by
  unfold dueG at h
  simp only [Bool.and_eq_true, decide_eq_true_eq] at h
  obtain ⟨⟨h1, h2⟩, h3⟩ := h
  have h2 : p < 3 := h2
  have : p = 0 ∨ p = 1 ∨ p = 2 := by omega
  rcases this with rfl | rfl | rfl <;> (revert h3; decide)
theorem least3 {cs : List Int} {num : Int} {ps : List (Int × Int)} (h : dueL g3 1000000000 cs num ps = true) : num = 1000000 := by
  unfold dueL at h
  simp only [Bool.and_eq_true, Bool.or_eq_true, decide_eq_true_eq] at h
  obtain ⟨⟨_, h3⟩, h⟩ := h
  rcases h with h | ⟨h4, h5⟩
  · rcases h with h | h
    · subst h
      unfold fits at h3
      rw [List.all_eq_true] at h3
      have := sum_le0 (xs := lawBorne g3 (cs.map Int.toNat)) fun x hx => of_decide_eq_true (h3 x hx)
      rw [borne3] at this
      omega
    · simp only [g3, List.mem_cons, List.not_mem_nil, or_false] at h
      omega
  · rcases linked_len (by decide) h5 with q | q
    · have : g3.length = 3 := rfl
      omega
    · subst q; simp only [List.length_nil] at h4; omega
theorem most3 {cs pl : List Int} (h : dueM g3 1000000000 cs pl = true) : pl = [] := by
  unfold dueM at h
  simp only [Bool.and_eq_true] at h
  have h := h.2
  split at h
  · assumption
  · simp only [Bool.and_eq_true, List.all_eq_true, decide_eq_true_eq] at h
    have ne : lawBorne g3 (cs.map Int.toNat) ≠ [] := by
      unfold lawBorne
      rw [if_neg (by decide)]
      exact lawParts_ne _ _ _ _
    have := (sum_ge (b := 1000000000) (by decide) h.2).2 ne
    rw [borne3] at this
    omega
theorem KindOf.kits {K : PySem.W.Frag} {mg : Str → Option Value} {ca : CA} {C : Addr} {bs : List Bool} (c : Cl K mg ca) (h : KindOf ca C bs) : ExcLook K C ∧ PySem.W.subIn K (.ref C) (.ref ca.CutError) = some true ∧ ∃ b1 b2 b3 b4 b5, bs = [b1, b2, b3, b4, b5] ∧
    PySem.W.kitOne K (.ref C) (.ref ca.BadRow) = some b1 ∧ PySem.W.kitOne K (.ref C) (.ref ca.BadNumber) = some b2 ∧ PySem.W.kitOne K (.ref C) (.ref ca.BadCuts) = some b3 ∧ PySem.W.kitOne K (.ref C) (.ref ca.BadText) = some b4 ∧ PySem.W.kitOne K (.ref C) (.type "ValueError") = some b5 := by
  rcases h with ⟨rfl, rfl⟩ | ⟨rfl, rfl⟩ | ⟨rfl, rfl⟩
  · exact ⟨c.x_BadRow, c.s_BadRow, _, _, _, _, _, rfl, c.k_BadRow_BadRow, c.k_BadRow_BadNumber, c.k_BadRow_BadCuts, c.k_BadRow_BadText, c.k_BadRow_ValueError⟩
  · exact ⟨c.x_BadNumber, c.s_BadNumber, _, _, _, _, _, rfl, c.k_BadNumber_BadRow, c.k_BadNumber_BadNumber, c.k_BadNumber_BadCuts, c.k_BadNumber_BadText, c.k_BadNumber_ValueError⟩
  · exact ⟨c.x_BadCuts, c.s_BadCuts, _, _, _, _, _, rfl, c.k_BadCuts_BadRow, c.k_BadCuts_BadNumber, c.k_BadCuts_BadCuts, c.k_BadCuts_BadText, c.k_BadCuts_ValueError⟩
section
variable {P : Program} {w : World} {K : PySem.W.Frag} {mg : Str → Option Value} {base : Heap} {f : Addr} {fd : FuncData} {ca : CA}
theorem sc_kinds : FnScope ["_law_error", "_law_found"] ["_law_error"] (defScope (top 48)) := ⟨rfl, rfl, rfl, by decide +kernel, rfl, by decide +kernel, by decide +kernel⟩
theorem ok_kinds (T : Txt mg) (c : Cl K mg ca) (F : Fun K "_law_kinds" "_law_kinds" (top 48) f fd) : FnOkH P w K mg base 1 f fd ["_law_error"] (spKinds ca) := by
  have S := sc_kinds
  refine F.okH S (fun vs H Q E h => ?_) (fun cdv A outer s H vs Q E hr h => ?_)
  · obtain ⟨x, C, bs, rfl, _⟩ := h
    rfl
  obtain ⟨x, C, bs, rfl, hx, hk, q⟩ := h
  obtain ⟨xl, _, b1, b2, b3, b4, b5, rfl, k1, k2, k3, k4, k5⟩ := hk.kits c
  refine ⟨_, (pss_cons (ps_set (i := 1) S.nd rfl (Or.inl rfl) (pe_lst (pa_cons (pe_callB call_isiX rfl T.b_isinstance boot_isinstance (pa_cons (pv 0) (pa_cons (pe_globR c.m_BadRow rfl) pa_nil))) (pa_cons (pe_callB call_isiX rfl T.b_isinstance boot_isinstance (pa_cons (pv 0) (pa_cons (pe_globR c.m_BadNumber rfl) pa_nil))) (pa_cons (pe_callB call_isiX rfl T.b_isinstance boot_isinstance (pa_cons (pv 0) (pa_cons (pe_globR c.m_BadCuts rfl) pa_nil))) pa_nil)))))
    (pss_one (ps_ret (pe_op op_cat (pv 1) (pe_lst (pa_cons (pe_callB call_isiX rfl T.b_isinstance boot_isinstance (pa_cons (pv 0) (pa_cons (pe_globR c.m_BadText rfl) pa_nil))) (pa_cons (pe_callB call_isiX rfl T.b_isinstance boot_isinstance (pa_cons (pv 0) (pa_cons (pe_bltn (v := .ty "ValueError") rfl T.b_ValueError boot_ValueError rfl) pa_nil))) pa_nil))))))), ?_⟩
  try dsimp only [cxOfH, cxOf, Cx.re, Cx.nox, Cx.wish]
  walk_at "rd"
  refine rd_isiX (C := C) rfl hx xl k1 ?_
  walk_at "rd"
  refine rd_isiX (C := C) rfl hx xl k2 ?_
  walk_at "rd"
  refine rd_isiX (C := C) rfl hx xl k3 ?_
  walk_at "rd"
  refine ⟨small (by simp), fun l hl => ?_⟩
  have s1 := same_new hl (.lst [V.bl b1, V.bl b2, V.bl b3])
  walk_at "rd"
  refine rd_isiX (C := C) rfl (s1 _ _ hx) xl k4 ?_
  walk_at "rd"
  refine rd_isiX (C := C) rfl (s1 _ _ hx) xl k5 ?_
  walk_at "rd"
  refine ⟨small (by simp), fun l' hl' => ?_⟩
  have s2 := s1.trans (same_new hl' (.lst [V.bl b4, V.bl b5]))
  walk_at "rd"
  refine rd_cat (same_new hl' _ _ _ upd_same) upd_same (small (by simp)) fun m hm => ?_
  exact q m _ (s2.trans (same_new hm _)) (s2.free hm) upd_same
theorem sc_withrow : FnScope ["_law_door", "_law_row_here"] ["_law_door", "_law_row_here"] (defScope (top 49)) := ⟨rfl, rfl, rfl, by decide +kernel, rfl, by decide +kernel, by decide +kernel⟩
theorem ok_withrow (T : Txt mg) (C_borne : CalleeE P w K mg base "borne" ["row", "cuts"] 9 (spBorne7 ca)) (C_halved : CalleeE P w K mg base "halved" ["row"] 9 (spHalved7 ca)) (C_written : CalleeE P w K mg base "written" ["row", "cuts"] 9 (spWritten7 ca))
    (C_fewest : CalleeE P w K mg base "fewest" ["row", "bound"] 9 (spFewest7 ca)) (C_lowest : CalleeE P w K mg base "lowest" ["row", "count"] 9 (spLowest7 ca)) (C_fullest : CalleeE P w K mg base "fullest" ["row", "bound"] 9 (spFullest7 ca))
    (F : Fun K "_law_with_row" "_law_with_row" (top 49) f fd) : FnOk P w K mg base (CXE P w) 10 f fd ["_law_door", "_law_row_here"] (spWithRow ca) := by
  have S := sc_withrow
  refine F.okE S (fun vs H Q E h => ?_) (fun cdv A outer s H vs Q E hr h => ?_)
  · obtain ⟨d, v, rfl, _⟩ := h
    rfl
  obtain ⟨d, v, rfl, d0, d1, hn, hf⟩ := h
  refine ⟨_, (pss_cons (ps_if (pt_cmpR op_lt (pv 0) pe_int (nomark _))
      (pss_one (ps_ret (pe_ifExp (pt_cmpR op_eq (pv 0) pe_int (nomark _)) (pe_callE C_borne (hr.mono (by decide)) passE rfl (pa_cons (pv 1) (pa_cons pe_non pa_nil))) (pe_ifExp (pt_cmpR op_eq (pv 0) pe_int (nomark _)) (pe_callE C_halved (hr.mono (by decide)) passE rfl (pa_cons (pv 1) pa_nil)) (pe_callE C_written (hr.mono (by decide)) passE rfl (pa_cons (pv 1) (pa_cons pe_non pa_nil)))))))
      pss_nil)
    (pss_one (ps_ret (pe_ifExp (pt_cmpR op_eq (pv 0) pe_int (nomark _)) (pe_callE C_fewest (hr.mono (by decide)) passE rfl (pa_cons (pv 1) (pa_cons (pe_un un_neg pe_int) pa_nil))) (pe_ifExp (pt_cmpR op_eq (pv 0) pe_int (nomark _)) (pe_callE C_lowest (hr.mono (by decide)) passE rfl (pa_cons (pv 1) (pa_cons pe_int pa_nil))) (pe_callE C_fullest (hr.mono (by decide)) passE rfl (pa_cons (pv 1) (pa_cons pe_non pa_nil)))))))), ?_⟩
  try dsimp only [cxOf, Cx.nox, Cx.wish]
  walk_at "rd"
  refine ite2 (fun c1 => ?_) (fun c1 => ?_)
  · walk_at "rd"
    refine ite2 (fun c2 => ?_) (fun c2 => ?_)
    · walk_at "rd"
      exact .inl ⟨v, .non, rfl, hn, hf⟩
    · walk_at "rd"
      refine ite2 (fun c3 => ?_) (fun c3 => ?_)
      · walk_at "rd"
        exact .inl ⟨v, .non, rfl, hn, hf⟩
      · walk_at "rd"
        exact .inl ⟨v, .non, rfl, hn, hf⟩
  · walk_at "rd"
    refine ite2 (fun c2 => ?_) (fun c2 => ?_)
    · walk_at "rd"
      exact .inl ⟨v, _, rfl, hn, hf⟩
    · walk_at "rd"
      refine ite2 (fun c3 => ?_) (fun c3 => ?_)
      · walk_at "rd"
        exact .inl ⟨v, _, rfl, hn, hf⟩
      · walk_at "rd"
        exact .inl ⟨v, .non, rfl, hn, hf⟩
theorem sc_withnum : FnScope ["_law_door", "_law_thing"] ["_law_door", "_law_thing"] (defScope (top 50)) := ⟨rfl, rfl, rfl, by decide +kernel, rfl, by decide +kernel, by decide +kernel⟩
theorem good53 : Good [5, 3] := by
  intro x hx
  simp only [List.mem_cons, List.not_mem_nil, or_false] at hx
  omega
theorem ok_withnum (T : Txt mg) (C_fewest : CalleeE P w K mg base "fewest" ["row", "bound"] 9 (spFewest7 ca)) (C_lowest : CalleeE P w K mg base "lowest" ["row", "count"] 9 (spLowest7 ca)) (C_fullest : CalleeE P w K mg base "fullest" ["row", "bound"] 9 (spFullest7 ca))
    (F : Fun K "_law_with_number" "_law_with_number" (top 50) f fd) : FnOk P w K mg base (CXE P w) 10 f fd ["_law_door", "_law_thing"] (spWithNum ca) := by
  have S := sc_withnum
  refine F.okE S (fun vs H Q E h => ?_) (fun cdv A outer s H vs Q E hr h => ?_)
  · obtain ⟨d, v, rfl, _⟩ := h
    rfl
  obtain ⟨d, v, rfl, d0, d1, hn, hf⟩ := h
  have rw53 : ∀ {p : Addr}, H p = none → RowAt (upd H p (.lst [.int 5, .int 3])) p [5, 3] := fun _ => ⟨upd_same, by decide, good53⟩
  refine ⟨_, (pss_one (ps_ret (pe_ifExp (pt_cmpR op_eq (pv 0) pe_int (nomark _)) (pe_callE C_fewest (hr.mono (by decide)) passE rfl (pa_cons (pe_lst (pa_cons pe_int (pa_cons pe_int pa_nil))) (pa_cons (pv 1) pa_nil))) (pe_ifExp (pt_cmpR op_eq (pv 0) pe_int (nomark _)) (pe_callE C_lowest (hr.mono (by decide)) passE rfl (pa_cons (pe_lst (pa_cons pe_int (pa_cons pe_int pa_nil))) (pa_cons (pv 1) pa_nil))) (pe_callE C_fullest (hr.mono (by decide)) passE rfl (pa_cons (pe_lst (pa_cons pe_int (pa_cons pe_int pa_nil))) (pa_cons (pv 1) pa_nil))))))), ?_⟩
  try dsimp only [cxOf, Cx.nox, Cx.wish]
  walk_at "rd"
  refine ite2 (fun c1 => ?_) (fun c1 => ?_)
  · have c1 := of_decide_eq_true c1
    rw [if_pos c1] at hn
    walk_at "rd"
    refine ⟨small (by simp), fun p hp => ?_⟩
    walk_at "rd"
    exact .inr (.inl ⟨p, [5, 3], v, rfl, rw53 hp, hn.same (same_new hp _), hf.on (same_new hp _)⟩)
  · have c1 : ¬ d = 0 := fun z => c1 (decide_eq_true z)
    rw [if_neg c1] at hn
    walk_at "rd"
    refine ite2 (fun c2 => ?_) (fun c2 => ?_)
    · walk_at "rd"
      refine ⟨small (by simp), fun p hp => ?_⟩
      walk_at "rd"
      exact .inr (.inl ⟨p, [5, 3], v, rfl, rw53 hp, hn.same (same_new hp _), hf.on (same_new hp _)⟩)
    · walk_at "rd"
      refine ⟨small (by simp), fun p hp => ?_⟩
      walk_at "rd"
      exact .inr (.inl ⟨p, [5, 3], v, rfl, rw53 hp, hn.same (same_new hp _), hf.on (same_new hp _)⟩)
theorem sc_withcuts : FnScope ["_law_row_here", "_law_cuts"] ["_law_row_here", "_law_cuts"] (defScope (top 51)) := ⟨rfl, rfl, rfl, by decide +kernel, rfl, by decide +kernel, by decide +kernel⟩
theorem ok_withcuts (T : Txt mg) (C_borne : CalleeE P w K mg base "borne" ["row", "cuts"] 9 (spBorne7 ca)) (F : Fun K "_law_with_cuts" "_law_with_cuts" (top 51) f fd) : FnOk P w K mg base (CXE P w) 10 f fd ["_law_row_here", "_law_cuts"] (bCuts ca) := by
  have S := sc_withcuts
  refine F.okE S (fun vs H Q E h => ?_) (fun cdv A outer s H vs Q E hr h => ?_)
  · obtain ⟨a, ns, u, rfl, _⟩ := h
    rfl
  obtain ⟨a, ns, u, rfl, hR, hn, hf⟩ := h
  refine ⟨_, (pss_one (ps_ret (pe_callE C_borne (hr.mono (by decide)) passE rfl (pa_cons (pv 0) (pa_cons (pv 1) pa_nil))))), ?_⟩
  try dsimp only [cxOf, Cx.nox, Cx.wish]
  walk_at "rd"
  exact .inr (.inl ⟨a, ns, u, rfl, hR, hn, hf⟩)
theorem sc_cuttext : FnScope ["_law_row_here", "_law_cuts"] ["_law_row_here", "_law_cuts"] (defScope (top 52)) := ⟨rfl, rfl, rfl, by decide +kernel, rfl, by decide +kernel, by decide +kernel⟩
theorem ok_cuttext (T : Txt mg) (C_written : CalleeE P w K mg base "written" ["row", "cuts"] 9 (spWritten7 ca)) (F : Fun K "_law_cut_text" "_law_cut_text" (top 52) f fd) : FnOk P w K mg base (CXE P w) 10 f fd ["_law_row_here", "_law_cuts"] (bCuts ca) := by
  have S := sc_cuttext
  refine F.okE S (fun vs H Q E h => ?_) (fun cdv A outer s H vs Q E hr h => ?_)
  · obtain ⟨a, ns, u, rfl, _⟩ := h
    rfl
  obtain ⟨a, ns, u, rfl, hR, hn, hf⟩ := h
  refine ⟨_, (pss_one (ps_ret (pe_callE C_written (hr.mono (by decide)) passE rfl (pa_cons (pv 0) (pa_cons (pv 1) pa_nil))))), ?_⟩
  try dsimp only [cxOf, Cx.nox, Cx.wish]
  walk_at "rd"
  exact .inr ⟨a, ns, u, rfl, hR, hn, hf⟩
theorem sc_told : FnScope ["_law_ask", "_law_one", "_law_other", "_law_error"] ["_law_ask", "_law_one", "_law_other"] (defScope (top 53)) := ⟨rfl, rfl, rfl, by decide +kernel, rfl, by decide +kernel, by decide +kernel⟩
theorem ok_told (T : Txt mg) (c : Cl K mg ca) (C_law_kinds : CalleeH P w K mg base "_law_kinds" ["_law_error"] 1 (spKinds ca)) (F : Fun K "_law_told" "_law_told" (top 53) f fd) : FnOk P w K mg base CX0 12 f fd ["_law_ask", "_law_one", "_law_other"] (spTold P w K mg base ca) := by
  have S := sc_told
  refine F.ok S (fun vs H Q E h => ?_) (fun cdv A outer s H vs Q E hr h => ?_)
  · obtain ⟨g, one, other, C, bs, rfl, _⟩ := h
    rfl
  obtain ⟨g, one, other, C, bs, rfl, ⟨gd, ps, k, sp, G, hk, kp, gb, ask⟩, hK, q⟩ := h
  obtain ⟨_, sub, _⟩ := hK.kits c
  obtain ⟨Ec, hE⟩ : ∃ Ec : XK, Ec = fun C' _ H' => C' = .ref C ∧ Same H H' := ⟨_, rfl⟩
  refine ⟨_, (pss_cons (by exact ps_try (i := 3) (Ec := Ec) S.nd rfl rfl rfl c.m_CutError c.x_CutError.cls rfl rfl (fun _ => (pss_one (ps_expr (pe_callVT (P := P) (w := w) (K := K) (mg := mg) (base := base) (i := 0) hr rfl rfl rfl rfl rfl rfl rfl (Or.inl rfl) (passTry2 rfl) (pa_cons (pv 1) (pa_cons (pv 2) pa_nil)))))) (fun _ _ => (pss_one (ps_ret (pe_callH C_law_kinds (RoomH.of (hr.mono (by decide)) _) rfl (pa_cons (pv 3) pa_nil))))))
    (pss_one (ps_ret (pe_lst pa_nil)))), ?_⟩
  try dsimp only [cxOf, Cx.nox, Cx.wish]
  walk_at "rd"
  refine ⟨?_, ?_⟩
  · walk_at "rd"
    refine ⟨g, gd, ps, k, sp, rfl, G, hr.mono hk, kp, gb, ?_⟩
    walk_at "rd"
    refine ask _ _ ?_
    rw [hE]
    exact fun H' s' => ⟨rfl, s'⟩
  · intro σ' C' x H' hl hx he
    rw [hE] at he
    obtain ⟨e, s1⟩ := he
    cases e
    refine ⟨sub, ?_⟩
    have hx3 : (σ'.set 3 (some (.ref x)))[3]? = some (some (.ref x)) := List.getElem?_set_self (by rw [hl]; decide)
    refine rd_ret ?_
    refine rd_cl ?_
    refine rd_cons ?_
    refine rd_var hx3 ?_
    refine rd_nil ?_
    refine ⟨x, C, bs, rfl, upd_same, hK, fun r H2 s2 fr hr2 => ?_⟩
    have s3 := s1.trans ((same_new hx (excO x C)).trans s2)
    exact q r H2 s3 ((s1.trans (same_new hx (excO x C))).free fr) hr2
end
theorem fresh_of {H : Hp} {p : Addr} {o : HO} (_ : Same H (upd H p o)) : upd H p o p = some o := upd_same
theorem p109 : (10 : Int) ^ (9 : Int).toNat = 1000000000 := by decide
theorem hide_get {H : Hp} {r b : Addr} {o : HO} (ne : b ≠ r) (h : H b = some o) : hide H r b = some o := by unfold hide; rw [if_neg ne]; exact h
def dueB (j : Nat) : List Bool := [decide (0 + (j : Int) = 0), decide (0 + (j : Int) = 1), decide (0 + (j : Int) = 2), false, true]
theorem bad_at {far k : Int} (f0 : 0 ≤ far) (h0 : 0 ≤ k) (h : k < 5) : ∃ v n, atI [.non, .str "1", .bl true, .int (1000001 + far), .int (-1)] k = some v ∧ (∀ H, Thing H v n) ∧ loadV v = false := by
  have : k = 0 ∨ k = 1 ∨ k = 2 ∨ k = 3 ∨ k = 4 := by omega
  rcases this with rfl | rfl | rfl | rfl | rfl
  · exact ⟨_, _, rfl, fun _ => .non, rfl⟩
  · exact ⟨_, _, rfl, fun _ => .str _, rfl⟩
  · exact ⟨_, _, rfl, fun _ => .bl _, rfl⟩
  · exact ⟨_, _, rfl, fun _ => .int _, load_no (by omega)⟩
  · exact ⟨_, _, rfl, fun _ => .int _, load_no (by omega)⟩
theorem rngN_le {hi st : Int} (h0 : 0 ≤ hi) (hs : 0 < st) : rngN 0 hi st ≤ hi.toNat := by
  unfold rngN
  split
  · have : (hi - 0 - 1) / st ≤ hi - 0 - 1 := Int.ediv_le_self _ (by omega)
    omega
  · simp
section
variable {P : Program} {w : World} {K : PySem.W.Frag} {mg : Str → Option Value} {base : Heap} {f : Addr} {fd : FuncData} {ca : CA}
theorem sc_all : FnScope ["_law_ask", "_law_doors", "_law_things", "_law_due", "_law_door"] ["_law_ask", "_law_doors", "_law_things", "_law_due"] (defScope (top 54)) := ⟨rfl, rfl, rfl, by decide +kernel, rfl, by decide +kernel, by decide +kernel⟩
theorem ok_all (T : Txt mg) (C_law_told : Callee P w K mg base "_law_told" ["_law_ask", "_law_one", "_law_other"] 12 (spTold P w K mg base ca)) (F : Fun K "_law_all" "_law_all" (top 54) f fd) : FnOk P w K mg base CX0 13 f fd ["_law_ask", "_law_doors", "_law_things", "_law_due"] (spAll P w K mg base ca) := by
  have S := sc_all
  refine F.ok S (fun vs H Q E h => ?_) (fun cdv A outer s H vs Q E hr h => ?_)
  · obtain ⟨g, d, t, u, ds, xs, C, bs, rfl, _⟩ := h
    rfl
  obtain ⟨g, d, t, u, ds, xs, C, bs, rfl, hd, ht, hu, hl, hk, ask, q⟩ := h
  refine ⟨_, (pss_cons (ps_for PassesOwn.never rfl (pi_list (pv 1)) (pg_name (i := 4) S.nd rfl (Or.inr rfl))
      (pss_one (ps_if (pt_not (pt_val (pe_callB (call_all' rfl) rfl T.b_all boot_all (pa_cons (pe_comp rfl rfl (by decide +kernel) (by decide +kernel) rfl (fr := ["_law_due", "_law_ask", "_law_door"]) (by decide +kernel) (.cons (i := 3) rfl rfl (.inl rfl) (.cons (i := 0) rfl rfl (.inl rfl) (.cons (i := 4) rfl rfl (.inl rfl) .nil))) (by decide +kernel) (pi_list (pv 2)) (fun _ _ _ _ _ => pf_nil) (fun _ _ _ _ _ => (pe_cmpR (opK (op_eqBL (hr.units0)) (K := K) rfl) (pe_callC C_law_told (hr.mono (by decide)) rfl (pa_cons (pv 2) (pa_cons (pv 3) (pa_cons (pv 0) pa_nil)))) (pv 1) (nomark _)))) pa_nil))))
        (pss_one (ps_ret pe_bl))
        pss_nil)))
    (pss_one (ps_ret pe_bl))), ?_⟩
  try dsimp only [cxOf, Cx.nox, Cx.wish]
  walk_at "rr"
  refine ⟨d, rfl, ⟨_, SqL.of hd⟩, for_listF (K := K) (a := d) (xs := ds.map V.int) (fun i σ H2 => ∃ v, σ = [some (.ref g), some (.ref d), some (.ref t), some (.ref u), v] ∧ Same H H2) ⟨none, rfl, Same.refl _⟩ (fun i σ H2 _ hh => ?_) ?_ ?_⟩
  · obtain ⟨_, _, s1⟩ := hh
    exact s1.seq (SqL.of hd)
  · rintro i y σ H2 hi ⟨v, rfl, s1⟩
    obtain ⟨e, rfl, he⟩ := at_int hi
    walk_at "rr"
    refine ⟨t, rfl, ⟨_, s1.seq (SqL.of ht)⟩, fun D hD => comp_listC (.bl true) (s1.seq (SqL.of ht)) hD hl (fun j x H' Q' hj s2 q' => ?_) (fun H' s2 hD' => ?_)⟩
    · walk_at "rr"
      refine ⟨g, .int e, x, C, bs, rfl, ask e (mem_of_at he) x (mem_of_at hj) H' (s1.trans s2), hk, fun r H3 s3 _ hr3 => ?_⟩
      walk_at "rr"
      refine rd_eqBL (SqL.of hr3) (SqL.of (s3 _ _ (s2 _ _ (s1 _ _ hu)))) ?_
      rw [decide_eq_true rfl]
      walk_at "rr"
      exact q' _ s3
    · walk_at "rr"
      refine rd_all (bs := List.replicate xs.length true) (SqL.of (by rw [hD', List.map_replicate])) ?_
      have e : (List.replicate xs.length true).all id = true := by simp
      rw [e]
      walk_at "rr"
      exact ⟨_, rfl, s1.trans s2⟩
  · rintro σ H2 ⟨v, rfl, s1⟩
    walk_at "rr"
    exact q _ s1
theorem sc_law : FnScope ["_law_script", "_law_far", "_law_due", "_law_k", "_law_row_here", "_law_many", "_law_kept", "_law_rows", "_law_at", "_law_numbers_here", "_law_cuts", "_law_ask", "_law_some", "_law_told_here", "_law_great"] ["_law_script"] (defScope (top 55)) := ⟨rfl, rfl, rfl, by decide +kernel, rfl, by decide +kernel, by decide +kernel⟩
theorem ok_law (T : Txt mg) (c : Cl K mg ca) {fR fN fC fT : Addr} (C_law_cell_at : Callee P w K mg base "_law_cell_at" ["_law_script", "_law_k"] 1 (spCell K)) (C_law_row : Callee P w K mg base "_law_row" ["_law_script"] 2 (spRow K))
    (V_law_with_row : CalleeV P w K mg base "_law_with_row" fR ["_law_door", "_law_row_here"] 10 (spWithRow ca)) (V_law_with_number : CalleeV P w K mg base "_law_with_number" fN ["_law_door", "_law_thing"] 10 (spWithNum ca)) (V_law_with_cuts : CalleeV P w K mg base "_law_with_cuts" fC ["_law_row_here", "_law_cuts"] 10 (bCuts ca)) (V_law_cut_text : CalleeV P w K mg base "_law_cut_text" fT ["_law_row_here", "_law_cuts"] 10 (bCuts ca))
    (C_law_told : Callee P w K mg base "_law_told" ["_law_ask", "_law_one", "_law_other"] 12 (spTold P w K mg base ca)) (C_law_all : Callee P w K mg base "_law_all" ["_law_ask", "_law_doors", "_law_things", "_law_due"] 13 (spAll P w K mg base ca))
    (C_borne : CalleeE P w K mg base "borne" ["row", "cuts"] 9 (spBorne7 ca)) (C_halved : CalleeE P w K mg base "halved" ["row"] 9 (spHalved7 ca)) (C_fewest : CalleeE P w K mg base "fewest" ["row", "bound"] 9 (spFewest7 ca)) (C_lowest : CalleeE P w K mg base "lowest" ["row", "count"] 9 (spLowest7 ca)) (C_fullest : CalleeE P w K mg base "fullest" ["row", "bound"] 9 (spFullest7 ca))
    (F : Fun K "law" "law" (top 55) f fd) : FnOk P w K mg base CX0 14 f fd ["_law_script"] (spLaw K) := by
  have S := sc_law
  refine F.ok S (fun vs H Q E h => ?_) (fun cdv A outer s H vs Q E hr h => ?_)
  · obtain ⟨a, ns, rfl, _⟩ := h
    rfl
  obtain ⟨a, ns, rfl, hS, hl, q⟩ := h
  refine ⟨_, (pss_cons (ps_set (i := 1) S.nd rfl (Or.inl rfl) (pe_op op_mod (pe_callC C_law_cell_at (hr.mono (by decide)) rfl (pa_cons (pv 0) (pa_cons pe_int pa_nil))) (pe_op op_pow pe_int pe_int)))
    (pss_cons (ps_set (i := 2) S.nd rfl (Or.inl rfl) (pe_lst pa_nil))
    (pss_cons (ps_join (ps_for PassesOwn.never rfl (pi_range1 rfl T.b_range (pa_cons pe_int pa_nil)) (pg_name (i := 3) S.nd rfl (Or.inl rfl))
      (pss_one (ps_expr (pe_bm PySem.F.plainAttrs_list PySem.F.slot_list_append PySem.F.type_list_append mt_append (pv 2) (pa_cons (pe_lst (pa_cons (pe_cmpR op_eq (pv 3) pe_int (nomark _)) (pa_cons (pe_cmpR op_eq (pv 3) pe_int (nomark _)) (pa_cons (pe_cmpR op_eq (pv 3) pe_int (nomark _)) (pa_cons pe_bl (pa_cons pe_bl pa_nil)))))) pa_nil))))))
    (pss_cons (ps_set (i := 4) S.nd rfl (Or.inl rfl) (pe_callC C_law_row (hr.mono (by decide)) rfl (pa_cons (pv 0) pa_nil)))
    (pss_cons (ps_par (i := 5) (j := 6) rfl S.nd rfl rfl (by decide) rfl rfl (pa_cons (pe_callB call_len' rfl T.b_len PySem.boot_len (pa_cons (pv 4) pa_nil)) (pa_cons (pe_callTy call_list' rfl T.b_list boot_list (pa_cons (pv 4) pa_nil)) pa_nil)) rfl)
    (pss_cons (ps_join (ps_set (i := 7) S.nd rfl (Or.inl rfl) (pe_lst (pa_cons pe_non (pa_cons (pe_tup pa_nil) (pa_cons (pe_tup (pa_cons pe_int pa_nil)) (pa_cons pe_str (pa_cons pe_dict0 (pa_cons pe_int (pa_cons (pe_lst (pa_cons pe_non pa_nil)) (pa_cons (pe_lst (pa_cons pe_str pa_nil)) (pa_cons (pe_lst (pa_cons pe_bl pa_nil)) (pa_cons (pe_lst (pa_cons (pe_un un_neg pe_int) pa_nil)) (pa_cons (pe_lst (pa_cons (pe_op op_sub (pe_un un_neg pe_int) (pv 1)) pa_nil)) (pa_cons (pe_lst (pa_cons pe_int pa_nil)) (pa_cons (pe_lst (pa_cons (pe_op op_add pe_int (pv 1)) pa_nil)) (pa_cons (pe_lst (pa_cons (pe_lst (pa_cons pe_int pa_nil)) pa_nil)) pa_nil)))))))))))))))))
    (pss_cons (ps_join (ps_for PassesOwn.never rfl (pi_range3 rfl T.b_range (pa_cons pe_int (pa_cons (pv 5) (pa_cons (pe_op op_add pe_int (pe_op op_fdiv (pv 5) pe_int)) pa_nil)))) (pg_name (i := 8) S.nd rfl (Or.inl rfl))
      (pss_one (ps_expr (pe_bm PySem.F.plainAttrs_list PySem.F.slot_list_append PySem.F.type_list_append mt_append (pv 7) (pa_cons (pe_op op_cat (pe_op op_cat (pe_slice sl_list (pv 4) po_none (po_some (pv 8))) (pe_lst (pa_cons (pe_ix ix_tup (pe_tup (pa_cons pe_non (pa_cons pe_str (pa_cons pe_bl (pa_cons (pe_op op_add pe_int (pv 1)) (pa_cons (pe_un un_neg pe_int) pa_nil)))))) (pe_op op_mod (pv 8) pe_int) (fun _ _ => rfl)) pa_nil))) (pe_slice sl_list (pv 4) (po_some (pe_op op_add (pv 8) pe_int)) po_none)) pa_nil))))))
    (pss_cons (ps_join (ps_if (pt_not (pt_val (pe_callC C_law_all (hr.mono (by decide)) rfl (pa_cons (pe_globR V_law_with_row.at_ rfl) (pa_cons (pe_callTy (call_listRng rfl) rfl T.b_list boot_list (pa_cons (pe_callTy call_range1 rfl T.b_range boot_range (pa_cons pe_int pa_nil)) pa_nil)) (pa_cons (pv 7) (pa_cons (pe_ix ix_list (pv 2) pe_int (fun _ _ => rfl)) pa_nil)))))))
      (pss_one (ps_ret pe_bl))
      pss_nil))
    (pss_cons (ps_set (i := 9) S.nd rfl (Or.inl rfl) (pe_lst (pa_cons pe_non (pa_cons pe_str (pa_cons (pe_un un_neg pe_int) (pa_cons (pe_op op_sub (pe_un un_neg pe_int) (pv 1)) (pa_cons pe_bl (pa_cons (pe_lst (pa_cons pe_int pa_nil)) (pa_cons (pe_tup (pa_cons pe_int pa_nil)) pa_nil)))))))))
    (pss_cons (ps_join (ps_if (pt_not (pt_val (pe_callC C_law_all (hr.mono (by decide)) rfl (pa_cons (pe_globR V_law_with_number.at_ rfl) (pa_cons (pe_lst (pa_cons pe_int (pa_cons pe_int (pa_cons pe_int pa_nil)))) (pa_cons (pv 9) (pa_cons (pe_ix ix_list (pv 2) pe_int (fun _ _ => rfl)) pa_nil)))))))
      (pss_one (ps_ret pe_bl))
      pss_nil))
    (pss_cons (ps_join (ps_if (pt_not (pt_val (pe_callC C_law_all (hr.mono (by decide)) rfl (pa_cons (pe_globR V_law_with_number.at_ rfl) (pa_cons (pe_lst (pa_cons pe_int (pa_cons pe_int pa_nil))) (pa_cons (pe_lst (pa_cons pe_int pa_nil)) (pa_cons (pe_ix ix_list (pv 2) pe_int (fun _ _ => rfl)) pa_nil)))))))
      (pss_one (ps_ret pe_bl))
      pss_nil))
    (pss_cons (ps_join (ps_set (i := 10) S.nd rfl (Or.inl rfl) (pe_lst (pa_cons pe_non (pa_cons (pe_tup pa_nil) (pa_cons pe_str (pa_cons pe_dict0 (pa_cons pe_int (pa_cons (pe_lst (pa_cons pe_int pa_nil)) (pa_cons (pe_lst (pa_cons (pv 5) pa_nil)) (pa_cons (pe_lst (pa_cons (pe_op op_add (pv 5) (pv 1)) pa_nil)) (pa_cons (pe_lst (pa_cons (pe_un un_neg pe_int) pa_nil)) (pa_cons (pe_lst (pa_cons (pe_op op_sub (pe_un un_neg pe_int) (pv 1)) pa_nil)) (pa_cons (pe_lst (pa_cons pe_int (pa_cons pe_int pa_nil))) (pa_cons (pe_lst (pa_cons pe_int (pa_cons pe_int pa_nil))) (pa_cons (pe_lst (pa_cons pe_bl pa_nil)) (pa_cons (pe_lst (pa_cons pe_str pa_nil)) (pa_cons (pe_lst (pa_cons pe_non pa_nil)) pa_nil))))))))))))))))))
    (pss_cons (ps_join (ps_for PassesOwn.never rfl (pi_tup (pe_tup (pa_cons pe_int (pa_cons pe_int pa_nil)))) (pg_name (i := 11) S.nd rfl (Or.inl rfl))
      (pss_one (ps_for PassesOwn.never rfl (pi_list (pv 10)) (pg_name (i := 12) S.nd rfl (Or.inl rfl))
        (pss_cons (ps_set (i := 13) S.nd rfl (Or.inl rfl) (pe_ifExp (pt_cmpR op_eq (pv 11) pe_int (nomark _)) (pe_callC C_law_told (hr.mono (by decide)) rfl (pa_cons (pe_globR V_law_with_cuts.at_ rfl) (pa_cons (pv 4) (pa_cons (pv 12) pa_nil)))) (pe_callC C_law_told (hr.mono (by decide)) rfl (pa_cons (pe_globR V_law_cut_text.at_ rfl) (pa_cons (pv 4) (pa_cons (pv 12) pa_nil))))))
        (pss_one (ps_if (pt_cmpR (op_neBL (hr.units0)) (pv 13) (pe_ix ix_list (pv 2) pe_int (fun _ _ => rfl)) (nomark _))
          (pss_one (ps_ret pe_bl))
          pss_nil)))))))
    (pss_cons (ps_set (i := 14) S.nd rfl (Or.inl rfl) (pe_op op_rep (pe_lst (pa_cons pe_int pa_nil)) pe_int))
    (pss_cons (ps_if (PW.pt (pw_or (pt_cmpR (op_neL' (hr.units0)) (pe_fld (pe_callE C_fewest (hr.mono (by decide)) passE0 rfl (pa_cons (pv 14) (pa_cons (pe_op op_pow pe_int pe_int) pa_nil))) rfl) (pe_lst pa_nil) (nomark _)) (pw_or1 (pt_cmpR op_ne (pe_fld (pe_callE C_lowest (hr.mono (by decide)) passE0 rfl (pa_cons (pv 14) (pa_cons (pe_op op_pow pe_int pe_int) pa_nil))) rfl) pe_int (nomark _)))))
      (pss_one (ps_ret pe_bl))
      pss_nil)
    (pss_cons (ps_if (pt_cmpR (op_neL' (hr.units0)) (pe_fld (pe_callE C_fullest (hr.mono (by decide)) passE0 rfl (pa_cons (pv 14) (pa_cons (pe_op op_pow pe_int pe_int) pa_nil))) rfl) (pe_lst pa_nil) (nomark _))
      (pss_one (ps_ret pe_bl))
      pss_nil)
    (pss_one (ps_ret (pe_and (pe_cmpR (op_eqL' (hr.units0)) (pv 4) (pv 6) (nomark _)) (pe_and (pe_cmpR (op_eqL' (hr.units0)) (pe_callE C_borne (hr.mono (by decide)) passE0 rfl (pa_cons (pv 14) (pa_cons (pe_lst (pa_cons pe_int (pa_cons pe_int pa_nil))) pa_nil))) (pv 14) (nomark _)) (pe_and (pe_cmpR op_eq (pe_callE C_halved (hr.mono (by decide)) passE0 rfl (pa_cons (pe_lst pa_nil) pa_nil)) pe_int (nomark _)) (pe_one (pe_cmpR op_eq (pe_callE C_halved (hr.mono (by decide)) passE0 rfl (pa_cons (pv 14) pa_nil)) pe_int (nomark _)))))))))))))))))))))))), ?_⟩
  try dsimp only [cxOf, Cx.nox, Cx.wish]
  walk_at "rr"
  refine ⟨a, ns, 0, rfl, hS, by decide, fun v0 => ?_⟩
  walk_at "rr"
  refine rd_I ⟨by decide, by decide, by decide⟩ ?_
  walk_at "rr"
  refine rd_I (by decide) ?_
  walk_at "rr"
  have f0 : 0 ≤ v0 % (10 ^ (6 : Int).toNat) := Int.emod_nonneg _ (by decide)
  generalize v0 % (10 ^ (6 : Int).toNat) = far at f0 ⊢
  refine ⟨Nat.zero_le _, fun du hdu => ?_⟩
  have s1 := same_new hdu (.lst [])
  walk_at "rr"
  refine rd_joinF (fun σ H3 => ∃ (r0 r1 r2 : Addr) (vk : Option V), σ = [some (.ref a), some (.int far), some (.ref du), vk, none, none, none, none, none, none, none, none, none, none, none] ∧ Same H H3 ∧ H3 du = some (.lst [.ref r0, .ref r1, .ref r2]) ∧ H3 r0 = some (.lst ((dueB 0).map V.bl)) ∧ H3 r1 = some (.lst ((dueB 1).map V.bl)) ∧ H3 r2 = some (.lst ((dueB 2).map V.bl))) ?_ ?_
  · walk_at "rr"
    refine ⟨_, rfl, by decide, by decide, for_rangeF (lo := 0) (k := 3) (fun i σ H3 => ∃ (rs : List Addr) (v1 : Option V), σ = [some (.ref a), some (.int far), some (.ref du), v1, none, none, none, none, none, none, none, none, none, none, none] ∧ Same H H3 ∧ H3 du = some (.lst (rs.map V.ref)) ∧ rs.length = i ∧ ∀ (j : Nat) r, rs[j]? = some r → r ≠ du ∧ H3 r = some (.lst ((dueB j).map V.bl)))
      ⟨[], none, rfl, s1, upd_same, rfl, fun j r e => by simp at e⟩ ?_ ?_⟩
    · rintro i σ H3 hi ⟨rs, v1, rfl, s2, hd3, rl, hrs⟩
      walk_at "rr"
      refine ⟨tyL (SqL.of hd3), ?_⟩
      walk_at "rr"
      refine ⟨small (by simp), fun p hp => ?_⟩
      have s3 := same_new hp (.lst ((dueB i).map V.bl))
      have ne : p ≠ du := fun z => by rw [z, hd3] at hp; cases hp
      walk_at "rr"
      refine rd_append (s3 _ _ hd3) (by rw [List.length_map]; exact small1000 (by omega)) ?_
      walk_at "rr"
      refine ⟨rs ++ [p], _, rfl, same_upd (s2.trans s3) hdu _, ?_, by rw [List.length_append, rl]; rfl, fun j r e => ?_⟩
      · rw [upd_same, List.map_append]; rfl
      · by_cases hj : j < rs.length
        · rw [List.getElem?_append_left hj] at e
          obtain ⟨n1, e1⟩ := hrs j r e
          exact ⟨n1, by rw [upd_ne n1]; exact s3 _ _ e1⟩
        · have hj2 : j = rs.length := by
            have := lt_of_at e
            rw [List.length_append] at this
            simp at this; omega
          subst hj2
          rw [List.getElem?_append_right (Nat.le_refl _)] at e
          have : p = r := by simpa using e
          subst this
          refine ⟨ne, ?_⟩
          rw [upd_ne ne, rl]
          exact upd_same
    · rintro σ H3 ⟨rs, vk, rfl, s3, hd3, rl, hrs⟩
      obtain ⟨r0, r1, r2, rfl⟩ : ∃ r0 r1 r2, rs = [r0, r1, r2] := by
        match rs, rl with
        | [r0, r1, r2], _ => exact ⟨r0, r1, r2, rfl⟩
      exact ⟨r0, r1, r2, vk, rfl, s3, hd3, (hrs 0 r0 rfl).2, (hrs 1 r1 rfl).2, (hrs 2 r2 rfl).2⟩
  rintro σ H3 ⟨r0, r1, r2, vk, rfl, s3, hd3, d0, d1, d2⟩
  have kd0 : KindOf ca ca.BadRow (dueB 0) := .inl ⟨rfl, rfl⟩
  have kd1 : KindOf ca ca.BadNumber (dueB 1) := .inr (.inl ⟨rfl, rfl⟩)
  have kd2 : KindOf ca ca.BadCuts (dueB 2) := .inr (.inr ⟨rfl, rfl⟩)
  walk_at "rr"
  refine ⟨a, ns, rfl, s3.seq hS, hl, fun rw' H4 ms ml gm s4 n4 hrr => ?_⟩
  have hR4 : SqL K H4 rw' (ms.map V.int) := SqL.of hrr
  walk_at "rr"
  refine rd_listOf hR4 (fun l hl' => ?_)
  have s5 := same_new hl' (.lst (ms.map V.int))
  have hlf := fresh_of s5
  generalize upd H4 l (.lst (ms.map V.int)) = Hl at s5 hlf ⊢
  walk_at "rr"
  refine rd_joinF (fun σ H5 => ∃ (xr : Addr) (ys : List V), σ = [some (.ref a), some (.int far), some (.ref du), vk, some (.ref rw'), some (.int ms.length), some (.ref l), some (.ref xr), none, none, none, none, none, none, none] ∧ Same H4 H5 ∧ H4 xr = none ∧ l ≠ xr ∧ H5 l = some (.lst (ms.map V.int)) ∧ H5 xr = some (.lst ys) ∧ ys.length = 14 ∧ ∀ y ∈ ys, NotRow (hide H5 xr) y) ?_ ?_
  · walk_at "rr"
    walk_at "rr"
    refine ⟨small (by simp), fun xp1 xh1 => ?_⟩
    have xu1 := same_new xh1 (.tup [])
    have xf1 := fresh_of xu1
    generalize upd Hl xp1 (.tup []) = xH1 at xu1 xf1 ⊢
    walk_at "rr"
    refine ⟨small (by simp), fun xp2 xh2 => ?_⟩
    have xu2 := same_new xh2 (.tup [.int 5])
    have xf2 := fresh_of xu2
    generalize upd xH1 xp2 (.tup [.int 5]) = xH2 at xu2 xf2 ⊢
    walk_at "rr"
    intro xp3 xh3
    have xu3 := same_new xh3 (.dK [])
    have xf3 := fresh_of xu3
    generalize upd xH2 xp3 (.dK []) = xH3 at xu3 xf3 ⊢
    walk_at "rr"
    refine ⟨small (by simp), fun xp4 xh4 => ?_⟩
    have xu4 := same_new xh4 (.lst [.non])
    have xf4 := fresh_of xu4
    generalize upd xH3 xp4 (.lst [.non]) = xH4 at xu4 xf4 ⊢
    walk_at "rr"
    refine ⟨small (by simp), fun xp5 xh5 => ?_⟩
    have xu5 := same_new xh5 (.lst [.str "5"])
    have xf5 := fresh_of xu5
    generalize upd xH4 xp5 (.lst [.str "5"]) = xH5 at xu5 xf5 ⊢
    walk_at "rr"
    refine ⟨small (by simp), fun xp6 xh6 => ?_⟩
    have xu6 := same_new xh6 (.lst [.bl true])
    have xf6 := fresh_of xu6
    generalize upd xH5 xp6 (.lst [.bl true]) = xH6 at xu6 xf6 ⊢
    walk_at "rr"
    refine ⟨small (by simp), fun xp7 xh7 => ?_⟩
    have xu7 := same_new xh7 (.lst [.int (-1)])
    have xf7 := fresh_of xu7
    generalize upd xH6 xp7 (.lst [.int (-1)]) = xH7 at xu7 xf7 ⊢
    walk_at "rr"
    refine ⟨small (by simp), fun xp8 xh8 => ?_⟩
    have xu8 := same_new xh8 (.lst [.int (-1 - far)])
    have xf8 := fresh_of xu8
    generalize upd xH7 xp8 (.lst [.int (-1 - far)]) = xH8 at xu8 xf8 ⊢
    walk_at "rr"
    refine ⟨small (by simp), fun xp9 xh9 => ?_⟩
    have xu9 := same_new xh9 (.lst [.int 1000001])
    have xf9 := fresh_of xu9
    generalize upd xH8 xp9 (.lst [.int 1000001]) = xH9 at xu9 xf9 ⊢
    walk_at "rr"
    refine ⟨small (by simp), fun xp10 xh10 => ?_⟩
    have xu10 := same_new xh10 (.lst [.int (1000001 + far)])
    have xf10 := fresh_of xu10
    generalize upd xH9 xp10 (.lst [.int (1000001 + far)]) = xH10 at xu10 xf10 ⊢
    walk_at "rr"
    refine ⟨small (by simp), fun xp11 xh11 => ?_⟩
    have xu11 := same_new xh11 (.lst [.int 5])
    have xf11 := fresh_of xu11
    generalize upd xH10 xp11 (.lst [.int 5]) = xH11 at xu11 xf11 ⊢
    walk_at "rr"
    refine ⟨small (by simp), fun xp12 xh12 => ?_⟩
    have xu12 := same_new xh12 (.lst [.ref xp11])
    have xf12 := fresh_of xu12
    generalize upd xH11 xp12 (.lst [.ref xp11]) = xH12 at xu12 xf12 ⊢
    walk_at "rr"
    refine ⟨small (by simp), fun xr xhr => ?_⟩
    have xw11 := xu12
    have xw10 := xu11.trans xw11
    have xw9 := xu10.trans xw10
    have xw8 := xu9.trans xw9
    have xw7 := xu8.trans xw8
    have xw6 := xu7.trans xw7
    have xw5 := xu6.trans xw6
    have xw4 := xu5.trans xw5
    have xw3 := xu4.trans xw4
    have xw2 := xu3.trans xw3
    have xw1 := xu2.trans xw2
    have xall : ∀ y ∈ ([.non, .ref xp1, .ref xp2, .str "5", .ref xp3, .int 5, .ref xp4, .ref xp5, .ref xp6, .ref xp7, .ref xp8, .ref xp9, .ref xp10, .ref xp12] : List V), NotRow xH12 y := by
      intro y hy
      simp only [List.mem_cons, List.not_mem_nil, or_false] at hy
      rcases hy with rfl | rfl | rfl | rfl | rfl | rfl | rfl | rfl | rfl | rfl | rfl | rfl | rfl | rfl
      · exact .inl ⟨_, .non, by decide⟩
      · exact (show NotRow xH1 (.ref xp1) from .inl ⟨_, .tup xf1, by decide⟩).same xw1
      · exact (show NotRow xH2 (.ref xp2) from .inl ⟨_, .tup xf2, by decide⟩).same xw2
      · exact .inl ⟨_, .str _, by decide⟩
      · exact (show NotRow xH3 (.ref xp3) from .inl ⟨_, .dic xf3, by decide⟩).same xw3
      · exact .inl ⟨_, .int 5, by decide⟩
      · exact (show NotRow xH4 (.ref xp4) from notRow1 xf4 .non rfl).same xw4
      · exact (show NotRow xH5 (.ref xp5) from notRow1 xf5 (.str _) rfl).same xw5
      · exact (show NotRow xH6 (.ref xp6) from notRow1 xf6 (.bl _) rfl).same xw6
      · exact (show NotRow xH7 (.ref xp7) from notRow1 xf7 (.int _) rfl).same xw7
      · exact (show NotRow xH8 (.ref xp8) from notRow1 xf8 (.int _) (load_no (by omega))).same xw8
      · exact (show NotRow xH9 (.ref xp9) from notRow1 xf9 (.int _) rfl).same xw9
      · exact (show NotRow xH10 (.ref xp10) from notRow1 xf10 (.int _) (load_no (by omega))).same xw10
      · exact notRow1 xf12 (.lst (xu12 _ _ xf11)) rfl
    have xt := xu1.trans xw1
    have xto := same_new xhr (.lst [.non, .ref xp1, .ref xp2, .str "5", .ref xp3, .int 5, .ref xp4, .ref xp5, .ref xp6, .ref xp7, .ref xp8, .ref xp9, .ref xp10, .ref xp12])
    have xfr := fresh_of xto
    clear xu1 xf1 xh1 xu2 xf2 xh2 xu3 xf3 xh3 xu4 xf4 xh4 xu5 xf5 xh5 xu6 xf6 xh6 xu7 xf7 xh7 xu8 xf8 xh8 xu9 xf9 xh9 xu10 xf10 xh10 xu11 xf11 xh11 xu12 xf12 xh12 xw1 xw2 xw3 xw4 xw5 xw6 xw7 xw8 xw9 xw10 xw11
    have hx0 : ∀ y ∈ ([.non, .ref xp1, .ref xp2, .str "5", .ref xp3, .int 5, .ref xp4, .ref xp5, .ref xp6, .ref xp7, .ref xp8, .ref xp9, .ref xp10, .ref xp12] : List V), NotRow (hide (upd xH12 xr (.lst [.non, .ref xp1, .ref xp2, .str "5", .ref xp3, .int 5, .ref xp4, .ref xp5, .ref xp6, .ref xp7, .ref xp8, .ref xp9, .ref xp10, .ref xp12])) xr) y := fun y hy => by rw [hide_upd, hide_new xhr]; exact xall y hy
    walk_at "rr"
    exact ⟨xr, _, rfl, (s5.trans xt).trans xto, (s5.trans xt).free xhr, ne_of_none (xt _ _ hlf) xhr, (xt.trans xto) _ _ hlf, upd_same, rfl, hx0⟩
  rintro σ Hx ⟨xr, ys0, rfl, t0, frx, nlx, hl0, hx00, yl0, hys0⟩
  walk_at "rr"
  refine rd_joinF (fun σ H5 => ∃ (ys : List V) (v1 : Option V), σ = [some (.ref a), some (.int far), some (.ref du), vk, some (.ref rw'), some (.int ms.length), some (.ref l), some (.ref xr), v1, none, none, none, none, none, none] ∧ Same H4 H5 ∧ H5 l = some (.lst (ms.map V.int)) ∧ H5 xr = some (.lst ys) ∧ ys.length ≤ 77 ∧ ∀ y ∈ ys, NotRow (hide H5 xr) y) ?_ ?_
  · walk_at "rr"
    refine rd_I ⟨by decide, by decide⟩ ?_
    walk_at "rr"
    have q6 : 0 ≤ (ms.length : Int) / 6 ∧ (ms.length : Int) / 6 ≤ ms.length := ⟨Int.ediv_nonneg (by omega) (by decide), Int.ediv_le_self _ (by omega)⟩
    have nle := rngN_le (hi := (ms.length : Int)) (st := 1 + (ms.length : Int) / 6) (by omega) (by omega)
    refine ⟨0, _, _, rfl, ⟨by decide, by decide, by omega, by omega, by omega, by omega⟩, for_rangeSF (lo := 0) (st := 1 + (ms.length : Int) / 6) (k := rngN 0 ms.length (1 + (ms.length : Int) / 6)) (fun i σ H5 => ∃ (ys : List V) (v1 : Option V), σ = [some (.ref a), some (.int far), some (.ref du), vk, some (.ref rw'), some (.int ms.length), some (.ref l), some (.ref xr), v1, none, none, none, none, none, none] ∧ Same H4 H5 ∧ H5 l = some (.lst (ms.map V.int)) ∧ H5 xr = some (.lst ys) ∧ ys.length = 14 + i ∧ ∀ y ∈ ys, NotRow (hide H5 xr) y)
      ⟨ys0, none, rfl, t0, hl0, hx00, yl0, hys0⟩ ?_ ?_⟩
    · rintro i σ H5 hi ⟨ys, v1, rfl, t5, hl5, hx5, yl, hys⟩
      have hR5 : SqL K H5 rw' (ms.map V.int) := t5.seq hR4
      walk_at "rr"
      refine ⟨tyL (SqL.of hx5), ?_⟩
      walk_at "rr"
      refine rd_slL hR5 fun p1 h1 => ?_
      have u1 := same_new h1 (.lst (cutV (ms.map V.int) none (some (0 + (i : Nat) * (1 + (ms.length : Int) / 6)))))
      walk_at "rr"
      refine ⟨small (by simp), fun p2 h2 => ?_⟩
      have u2 := same_new h2 (.tup [.non, .str "1", .bl true, .int (1000001 + far), .int (-1)])
      walk_at "rr"
      refine rd_I (by decide) ?_
      obtain ⟨bad, bn, be, bt, bl⟩ := bad_at (k := (0 + (i : Nat) * (1 + (ms.length : Int) / 6)) % 5) f0 (Int.emod_nonneg _ (by decide)) (Int.emod_lt_of_pos _ (by decide))
      refine rd_ixT (SqT.of upd_same) be ?_
      walk_at "rr"
      refine ⟨small (by simp), fun p3 h3 => ?_⟩
      have u3 := same_new h3 (.lst [bad])
      walk_at "rr"
      have z1 : (cutV (ms.map V.int) none (some (0 + (i : Nat) * (1 + (ms.length : Int) / 6)))).length ≤ 63 := by
        rw [cut_ints, List.length_map, List.length_take, List.length_drop]; omega
      refine rd_cat (u3 _ _ (u2 _ _ upd_same)) upd_same (small (by simp only [List.length_cons, List.length_nil]; omega)) fun p4 h4 => ?_
      have u4 := same_new h4 (.lst (cutV (ms.map V.int) none (some (0 + (i : Nat) * (1 + (ms.length : Int) / 6))) ++ [bad]))
      walk_at "rr"
      have u14 := ((u1.trans u2).trans u3).trans u4
      refine rd_slL (u14.seq hR5) fun p5 h5 => ?_
      have u5 := same_new h5 (.lst (cutV (ms.map V.int) (some (0 + (i : Nat) * (1 + (ms.length : Int) / 6) + 1)) none))
      have z2 : (cutV (ms.map V.int) (some (0 + (i : Nat) * (1 + (ms.length : Int) / 6) + 1)) none).length ≤ 63 := by
        rw [cut_ints, List.length_map, List.length_take, List.length_drop]; omega
      refine rd_cat (u5 _ _ upd_same) upd_same (small (by simp only [List.length_append, List.length_cons, List.length_nil]; omega)) fun p6 h6 => ?_
      have u6 := same_new h6 (.lst ((cutV (ms.map V.int) none (some (0 + (i : Nat) * (1 + (ms.length : Int) / 6))) ++ [bad]) ++ cutV (ms.map V.int) (some (0 + (i : Nat) * (1 + (ms.length : Int) / 6) + 1)) none))
      have u16 := (u14.trans u5).trans u6
      have hx6 := u16 _ _ hx5
      have ne6 : p6 ≠ xr := fun z => by
        have := (u14.trans u5) _ _ hx5
        rw [← z, h6] at this; cases this
      walk_at "rr"
      refine rd_append hx6 (small1000 (by omega)) ?_
      walk_at "rr"
      refine ⟨ys ++ [.ref p6], _, rfl, same_upd (t5.trans u16) frx _, ?_, upd_same, by rw [List.length_append, yl]; rfl, fun y hy => ?_⟩
      · rw [upd_ne nlx]
        exact u16 _ _ hl5
      · rw [hide_upd]
        rcases List.mem_append.mp hy with z | z
        · exact (hys y z).same (hide_more xr u16)
        · rw [List.mem_singleton.mp z]
          refine .inr ⟨_, ⟨p6, rfl, hide_get ne6 upd_same, by simp only [List.length_append, List.length_cons, List.length_nil]; omega, fun x hx => ?_⟩, bad, by simp, bl⟩
          rcases List.mem_append.mp hx with z | z
          · rcases List.mem_append.mp z with z | z
            · rw [cut_ints] at z
              obtain ⟨b, _, rfl⟩ := List.mem_map.mp z
              exact ⟨_, .int b⟩
            · rw [List.mem_singleton.mp z]
              exact ⟨bn, bt _⟩
          · rw [cut_ints] at z
            obtain ⟨b, _, rfl⟩ := List.mem_map.mp z
            exact ⟨_, .int b⟩
    · rintro σ H5 ⟨ys, v1, rfl, t5, hl5, hx5, yl, hys⟩
      exact ⟨ys, v1, rfl, t5, hl5, hx5, by omega, hys⟩
  clear hys0 hx00 yl0 hl0 t0
  rintro σ H5 ⟨ys, v1, rfl, t5, hl5, hx5, yl, hys⟩
  have du5 := t5 _ _ (s4 _ _ hd3)
  have hys5 : ∀ y ∈ ys, NotRow H5 y := fun y hy => (hys y hy).same (hide_same _ _)
  walk_at "rr"
  refine rd_joinF (fun σ H6 => σ = [some (.ref a), some (.int far), some (.ref du), vk, some (.ref rw'), some (.int ms.length), some (.ref l), some (.ref xr), v1, none, none, none, none, none, none] ∧ Same H5 H6) ?_ ?_
  · walk_at "rr"
    intro e1 he1
    have eu1 := same_new he1 (.rng 0 6)
    walk_at "rr"
    refine rd_listRng upd_same ⟨by decide, by decide, by decide, by decide⟩ fun e2 he2 => ?_
    have eu2 := eu1.trans (same_new he2 (.lst ((List.range ((6 : Int) - 0).toNat).map fun i => V.int (0 + (i : Nat)))))
    walk_at "rr"
    refine rd_ixL (SqL.of (eu2 _ _ du5)) rfl ?_
    walk_at "rr"
    refine ⟨fR, e2, xr, r0, [0, 1, 2, 3, 4, 5], ys, ca.BadRow, dueB 0, rfl, upd_same, eu2 _ _ hx5, (t5.trans eu2) _ _ (s4 _ _ d0), by omega, kd0, fun e he x hx H' s' => V_law_with_row.asks (by decide) fun Q E hf => ⟨e, x, rfl, ?_, ?_, (hys5 x hx).same (eu2.trans s'), hf⟩, fun H6 s6 => ?_⟩
    · simp only [List.mem_cons, List.not_mem_nil, or_false] at he; omega
    · simp only [List.mem_cons, List.not_mem_nil, or_false] at he; omega
    walk_at "rr"
    exact ⟨rfl, eu2.trans s6⟩
  rintro σ H6 ⟨rfl, s6⟩
  have t6 := t5.trans s6
  have hl6 := s6 _ _ hl5
  have xr6 := s6 _ _ hx5
  clear hys5 hys hx5 hl5 s6 du5
  walk_at "rr"
  walk_at "rr"
  refine ⟨small (by simp), fun np1 nh1 => ?_⟩
  have nu1 := same_new nh1 (.lst [.int 1])
  have nf1 := fresh_of nu1
  generalize upd H6 np1 (.lst [.int 1]) = nH1 at nu1 nf1 ⊢
  walk_at "rr"
  refine ⟨small (by simp), fun np2 nh2 => ?_⟩
  have nu2 := same_new nh2 (.tup [.int 1])
  have nf2 := fresh_of nu2
  generalize upd nH1 np2 (.tup [.int 1]) = nH2 at nu2 nf2 ⊢
  walk_at "rr"
  refine ⟨small (by simp), fun nr nhr => ?_⟩
  have nw1 := nu2
  have nall : ∀ y ∈ ([.non, .str "1", .int (-1), .int (-1 - far), .bl true, .ref np1, .ref np2] : List V), (NotNum 0) nH2 y := by
    intro y hy
    simp only [List.mem_cons, List.not_mem_nil, or_false] at hy
    rcases hy with rfl | rfl | rfl | rfl | rfl | rfl | rfl
    · exact .inl ⟨_, .non, by decide⟩
    · exact .inl ⟨_, .str _, by decide⟩
    · exact .inr ⟨_, rfl, by decide⟩
    · exact .inr ⟨_, rfl, by omega⟩
    · exact .inl ⟨_, .bl _, by decide⟩
    · exact (show (NotNum 0) nH1 (.ref np1) from .inl ⟨_, .lst nf1, by decide⟩).same nw1
    · exact .inl ⟨_, .tup nf2, by decide⟩
  have nt := nu1.trans nw1
  have nto := same_new nhr (.lst [.non, .str "1", .int (-1), .int (-1 - far), .bl true, .ref np1, .ref np2])
  have nfr := fresh_of nto
  clear nu1 nf1 nh1 nu2 nf2 nh2 nw1
  generalize upd nH2 nr (.lst [.non, .str "1", .int (-1), .int (-1 - far), .bl true, .ref np1, .ref np2]) = Hn at nto nfr ⊢
  have nt2 := nt.trans nto
  walk_at "rr"
  refine rd_joinF (fun σ H7 => σ = [some (.ref a), some (.int far), some (.ref du), vk, some (.ref rw'), some (.int ms.length), some (.ref l), some (.ref xr), v1, some (.ref nr), none, none, none, none, none] ∧ Same Hn H7) ?_ ?_
  · walk_at "rr"
    refine ⟨small (by simp), fun e3 he3 => ?_⟩
    have eu3 := same_new he3 (.lst [.int 0, .int 1, .int 2])
    walk_at "rr"
    refine rd_ixL (SqL.of (eu3 _ _ ((t6.trans nt2) _ _ (s4 _ _ hd3)))) rfl ?_
    walk_at "rr"
    refine ⟨fN, e3, nr, r1, [0, 1, 2], _, ca.BadNumber, dueB 1, rfl, upd_same, eu3 _ _ nfr, eu3 _ _ ((t6.trans nt2) _ _ (s4 _ _ d1)), by simp, kd1, fun e he x hx H' s' => V_law_with_number.asks (by decide) fun Q E hf => ⟨e, x, rfl, ?_, ?_, ?_, hf⟩, fun H7 s7 => ?_⟩
    · simp only [List.mem_cons, List.not_mem_nil, or_false] at he; omega
    · simp only [List.mem_cons, List.not_mem_nil, or_false] at he; omega
    · have := (nall x hx).same (nto.trans (eu3.trans s'))
      split
      · exact this
      · exact this.imp id fun ⟨i, h1, h2⟩ => ⟨i, h1, by omega⟩
    walk_at "rr"
    exact ⟨rfl, eu3.trans s7⟩
  rintro σ H7 ⟨rfl, s7⟩
  have t7 := t6.trans (nt2.trans s7)
  have hl7 := (nt2.trans s7) _ _ hl6
  clear nall nfr nto nt hl6 t6 nt2 s7
  walk_at "rr"
  refine rd_joinF (fun σ H8 => σ = [some (.ref a), some (.int far), some (.ref du), vk, some (.ref rw'), some (.int ms.length), some (.ref l), some (.ref xr), v1, some (.ref nr), none, none, none, none, none] ∧ Same H7 H8) ?_ ?_
  · walk_at "rr"
    refine ⟨small (by simp), fun e4 he4 => ?_⟩
    have eu4 := same_new he4 (.lst [.int 1, .int 2])
    walk_at "rr"
    refine ⟨small (by simp), fun e5 he5 => ?_⟩
    have eu5 := eu4.trans (same_new he5 (.lst [.int 0]))
    walk_at "rr"
    refine rd_ixL (SqL.of (eu5 _ _ (t7 _ _ (s4 _ _ hd3)))) rfl ?_
    walk_at "rr"
    refine ⟨fN, e4, e5, r1, [1, 2], [.int 0], ca.BadNumber, dueB 1, rfl, (same_new he5 _) _ _ upd_same, upd_same, eu5 _ _ (t7 _ _ (s4 _ _ d1)), by simp, kd1, fun e he x hx H' s' => V_law_with_number.asks (by decide) fun Q E hf => ⟨e, x, rfl, ?_, ?_, ?_, hf⟩, fun H8 s8 => ?_⟩
    · simp only [List.mem_cons, List.not_mem_nil, or_false] at he; omega
    · simp only [List.mem_cons, List.not_mem_nil, or_false] at he; omega
    · simp only [List.mem_cons, List.not_mem_nil, or_false] at he
      rw [List.mem_singleton.mp hx, if_neg (by omega)]
      exact .inr ⟨0, rfl, by decide⟩
    walk_at "rr"
    exact ⟨rfl, eu5.trans s8⟩
  rintro σ H8 ⟨rfl, s8⟩
  have t8 := t7.trans s8
  have hl8 := s8 _ _ hl7
  clear t7 hl7 s8
  walk_at "rr"
  refine rd_joinF (fun σ Hc => ∃ (cr : Addr) (zs : List V), σ = [some (.ref a), some (.int far), some (.ref du), vk, some (.ref rw'), some (.int ms.length), some (.ref l), some (.ref xr), v1, some (.ref nr), some (.ref cr), none, none, none, none] ∧ Same H8 Hc ∧ Hc cr = some (.lst zs) ∧ ∀ y ∈ zs, NotCuts ms.length Hc y) ?_ ?_
  · walk_at "rr"
    walk_at "rr"
    refine ⟨small (by simp), fun cp1 ch1 => ?_⟩
    have cu1 := same_new ch1 (.tup [])
    have cf1 := fresh_of cu1
    generalize upd H8 cp1 (.tup []) = cH1 at cu1 cf1 ⊢
    walk_at "rr"
    intro cp2 ch2
    have cu2 := same_new ch2 (.dK [])
    have cf2 := fresh_of cu2
    generalize upd cH1 cp2 (.dK []) = cH2 at cu2 cf2 ⊢
    walk_at "rr"
    refine ⟨small (by simp), fun cp3 ch3 => ?_⟩
    have cu3 := same_new ch3 (.lst [.int 0])
    have cf3 := fresh_of cu3
    generalize upd cH2 cp3 (.lst [.int 0]) = cH3 at cu3 cf3 ⊢
    walk_at "rr"
    refine ⟨small (by simp), fun cp4 ch4 => ?_⟩
    have cu4 := same_new ch4 (.lst [.int ms.length])
    have cf4 := fresh_of cu4
    generalize upd cH3 cp4 (.lst [.int ms.length]) = cH4 at cu4 cf4 ⊢
    walk_at "rr"
    refine ⟨small (by simp), fun cp5 ch5 => ?_⟩
    have cu5 := same_new ch5 (.lst [.int (ms.length + far)])
    have cf5 := fresh_of cu5
    generalize upd cH4 cp5 (.lst [.int (ms.length + far)]) = cH5 at cu5 cf5 ⊢
    walk_at "rr"
    refine ⟨small (by simp), fun cp6 ch6 => ?_⟩
    have cu6 := same_new ch6 (.lst [.int (-1)])
    have cf6 := fresh_of cu6
    generalize upd cH5 cp6 (.lst [.int (-1)]) = cH6 at cu6 cf6 ⊢
    walk_at "rr"
    refine ⟨small (by simp), fun cp7 ch7 => ?_⟩
    have cu7 := same_new ch7 (.lst [.int (-1 - far)])
    have cf7 := fresh_of cu7
    generalize upd cH6 cp7 (.lst [.int (-1 - far)]) = cH7 at cu7 cf7 ⊢
    walk_at "rr"
    refine ⟨small (by simp), fun cp8 ch8 => ?_⟩
    have cu8 := same_new ch8 (.lst [.int 1, .int 1])
    have cf8 := fresh_of cu8
    generalize upd cH7 cp8 (.lst [.int 1, .int 1]) = cH8 at cu8 cf8 ⊢
    walk_at "rr"
    refine ⟨small (by simp), fun cp9 ch9 => ?_⟩
    have cu9 := same_new ch9 (.lst [.int 2, .int 1])
    have cf9 := fresh_of cu9
    generalize upd cH8 cp9 (.lst [.int 2, .int 1]) = cH9 at cu9 cf9 ⊢
    walk_at "rr"
    refine ⟨small (by simp), fun cp10 ch10 => ?_⟩
    have cu10 := same_new ch10 (.lst [.bl true])
    have cf10 := fresh_of cu10
    generalize upd cH9 cp10 (.lst [.bl true]) = cH10 at cu10 cf10 ⊢
    walk_at "rr"
    refine ⟨small (by simp), fun cp11 ch11 => ?_⟩
    have cu11 := same_new ch11 (.lst [.str "1"])
    have cf11 := fresh_of cu11
    generalize upd cH10 cp11 (.lst [.str "1"]) = cH11 at cu11 cf11 ⊢
    walk_at "rr"
    refine ⟨small (by simp), fun cp12 ch12 => ?_⟩
    have cu12 := same_new ch12 (.lst [.non])
    have cf12 := fresh_of cu12
    generalize upd cH11 cp12 (.lst [.non]) = cH12 at cu12 cf12 ⊢
    walk_at "rr"
    refine ⟨small (by simp), fun cr chr => ?_⟩
    have cw11 := cu12
    have cw10 := cu11.trans cw11
    have cw9 := cu10.trans cw10
    have cw8 := cu9.trans cw9
    have cw7 := cu8.trans cw8
    have cw6 := cu7.trans cw7
    have cw5 := cu6.trans cw6
    have cw4 := cu5.trans cw5
    have cw3 := cu4.trans cw4
    have cw2 := cu3.trans cw3
    have cw1 := cu2.trans cw2
    have call : ∀ y ∈ ([.non, .ref cp1, .str "", .ref cp2, .int 5, .ref cp3, .ref cp4, .ref cp5, .ref cp6, .ref cp7, .ref cp8, .ref cp9, .ref cp10, .ref cp11, .ref cp12] : List V), (NotCuts ms.length) cH12 y := by
      intro y hy
      simp only [List.mem_cons, List.not_mem_nil, or_false] at hy
      rcases hy with rfl | rfl | rfl | rfl | rfl | rfl | rfl | rfl | rfl | rfl | rfl | rfl | rfl | rfl | rfl
      · exact .inl ⟨_, .non, by decide⟩
      · exact (show (NotCuts ms.length) cH1 (.ref cp1) from .inl ⟨_, .tup cf1, by decide⟩).same cw1
      · exact .inl ⟨_, .str _, by decide⟩
      · exact (show (NotCuts ms.length) cH2 (.ref cp2) from .inl ⟨_, .dic cf2, by decide⟩).same cw2
      · exact .inl ⟨_, .int 5, by decide⟩
      · exact (show (NotCuts ms.length) cH3 (.ref cp3) from notCuts1 cf3 (.int _) (rise_no (by omega))).same cw3
      · exact (show (NotCuts ms.length) cH4 (.ref cp4) from notCuts1 cf4 (.int _) (rise_no (by omega))).same cw4
      · exact (show (NotCuts ms.length) cH5 (.ref cp5) from notCuts1 cf5 (.int _) (rise_no (by omega))).same cw5
      · exact (show (NotCuts ms.length) cH6 (.ref cp6) from notCuts1 cf6 (.int _) (rise_no (by omega))).same cw6
      · exact (show (NotCuts ms.length) cH7 (.ref cp7) from notCuts1 cf7 (.int _) (rise_no (by omega))).same cw7
      · exact (show (NotCuts ms.length) cH8 (.ref cp8) from notCuts2 cf8 (by decide)).same cw8
      · exact (show (NotCuts ms.length) cH9 (.ref cp9) from notCuts2 cf9 (by decide)).same cw9
      · exact (show (NotCuts ms.length) cH10 (.ref cp10) from notCuts1 cf10 (.bl _) rfl).same cw10
      · exact (show (NotCuts ms.length) cH11 (.ref cp11) from notCuts1 cf11 (.str _) rfl).same cw11
      · exact notCuts1 cf12 .non rfl
    have ct := cu1.trans cw1
    have cto := same_new chr (.lst [.non, .ref cp1, .str "", .ref cp2, .int 5, .ref cp3, .ref cp4, .ref cp5, .ref cp6, .ref cp7, .ref cp8, .ref cp9, .ref cp10, .ref cp11, .ref cp12])
    have cfr := fresh_of cto
    clear cu1 cf1 ch1 cu2 cf2 ch2 cu3 cf3 ch3 cu4 cf4 ch4 cu5 cf5 ch5 cu6 cf6 ch6 cu7 cf7 ch7 cu8 cf8 ch8 cu9 cf9 ch9 cu10 cf10 ch10 cu11 cf11 ch11 cu12 cf12 ch12 cw1 cw2 cw3 cw4 cw5 cw6 cw7 cw8 cw9 cw10 cw11
    walk_at "rr"
    exact ⟨cr, _, rfl, ct.trans cto, cfr, fun y hy => (call y hy).same cto⟩
  rintro σ Hc ⟨cr, zs, rfl, ct, cfr, call⟩
  have t9 := t8.trans ct
  have hlc := ct _ _ hl8
  clear t8 hl8
  walk_at "rr"
  refine rd_joinF (fun σ H9 => ∃ v2 v3 v4, σ = [some (.ref a), some (.int far), some (.ref du), vk, some (.ref rw'), some (.int ms.length), some (.ref l), some (.ref xr), v1, some (.ref nr), some (.ref cr), v2, v3, v4, none] ∧ Same Hc H9) ?_ ?_
  · walk_at "rr"
    refine ⟨small (by simp), fun tp htp => ?_⟩
    have tpu := same_new htp (.tup [.int 0, .int 1])
    refine ⟨tp, rfl, ⟨_, .inl (.inl upd_same)⟩, for_tupF (K := K) (a := tp) (xs := [.int 0, .int 1]) (fun i σ H9 => ∃ v2 v3 v4, σ = [some (.ref a), some (.int far), some (.ref du), vk, some (.ref rw'), some (.int ms.length), some (.ref l), some (.ref xr), v1, some (.ref nr), some (.ref cr), v2, v3, v4, none] ∧ Same (upd Hc tp (.tup [.int 0, .int 1])) H9) ⟨none, none, none, rfl, Same.refl _⟩ (fun i σ H9 _ hh => ?_) ?_ ?_⟩
    · obtain ⟨_, _, _, _, ss⟩ := hh
      exact .inl (.inl (ss _ _ upd_same))
    · rintro i y σ H9 hi ⟨v2, v3, v4, rfl, tA⟩
      have hcr : H9 cr = some (.lst zs) := tA _ _ (tpu _ _ cfr)
      have hy : ∃ o : Int, y = .int o := by
        match i, hi with
        | 0, hi => exact ⟨_, (Option.some.inj hi).symm⟩
        | 1, hi => exact ⟨_, (Option.some.inj hi).symm⟩
        | i + 2, hi => simp at hi
      obtain ⟨o, rfl⟩ := hy
      walk_at "rr"
      refine ⟨cr, rfl, ⟨_, SqL.of hcr⟩, for_listF (K := K) (a := cr) (xs := zs) (fun j σ H10 => ∃ v3 v4, σ = [some (.ref a), some (.int far), some (.ref du), vk, some (.ref rw'), some (.int ms.length), some (.ref l), some (.ref xr), v1, some (.ref nr), some (.ref cr), some (.int o), v3, v4, none] ∧ Same H9 H10) ⟨_, _, rfl, Same.refl _⟩ (fun i σ H10 _ hh => ?_) ?_ ?_⟩
      · obtain ⟨_, _, _, ss⟩ := hh
        exact SqL.of (ss _ _ hcr)
      · rintro j y σ H10 hj ⟨v3, v4, rfl, tB⟩
        have t10' := tpu.trans (tA.trans tB)
        have t10 := t9.trans t10'
        walk_at "rr"
        refine ite2 (fun ck => ?_) (fun ck => ?_)
        · walk_at "rr"
          refine ⟨fC, .ref rw', y, ca.BadCuts, dueB 2, rfl, V_law_with_cuts.asks (by decide) fun Q E hf => ⟨rw', ms, y, rfl, RowAt.same ⟨hrr, by omega, gm⟩ t10, (call y (List.mem_of_getElem? hj)).same t10', hf⟩, kd2, fun z Hz sz _ hz => ?_⟩
          walk_at "rr"
          refine rd_ixL (SqL.of (sz _ _ (t10 _ _ (s4 _ _ hd3)))) rfl ?_
          walk_at "rr"
          refine rd_neBL (SqL.of hz) (SqL.of (sz _ _ (t10 _ _ (s4 _ _ d2)))) ?_
          rw [decide_eq_true rfl]
          walk_at "rr"
          exact ⟨_, _, rfl, tB.trans sz⟩
        · walk_at "rr"
          refine ⟨fT, .ref rw', y, ca.BadCuts, dueB 2, rfl, V_law_cut_text.asks (by decide) fun Q E hf => ⟨rw', ms, y, rfl, RowAt.same ⟨hrr, by omega, gm⟩ t10, (call y (List.mem_of_getElem? hj)).same t10', hf⟩, kd2, fun z Hz sz _ hz => ?_⟩
          walk_at "rr"
          refine rd_ixL (SqL.of (sz _ _ (t10 _ _ (s4 _ _ hd3)))) rfl ?_
          walk_at "rr"
          refine rd_neBL (SqL.of hz) (SqL.of (sz _ _ (t10 _ _ (s4 _ _ d2)))) ?_
          rw [decide_eq_true rfl]
          walk_at "rr"
          exact ⟨_, _, rfl, tB.trans sz⟩
      · rintro σ H10 ⟨v3, v4, rfl, tB⟩
        walk_at "rr"
        exact ⟨_, _, _, rfl, tA.trans tB⟩
    · rintro σ H9 ⟨v2, v3, v4, rfl, tA⟩
      exact ⟨v2, v3, v4, rfl, tpu.trans tA⟩
  rintro σ H9 ⟨v2, v3, v4, rfl, tA⟩
  have t9 := t9.trans tA
  have hl9 := tA _ _ hlc
  clear call cfr tA hlc ct
  walk_at "rr"
  refine ⟨small (by simp), fun g1 hg1 => ?_⟩
  have gu1 := same_new hg1 (.lst [.int 1000000])
  walk_at "rr"
  refine ⟨g1, 3, _, rfl, rfl, upd_same, by decide, by decide, small (by decide), fun gr hgr => ?_⟩
  have gu2 := gu1.trans (same_new hgr (.lst (g3.map V.int)))
  have hG : upd (upd H9 g1 (.lst [.int 1000000])) gr (.lst (g3.map V.int)) gr = some (.lst (g3.map V.int)) := upd_same
  walk_at "rr"
  refine rd_I ⟨by decide, by decide, by decide⟩ ?_
  rw [p109]
  walk_at "rr"
  refine .inr (.inr ⟨gr, g3, _, rfl, hG, by decide, good3, by decide, fun x Ha sa hx told => ?_⟩)
  rcases told with ⟨cA, sA, cs, xs', ps, fw, _, _, _, due⟩ | ⟨p, _, due⟩
  case inr => exact (great3 due).elim
  obtain ⟨⟨dx, fs, hx2, l1, l2, l3⟩, hc, _, _⟩ := id fw
  have hcs := few3 due
  subst hcs
  walk_at "rr"
  refine rd_fld hx2 c.y_Fewest.cl c.n_Fewest_cuts l1 ?_
  walk_at "rr"
  refine ⟨Nat.zero_le _, fun z1 hz1 => ?_⟩
  have zu1 := same_new hz1 (.lst [])
  walk_at "rr"
  refine rd_neL (ns := []) (ms := []) (SqL.of (zu1 _ _ hc)) (SqL.of upd_same) ?_
  rw [decide_eq_true rfl]
  walk_at "rr"
  refine rd_I ⟨by decide, by decide, by decide⟩ ?_
  rw [p109]
  walk_at "rr"
  have tb := sa.trans zu1
  refine .inr (.inr ⟨gr, g3, _, rfl, tb _ _ hG, by decide, good3, by decide, fun x Hb cA sA cs num xs' ps sb hx' fw' _ _ _ _ due => ?_⟩)
  obtain ⟨⟨dx', fs', hx3, m1, m2, m3, m4⟩, _, _, _⟩ := id fw'
  have hnum := least3 due
  subst hnum
  walk_at "rr"
  refine rd_fld hx3 c.y_Least.cl c.n_Least_number m2 ?_
  walk_at "rr"
  rw [decide_eq_true rfl]
  walk_at "rr"
  refine rd_I ⟨by decide, by decide, by decide⟩ ?_
  rw [p109]
  walk_at "rr"
  have tc := tb.trans sb
  refine .inr (.inr ⟨gr, g3, _, rfl, tc _ _ hG, by decide, good3, by decide, fun x Hc cA pA cs pl sc hx'' fw'' _ _ _ due => ?_⟩)
  obtain ⟨⟨dx'', fs'', hx4, k1, k2, k3⟩, _, hpl⟩ := id fw''
  have hpl0 := most3 due
  subst hpl0
  walk_at "rr"
  refine rd_fld hx4 c.y_Most.cl c.n_Most_places k2 ?_
  walk_at "rr"
  refine ⟨Nat.zero_le _, fun z2 hz2 => ?_⟩
  have zu2 := same_new hz2 (.lst [])
  walk_at "rr"
  refine rd_neL (ns := []) (ms := []) (SqL.of (zu2 _ _ hpl)) (SqL.of upd_same) ?_
  rw [decide_eq_true rfl]
  walk_at "rr"
  have td := (tc.trans sc).trans zu2
  have te := gu2.trans td
  refine rd_eqL ((t9.trans te).seq hR4) (SqL.of (te _ _ hl9)) ?_
  rw [decide_eq_true rfl]
  walk_at "rr"
  refine ⟨small (by simp), fun b1 hb1 => ?_⟩
  have bu1 := td.trans (same_new hb1 (.lst ((ic [1, 2]).map V.int)))
  walk_at "rr"
  refine .inr (.inr ⟨gr, b1, g3, [1, 2], rfl, bu1 _ _ hG, upd_same, by decide, good3, ⟨by decide, by decide, by decide, by decide, trivial⟩, fun b2 Hd sd _ hb2 => ?_⟩)
  have bu2 := bu1.trans sd
  walk_at "rr"
  refine rd_eqL (SqL.of hb2) (SqL.of (bu2 _ _ hG)) ?_
  rw [decide_eq_true (show borneM g3 [1, 2] = g3 by decide)]
  walk_at "rr"
  refine ⟨Nat.zero_le _, fun b3 hb3 => ?_⟩
  walk_at "rr"
  refine .inr ⟨b3, [], rfl, upd_same, by decide, (fun x hx => nomatch hx), fun He se => ?_⟩
  walk_at "rr"
  rw [show (evenest ([] : List Int).sum 0 [] 0 ([] : List Int).sum 0) = 0 by decide, decide_eq_true rfl]
  walk_at "rr"
  refine .inr ⟨gr, g3, rfl, ((bu2.trans (same_new hb3 (.lst []))).trans se) _ _ hG, by decide, good3, fun Hf sf => ?_⟩
  walk_at "rr"
  rw [show (evenest g3.sum 0 g3 0 g3.sum 0) = 1 by decide, decide_eq_true rfl]
  exact q _
end
theorem callee_mk {P : Program} {w : World} {K : PySem.W.Frag} {mg : Str → Option Value} {base : Heap} {x qual : Str} {st : Stmt} {ps : List Str} {k : Nat} {sp : Sp} {f : Addr} {fd : FuncData} (F : Fun K x qual st f fd) (hm : mg x = some (.ref f)) (hb : Binds K fd ps []) (G : FnOk P w K mg base CX0 k f fd ps sp) : Callee P w K mg base x ps k sp := ⟨f, fd, G, hm, F.kp, hb⟩
theorem calleeE_mk {P : Program} {w : World} {K : PySem.W.Frag} {mg : Str → Option Value} {base : Heap} {x qual : Str} {st : Stmt} {ps : List Str} {k : Nat} {sp : Sp} {f : Addr} {fd : FuncData} (F : Fun K x qual st f fd) (hm : mg x = some (.ref f)) (hb : Binds K fd ps []) (G : FnOk P w K mg base (CXE P w) k f fd ps sp) : CalleeE P w K mg base x ps k sp := ⟨f, fd, G, hm, F.kp, hb⟩
theorem calleeH_mk {P : Program} {w : World} {K : PySem.W.Frag} {mg : Str → Option Value} {base : Heap} {x qual : Str} {st : Stmt} {ps : List Str} {k : Nat} {sp : Sp} {f : Addr} {fd : FuncData} (F : Fun K x qual st f fd) (hm : mg x = some (.ref f)) (hb : Binds K fd ps []) (G : FnOkH P w K mg base k f fd ps sp) : CalleeH P w K mg base x ps k sp := ⟨f, fd, G, hm, F.kp, hb⟩
theorem all_mk {l : PySem.W.OpenLaw} {w : World} {K : PySem.W.Frag} {h : Heap} {mg : Str → Option Value} {fa f0 f1 f2 f3 f4 f5 f6 f7 f8 f9 f10 f11 f12 f13 f14 f15 f16 f17 f18 f19 f20 f21 f22 f23 f24 f25 f26 f27 f28 f29 f30 f31 f32 f33 f34 f35 C_CutError C_BadRow C_BadNumber C_BadCuts C_BadText C_Fewest C_Great C_Least C_Most : Addr} (X : K.In h) (G : h.Ns mainGlobals mg) (hfa : mg "law" = some (.ref fa))
    {od0 an0 od1 an1 od2 an2 od3 an3 od4 an4 od5 an5 od6 an6 od7 an7 od8 an8 od9 an9 od10 an10 od11 an11 od12 an12 od13 an13 od14 an14 od15 an15 od16 an16 od17 an17 od18 an18 od19 an19 od20 an20 od21 an21 od22 an22 od23 an23 od24 an24 od25 an25 od26 an26 od27 an27 od28 an28 od29 an29 od30 an30 od31 an31 od32 an32 od33 an33 od34 an34 od35 an35 : Option Addr} {sl0 sl1 sl2 sl3 sl4 sl5 sl6 sl7 sl8 sl9 sl10 sl11 sl12 sl13 sl14 sl15 sl16 sl17 sl18 sl19 sl20 sl21 sl22 sl23 sl24 sl25 sl26 sl27 sl28 sl29 sl30 sl31 sl32 sl33 sl34 sl35 : Array (Option Value)} {oc0 kV0 dc0 pm0 cd0 ct0 oc1 kV1 dc1 pm1 cd1 ct1 oc2 kV2 dc2 pm2 cd2 ct2 oc3 kV3 dc3 pm3 cd3 ct3 oc4 kV4 dc4 pm4 cd4 ct4 oc5 kV5 dc5 pm5 cd5 ct5 oc6 kV6 dc6 pm6 cd6 ct6 oc7 kV7 dc7 pm7 cd7 ct7 oc8 kV8 dc8 pm8 cd8 ct8 oc9 kV9 dc9 pm9 cd9 ct9 oc10 kV10 dc10 pm10 cd10 ct10 oc11 kV11 dc11 pm11 cd11 ct11 oc12 kV12 dc12 pm12 cd12 ct12 oc13 kV13 dc13 pm13 cd13 ct13 oc14 kV14 dc14 pm14 cd14 ct14 oc15 kV15 dc15 pm15 cd15 ct15 oc16 kV16 dc16 pm16 cd16 ct16 oc17 kV17 dc17 pm17 cd17 ct17 oc18 kV18 dc18 pm18 cd18 ct18 oc19 kV19 dc19 pm19 cd19 ct19 oc20 kV20 dc20 pm20 cd20 ct20 oc21 kV21 dc21 pm21 cd21 ct21 oc22 kV22 dc22 pm22 cd22 ct22 oc23 kV23 dc23 pm23 cd23 ct23 oc24 kV24 dc24 pm24 cd24 ct24 oc25 kV25 dc25 pm25 cd25 ct25 oc26 kV26 dc26 pm26 cd26 ct26 oc27 kV27 dc27 pm27 cd27 ct27 oc28 kV28 dc28 pm28 cd28 ct28 oc29 kV29 dc29 pm29 cd29 ct29 oc30 kV30 dc30 pm30 cd30 ct30 oc31 kV31 dc31 pm31 cd31 ct31 oc32 kV32 dc32 pm32 cd32 ct32 oc33 kV33 dc33 pm33 cd33 ct33 oc34 kV34 dc34 pm34 cd34 ct34 oc35 kV35 dc35 pm35 cd35 ct35 : Value} {t_MOST_LOAD t_MOST_LOADS : Tok}
    (aC_CutError : PySem.W.nsIn K mainGlobals "CutError" = some (some (.ref C_CutError)))
    (aC_BadRow : PySem.W.nsIn K mainGlobals "BadRow" = some (some (.ref C_BadRow)))
    (aC_BadNumber : PySem.W.nsIn K mainGlobals "BadNumber" = some (some (.ref C_BadNumber)))
    (aC_BadCuts : PySem.W.nsIn K mainGlobals "BadCuts" = some (some (.ref C_BadCuts)))
    (aC_BadText : PySem.W.nsIn K mainGlobals "BadText" = some (some (.ref C_BadText)))
    (aC_Fewest : PySem.W.nsIn K mainGlobals "Fewest" = some (some (.ref C_Fewest)))
    (aC_Great : PySem.W.nsIn K mainGlobals "Great" = some (some (.ref C_Great)))
    (aC_Least : PySem.W.nsIn K mainGlobals "Least" = some (some (.ref C_Least)))
    (aC_Most : PySem.W.nsIn K mainGlobals "Most" = some (some (.ref C_Most)))
    (a0 : PySem.W.nsIn K mainGlobals "is_whole" = some (some (.ref f0)))
    (l0 : K.lookup f0 = some ⟨oc0, od0, .func (PySem.W.fnOf "is_whole" "is_whole" (defArgs (top 10)) (defBody (top 10)) (defScope (top 10)) .none kV0 dc0 pm0 an0 cd0 ct0), sl0⟩)
    (c0 : PySem.W.codeIn K cd0 "is_whole" = true)
    (k0 : PySem.W.keepIn K (.ref f0) = true)
    (a1 : PySem.W.nsIn K mainGlobals "is_whole_from" = some (some (.ref f1)))
    (l1 : K.lookup f1 = some ⟨oc1, od1, .func (PySem.W.fnOf "is_whole_from" "is_whole_from" (defArgs (top 11)) (defBody (top 11)) (defScope (top 11)) .none kV1 dc1 pm1 an1 cd1 ct1), sl1⟩)
    (c1 : PySem.W.codeIn K cd1 "is_whole_from" = true)
    (k1 : PySem.W.keepIn K (.ref f1) = true)
    (a2 : PySem.W.nsIn K mainGlobals "is_load" = some (some (.ref f2)))
    (l2 : K.lookup f2 = some ⟨oc2, od2, .func (PySem.W.fnOf "is_load" "is_load" (defArgs (top 12)) (defBody (top 12)) (defScope (top 12)) .none kV2 dc2 pm2 an2 cd2 ct2), sl2⟩)
    (c2 : PySem.W.codeIn K cd2 "is_load" = true)
    (k2 : PySem.W.keepIn K (.ref f2) = true)
    (a3 : PySem.W.nsIn K mainGlobals "is_row" = some (some (.ref f3)))
    (l3 : K.lookup f3 = some ⟨oc3, od3, .func (PySem.W.fnOf "is_row" "is_row" (defArgs (top 13)) (defBody (top 13)) (defScope (top 13)) .none kV3 dc3 pm3 an3 cd3 ct3), sl3⟩)
    (c3 : PySem.W.codeIn K cd3 "is_row" = true)
    (k3 : PySem.W.keepIn K (.ref f3) = true)
    (a4 : PySem.W.nsIn K mainGlobals "check_row" = some (some (.ref f4)))
    (l4 : K.lookup f4 = some ⟨oc4, od4, .func (PySem.W.fnOf "check_row" "check_row" (defArgs (top 16)) (defBody (top 16)) (defScope (top 16)) .none kV4 dc4 pm4 an4 cd4 ct4), sl4⟩)
    (c4 : PySem.W.codeIn K cd4 "check_row" = true)
    (k4 : PySem.W.keepIn K (.ref f4) = true)
    (a5 : PySem.W.nsIn K mainGlobals "are_rising_places" = some (some (.ref f5)))
    (l5 : K.lookup f5 = some ⟨oc5, od5, .func (PySem.W.fnOf "are_rising_places" "are_rising_places" (defArgs (top 14)) (defBody (top 14)) (defScope (top 14)) .none kV5 dc5 pm5 an5 cd5 ct5), sl5⟩)
    (c5 : PySem.W.codeIn K cd5 "are_rising_places" = true)
    (k5 : PySem.W.keepIn K (.ref f5) = true)
    (a6 : PySem.W.nsIn K mainGlobals "are_cuts" = some (some (.ref f6)))
    (l6 : K.lookup f6 = some ⟨oc6, od6, .func (PySem.W.fnOf "are_cuts" "are_cuts" (defArgs (top 15)) (defBody (top 15)) (defScope (top 15)) .none kV6 dc6 pm6 an6 cd6 ct6), sl6⟩)
    (c6 : PySem.W.codeIn K cd6 "are_cuts" = true)
    (k6 : PySem.W.keepIn K (.ref f6) = true)
    (a7 : PySem.W.nsIn K mainGlobals "check_cuts" = some (some (.ref f7)))
    (l7 : K.lookup f7 = some ⟨oc7, od7, .func (PySem.W.fnOf "check_cuts" "check_cuts" (defArgs (top 17)) (defBody (top 17)) (defScope (top 17)) .none kV7 dc7 pm7 an7 cd7 ct7), sl7⟩)
    (c7 : PySem.W.codeIn K cd7 "check_cuts" = true)
    (k7 : PySem.W.keepIn K (.ref f7) = true)
    (a8 : PySem.W.nsIn K mainGlobals "part_sums" = some (some (.ref f8)))
    (l8 : K.lookup f8 = some ⟨oc8, od8, .func (PySem.W.fnOf "part_sums" "part_sums" (defArgs (top 18)) (defBody (top 18)) (defScope (top 18)) .none kV8 dc8 pm8 an8 cd8 ct8), sl8⟩)
    (c8 : PySem.W.codeIn K cd8 "part_sums" = true)
    (k8 : PySem.W.keepIn K (.ref f8) = true)
    (a9 : PySem.W.nsIn K mainGlobals "borne" = some (some (.ref f9)))
    (l9 : K.lookup f9 = some ⟨oc9, od9, .func (PySem.W.fnOf "borne" "borne" (defArgs (top 19)) (defBody (top 19)) (defScope (top 19)) .none kV9 dc9 pm9 an9 cd9 ct9), sl9⟩)
    (c9 : PySem.W.codeIn K cd9 "borne" = true)
    (k9 : PySem.W.keepIn K (.ref f9) = true)
    (a10 : PySem.W.nsIn K mainGlobals "halved" = some (some (.ref f10)))
    (l10 : K.lookup f10 = some ⟨oc10, od10, .func (PySem.W.fnOf "halved" "halved" (defArgs (top 20)) (defBody (top 20)) (defScope (top 20)) .none kV10 dc10 pm10 an10 cd10 ct10), sl10⟩)
    (c10 : PySem.W.codeIn K cd10 "halved" = true)
    (k10 : PySem.W.keepIn K (.ref f10) = true)
    (a11 : PySem.W.nsIn K mainGlobals "written" = some (some (.ref f11)))
    (l11 : K.lookup f11 = some ⟨oc11, od11, .func (PySem.W.fnOf "written" "written" (defArgs (top 41)) (defBody (top 41)) (defScope (top 41)) .none kV11 dc11 pm11 an11 cd11 ct11), sl11⟩)
    (c11 : PySem.W.codeIn K cd11 "written" = true)
    (k11 : PySem.W.keepIn K (.ref f11) = true)
    (a12 : PySem.W.nsIn K mainGlobals "check_number" = some (some (.ref f12)))
    (l12 : K.lookup f12 = some ⟨oc12, od12, .func (PySem.W.fnOf "check_number" "check_number" (defArgs (top 28)) (defBody (top 28)) (defScope (top 28)) .none kV12 dc12 pm12 an12 cd12 ct12), sl12⟩)
    (c12 : PySem.W.codeIn K cd12 "check_number" = true)
    (k12 : PySem.W.keepIn K (.ref f12) = true)
    (a13 : PySem.W.nsIn K mainGlobals "first_above" = some (some (.ref f13)))
    (l13 : K.lookup f13 = some ⟨oc13, od13, .func (PySem.W.fnOf "first_above" "first_above" (defArgs (top 31)) (defBody (top 31)) (defScope (top 31)) .none kV13 dc13 pm13 an13 cd13 ct13), sl13⟩)
    (c13 : PySem.W.codeIn K cd13 "first_above" = true)
    (k13 : PySem.W.keepIn K (.ref f13) = true)
    (a14 : PySem.W.nsIn K mainGlobals "needed_cuts" = some (some (.ref f14)))
    (l14 : K.lookup f14 = some ⟨oc14, od14, .func (PySem.W.fnOf "needed_cuts" "needed_cuts" (defArgs (top 29)) (defBody (top 29)) (defScope (top 29)) .none kV14 dc14 pm14 an14 cd14 ct14), sl14⟩)
    (c14 : PySem.W.codeIn K cd14 "needed_cuts" = true)
    (k14 : PySem.W.keepIn K (.ref f14) = true)
    (a15 : PySem.W.nsIn K mainGlobals "needing_stretches" = some (some (.ref f15)))
    (l15 : K.lookup f15 = some ⟨oc15, od15, .func (PySem.W.fnOf "needing_stretches" "needing_stretches" (defArgs (top 30)) (defBody (top 30)) (defScope (top 30)) .none kV15 dc15 pm15 an15 cd15 ct15), sl15⟩)
    (c15 : PySem.W.codeIn K cd15 "needing_stretches" = true)
    (k15 : PySem.W.keepIn K (.ref f15) = true)
    (a16 : PySem.W.findIn K (.ref C_Fewest) "__init__" = some (some (.ref f16)))
    (i16 : PySem.W.isFn K (.ref f16) = true)
    (l16 : K.lookup f16 = some ⟨oc16, od16, .func (PySem.W.fnOf "__init__" "Fewest.__init__" (defArgs (inClass (top 23) 0)) (defBody (inClass (top 23) 0)) (defScope (inClass (top 23) 0)) .none kV16 dc16 pm16 an16 cd16 ct16), sl16⟩)
    (c16 : PySem.W.codeIn K cd16 "Fewest.__init__" = true)
    (k16 : PySem.W.keepIn K (.ref f16) = true)
    (a17 : PySem.W.findIn K (.ref C_Great) "__init__" = some (some (.ref f17)))
    (i17 : PySem.W.isFn K (.ref f17) = true)
    (l17 : K.lookup f17 = some ⟨oc17, od17, .func (PySem.W.fnOf "__init__" "Great.__init__" (defArgs (inClass (top 24) 0)) (defBody (inClass (top 24) 0)) (defScope (inClass (top 24) 0)) .none kV17 dc17 pm17 an17 cd17 ct17), sl17⟩)
    (c17 : PySem.W.codeIn K cd17 "Great.__init__" = true)
    (k17 : PySem.W.keepIn K (.ref f17) = true)
    (a18 : PySem.W.nsIn K mainGlobals "fewest" = some (some (.ref f18)))
    (l18 : K.lookup f18 = some ⟨oc18, od18, .func (PySem.W.fnOf "fewest" "fewest" (defArgs (top 32)) (defBody (top 32)) (defScope (top 32)) .none kV18 dc18 pm18 an18 cd18 ct18), sl18⟩)
    (c18 : PySem.W.codeIn K cd18 "fewest" = true)
    (k18 : PySem.W.keepIn K (.ref f18) = true)
    (a19 : PySem.W.nsIn K mainGlobals "least_number" = some (some (.ref f19)))
    (l19 : K.lookup f19 = some ⟨oc19, od19, .func (PySem.W.fnOf "least_number" "least_number" (defArgs (top 33)) (defBody (top 33)) (defScope (top 33)) .none kV19 dc19 pm19 an19 cd19 ct19), sl19⟩)
    (c19 : PySem.W.codeIn K cd19 "least_number" = true)
    (k19 : PySem.W.keepIn K (.ref f19) = true)
    (a20 : PySem.W.findIn K (.ref C_Least) "__init__" = some (some (.ref f20)))
    (i20 : PySem.W.isFn K (.ref f20) = true)
    (l20 : K.lookup f20 = some ⟨oc20, od20, .func (PySem.W.fnOf "__init__" "Least.__init__" (defArgs (inClass (top 25) 0)) (defBody (inClass (top 25) 0)) (defScope (inClass (top 25) 0)) .none kV20 dc20 pm20 an20 cd20 ct20), sl20⟩)
    (c20 : PySem.W.codeIn K cd20 "Least.__init__" = true)
    (k20 : PySem.W.keepIn K (.ref f20) = true)
    (a21 : PySem.W.nsIn K mainGlobals "lowest" = some (some (.ref f21)))
    (l21 : K.lookup f21 = some ⟨oc21, od21, .func (PySem.W.fnOf "lowest" "lowest" (defArgs (top 34)) (defBody (top 34)) (defScope (top 34)) .none kV21 dc21 pm21 an21 cd21 ct21), sl21⟩)
    (c21 : PySem.W.codeIn K cd21 "lowest" = true)
    (k21 : PySem.W.keepIn K (.ref f21) = true)
    (a22 : PySem.W.nsIn K mainGlobals "filling_places" = some (some (.ref f22)))
    (l22 : K.lookup f22 = some ⟨oc22, od22, .func (PySem.W.fnOf "filling_places" "filling_places" (defArgs (top 35)) (defBody (top 35)) (defScope (top 35)) .none kV22 dc22 pm22 an22 cd22 ct22), sl22⟩)
    (c22 : PySem.W.codeIn K cd22 "filling_places" = true)
    (k22 : PySem.W.keepIn K (.ref f22) = true)
    (a23 : PySem.W.findIn K (.ref C_Most) "__init__" = some (some (.ref f23)))
    (i23 : PySem.W.isFn K (.ref f23) = true)
    (l23 : K.lookup f23 = some ⟨oc23, od23, .func (PySem.W.fnOf "__init__" "Most.__init__" (defArgs (inClass (top 26) 0)) (defBody (inClass (top 26) 0)) (defScope (inClass (top 26) 0)) .none kV23 dc23 pm23 an23 cd23 ct23), sl23⟩)
    (c23 : PySem.W.codeIn K cd23 "Most.__init__" = true)
    (k23 : PySem.W.keepIn K (.ref f23) = true)
    (a24 : PySem.W.nsIn K mainGlobals "fullest" = some (some (.ref f24)))
    (l24 : K.lookup f24 = some ⟨oc24, od24, .func (PySem.W.fnOf "fullest" "fullest" (defArgs (top 36)) (defBody (top 36)) (defScope (top 36)) .none kV24 dc24 pm24 an24 cd24 ct24), sl24⟩)
    (c24 : PySem.W.codeIn K cd24 "fullest" = true)
    (k24 : PySem.W.keepIn K (.ref f24) = true)
    (a25 : PySem.W.nsIn K mainGlobals "_law_cell_at" = some (some (.ref f25)))
    (l25 : K.lookup f25 = some ⟨oc25, od25, .func (PySem.W.fnOf "_law_cell_at" "_law_cell_at" (defArgs (top 43)) (defBody (top 43)) (defScope (top 43)) .none kV25 dc25 pm25 an25 cd25 ct25), sl25⟩)
    (c25 : PySem.W.codeIn K cd25 "_law_cell_at" = true)
    (k25 : PySem.W.keepIn K (.ref f25) = true)
    (a26 : PySem.W.nsIn K mainGlobals "_law_draw" = some (some (.ref f26)))
    (l26 : K.lookup f26 = some ⟨oc26, od26, .func (PySem.W.fnOf "_law_draw" "_law_draw" (defArgs (top 44)) (defBody (top 44)) (defScope (top 44)) .none kV26 dc26 pm26 an26 cd26 ct26), sl26⟩)
    (c26 : PySem.W.codeIn K cd26 "_law_draw" = true)
    (k26 : PySem.W.keepIn K (.ref f26) = true)
    (a27 : PySem.W.nsIn K mainGlobals "_law_row" = some (some (.ref f27)))
    (l27 : K.lookup f27 = some ⟨oc27, od27, .func (PySem.W.fnOf "_law_row" "_law_row" (defArgs (top 45)) (defBody (top 45)) (defScope (top 45)) .none kV27 dc27 pm27 an27 cd27 ct27), sl27⟩)
    (c27 : PySem.W.codeIn K cd27 "_law_row" = true)
    (k27 : PySem.W.keepIn K (.ref f27) = true)
    (a28 : PySem.W.nsIn K mainGlobals "_law_kinds" = some (some (.ref f28)))
    (l28 : K.lookup f28 = some ⟨oc28, od28, .func (PySem.W.fnOf "_law_kinds" "_law_kinds" (defArgs (top 48)) (defBody (top 48)) (defScope (top 48)) .none kV28 dc28 pm28 an28 cd28 ct28), sl28⟩)
    (c28 : PySem.W.codeIn K cd28 "_law_kinds" = true)
    (k28 : PySem.W.keepIn K (.ref f28) = true)
    (a29 : PySem.W.nsIn K mainGlobals "_law_with_row" = some (some (.ref f29)))
    (l29 : K.lookup f29 = some ⟨oc29, od29, .func (PySem.W.fnOf "_law_with_row" "_law_with_row" (defArgs (top 49)) (defBody (top 49)) (defScope (top 49)) .none kV29 dc29 pm29 an29 cd29 ct29), sl29⟩)
    (c29 : PySem.W.codeIn K cd29 "_law_with_row" = true)
    (k29 : PySem.W.keepIn K (.ref f29) = true)
    (a30 : PySem.W.nsIn K mainGlobals "_law_with_number" = some (some (.ref f30)))
    (l30 : K.lookup f30 = some ⟨oc30, od30, .func (PySem.W.fnOf "_law_with_number" "_law_with_number" (defArgs (top 50)) (defBody (top 50)) (defScope (top 50)) .none kV30 dc30 pm30 an30 cd30 ct30), sl30⟩)
    (c30 : PySem.W.codeIn K cd30 "_law_with_number" = true)
    (k30 : PySem.W.keepIn K (.ref f30) = true)
    (a31 : PySem.W.nsIn K mainGlobals "_law_with_cuts" = some (some (.ref f31)))
    (l31 : K.lookup f31 = some ⟨oc31, od31, .func (PySem.W.fnOf "_law_with_cuts" "_law_with_cuts" (defArgs (top 51)) (defBody (top 51)) (defScope (top 51)) .none kV31 dc31 pm31 an31 cd31 ct31), sl31⟩)
    (c31 : PySem.W.codeIn K cd31 "_law_with_cuts" = true)
    (k31 : PySem.W.keepIn K (.ref f31) = true)
    (a32 : PySem.W.nsIn K mainGlobals "_law_cut_text" = some (some (.ref f32)))
    (l32 : K.lookup f32 = some ⟨oc32, od32, .func (PySem.W.fnOf "_law_cut_text" "_law_cut_text" (defArgs (top 52)) (defBody (top 52)) (defScope (top 52)) .none kV32 dc32 pm32 an32 cd32 ct32), sl32⟩)
    (c32 : PySem.W.codeIn K cd32 "_law_cut_text" = true)
    (k32 : PySem.W.keepIn K (.ref f32) = true)
    (a33 : PySem.W.nsIn K mainGlobals "_law_told" = some (some (.ref f33)))
    (l33 : K.lookup f33 = some ⟨oc33, od33, .func (PySem.W.fnOf "_law_told" "_law_told" (defArgs (top 53)) (defBody (top 53)) (defScope (top 53)) .none kV33 dc33 pm33 an33 cd33 ct33), sl33⟩)
    (c33 : PySem.W.codeIn K cd33 "_law_told" = true)
    (k33 : PySem.W.keepIn K (.ref f33) = true)
    (a34 : PySem.W.nsIn K mainGlobals "_law_all" = some (some (.ref f34)))
    (l34 : K.lookup f34 = some ⟨oc34, od34, .func (PySem.W.fnOf "_law_all" "_law_all" (defArgs (top 54)) (defBody (top 54)) (defScope (top 54)) .none kV34 dc34 pm34 an34 cd34 ct34), sl34⟩)
    (c34 : PySem.W.codeIn K cd34 "_law_all" = true)
    (k34 : PySem.W.keepIn K (.ref f34) = true)
    (a35 : PySem.W.nsIn K mainGlobals "law" = some (some (.ref f35)))
    (l35 : K.lookup f35 = some ⟨oc35, od35, .func (PySem.W.fnOf "law" "law" (defArgs (top 55)) (defBody (top 55)) (defScope (top 55)) .none kV35 dc35 pm35 an35 cd35 ct35), sl35⟩)
    (c35 : PySem.W.codeIn K cd35 "law" = true)
    (k35 : PySem.W.keepIn K (.ref f35) = true)
    (z_len : PySem.W.nsIn K mainGlobals "len" = some none)
    (z_sum : PySem.W.nsIn K mainGlobals "sum" = some none)
    (z_abs : PySem.W.nsIn K mainGlobals "abs" = some none)
    (z_all : PySem.W.nsIn K mainGlobals "all" = some none)
    (z_isinstance : PySem.W.nsIn K mainGlobals "isinstance" = some none)
    (z_max : PySem.W.nsIn K mainGlobals "max" = some none)
    (z_int : PySem.W.nsIn K mainGlobals "int" = some none)
    (z_bool : PySem.W.nsIn K mainGlobals "bool" = some none)
    (z_list : PySem.W.nsIn K mainGlobals "list" = some none)
    (z_range : PySem.W.nsIn K mainGlobals "range" = some none)
    (z_enumerate : PySem.W.nsIn K mainGlobals "enumerate" = some none)
    (z_zip : PySem.W.nsIn K mainGlobals "zip" = some none)
    (z_ValueError : PySem.W.nsIn K mainGlobals "ValueError" = some none)
    (y_MOST_LOAD : PySem.W.nsIn K mainGlobals "MOST_LOAD" = some (some (.int 1000000 t_MOST_LOAD)))
    (y_MOST_LOADS : PySem.W.nsIn K mainGlobals "MOST_LOADS" = some (some (.int 1000000 t_MOST_LOADS)))
    (hn : PySem.W.specialIn K (.builtin "object.__class__") "__get__" = some (some (.builtin "getset_descriptor.__get__")))
    (htk : PySem.W.takesIn K (.builtin "object.__class__") = some true)
    (pg_Fewest : PySem.W.plainGet K C_Fewest Str.empty = true)
    (hd_Fewest : PySem.W.hasDictIn K C_Fewest = true)
    (po_Fewest : PySem.W.plainOver K C_Fewest = true)
    (sa_Fewest : PySem.W.findIn K (.ref C_Fewest) "__setattr__" = some (some (.builtin "object.__setattr__")))
    (ha_Fewest : PySem.W.findIn K (.ref C_Fewest) "__class__" = some (some (.builtin "object.__class__")))
    (hm_Fewest : PySem.W.mroIn K C_Fewest (.type "object") = some true)
    (mk_Fewest : PySem.W.makesIn K C_Fewest = true)
    (kc_Fewest : PySem.W.keepIn K (.ref C_Fewest) = true)
    (nn_Fewest_cuts : PySem.W.findIn K (.ref C_Fewest) "cuts" = some none)
    (nn_Fewest_stretches : PySem.W.findIn K (.ref C_Fewest) "stretches" = some none)
    (pg_Great : PySem.W.plainGet K C_Great Str.empty = true)
    (hd_Great : PySem.W.hasDictIn K C_Great = true)
    (po_Great : PySem.W.plainOver K C_Great = true)
    (sa_Great : PySem.W.findIn K (.ref C_Great) "__setattr__" = some (some (.builtin "object.__setattr__")))
    (ha_Great : PySem.W.findIn K (.ref C_Great) "__class__" = some (some (.builtin "object.__class__")))
    (hm_Great : PySem.W.mroIn K C_Great (.type "object") = some true)
    (mk_Great : PySem.W.makesIn K C_Great = true)
    (kc_Great : PySem.W.keepIn K (.ref C_Great) = true)
    (nn_Great_place : PySem.W.findIn K (.ref C_Great) "place" = some none)
    (pg_Least : PySem.W.plainGet K C_Least Str.empty = true)
    (hd_Least : PySem.W.hasDictIn K C_Least = true)
    (po_Least : PySem.W.plainOver K C_Least = true)
    (sa_Least : PySem.W.findIn K (.ref C_Least) "__setattr__" = some (some (.builtin "object.__setattr__")))
    (ha_Least : PySem.W.findIn K (.ref C_Least) "__class__" = some (some (.builtin "object.__class__")))
    (hm_Least : PySem.W.mroIn K C_Least (.type "object") = some true)
    (mk_Least : PySem.W.makesIn K C_Least = true)
    (kc_Least : PySem.W.keepIn K (.ref C_Least) = true)
    (nn_Least_cuts : PySem.W.findIn K (.ref C_Least) "cuts" = some none)
    (nn_Least_number : PySem.W.findIn K (.ref C_Least) "number" = some none)
    (nn_Least_stretches : PySem.W.findIn K (.ref C_Least) "stretches" = some none)
    (pg_Most : PySem.W.plainGet K C_Most Str.empty = true)
    (hd_Most : PySem.W.hasDictIn K C_Most = true)
    (po_Most : PySem.W.plainOver K C_Most = true)
    (sa_Most : PySem.W.findIn K (.ref C_Most) "__setattr__" = some (some (.builtin "object.__setattr__")))
    (ha_Most : PySem.W.findIn K (.ref C_Most) "__class__" = some (some (.builtin "object.__class__")))
    (hm_Most : PySem.W.mroIn K C_Most (.type "object") = some true)
    (mk_Most : PySem.W.makesIn K C_Most = true)
    (kc_Most : PySem.W.keepIn K (.ref C_Most) = true)
    (nn_Most_cuts : PySem.W.findIn K (.ref C_Most) "cuts" = some none)
    (nn_Most_places : PySem.W.findIn K (.ref C_Most) "places" = some none)
    (xc_CutError : PySem.W.excIn K C_CutError [.type "ValueError", .type "Exception", .type "BaseException", .type "object"] "ValueError.__new__" = true)
    (xg_CutError : PySem.W.findIn K (.ref C_CutError) "__getattribute__" = some (some (.builtin "BaseException.__getattribute__")))
    (xh_CutError : PySem.W.findIn K (.ref C_CutError) "__getattr__" = some none)
    (xo_CutError : PySem.W.findIn K (.ref C_CutError) "__class__" = some (some (.builtin "object.__class__")))
    (xm_CutError : PySem.W.mroIn K C_CutError (.type "object") = some true)
    (xb_CutError : PySem.W.mroIn K C_CutError (.type "BaseException") = some true)
    (xc_BadRow : PySem.W.excIn K C_BadRow [.type "ValueError", .type "Exception", .type "BaseException", .type "object"] "ValueError.__new__" = true)
    (xg_BadRow : PySem.W.findIn K (.ref C_BadRow) "__getattribute__" = some (some (.builtin "BaseException.__getattribute__")))
    (xh_BadRow : PySem.W.findIn K (.ref C_BadRow) "__getattr__" = some none)
    (xo_BadRow : PySem.W.findIn K (.ref C_BadRow) "__class__" = some (some (.builtin "object.__class__")))
    (xm_BadRow : PySem.W.mroIn K C_BadRow (.type "object") = some true)
    (xb_BadRow : PySem.W.mroIn K C_BadRow (.type "BaseException") = some true)
    (xc_BadNumber : PySem.W.excIn K C_BadNumber [.type "ValueError", .type "Exception", .type "BaseException", .type "object"] "ValueError.__new__" = true)
    (xg_BadNumber : PySem.W.findIn K (.ref C_BadNumber) "__getattribute__" = some (some (.builtin "BaseException.__getattribute__")))
    (xh_BadNumber : PySem.W.findIn K (.ref C_BadNumber) "__getattr__" = some none)
    (xo_BadNumber : PySem.W.findIn K (.ref C_BadNumber) "__class__" = some (some (.builtin "object.__class__")))
    (xm_BadNumber : PySem.W.mroIn K C_BadNumber (.type "object") = some true)
    (xb_BadNumber : PySem.W.mroIn K C_BadNumber (.type "BaseException") = some true)
    (xc_BadCuts : PySem.W.excIn K C_BadCuts [.type "ValueError", .type "Exception", .type "BaseException", .type "object"] "ValueError.__new__" = true)
    (xg_BadCuts : PySem.W.findIn K (.ref C_BadCuts) "__getattribute__" = some (some (.builtin "BaseException.__getattribute__")))
    (xh_BadCuts : PySem.W.findIn K (.ref C_BadCuts) "__getattr__" = some none)
    (xo_BadCuts : PySem.W.findIn K (.ref C_BadCuts) "__class__" = some (some (.builtin "object.__class__")))
    (xm_BadCuts : PySem.W.mroIn K C_BadCuts (.type "object") = some true)
    (xb_BadCuts : PySem.W.mroIn K C_BadCuts (.type "BaseException") = some true)
    (kk_BadRow_BadRow : PySem.W.kitOne K (.ref C_BadRow) (.ref C_BadRow) = some true)
    (kk_BadRow_BadNumber : PySem.W.kitOne K (.ref C_BadRow) (.ref C_BadNumber) = some false)
    (kk_BadRow_BadCuts : PySem.W.kitOne K (.ref C_BadRow) (.ref C_BadCuts) = some false)
    (kk_BadRow_BadText : PySem.W.kitOne K (.ref C_BadRow) (.ref C_BadText) = some false)
    (kv_BadRow : PySem.W.kitOne K (.ref C_BadRow) (.type "ValueError") = some true)
    (ss_BadRow : PySem.W.subIn K (.ref C_BadRow) (.ref C_CutError) = some true)
    (kk_BadNumber_BadRow : PySem.W.kitOne K (.ref C_BadNumber) (.ref C_BadRow) = some false)
    (kk_BadNumber_BadNumber : PySem.W.kitOne K (.ref C_BadNumber) (.ref C_BadNumber) = some true)
    (kk_BadNumber_BadCuts : PySem.W.kitOne K (.ref C_BadNumber) (.ref C_BadCuts) = some false)
    (kk_BadNumber_BadText : PySem.W.kitOne K (.ref C_BadNumber) (.ref C_BadText) = some false)
    (kv_BadNumber : PySem.W.kitOne K (.ref C_BadNumber) (.type "ValueError") = some true)
    (ss_BadNumber : PySem.W.subIn K (.ref C_BadNumber) (.ref C_CutError) = some true)
    (kk_BadCuts_BadRow : PySem.W.kitOne K (.ref C_BadCuts) (.ref C_BadRow) = some false)
    (kk_BadCuts_BadNumber : PySem.W.kitOne K (.ref C_BadCuts) (.ref C_BadNumber) = some false)
    (kk_BadCuts_BadCuts : PySem.W.kitOne K (.ref C_BadCuts) (.ref C_BadCuts) = some true)
    (kk_BadCuts_BadText : PySem.W.kitOne K (.ref C_BadCuts) (.ref C_BadText) = some false)
    (kv_BadCuts : PySem.W.kitOne K (.ref C_BadCuts) (.type "ValueError") = some true)
    (ss_BadCuts : PySem.W.subIn K (.ref C_BadCuts) (.ref C_CutError) = some true)
    : ∃ fd : FuncData, (∀ (s : Shared) (v : Value), BindsTo s fd ⟨[v], []⟩ [("_law_script", v)]) ∧ ∀ base : Heap, K.In base → base.Ns mainGlobals mg → FnOk l.prog w K mg base CX0 14 fa fd ["_law_script"] (spLaw K) := by
  have e := hfa.symm.trans (PySem.W.mg_of X G a35)
  cases e
  have T : Txt mg := ⟨PySem.W.mg_none_of X G z_len, PySem.W.mg_none_of X G z_sum, PySem.W.mg_none_of X G z_abs, PySem.W.mg_none_of X G z_all, PySem.W.mg_none_of X G z_isinstance, PySem.W.mg_none_of X G z_max, PySem.W.mg_none_of X G z_int, PySem.W.mg_none_of X G z_bool, PySem.W.mg_none_of X G z_list, PySem.W.mg_none_of X G z_range, PySem.W.mg_none_of X G z_enumerate, PySem.W.mg_none_of X G z_zip, PySem.W.mg_none_of X G z_ValueError, ⟨_, PySem.W.mg_of X G y_MOST_LOAD⟩, ⟨_, PySem.W.mg_of X G y_MOST_LOADS⟩⟩
  have c : Cl K mg ⟨C_CutError, C_BadRow, C_BadNumber, C_BadCuts, C_BadText, C_Fewest, C_Great, C_Least, C_Most⟩ := ⟨PySem.W.mg_of X G aC_CutError, ⟨xc_CutError, xg_CutError, xh_CutError, xo_CutError, xm_CutError, xb_CutError⟩, PySem.W.mg_of X G aC_BadRow, ⟨xc_BadRow, xg_BadRow, xh_BadRow, xo_BadRow, xm_BadRow, xb_BadRow⟩, PySem.W.mg_of X G aC_BadNumber, ⟨xc_BadNumber, xg_BadNumber, xh_BadNumber, xo_BadNumber, xm_BadNumber, xb_BadNumber⟩, PySem.W.mg_of X G aC_BadCuts, ⟨xc_BadCuts, xg_BadCuts, xh_BadCuts, xo_BadCuts, xm_BadCuts, xb_BadCuts⟩, PySem.W.mg_of X G aC_BadText, PySem.W.mg_of X G aC_Fewest, ⟨⟨pg_Fewest, hd_Fewest, po_Fewest, sa_Fewest⟩, ha_Fewest, hn, htk, hm_Fewest⟩, PySem.W.mg_of X G aC_Great, ⟨⟨pg_Great, hd_Great, po_Great, sa_Great⟩, ha_Great, hn, htk, hm_Great⟩, PySem.W.mg_of X G aC_Least, ⟨⟨pg_Least, hd_Least, po_Least, sa_Least⟩, ha_Least, hn, htk, hm_Least⟩, PySem.W.mg_of X G aC_Most, ⟨⟨pg_Most, hd_Most, po_Most, sa_Most⟩, ha_Most, hn, htk, hm_Most⟩, nn_Fewest_cuts, nn_Fewest_stretches, nn_Great_place, nn_Least_cuts, nn_Least_number, nn_Least_stretches, nn_Most_cuts, nn_Most_places, kk_BadRow_BadRow, kk_BadRow_BadNumber, kk_BadRow_BadCuts, kk_BadRow_BadText, kv_BadRow, ss_BadRow, kk_BadNumber_BadRow, kk_BadNumber_BadNumber, kk_BadNumber_BadCuts, kk_BadNumber_BadText, kv_BadNumber, ss_BadNumber, kk_BadCuts_BadRow, kk_BadCuts_BadNumber, kk_BadCuts_BadCuts, kk_BadCuts_BadText, kv_BadCuts, ss_BadCuts⟩
  generalize hca : (⟨C_CutError, C_BadRow, C_BadNumber, C_BadCuts, C_BadText, C_Fewest, C_Great, C_Least, C_Most⟩ : CA) = ca at c
  have q_CutError : C_CutError = ca.CutError := by rw [← hca]
  have q_BadRow : C_BadRow = ca.BadRow := by rw [← hca]
  have q_BadNumber : C_BadNumber = ca.BadNumber := by rw [← hca]
  have q_BadCuts : C_BadCuts = ca.BadCuts := by rw [← hca]
  have q_BadText : C_BadText = ca.BadText := by rw [← hca]
  have q_Fewest : C_Fewest = ca.Fewest := by rw [← hca]
  have q_Great : C_Great = ca.Great := by rw [← hca]
  have q_Least : C_Least = ca.Least := by rw [← hca]
  have q_Most : C_Most = ca.Most := by rw [← hca]
  have F0 := fun_mk (st := (top 10)) l0 c0 k0
  have b0 := F0.binds (ps := ["value"]) fun _ _ _ _ _ _ us hl => match us, hl with | [_], _ => rfl
  have F1 := fun_mk (st := (top 11)) l1 c1 k1
  have b1 := F1.binds (ps := ["value", "least"]) fun _ _ _ _ _ _ us hl => match us, hl with | [_, _], _ => rfl
  have F2 := fun_mk (st := (top 12)) l2 c2 k2
  have b2 := F2.binds (ps := ["value"]) fun _ _ _ _ _ _ us hl => match us, hl with | [_], _ => rfl
  have F3 := fun_mk (st := (top 13)) l3 c3 k3
  have b3 := F3.binds (ps := ["value"]) fun _ _ _ _ _ _ us hl => match us, hl with | [_], _ => rfl
  have F4 := fun_mk (st := (top 16)) l4 c4 k4
  have b4 := F4.binds (ps := ["value"]) fun _ _ _ _ _ _ us hl => match us, hl with | [_], _ => rfl
  have F5 := fun_mk (st := (top 14)) l5 c5 k5
  have b5 := F5.binds (ps := ["value", "row", "least"]) fun _ _ _ _ _ _ us hl => match us, hl with | [_, _, _], _ => rfl
  have F6 := fun_mk (st := (top 15)) l6 c6 k6
  have b6 := F6.binds (ps := ["value", "row"]) fun _ _ _ _ _ _ us hl => match us, hl with | [_, _], _ => rfl
  have F7 := fun_mk (st := (top 17)) l7 c7 k7
  have b7 := F7.binds (ps := ["value", "row"]) fun _ _ _ _ _ _ us hl => match us, hl with | [_, _], _ => rfl
  have F8 := fun_mk (st := (top 18)) l8 c8 k8
  have b8 := F8.binds (ps := ["row", "cuts"]) fun _ _ _ _ _ _ us hl => match us, hl with | [_, _], _ => rfl
  have F9 := fun_mk (st := (top 19)) l9 c9 k9
  have b9 := F9.binds (ps := ["row", "cuts"]) fun _ _ _ _ _ _ us hl => match us, hl with | [_, _], _ => rfl
  have F10 := fun_mk (st := (top 20)) l10 c10 k10
  have b10 := F10.binds (ps := ["row"]) fun _ _ _ _ _ _ us hl => match us, hl with | [_], _ => rfl
  have F11 := fun_mk (st := (top 41)) l11 c11 k11
  have b11 := F11.binds (ps := ["row", "cuts"]) fun _ _ _ _ _ _ us hl => match us, hl with | [_, _], _ => rfl
  have F12 := fun_mk (st := (top 28)) l12 c12 k12
  have b12 := F12.binds (ps := ["value", "least"]) fun _ _ _ _ _ _ us hl => match us, hl with | [_, _], _ => rfl
  have F13 := fun_mk (st := (top 31)) l13 c13 k13
  have b13 := F13.binds (ps := ["row", "bound"]) fun _ _ _ _ _ _ us hl => match us, hl with | [_, _], _ => rfl
  have F14 := fun_mk (st := (top 29)) l14 c14 k14
  have b14 := F14.binds (ps := ["row", "bound"]) fun _ _ _ _ _ _ us hl => match us, hl with | [_, _], _ => rfl
  have F15 := fun_mk (st := (top 30)) l15 c15 k15
  have b15 := F15.binds (ps := ["cuts"]) fun _ _ _ _ _ _ us hl => match us, hl with | [_], _ => rfl
  have F16 := fun_mk (st := (inClass (top 23) 0)) l16 c16 k16
  have b16 := F16.binds (ps := ["self", "cuts", "stretches"]) fun _ _ _ _ _ _ us hl => match us, hl with | [_, _, _], _ => rfl
  have F17 := fun_mk (st := (inClass (top 24) 0)) l17 c17 k17
  have b17 := F17.binds (ps := ["self", "place"]) fun _ _ _ _ _ _ us hl => match us, hl with | [_, _], _ => rfl
  have F18 := fun_mk (st := (top 32)) l18 c18 k18
  have b18 := F18.binds (ps := ["row", "bound"]) fun _ _ _ _ _ _ us hl => match us, hl with | [_, _], _ => rfl
  have F19 := fun_mk (st := (top 33)) l19 c19 k19
  have b19 := F19.binds (ps := ["row", "count"]) fun _ _ _ _ _ _ us hl => match us, hl with | [_, _], _ => rfl
  have F20 := fun_mk (st := (inClass (top 25) 0)) l20 c20 k20
  have b20 := F20.binds (ps := ["self", "cuts", "number", "stretches"]) fun _ _ _ _ _ _ us hl => match us, hl with | [_, _, _, _], _ => rfl
  have F21 := fun_mk (st := (top 34)) l21 c21 k21
  have b21 := F21.binds (ps := ["row", "count"]) fun _ _ _ _ _ _ us hl => match us, hl with | [_, _], _ => rfl
  have F22 := fun_mk (st := (top 35)) l22 c22 k22
  have b22 := F22.binds (ps := ["row", "bound"]) fun _ _ _ _ _ _ us hl => match us, hl with | [_, _], _ => rfl
  have F23 := fun_mk (st := (inClass (top 26) 0)) l23 c23 k23
  have b23 := F23.binds (ps := ["self", "cuts", "places"]) fun _ _ _ _ _ _ us hl => match us, hl with | [_, _, _], _ => rfl
  have F24 := fun_mk (st := (top 36)) l24 c24 k24
  have b24 := F24.binds (ps := ["row", "bound"]) fun _ _ _ _ _ _ us hl => match us, hl with | [_, _], _ => rfl
  have F25 := fun_mk (st := (top 43)) l25 c25 k25
  have b25 := F25.binds (ps := ["_law_script", "_law_k"]) fun _ _ _ _ _ _ us hl => match us, hl with | [_, _], _ => rfl
  have F26 := fun_mk (st := (top 44)) l26 c26 k26
  have b26 := F26.binds (ps := ["_law_cell", "_law_k", "_law_many"]) fun _ _ _ _ _ _ us hl => match us, hl with | [_, _, _], _ => rfl
  have F27 := fun_mk (st := (top 45)) l27 c27 k27
  have b27 := F27.binds (ps := ["_law_script"]) fun _ _ _ _ _ _ us hl => match us, hl with | [_], _ => rfl
  have F28 := fun_mk (st := (top 48)) l28 c28 k28
  have b28 := F28.binds (ps := ["_law_error"]) fun _ _ _ _ _ _ us hl => match us, hl with | [_], _ => rfl
  have F29 := fun_mk (st := (top 49)) l29 c29 k29
  have b29 := F29.binds (ps := ["_law_door", "_law_row_here"]) fun _ _ _ _ _ _ us hl => match us, hl with | [_, _], _ => rfl
  have F30 := fun_mk (st := (top 50)) l30 c30 k30
  have b30 := F30.binds (ps := ["_law_door", "_law_thing"]) fun _ _ _ _ _ _ us hl => match us, hl with | [_, _], _ => rfl
  have F31 := fun_mk (st := (top 51)) l31 c31 k31
  have b31 := F31.binds (ps := ["_law_row_here", "_law_cuts"]) fun _ _ _ _ _ _ us hl => match us, hl with | [_, _], _ => rfl
  have F32 := fun_mk (st := (top 52)) l32 c32 k32
  have b32 := F32.binds (ps := ["_law_row_here", "_law_cuts"]) fun _ _ _ _ _ _ us hl => match us, hl with | [_, _], _ => rfl
  have F33 := fun_mk (st := (top 53)) l33 c33 k33
  have b33 := F33.binds (ps := ["_law_ask", "_law_one", "_law_other"]) fun _ _ _ _ _ _ us hl => match us, hl with | [_, _, _], _ => rfl
  have F34 := fun_mk (st := (top 54)) l34 c34 k34
  have b34 := F34.binds (ps := ["_law_ask", "_law_doors", "_law_things", "_law_due"]) fun _ _ _ _ _ _ us hl => match us, hl with | [_, _, _, _], _ => rfl
  have F35 := fun_mk (st := (top 55)) l35 c35 k35
  have b35 := F35.binds (ps := ["_law_script"]) fun _ _ _ _ _ _ us hl => match us, hl with | [_], _ => rfl
  refine ⟨PySem.W.fnOf "law" "law" (defArgs (top 55)) (defBody (top 55)) (defScope (top 55)) .none kV35 dc35 pm35 an35 cd35 ct35, fun s v => .of_eq rfl, fun base _ _ => ?_⟩
  have X0 : Callee l.prog w K mg base "is_whole" ["value"] 1 spWhole7 := callee_mk F0 (PySem.W.mg_of X G a0) b0 (ok_is_whole T  F0)
  have X1 : Callee l.prog w K mg base "is_whole_from" ["value", "least"] 2 spWF7 := callee_mk F1 (PySem.W.mg_of X G a1) b1 (ok_is_whole_from T X0 F1)
  have X2 : Callee l.prog w K mg base "is_load" ["value"] 3 spLoad7 := callee_mk F2 (PySem.W.mg_of X G a2) b2 (ok_is_load T X1 F2)
  have X3 : Callee l.prog w K mg base "is_row" ["value"] 4 spIsRow7 := callee_mk F3 (PySem.W.mg_of X G a3) b3 (ok_is_row T X2 F3)
  have X4 : CalleeE l.prog w K mg base "check_row" ["value"] 5 (spCheckRow7 ca) := calleeE_mk F4 (PySem.W.mg_of X G a4) b4 (ok_check_row T c X3 F4)
  have X5 : Callee l.prog w K mg base "are_rising_places" ["value", "row", "least"] 3 spRise7 := callee_mk F5 (PySem.W.mg_of X G a5) b5 (ok_are_rising_places T X1 F5)
  have X6 : Callee l.prog w K mg base "are_cuts" ["value", "row"] 4 spAreCuts7 := callee_mk F6 (PySem.W.mg_of X G a6) b6 (ok_are_cuts T X5 F6)
  have X7 : CalleeE l.prog w K mg base "check_cuts" ["value", "row"] 5 (spCheckCuts7 ca) := calleeE_mk F7 (PySem.W.mg_of X G a7) b7 (ok_check_cuts T c X6 F7)
  have X8 : Callee l.prog w K mg base "part_sums" ["row", "cuts"] 1 (spPartSums K) := callee_mk F8 (PySem.W.mg_of X G a8) b8 (ok_part_sums T  F8)
  have X9 : CalleeE l.prog w K mg base "borne" ["row", "cuts"] 9 (spBorne7 ca) := calleeE_mk F9 (PySem.W.mg_of X G a9) b9 (ok_borne T X4 X7 X8 F9)
  have X10 : CalleeE l.prog w K mg base "halved" ["row"] 9 (spHalved7 ca) := calleeE_mk F10 (PySem.W.mg_of X G a10) b10 (ok_halved T X4 F10)
  have X11 : CalleeE l.prog w K mg base "written" ["row", "cuts"] 9 (spWritten7 ca) := calleeE_mk F11 (PySem.W.mg_of X G a11) b11 (ok_written T X4 X7 F11)
  have X12 : CalleeE l.prog w K mg base "check_number" ["value", "least"] 3 (spCheckNum7 ca) := calleeE_mk F12 (PySem.W.mg_of X G a12) b12 (ok_check_number T c X1 F12)
  have X13 : Callee l.prog w K mg base "first_above" ["row", "bound"] 1 spFirstAbove := callee_mk F13 (PySem.W.mg_of X G a13) b13 (ok_first_above T  F13)
  have X14 : Callee l.prog w K mg base "needed_cuts" ["row", "bound"] 1 spNeeded := callee_mk F14 (PySem.W.mg_of X G a14) b14 (ok_needed_cuts T  F14)
  have X15 : Callee l.prog w K mg base "needing_stretches" ["cuts"] 1 spNeeding := callee_mk F15 (PySem.W.mg_of X G a15) b15 (ok_needing_stretches T  F15)
  have X16 : MakeC l.prog w K mg base "Fewest" ca.Fewest ["self", "cuts", "stretches"] 2 (spMkF ca.Fewest) := ⟨⟨_, _, ⟨q_Fewest ▸ mk_Fewest, q_Fewest ▸ a16, i16, q_Fewest ▸ kc_Fewest⟩, (ok_Fewest_init T c F16), b16⟩, c.m_Fewest⟩
  have X17 : MakeC l.prog w K mg base "Great" ca.Great ["self", "place"] 2 (spMkG ca.Great) := ⟨⟨_, _, ⟨q_Great ▸ mk_Great, q_Great ▸ a17, i17, q_Great ▸ kc_Great⟩, (ok_Great_init T c F17), b17⟩, c.m_Great⟩
  have X18 : CalleeE l.prog w K mg base "fewest" ["row", "bound"] 9 (spFewest7 ca) := calleeE_mk F18 (PySem.W.mg_of X G a18) b18 (ok_fewest T c X4 X12 X13 X14 X15 X16 X17 F18)
  have X19 : Callee l.prog w K mg base "least_number" ["row", "count"] 7 spLeastNum := callee_mk F19 (PySem.W.mg_of X G a19) b19 (ok_least_number T X14 F19)
  have X20 : MakeC l.prog w K mg base "Least" ca.Least ["self", "cuts", "number", "stretches"] 2 (spMkL ca.Least) := ⟨⟨_, _, ⟨q_Least ▸ mk_Least, q_Least ▸ a20, i20, q_Least ▸ kc_Least⟩, (ok_Least_init T c F20), b20⟩, c.m_Least⟩
  have X21 : CalleeE l.prog w K mg base "lowest" ["row", "count"] 9 (spLowest7 ca) := calleeE_mk F21 (PySem.W.mg_of X G a21) b21 (ok_lowest T c X4 X12 X19 X14 X15 X20 F21)
  have X22 : Callee l.prog w K mg base "filling_places" ["row", "bound"] 1 spFilling := callee_mk F22 (PySem.W.mg_of X G a22) b22 (ok_filling_places T  F22)
  have X23 : MakeC l.prog w K mg base "Most" ca.Most ["self", "cuts", "places"] 2 (spMkM ca.Most) := ⟨⟨_, _, ⟨q_Most ▸ mk_Most, q_Most ▸ a23, i23, q_Most ▸ kc_Most⟩, (ok_Most_init T c F23), b23⟩, c.m_Most⟩
  have X24 : CalleeE l.prog w K mg base "fullest" ["row", "bound"] 9 (spFullest7 ca) := calleeE_mk F24 (PySem.W.mg_of X G a24) b24 (ok_fullest T c X4 X12 X22 X23 F24)
  have X25 : Callee l.prog w K mg base "_law_cell_at" ["_law_script", "_law_k"] 1 (spCell K) := callee_mk F25 (PySem.W.mg_of X G a25) b25 (ok_cell T  F25)
  have X26 : Callee l.prog w K mg base "_law_draw" ["_law_cell", "_law_k", "_law_many"] 1 spDraw := callee_mk F26 (PySem.W.mg_of X G a26) b26 (ok_draw T  F26)
  have X27 : Callee l.prog w K mg base "_law_row" ["_law_script"] 2 (spRow K) := callee_mk F27 (PySem.W.mg_of X G a27) b27 (ok_row T X25 X26 F27)
  have X28 : CalleeH l.prog w K mg base "_law_kinds" ["_law_error"] 1 (spKinds ca) := calleeH_mk F28 (PySem.W.mg_of X G a28) b28 (ok_kinds T c F28)
  have X29 : CalleeV l.prog w K mg base "_law_with_row" f29 ["_law_door", "_law_row_here"] 10 (spWithRow ca) := ⟨⟨_, (ok_withrow T X9 X10 X11 X18 X21 X24 F29), F29.kp, b29⟩, PySem.W.mg_of X G a29⟩
  have X30 : CalleeV l.prog w K mg base "_law_with_number" f30 ["_law_door", "_law_thing"] 10 (spWithNum ca) := ⟨⟨_, (ok_withnum T X18 X21 X24 F30), F30.kp, b30⟩, PySem.W.mg_of X G a30⟩
  have X31 : CalleeV l.prog w K mg base "_law_with_cuts" f31 ["_law_row_here", "_law_cuts"] 10 (bCuts ca) := ⟨⟨_, (ok_withcuts T X9 F31), F31.kp, b31⟩, PySem.W.mg_of X G a31⟩
  have X32 : CalleeV l.prog w K mg base "_law_cut_text" f32 ["_law_row_here", "_law_cuts"] 10 (bCuts ca) := ⟨⟨_, (ok_cuttext T X11 F32), F32.kp, b32⟩, PySem.W.mg_of X G a32⟩
  have X33 : Callee l.prog w K mg base "_law_told" ["_law_ask", "_law_one", "_law_other"] 12 (spTold l.prog w K mg base ca) := callee_mk F33 (PySem.W.mg_of X G a33) b33 (ok_told T c X28 F33)
  have X34 : Callee l.prog w K mg base "_law_all" ["_law_ask", "_law_doors", "_law_things", "_law_due"] 13 (spAll l.prog w K mg base ca) := callee_mk F34 (PySem.W.mg_of X G a34) b34 (ok_all T X33 F34)
  exact ok_law T c X25 X27 X29 X30 X31 X32 X33 X34 X9 X10 X18 X21 X24 F35
theorem walk {l : PySem.W.OpenLaw} {q : Program} {loose : List Str} {XP : (Str → Option Value) → Heap → Prop} {YP : World → Heap → Prop} {d : DefRec} {K : Params → PySem.W.Frag} (hn : l.most = some 63) (hdf : d.params.defaults = [])
    (hY : ∀ (w : World) (h : Heap), YP w h → (K w.params).In h)
    (F : ∀ (w : World) (mg : Str → Option Value) (fa : Addr) (h : Heap), (K w.params).In h → h.Ns mainGlobals mg → mg d.name = some (.ref fa) →
      ∃ fd : FuncData, (∀ (s : Shared) (u : Value), BindsTo s fd ⟨[u], []⟩ [("_law_script", u)]) ∧ ∀ base : Heap, (K w.params).In base → base.Ns mainGlobals mg → FnOk l.prog w (K w.params) mg base CX0 14 fa fd ["_law_script"] (spLaw (K w.params))) :
    PySem.W.WalkO q loose XP YP l.row.toRowW d [] (fun f vs => PySem.call f vs) :=
  L2.walk_of (n := 63) (k := 14) (x := "_law_script") (CX := fun _ => CX0) (sp := fun w => spLaw (K w.params)) hn (by decide) hdf ⟨rfl, by decide, by decide⟩ hY F (fun _ _ a ns hl _ hS => ⟨a, ns, rfl, hS, hl, fun _ => rfl⟩) fun _ _ _ _ _ z => z
end Mine
open PySem PySem.W PyProof.Rows
set_option maxRecDepth 100000 in
set_option maxHeartbeats 0 in
theorem PySem.Challenge.cw_cutrow_k07_refused_holds : PySem.Challenge.rw_cutrow_k07_refused.Holds := by
  w_on; o_law; k_head; (case hw => w_witness2)
  k_fill
  refine Mine.walk (l := PySem.Challenge.rw_cutrow_k07_refused) rfl rfl (fun w h Y => PySem.W.kIn_of Y) ?F
  case F =>
    intro w mg fa h KX G hmg
    refine' Mine.all_mk KX G hmg ?aC_CutError ?aC_BadRow ?aC_BadNumber ?aC_BadCuts ?aC_BadText ?aC_Fewest ?aC_Great ?aC_Least ?aC_Most ?a0 ?l0 ?c0 ?k0 ?a1 ?l1 ?c1 ?k1 ?a2 ?l2 ?c2 ?k2 ?a3 ?l3 ?c3 ?k3 ?a4 ?l4 ?c4 ?k4 ?a5 ?l5 ?c5 ?k5 ?a6 ?l6 ?c6 ?k6 ?a7 ?l7 ?c7 ?k7 ?a8 ?l8 ?c8 ?k8 ?a9 ?l9 ?c9 ?k9 ?a10 ?l10 ?c10 ?k10 ?a11 ?l11 ?c11 ?k11 ?a12 ?l12 ?c12 ?k12 ?a13 ?l13 ?c13 ?k13 ?a14 ?l14 ?c14 ?k14 ?a15 ?l15 ?c15 ?k15 ?a16 ?i16 ?l16 ?c16 ?k16 ?a17 ?i17 ?l17 ?c17 ?k17 ?a18 ?l18 ?c18 ?k18 ?a19 ?l19 ?c19 ?k19 ?a20 ?i20 ?l20 ?c20 ?k20 ?a21 ?l21 ?c21 ?k21 ?a22 ?l22 ?c22 ?k22 ?a23 ?i23 ?l23 ?c23 ?k23 ?a24 ?l24 ?c24 ?k24 ?a25 ?l25 ?c25 ?k25 ?a26 ?l26 ?c26 ?k26 ?a27 ?l27 ?c27 ?k27 ?a28 ?l28 ?c28 ?k28 ?a29 ?l29 ?c29 ?k29 ?a30 ?l30 ?c30 ?k30 ?a31 ?l31 ?c31 ?k31 ?a32 ?l32 ?c32 ?k32 ?a33 ?l33 ?c33 ?k33 ?a34 ?l34 ?c34 ?k34 ?a35 ?l35 ?c35 ?k35 ?z_len ?z_sum ?z_abs ?z_all ?z_isinstance ?z_max ?z_int ?z_bool ?z_list ?z_range ?z_enumerate ?z_zip ?z_ValueError ?y_MOST_LOAD ?y_MOST_LOADS ?hn ?htk ?pg_Fewest ?hd_Fewest ?po_Fewest ?sa_Fewest ?ha_Fewest ?hm_Fewest ?mk_Fewest ?kc_Fewest ?nn_Fewest_cuts ?nn_Fewest_stretches ?pg_Great ?hd_Great ?po_Great ?sa_Great ?ha_Great ?hm_Great ?mk_Great ?kc_Great ?nn_Great_place ?pg_Least ?hd_Least ?po_Least ?sa_Least ?ha_Least ?hm_Least ?mk_Least ?kc_Least ?nn_Least_cuts ?nn_Least_number ?nn_Least_stretches ?pg_Most ?hd_Most ?po_Most ?sa_Most ?ha_Most ?hm_Most ?mk_Most ?kc_Most ?nn_Most_cuts ?nn_Most_places ?xc_CutError ?xg_CutError ?xh_CutError ?xo_CutError ?xm_CutError ?xb_CutError ?xc_BadRow ?xg_BadRow ?xh_BadRow ?xo_BadRow ?xm_BadRow ?xb_BadRow ?xc_BadNumber ?xg_BadNumber ?xh_BadNumber ?xo_BadNumber ?xm_BadNumber ?xb_BadNumber ?xc_BadCuts ?xg_BadCuts ?xh_BadCuts ?xo_BadCuts ?xm_BadCuts ?xb_BadCuts ?kk_BadRow_BadRow ?kk_BadRow_BadNumber ?kk_BadRow_BadCuts ?kk_BadRow_BadText ?kv_BadRow ?ss_BadRow ?kk_BadNumber_BadRow ?kk_BadNumber_BadNumber ?kk_BadNumber_BadCuts ?kk_BadNumber_BadText ?kv_BadNumber ?ss_BadNumber ?kk_BadCuts_BadRow ?kk_BadCuts_BadNumber ?kk_BadCuts_BadCuts ?kk_BadCuts_BadText ?kv_BadCuts ?ss_BadCuts
    (case aC_CutError => k_is)
    (case aC_BadRow => k_is)
    (case aC_BadNumber => k_is)
    (case aC_BadCuts => k_is)
    (case aC_BadText => k_is)
    (case aC_Fewest => k_is)
    (case aC_Great => k_is)
    (case aC_Least => k_is)
    (case aC_Most => k_is)
    (case a0 => k_is)
    (case l0 => k_is)
    (case c0 => k_is)
    (case k0 => k_is)
    (case a1 => k_is)
    (case l1 => k_is)
    (case c1 => k_is)
    (case k1 => k_is)
    (case a2 => k_is)
    (case l2 => k_is)
    (case c2 => k_is)
    (case k2 => k_is)
    (case a3 => k_is)
    (case l3 => k_is)
    (case c3 => k_is)
    (case k3 => k_is)
    (case a4 => k_is)
    (case l4 => k_is)
    (case c4 => k_is)
    (case k4 => k_is)
    (case a5 => k_is)
    (case l5 => k_is)
    (case c5 => k_is)
    (case k5 => k_is)
    (case a6 => k_is)
    (case l6 => k_is)
    (case c6 => k_is)
    (case k6 => k_is)
    (case a7 => k_is)
    (case l7 => k_is)
    (case c7 => k_is)
    (case k7 => k_is)
    (case a8 => k_is)
    (case l8 => k_is)
    (case c8 => k_is)
    (case k8 => k_is)
    (case a9 => k_is)
    (case l9 => k_is)
    (case c9 => k_is)
    (case k9 => k_is)
    (case a10 => k_is)
    (case l10 => k_is)
    (case c10 => k_is)
    (case k10 => k_is)
    (case a11 => k_is)
    (case l11 => k_is)
    (case c11 => k_is)
    (case k11 => k_is)
    (case a12 => k_is)
    (case l12 => k_is)
    (case c12 => k_is)
    (case k12 => k_is)
    (case a13 => k_is)
    (case l13 => k_is)
    (case c13 => k_is)
    (case k13 => k_is)
    (case a14 => k_is)
    (case l14 => k_is)
    (case c14 => k_is)
    (case k14 => k_is)
    (case a15 => k_is)
    (case l15 => k_is)
    (case c15 => k_is)
    (case k15 => k_is)
    (case a16 => k_is)
    (case i16 => k_is)
    (case l16 => k_is)
    (case c16 => k_is)
    (case k16 => k_is)
    (case a17 => k_is)
    (case i17 => k_is)
    (case l17 => k_is)
    (case c17 => k_is)
    (case k17 => k_is)
    (case a18 => k_is)
    (case l18 => k_is)
    (case c18 => k_is)
    (case k18 => k_is)
    (case a19 => k_is)
    (case l19 => k_is)
    (case c19 => k_is)
    (case k19 => k_is)
    (case a20 => k_is)
    (case i20 => k_is)
    (case l20 => k_is)
    (case c20 => k_is)
    (case k20 => k_is)
    (case a21 => k_is)
    (case l21 => k_is)
    (case c21 => k_is)
    (case k21 => k_is)
    (case a22 => k_is)
    (case l22 => k_is)
    (case c22 => k_is)
    (case k22 => k_is)
    (case a23 => k_is)
    (case i23 => k_is)
    (case l23 => k_is)
    (case c23 => k_is)
    (case k23 => k_is)
    (case a24 => k_is)
    (case l24 => k_is)
    (case c24 => k_is)
    (case k24 => k_is)
    (case a25 => k_is)
    (case l25 => k_is)
    (case c25 => k_is)
    (case k25 => k_is)
    (case a26 => k_is)
    (case l26 => k_is)
    (case c26 => k_is)
    (case k26 => k_is)
    (case a27 => k_is)
    (case l27 => k_is)
    (case c27 => k_is)
    (case k27 => k_is)
    (case a28 => k_is)
    (case l28 => k_is)
    (case c28 => k_is)
    (case k28 => k_is)
    (case a29 => k_is)
    (case l29 => k_is)
    (case c29 => k_is)
    (case k29 => k_is)
    (case a30 => k_is)
    (case l30 => k_is)
    (case c30 => k_is)
    (case k30 => k_is)
    (case a31 => k_is)
    (case l31 => k_is)
    (case c31 => k_is)
    (case k31 => k_is)
    (case a32 => k_is)
    (case l32 => k_is)
    (case c32 => k_is)
    (case k32 => k_is)
    (case a33 => k_is)
    (case l33 => k_is)
    (case c33 => k_is)
    (case k33 => k_is)
    (case a34 => k_is)
    (case l34 => k_is)
    (case c34 => k_is)
    (case k34 => k_is)
    (case a35 => k_is)
    (case l35 => k_is)
    (case c35 => k_is)
    (case k35 => k_is)
    (case z_len => k_is)
    (case z_sum => k_is)
    (case z_abs => k_is)
    (case z_all => k_is)
    (case z_isinstance => k_is)
    (case z_max => k_is)
    (case z_int => k_is)
    (case z_bool => k_is)
    (case z_list => k_is)
    (case z_range => k_is)
    (case z_enumerate => k_is)
    (case z_zip => k_is)
    (case z_ValueError => k_is)
    (case y_MOST_LOAD => k_is)
    (case y_MOST_LOADS => k_is)
    (case hn => k_is)
    (case htk => k_is)
    (case pg_Fewest => k_is)
    (case hd_Fewest => k_is)
    (case po_Fewest => k_is)
    (case sa_Fewest => k_is)
    (case ha_Fewest => k_is)
    (case hm_Fewest => k_is)
    (case mk_Fewest => k_is)
    (case kc_Fewest => k_is)
    (case nn_Fewest_cuts => k_is)
    (case nn_Fewest_stretches => k_is)
    (case pg_Great => k_is)
    (case hd_Great => k_is)
    (case po_Great => k_is)
    (case sa_Great => k_is)
    (case ha_Great => k_is)
    (case hm_Great => k_is)
    (case mk_Great => k_is)
    (case kc_Great => k_is)
    (case nn_Great_place => k_is)
    (case pg_Least => k_is)
    (case hd_Least => k_is)
    (case po_Least => k_is)
    (case sa_Least => k_is)
    (case ha_Least => k_is)
    (case hm_Least => k_is)
    (case mk_Least => k_is)
    (case kc_Least => k_is)
    (case nn_Least_cuts => k_is)
    (case nn_Least_number => k_is)
    (case nn_Least_stretches => k_is)
    (case pg_Most => k_is)
    (case hd_Most => k_is)
    (case po_Most => k_is)
    (case sa_Most => k_is)
    (case ha_Most => k_is)
    (case hm_Most => k_is)
    (case mk_Most => k_is)
    (case kc_Most => k_is)
    (case nn_Most_cuts => k_is)
    (case nn_Most_places => k_is)
    (case xc_CutError => k_exc)
    (case xg_CutError => k_is)
    (case xh_CutError => k_is)
    (case xo_CutError => k_is)
    (case xm_CutError => k_is)
    (case xb_CutError => k_is)
    (case xc_BadRow => k_exc)
    (case xg_BadRow => k_is)
    (case xh_BadRow => k_is)
    (case xo_BadRow => k_is)
    (case xm_BadRow => k_is)
    (case xb_BadRow => k_is)
    (case xc_BadNumber => k_exc)
    (case xg_BadNumber => k_is)
    (case xh_BadNumber => k_is)
    (case xo_BadNumber => k_is)
    (case xm_BadNumber => k_is)
    (case xb_BadNumber => k_is)
    (case xc_BadCuts => k_exc)
    (case xg_BadCuts => k_is)
    (case xh_BadCuts => k_is)
    (case xo_BadCuts => k_is)
    (case xm_BadCuts => k_is)
    (case xb_BadCuts => k_is)
    (case kk_BadRow_BadRow => kit_is)
    (case kk_BadRow_BadNumber => kit_is)
    (case kk_BadRow_BadCuts => kit_is)
    (case kk_BadRow_BadText => kit_is)
    (case kv_BadRow => kit_is)
    (case ss_BadRow => k_is)
    (case kk_BadNumber_BadRow => kit_is)
    (case kk_BadNumber_BadNumber => kit_is)
    (case kk_BadNumber_BadCuts => kit_is)
    (case kk_BadNumber_BadText => kit_is)
    (case kv_BadNumber => kit_is)
    (case ss_BadNumber => k_is)
    (case kk_BadCuts_BadRow => kit_is)
    (case kk_BadCuts_BadNumber => kit_is)
    (case kk_BadCuts_BadCuts => kit_is)
    (case kk_BadCuts_BadText => kit_is)
    (case kv_BadCuts => kit_is)
    (case ss_BadCuts => k_is)
