import PyProof.Rows.All
import Wide.All
import OpenK.AllK
import Wide.FinOn
import HandS.ForMost
import HandS.ForExc
import HandS.Walk
import HandS.TupAny
import HandS.TupMul
import HandS.IsInst
import HandS.Style
import HandS.HeadHook2
import HandS.AnyAll
import HandS.HeadHook4
import HandS.HeadWalk
import HandS.NestedK
import HandS.Strs
import HandS.Words
import HandS.ExcIs
import KE.DatumOrd
import PyProof.FString5
import HandS.HeadEnd
import HandS.Head2
import HandS.Dict
import HandS.Small
import HandS.DictComp
import HandS.Zip
import HandS.Iter
import HandS.Head0
import HandS.Head1
import PySem.Challenge.RW_vancourier_k02_handlers
set_option Elab.async false
set_option linter.all false
set_option maxRecDepth 100000
set_option maxHeartbeats 4000000
/-! Core: values as trees, a store of objects by number, and what the hand layer's readings say of them -/
namespace Core
open PySem PySem.Spec PyProof.Rows L2

/-! ### values, objects, stores -/
inductive D where
  | non | bl (b : Bool) | int (i : Int) | str (x : Str) | tup (xs : List D) | ref (n : Nat)
inductive Ob where
  | lst (xs : List D)
  | frz (xs : List D)
  | ins (c : Str) (fs : List (Str × D))
  | dK (kvs : List (Key × D))
  | lkK (kvs : List (Key × D))
  | dT (kvs : List (List Key × D))
abbrev Mem := List Ob
abbrev Loc := List (Option D)
inductive R (α : Type) where
  | ok (a : α) (s : Mem)
  | err (c : Str) (s : Mem)
  | no
def R.bind {α β : Type} (r : R α) (f : α → Mem → R β) : R β := match r with
  | .ok a s => f a s
  | .err c s => .err c s
  | .no => .no
inductive RS where
  | nx (l : Loc) (s : Mem)
  | rt (d : D) (s : Mem)
  | bk (l : Loc) (s : Mem)
  | ct (l : Loc) (s : Mem)
  | err (c : Str) (l : Loc) (s : Mem)
  | no
def R.toS {α : Type} (r : R α) (l : Loc) (f : α → Mem → RS) : RS := match r with
  | .ok a s => f a s
  | .err c s => .err c l s
  | .no => .no
abbrev EM := Loc → Mem → R D
abbrev TM := Loc → Mem → R Bool
abbrev AM := Loc → Mem → R (List D)
abbrev SM := Loc → Mem → RS

/-! ### what stands for what -/
/-- the constants of a proof: the written part, the classes' addresses, the code tables -/
structure Gx where
  K : PySem.W.Frag
  cls : Str → Addr
  tabs : List Addr

mutual
inductive Rep (K : PySem.W.Frag) (ι : List Addr) (H : Hp) : V → D → Prop
  | non : Rep K ι H .non .non
  | bl (b : Bool) : Rep K ι H (.bl b) (.bl b)
  | int (i : Int) : Rep K ι H (.int i) (.int i)
  | str (x : Str) : Rep K ι H (.str x) (.str x)
  | tup {a : Addr} {vs : List V} {ds : List D} : H a = some (.tup vs) → Reps K ι H vs ds → Rep K ι H (.ref a) (.tup ds)
  | ref {a : Addr} {n : Nat} : ι[n]? = some a → Rep K ι H (.ref a) (.ref n)
inductive Reps (K : PySem.W.Frag) (ι : List Addr) (H : Hp) : List V → List D → Prop
  | nil : Reps K ι H [] []
  | cons {v : V} {vs : List V} {d : D} {ds : List D} : Rep K ι H v d → Reps K ι H vs ds → Reps K ι H (v :: vs) (d :: ds)
end
inductive RepF (K : PySem.W.Frag) (ι : List Addr) (H : Hp) : List (Str × V) → List (Str × D) → Prop
  | nil : RepF K ι H [] []
  | cons {x : Str} {v : V} {vs : List (Str × V)} {d : D} {ds : List (Str × D)} : Rep K ι H v d → RepF K ι H vs ds → RepF K ι H ((x, v) :: vs) ((x, d) :: ds)
inductive RepK (K : PySem.W.Frag) (ι : List Addr) (H : Hp) : List (Key × V) → List (Key × D) → Prop
  | nil : RepK K ι H [] []
  | cons {x : Key} {v : V} {vs : List (Key × V)} {d : D} {ds : List (Key × D)} : Rep K ι H v d → RepK K ι H vs ds → RepK K ι H ((x, v) :: vs) ((x, d) :: ds)
inductive RepT (K : PySem.W.Frag) (ι : List Addr) (H : Hp) : List (List Key × V) → List (List Key × D) → Prop
  | nil : RepT K ι H [] []
  | cons {x : List Key} {v : V} {vs : List (List Key × V)} {d : D} {ds : List (List Key × D)} : Rep K ι H v d → RepT K ι H vs ds → RepT K ι H ((x, v) :: vs) ((x, d) :: ds)
/-- a list that nobody writes -/
def FrzL (K : PySem.W.Frag) (H : Hp) (a : Addr) (vs : List V) : Prop := (∃ o, H a = some (.frz o (.lst vs))) ∨
  ∃ (o : Obj) (its : Array Value) (n : Nat), K.lookup a = some o ∧ o.cls = .type "list" ∧ o.dict = none ∧ o.data = .seq its n ∧ its.size ≤ sizeLine ∧ Vals vs its.toList
theorem FrzL.sql {K : PySem.W.Frag} {H : Hp} {a : Addr} {vs : List V} (h : FrzL K H a vs) : SqL K H a vs := by
  rcases h with ⟨o, h⟩ | h
  · exact .inl (.inr ⟨o, h⟩)
  · exact .inr h
def ObR (G : Gx) (ι : List Addr) (H : Hp) (a : Addr) : Ob → Prop
  | .lst xs => ∃ vs, H a = some (.lst vs) ∧ Reps G.K ι H vs xs
  | .frz xs => ∃ vs, FrzL G.K H a vs ∧ Reps G.K ι H vs xs
  | .ins c fs => ∃ dx ws, H a = some (.ins (G.cls c) dx ws) ∧ RepF G.K ι H ws fs
  | .dK kvs => ∃ ws, H a = some (.dK ws) ∧ RepK G.K ι H ws kvs
  | .lkK kvs => ∃ o ws, H a = some (.frz o (.dK ws)) ∧ RepK G.K ι H ws kvs
  | .dT kvs => ∃ ws, H a = some (.dT ws) ∧ RepT G.K ι H ws kvs
/-- may be written -/
def Ob.mut : Ob → Bool
  | .frz _ => false
  | .lkK _ => false
  | _ => true
/-- the only one of the store at its address -/
def Ob.own : Ob → Bool
  | .frz _ => false
  | _ => true
theorem Ob.own_mut : ∀ {o : Ob}, o.mut = true → o.own = true
  | .lst _, _ => rfl
  | .ins _ _, _ => rfl
  | .dK _, _ => rfl
  | .dT _, _ => rfl
  | .frz _, h => by cases h
  | .lkK _, h => by cases h
def TabG (H : Hp) (P : Addr) : Prop := ∃ ps : Array Value, H P = some (.tbl ps) ∧ TriplesOk ps.toList

structure SimH (G : Gx) (ι : List Addr) (s : Mem) (H : Hp) : Prop where
  len : ι.length = s.length
  ob : ∀ (n : Nat) (a : Addr) (o : Ob), ι[n]? = some a → s[n]? = some o → ObR G ι H a o
  inj : ∀ (m n : Nat) (a : Addr) (o o' : Ob), ι[m]? = some a → ι[n]? = some a → s[m]? = some o → s[n]? = some o' → o.own = true → o'.own = true → m = n
  tabs : ∀ P ∈ G.tabs, TabG H P
/-- a later state -/
structure Stp (K : PySem.W.Frag) (ι : List Addr) (H : Hp) (ι' : List Addr) (H' : Hp) : Prop where
  pre : ∀ (n : Nat) (a : Addr), ι[n]? = some a → ι'[n]? = some a
  tup : ∀ a vs, H a = some (.tup vs) → H' a = some (.tup vs)
  frz : ∀ a o u, H a = some (.frz o u) → H' a = some (.frz o u)
theorem Stp.refl {K : PySem.W.Frag} {ι : List Addr} {H : Hp} : Stp K ι H ι H := ⟨fun _ _ h => h, fun _ _ h => h, fun _ _ _ h => h⟩
theorem Stp.trans {K : PySem.W.Frag} {ι ι1 ι2 : List Addr} {H H1 H2 : Hp} (a : Stp K ι H ι1 H1) (b : Stp K ι1 H1 ι2 H2) : Stp K ι H ι2 H2 :=
  ⟨fun n x h => b.pre n x (a.pre n x h), fun p vs h => b.tup p vs (a.tup p vs h), fun p o u h => b.frz p o u (a.frz p o u h)⟩
section
variable {K : PySem.W.Frag} {ι ι' : List Addr} {H H' : Hp}
mutual
theorem Rep.monoT (hp : ∀ (n : Nat) (a : Addr), ι[n]? = some a → ι'[n]? = some a) (ht : ∀ a vs, H a = some (.tup vs) → H' a = some (.tup vs)) : ∀ {v : V} {d : D}, Rep K ι H v d → Rep K ι' H' v d
  | _, _, .non => .non
  | _, _, .bl b => .bl b
  | _, _, .int i => .int i
  | _, _, .str x => .str x
  | _, _, .tup h r => .tup (ht _ _ h) (Reps.monoT hp ht r)
  | _, _, .ref h => .ref (hp _ _ h)
theorem Reps.monoT (hp : ∀ (n : Nat) (a : Addr), ι[n]? = some a → ι'[n]? = some a) (ht : ∀ a vs, H a = some (.tup vs) → H' a = some (.tup vs)) : ∀ {vs : List V} {ds : List D}, Reps K ι H vs ds → Reps K ι' H' vs ds
  | _, _, .nil => .nil
  | _, _, .cons r t => .cons (Rep.monoT hp ht r) (Reps.monoT hp ht t)
end
theorem RepF.monoT (hp : ∀ (n : Nat) (a : Addr), ι[n]? = some a → ι'[n]? = some a) (ht : ∀ a vs, H a = some (.tup vs) → H' a = some (.tup vs)) {vs : List (Str × V)} {ds : List (Str × D)} (h : RepF K ι H vs ds) : RepF K ι' H' vs ds := by
  induction h with
  | nil => exact .nil
  | cons r _ ih => exact .cons (r.monoT hp ht) ih
theorem RepK.monoT (hp : ∀ (n : Nat) (a : Addr), ι[n]? = some a → ι'[n]? = some a) (ht : ∀ a vs, H a = some (.tup vs) → H' a = some (.tup vs)) {vs : List (Key × V)} {ds : List (Key × D)} (h : RepK K ι H vs ds) : RepK K ι' H' vs ds := by
  induction h with
  | nil => exact .nil
  | cons r _ ih => exact .cons (r.monoT hp ht) ih
theorem RepT.monoT (hp : ∀ (n : Nat) (a : Addr), ι[n]? = some a → ι'[n]? = some a) (ht : ∀ a vs, H a = some (.tup vs) → H' a = some (.tup vs)) {vs : List (List Key × V)} {ds : List (List Key × D)} (h : RepT K ι H vs ds) : RepT K ι' H' vs ds := by
  induction h with
  | nil => exact .nil
  | cons r _ ih => exact .cons (r.monoT hp ht) ih
theorem Rep.mono (st : Stp K ι H ι' H') {v : V} {d : D} (h : Rep K ι H v d) : Rep K ι' H' v d := h.monoT st.pre st.tup
theorem Reps.mono (st : Stp K ι H ι' H') {v : List V} {d : List D} (h : Reps K ι H v d) : Reps K ι' H' v d := h.monoT st.pre st.tup
theorem RepF.mono (st : Stp K ι H ι' H') {v : List (Str × V)} {d : List (Str × D)} (h : RepF K ι H v d) : RepF K ι' H' v d := h.monoT st.pre st.tup
theorem RepK.mono (st : Stp K ι H ι' H') {v : List (Key × V)} {d : List (Key × D)} (h : RepK K ι H v d) : RepK K ι' H' v d := h.monoT st.pre st.tup
theorem RepT.mono (st : Stp K ι H ι' H') {v : List (List Key × V)} {d : List (List Key × D)} (h : RepT K ι H v d) : RepT K ι' H' v d := h.monoT st.pre st.tup
theorem Reps.length {vs : List V} {ds : List D} (h : Reps K ι H vs ds) : vs.length = ds.length := by
  induction ds generalizing vs with
  | nil => cases h; rfl
  | cons d ds ih => cases h with | cons _ t => simp [ih t]
theorem Reps.get {vs : List V} {ds : List D} (h : Reps K ι H vs ds) {i : Nat} {d : D} (e : ds[i]? = some d) : ∃ v, vs[i]? = some v ∧ Rep K ι H v d := by
  induction ds generalizing vs i with
  | nil => simp at e
  | cons d' ds ih =>
    cases h with
    | cons r t =>
      cases i with
      | zero => simp at e; subst e; exact ⟨_, rfl, r⟩
      | succ i => obtain ⟨v, h1, h2⟩ := ih t (i := i) (by simpa using e); exact ⟨v, by simpa using h1, h2⟩
theorem Reps.getV {vs : List V} {ds : List D} (h : Reps K ι H vs ds) {i : Nat} {v : V} (e : vs[i]? = some v) : ∃ d, ds[i]? = some d ∧ Rep K ι H v d := by
  induction ds generalizing vs i with
  | nil => cases h; simp at e
  | cons d' ds ih =>
    cases h with
    | cons r t =>
      cases i with
      | zero => simp at e; subst e; exact ⟨_, rfl, r⟩
      | succ i => obtain ⟨v, h1, h2⟩ := ih t (i := i) (by simpa using e); exact ⟨v, by simpa using h1, h2⟩
theorem Reps.append {vs ws : List V} {ds es : List D} (h : Reps K ι H vs ds) (h' : Reps K ι H ws es) : Reps K ι H (vs ++ ws) (ds ++ es) := by
  induction ds generalizing vs with
  | nil => cases h; exact h'
  | cons d ds ih => cases h with | cons r t => exact .cons r (ih t)
theorem Reps.take {vs : List V} {ds : List D} (h : Reps K ι H vs ds) (n : Nat) : Reps K ι H (vs.take n) (ds.take n) := by
  induction ds generalizing vs n with
  | nil => cases h; simp; exact .nil
  | cons d ds ih =>
    cases h with
    | cons r t =>
      cases n with
      | zero => exact .nil
      | succ n => exact .cons r (ih t n)
theorem Reps.drop {vs : List V} {ds : List D} (h : Reps K ι H vs ds) (n : Nat) : Reps K ι H (vs.drop n) (ds.drop n) := by
  induction ds generalizing vs n with
  | nil => cases h; simp; exact .nil
  | cons d ds ih =>
    cases h with
    | cons r t =>
      cases n with
      | zero => exact .cons r t
      | succ n => exact ih t n
theorem Reps.set {vs : List V} {ds : List D} (h : Reps K ι H vs ds) (i : Nat) {v : V} {d : D} (r : Rep K ι H v d) : Reps K ι H (vs.set i v) (ds.set i d) := by
  induction ds generalizing vs i with
  | nil => cases h; exact .nil
  | cons d' ds ih =>
    cases h with
    | cons r' t =>
      cases i with
      | zero => exact .cons r t
      | succ i => exact .cons r' (ih t i)
theorem Reps.reverse {vs : List V} {ds : List D} (h : Reps K ι H vs ds) : Reps K ι H vs.reverse ds.reverse := by
  induction ds generalizing vs with
  | nil => cases h; exact .nil
  | cons d ds ih =>
    cases h with
    | cons r t =>
      rw [List.reverse_cons, List.reverse_cons]
      exact (ih t).append (.cons r .nil)
theorem Reps.rep {vs : List V} {ds : List D} (h : Reps K ι H vs ds) (n : Nat) : Reps K ι H (List.replicate n vs).flatten (List.replicate n ds).flatten := by
  induction n with
  | zero => exact .nil
  | succ n ih => rw [List.replicate_succ, List.replicate_succ, List.flatten_cons, List.flatten_cons]; exact h.append ih
theorem Reps.eraseIdx {vs : List V} {ds : List D} (h : Reps K ι H vs ds) (i : Nat) : Reps K ι H (vs.eraseIdx i) (ds.eraseIdx i) := by
  induction ds generalizing vs i with
  | nil => cases h; exact .nil
  | cons d' ds ih =>
    cases h with
    | cons r' t =>
      cases i with
      | zero => exact t
      | succ i => exact .cons r' (ih t i)
theorem Reps.dropLast {vs : List V} {ds : List D} (h : Reps K ι H vs ds) : Reps K ι H vs.dropLast ds.dropLast := by
  rw [List.dropLast_eq_take, List.dropLast_eq_take, h.length]
  exact h.take _
end
section
variable {K : PySem.W.Frag} {ι : List Addr} {H : Hp}
theorem sqT_new {p : Addr} {o : HO} (hp : H p = none) {a : Addr} {vs : List V} (h : SqT K H a vs) : SqT K (upd H p o) a vs := by
  rcases h with (h | ⟨ob, h⟩) | h
  · exact .inl (.inl (by rw [upd_ne (ne_of_none h hp)]; exact h))
  · exact .inl (.inr ⟨ob, by rw [upd_ne (ne_of_none h hp)]; exact h⟩)
  · exact .inr h
theorem sqL_new {p : Addr} {o : HO} (hp : H p = none) {a : Addr} {vs : List V} (h : SqL K H a vs) : SqL K (upd H p o) a vs := by
  rcases h with (h | ⟨ob, h⟩) | h
  · exact .inl (.inl (by rw [upd_ne (ne_of_none h hp)]; exact h))
  · exact .inl (.inr ⟨ob, by rw [upd_ne (ne_of_none h hp)]; exact h⟩)
  · exact .inr h
/-- what stands at p is no tuple, locked or not -/
def NoTup (H : Hp) (p : Addr) : Prop := (∀ vs, H p ≠ some (.tup vs)) ∧ ∀ ob w, H p ≠ some (.frz ob w)
theorem sqT_mut {p : Addr} {o : HO} (hp : NoTup H p) {a : Addr} {vs : List V} (h : SqT K H a vs) : SqT K (upd H p o) a vs := by
  rcases h with (h | ⟨ob, h⟩) | h
  · exact .inl (.inl (by rw [upd_ne (fun e => hp.1 vs (by rw [← e]; exact h))]; exact h))
  · exact .inl (.inr ⟨ob, by rw [upd_ne (fun e => hp.2 ob _ (by rw [← e]; exact h))]; exact h⟩)
  · exact .inr h
theorem Stp.new {ι' : List Addr} {p : Addr} {o : HO} (hp : H p = none) (hι : ∀ (n : Nat) (a : Addr), ι[n]? = some a → ι'[n]? = some a) : Stp K ι H ι' (upd H p o) := ⟨hι, fun _ _ h => by rw [upd_ne (ne_of_none h hp)]; exact h, fun _ _ _ h => by rw [upd_ne (ne_of_none h hp)]; exact h⟩
theorem Stp.mut {p : Addr} {o : HO} (hp : NoTup H p) : Stp K ι H ι (upd H p o) := ⟨fun _ _ h => h, fun _ vs h => by rw [upd_ne (fun e => hp.1 vs (by rw [← e]; exact h))]; exact h, fun _ o u h => by rw [upd_ne (fun e => hp.2 o u (by rw [← e]; exact h))]; exact h⟩
theorem pre_snoc (p : Addr) : ∀ (n : Nat) (a : Addr), ι[n]? = some a → (ι ++ [p])[n]? = some a := fun n a h => by
  rw [List.getElem?_append_left (List.getElem?_eq_some_iff.mp h).1]; exact h
end
section
variable {G : Gx} {ι : List Addr} {s : Mem} {H : Hp}
theorem NoTup.of {p : Addr} {u : HO} (h : H p = some u) (h1 : ∀ vs, u ≠ .tup vs) (h2 : ∀ ob w, u ≠ .frz ob w) : NoTup H p :=
  ⟨fun vs e => h1 vs (by rw [h] at e; exact Option.some.inj e), fun ob vs e => h2 ob vs (by rw [h] at e; exact Option.some.inj e)⟩
/-- an object of the store stays where a new thing is laid -/
theorem ObR.new {p : Addr} {u : HO} {ι' : List Addr} (hp : H p = none) (hι : ∀ (n : Nat) (a : Addr), ι[n]? = some a → ι'[n]? = some a) {a : Addr} {o : Ob} (h : ObR G ι H a o) : ObR G ι' (upd H p u) a o := by
  have st : Stp G.K ι H ι' (upd H p u) := Stp.new hp hι
  cases o with
  | lst xs => obtain ⟨vs, h1, h2⟩ := h; exact ⟨vs, by rw [upd_ne (ne_of_none h1 hp)]; exact h1, h2.mono st⟩
  | frz xs =>
    obtain ⟨vs, h1, h2⟩ := h
    rcases h1 with ⟨ob, h1⟩ | h1
    · exact ⟨vs, .inl ⟨ob, by rw [upd_ne (ne_of_none h1 hp)]; exact h1⟩, h2.mono st⟩
    · exact ⟨vs, .inr h1, h2.mono st⟩
  | ins c fs => obtain ⟨dx, ws, h1, h2⟩ := h; exact ⟨dx, ws, by rw [upd_ne (ne_of_none h1 hp)]; exact h1, h2.mono st⟩
  | dK kvs => obtain ⟨ws, h1, h2⟩ := h; exact ⟨ws, by rw [upd_ne (ne_of_none h1 hp)]; exact h1, h2.mono st⟩
  | lkK kvs => obtain ⟨ob, ws, h1, h2⟩ := h; exact ⟨ob, ws, by rw [upd_ne (ne_of_none h1 hp)]; exact h1, h2.mono st⟩
  | dT kvs => obtain ⟨ws, h1, h2⟩ := h; exact ⟨ws, by rw [upd_ne (ne_of_none h1 hp)]; exact h1, h2.mono st⟩
theorem TabG.new {p P : Addr} {u : HO} (hp : H p = none) (h : TabG H P) : TabG (upd H p u) P := by
  obtain ⟨ps, h1, h2⟩ := h
  exact ⟨ps, by rw [upd_ne (ne_of_none h1 hp)]; exact h1, h2⟩
/-- what a store's object stands on is tracked, if it may be written -/
theorem ObR.some {a : Addr} {o : Ob} (h : ObR G ι H a o) (m : o.mut = true) : ∃ u, H a = some u ∧ NoTup H a ∧ (∀ ob w, u ≠ .frz ob w) ∧ (∀ ps, u ≠ .tbl ps) := by
  cases o with
  | lst xs => obtain ⟨vs, h1, h2⟩ := h; exact ⟨_, h1, NoTup.of h1 (fun _ e => by cases e) (fun _ _ e => by cases e), (fun _ _ e => by cases e), (fun _ e => by cases e)⟩
  | frz xs => cases m
  | ins c fs => obtain ⟨dx, ws, h1, h2⟩ := h; exact ⟨_, h1, NoTup.of h1 (fun _ e => by cases e) (fun _ _ e => by cases e), (fun _ _ e => by cases e), (fun _ e => by cases e)⟩
  | dT kvs => obtain ⟨ws, h1, h2⟩ := h; exact ⟨_, h1, NoTup.of h1 (fun _ e => by cases e) (fun _ _ e => by cases e), (fun _ _ e => by cases e), (fun _ e => by cases e)⟩
  | dK kvs => obtain ⟨ws, h1, h2⟩ := h; exact ⟨_, h1, NoTup.of h1 (fun _ e => by cases e) (fun _ _ e => by cases e), (fun _ _ e => by cases e), (fun _ e => by cases e)⟩
  | lkK kvs => cases m
theorem ObR.someO {a : Addr} {o : Ob} (h : ObR G ι H a o) (m : o.own = true) : ∃ u, H a = Option.some u := by
  cases o with
  | lst xs => obtain ⟨vs, h1, h2⟩ := h; exact ⟨_, h1⟩
  | frz xs => cases m
  | ins c fs => obtain ⟨dx, ws, h1, h2⟩ := h; exact ⟨_, h1⟩
  | dK kvs => obtain ⟨ws, h1, h2⟩ := h; exact ⟨_, h1⟩
  | dT kvs => obtain ⟨ws, h1, h2⟩ := h; exact ⟨_, h1⟩
  | lkK kvs => obtain ⟨o, ws, h1, h2⟩ := h; exact ⟨_, h1⟩
/-- a thing is laid that the store does not count -/
theorem SimH.laid (h : SimH G ι s H) {p : Addr} {u : HO} (hp : H p = none) : SimH G ι s (upd H p u) :=
  ⟨h.len, fun n a o h1 h2 => (h.ob n a o h1 h2).new hp fun _ _ z => z, h.inj, fun P hP => (h.tabs P hP).new hp⟩
/-- a new object of the store -/
theorem SimH.push (h : SimH G ι s H) {p : Addr} {u : HO} (hp : H p = none) {o : Ob} (hm : o.mut = true) (ho : ObR G (ι ++ [p]) (upd H p u) p o) : SimH G (ι ++ [p]) (s ++ [o]) (upd H p u) := by
  have lt : ∀ {n : Nat} {a : Addr}, (ι ++ [p])[n]? = some a → (ι[n]? = some a ∧ n < ι.length) ∨ (n = ι.length ∧ a = p) := fun {n a} e => by
    by_cases hn : n < ι.length
    · rw [List.getElem?_append_left hn] at e; exact .inl ⟨e, hn⟩
    · rw [List.getElem?_append_right (by omega)] at e
      have : n - ι.length = 0 := by
        rcases Nat.eq_zero_or_pos (n - ι.length) with z | z
        · exact z
        · rw [List.getElem?_eq_none (by simp; omega)] at e; cases e
      rw [this] at e
      exact .inr ⟨by omega, by simpa using e.symm⟩
  have ls : ∀ {n : Nat} {ob : Ob}, n < ι.length → (s ++ [o])[n]? = some ob → s[n]? = some ob := fun {n ob} hn e => by
    rw [List.getElem?_append_left (by rw [← h.len]; exact hn)] at e; exact e
  have ln : (s ++ [o])[ι.length]? = some o := by rw [h.len]; simp
  refine ⟨by simp [h.len], fun n a ob h1 h2 => ?_, fun m n a o1 o2 h1 h2 h3 h4 m1 m2 => ?_, fun P hP => (h.tabs P hP).new hp⟩
  · rcases lt h1 with ⟨e, hn⟩ | ⟨rfl, rfl⟩
    · exact (h.ob n a ob e (ls hn h2)).new hp (pre_snoc p)
    · rw [ln] at h2; cases h2; exact ho
  · rcases lt h1 with ⟨e1, hm1⟩ | ⟨e1, q1⟩ <;> rcases lt h2 with ⟨e2, hn2⟩ | ⟨e2, q2⟩
    · exact h.inj m n a o1 o2 e1 e2 (ls hm1 h3) (ls hn2 h4) m1 m2
    · obtain ⟨u, hu⟩ := (h.ob m a o1 e1 (ls hm1 h3)).someO m1
      rw [q2, hp] at hu; cases hu
    · obtain ⟨u, hu⟩ := (h.ob n a o2 e2 (ls hn2 h4)).someO m2
      rw [q1, hp] at hu; cases hu
    · omega
/-- an object of the store is written -/
theorem SimH.write0 (h : SimH G ι s H) {n : Nat} {a : Addr} {o o' : Ob} {u : HO} (ha : ι[n]? = some a) (ho : s[n]? = some o) (hm : o.mut = true) (hu : NoTup (upd H a u) a → ObR G ι (upd H a u) a o') (hu2 : NoTup (upd H a u) a) : SimH G ι (s.set n o') (upd H a u) ∧ Stp G.K ι H ι (upd H a u) := by
  obtain ⟨u0, hu0, nt, nf, ntb⟩ := (h.ob n a o ha ho).some hm
  have st : Stp G.K ι H ι (upd H a u) := Stp.mut nt
  have hn : n < s.length := (List.getElem?_eq_some_iff.mp ho).1
  have sg : ∀ {k : Nat} {ob : Ob}, (s.set n o')[k]? = some ob → (k = n ∧ ob = o') ∨ (k ≠ n ∧ s[k]? = some ob) := fun {k ob} e => by
    by_cases hk : k = n
    · subst hk; rw [List.getElem?_set_self hn] at e; exact .inl ⟨rfl, (Option.some.inj e).symm⟩
    · rw [List.getElem?_set_ne (Ne.symm hk)] at e; exact .inr ⟨hk, e⟩
  refine ⟨⟨by simp [h.len], fun k b ob h1 h2 => ?_, fun m k b o1 o2 h1 h2 h3 h4 m1 m2 => ?_, fun P hP => ?_⟩, st⟩
  · rcases sg h2 with ⟨rfl, rfl⟩ | ⟨hk, h2⟩
    · rw [ha] at h1; cases h1; exact hu hu2
    · have q := h.ob k b ob h1 h2
      have nb : ob.own = true → b ≠ a := fun mm e => hk (h.inj k n a ob o (e ▸ h1) ha h2 ho mm (Ob.own_mut hm))
      cases ob with
      | lst xs => obtain ⟨vs, q1, q2⟩ := q; exact ⟨vs, by rw [upd_ne (nb rfl)]; exact q1, q2.mono st⟩
      | frz xs =>
        obtain ⟨vs, q1, q2⟩ := q
        rcases q1 with ⟨ob', q1⟩ | q1
        · have : b ≠ a := fun e => nf ob' _ (by rw [← e, q1] at hu0; exact (Option.some.inj hu0).symm)
          exact ⟨vs, .inl ⟨ob', by rw [upd_ne this]; exact q1⟩, q2.mono st⟩
        · exact ⟨vs, .inr q1, q2.mono st⟩
      | ins c fs => obtain ⟨dx, ws, q1, q2⟩ := q; exact ⟨dx, ws, by rw [upd_ne (nb rfl)]; exact q1, q2.mono st⟩
      | dK kvs => obtain ⟨ws, q1, q2⟩ := q; exact ⟨ws, by rw [upd_ne (nb rfl)]; exact q1, q2.mono st⟩
      | dT kvs => obtain ⟨ws, q1, q2⟩ := q; exact ⟨ws, by rw [upd_ne (nb rfl)]; exact q1, q2.mono st⟩
      | lkK kvs =>
        obtain ⟨ob', ws, q1, q2⟩ := q
        have : b ≠ a := fun e => nf ob' _ (by rw [← e, q1] at hu0; exact (Option.some.inj hu0).symm)
        exact ⟨ob', ws, by rw [upd_ne this]; exact q1, q2.mono st⟩
  · rcases sg h3 with ⟨e3, _⟩ | ⟨hm3, h3'⟩ <;> rcases sg h4 with ⟨e4, _⟩ | ⟨hm4, h4'⟩
    · rw [e3, e4]
    · exact h.inj m k b o o2 h1 h2 (by rw [e3]; exact ho) h4' (Ob.own_mut hm) m2
    · exact h.inj m k b o1 o h1 h2 h3' (by rw [e4]; exact ho) m1 (Ob.own_mut hm)
    · exact h.inj m k b o1 o2 h1 h2 h3' h4' m1 m2
  · obtain ⟨ps, q1, q2⟩ := h.tabs P hP
    have : P ≠ a := fun e => ntb ps (by rw [← e, q1] at hu0; exact (Option.some.inj hu0).symm)
    exact ⟨ps, by rw [upd_ne this]; exact q1, q2⟩
theorem SimH.write (h : SimH G ι s H) {n : Nat} {a : Addr} {o o' : Ob} {u : HO} (ha : ι[n]? = some a) (ho : s[n]? = some o) (hm : o.mut = true) (hm' : o'.mut = true) (hu : NoTup (upd H a u) a → ObR G ι (upd H a u) a o') (hu2 : NoTup (upd H a u) a) : SimH G ι (s.set n o') (upd H a u) ∧ Stp G.K ι H ι (upd H a u) := h.write0 ha ho hm hu hu2
/-- a lock is taken off -/
theorem SimH.unlock (h : SimH G ι s H) {n : Nat} {a : Addr} {kv0 kvs : List (Key × D)} {ws : List (Key × V)} {od : PySem.Obj} {u0 : HO} (ha : ι[n]? = some a) (ho : s[n]? = some (.lkK kv0)) (hd : H a = some (.frz od u0)) (hu0 : ∀ vs, u0 ≠ .tup vs) (hl : ∀ vs, u0 ≠ .lst vs) (hr : RepK G.K ι H ws kvs) : SimH G ι (s.set n (.dK kvs)) (upd H a (.dK ws)) := by
  have hn : n < s.length := (List.getElem?_eq_some_iff.mp ho).1
  have sg : ∀ {k : Nat} {ob : Ob}, (s.set n (Ob.dK kvs))[k]? = some ob → (k = n ∧ ob = .dK kvs) ∨ (k ≠ n ∧ s[k]? = some ob) := fun {k ob} e => by
    by_cases hk : k = n
    · subst hk; rw [List.getElem?_set_self hn] at e; exact .inl ⟨rfl, (Option.some.inj e).symm⟩
    · rw [List.getElem?_set_ne (Ne.symm hk)] at e; exact .inr ⟨hk, e⟩
  have hp : ∀ (n : Nat) (b : Addr), ι[n]? = some b → ι[n]? = some b := fun _ _ z => z
  have ht : ∀ b vs, H b = some (.tup vs) → (upd H a (.dK ws)) b = some (.tup vs) := fun b vs q => by
    rw [upd_ne (fun e => by rw [e, hd] at q; cases q)]; exact q
  refine ⟨by simp [h.len], fun k b ob h1 h2 => ?_, fun m k b o1 o2 h1 h2 h3 h4 m1 m2 => ?_, fun P hP => ?_⟩
  · rcases sg h2 with ⟨rfl, rfl⟩ | ⟨hk, h2⟩
    · rw [ha] at h1; cases h1; exact ⟨ws, upd_same, hr.monoT hp ht⟩
    · have q := h.ob k b ob h1 h2
      have nb : ob.own = true → b ≠ a := fun mm e => hk (h.inj k n a ob _ (e ▸ h1) ha h2 ho mm rfl)
      cases ob with
      | lst xs => obtain ⟨vs, q1, q2⟩ := q; exact ⟨vs, by rw [upd_ne (nb rfl)]; exact q1, q2.monoT hp ht⟩
      | frz xs =>
        obtain ⟨vs, q1, q2⟩ := q
        rcases q1 with ⟨ob', q1⟩ | q1
        · have : b ≠ a := fun e => by rw [e, hd] at q1; cases q1; exact hl _ rfl
          exact ⟨vs, .inl ⟨ob', by rw [upd_ne this]; exact q1⟩, q2.monoT hp ht⟩
        · exact ⟨vs, .inr q1, q2.monoT hp ht⟩
      | ins c fs => obtain ⟨dx, ws', q1, q2⟩ := q; exact ⟨dx, ws', by rw [upd_ne (nb rfl)]; exact q1, q2.monoT hp ht⟩
      | dK kvs' => obtain ⟨ws', q1, q2⟩ := q; exact ⟨ws', by rw [upd_ne (nb rfl)]; exact q1, q2.monoT hp ht⟩
      | dT kvs' => obtain ⟨ws', q1, q2⟩ := q; exact ⟨ws', by rw [upd_ne (nb rfl)]; exact q1, q2.monoT hp ht⟩
      | lkK kvs' => obtain ⟨ob', ws', q1, q2⟩ := q; exact ⟨ob', ws', by rw [upd_ne (nb rfl)]; exact q1, q2.monoT hp ht⟩
  · rcases sg h3 with ⟨e3, _⟩ | ⟨hm3, h3'⟩ <;> rcases sg h4 with ⟨e4, _⟩ | ⟨hm4, h4'⟩
    · rw [e3, e4]
    · exact h.inj m k b _ o2 h1 h2 (by rw [e3]; exact ho) h4' rfl m2
    · exact h.inj m k b o1 _ h1 h2 h3' (by rw [e4]; exact ho) m1 rfl
    · exact h.inj m k b o1 o2 h1 h2 h3' h4' m1 m2
  · obtain ⟨ps, q1, q2⟩ := h.tabs P hP
    have : P ≠ a := fun e => by rw [e, hd] at q1; cases q1
    exact ⟨ps, by rw [upd_ne this]; exact q1, q2⟩
end
end Core

set_option Elab.async false
set_option linter.all false
set_option maxRecDepth 100000
set_option maxHeartbeats 4000000
/-! Core: what a reading says in the store's words; expressions -/
namespace Core
open PySem PySem.Spec PyProof.Rows L2

def Slots (K : PySem.W.Frag) (ι : List Addr) (H : Hp) (l : Loc) (σ : L2.St) : Prop :=
  l.length = σ.length ∧ ∀ (i : Nat) (d : D), l[i]? = some (some d) → ∃ v, σ[i]? = some (some v) ∧ Rep K ι H v d
theorem Slots.mono {K : PySem.W.Frag} {ι ι' : List Addr} {H H' : Hp} {l : Loc} {σ : L2.St} (h : Slots K ι H l σ) (st : Stp K ι H ι' H') : Slots K ι' H' l σ :=
  ⟨h.1, fun i d e => let ⟨v, h1, h2⟩ := h.2 i d e; ⟨v, h1, h2.mono st⟩⟩
theorem Slots.set {K : PySem.W.Frag} {ι : List Addr} {H : Hp} {l : Loc} {σ : L2.St} (h : Slots K ι H l σ) (i : Nat) {v : V} {d : D} (r : Rep K ι H v d) : Slots K ι H (l.set i (some d)) (σ.set i (some v)) := by
  refine ⟨by simp [h.1], fun j e q => ?_⟩
  by_cases hj : j = i
  · subst hj
    by_cases hl : j < l.length
    · rw [List.getElem?_set_self hl] at q
      cases q
      exact ⟨v, List.getElem?_set_self (by rw [← h.1]; exact hl), r⟩
    · rw [List.getElem?_eq_none (by simpa using hl)] at q; cases q
  · rw [List.getElem?_set_ne (Ne.symm hj)] at q
    obtain ⟨w, h1, h2⟩ := h.2 j e q
    exact ⟨w, by rw [List.getElem?_set_ne (Ne.symm hj)]; exact h1, h2⟩
def wipeL (l : Loc) : List Nat → Loc
  | [] => l
  | v :: vs => (wipeL l vs).set v none
theorem Slots.none {K : PySem.W.Frag} {ι : List Addr} {H : Hp} {l : Loc} {σ : L2.St} (h : Slots K ι H l σ) (i : Nat) : Slots K ι H (l.set i none) (σ.set i none) := by
  refine ⟨by simp [h.1], fun j e q => ?_⟩
  by_cases hj : j = i
  · subst hj
    by_cases hl : j < l.length
    · rw [List.getElem?_set_self hl] at q; cases q
    · rw [List.getElem?_eq_none (by simpa using hl)] at q; cases q
  · rw [List.getElem?_set_ne (Ne.symm hj)] at q
    obtain ⟨w, h1, h2⟩ := h.2 j e q
    exact ⟨w, by rw [List.getElem?_set_ne (Ne.symm hj)]; exact h1, h2⟩
theorem Slots.wipe {K : PySem.W.Frag} {ι : List Addr} {H : Hp} {l : Loc} {σ : L2.St} (h : Slots K ι H l σ) : ∀ vs : List Nat, Slots K ι H (wipeL l vs) (wipe σ vs)
  | [] => h
  | v :: vs => (h.wipe vs).none v

/-- the result r reached from (ι, H): what is wanted of its end -/
def Fin {α β : Type} (G : Gx) (W : WX) (ι : List Addr) (H : Hp) (σ : L2.St) (rel : List Addr → Hp → β → α → Prop) (r : R α) (Q : β → Hp → Prop) : Prop := match r with
  | .ok a s' => ∀ ι' b H', Stp G.K ι H ι' H' → SimH G ι' s' H' → rel ι' H' b a → Q b H'
  | .err c s' => ∀ ι' H', Stp G.K ι H ι' H' → SimH G ι' s' H' → W (.ref (G.cls c)) none σ H'
  | .no => False
section
variable {α β γ δ : Type} {G : Gx} {W : WX} {ι ι1 : List Addr} {H H1 : Hp} {σ : L2.St} {rel : List Addr → Hp → β → α → Prop} {rel' : List Addr → Hp → δ → γ → Prop} {r : R α} {Q : β → Hp → Prop} {Q' : δ → Hp → Prop}
theorem Fin.step (h : Fin G W ι H σ rel r Q) (st : Stp G.K ι H ι1 H1) : Fin G W ι1 H1 σ rel r Q := by
  cases r with
  | ok a s' => exact fun ι' b H' st' => h ι' b H' (st.trans st')
  | err c s' => exact fun ι' H' st' => h ι' H' (st.trans st')
  | no => exact h
theorem Fin.bind {f : α → Mem → R γ} (h : Fin G W ι H σ rel' (r.bind f) Q') {Q : β → Hp → Prop}
    (k : ∀ a s1 ι1 b H1, Stp G.K ι H ι1 H1 → SimH G ι1 s1 H1 → rel ι1 H1 b a → Fin G W ι1 H1 σ rel' (f a s1) Q' → Q b H1) : Fin G W ι H σ rel r Q := by
  cases r with
  | ok a s' => exact fun ι' b H' st sm rl => k a s' ι' b H' st sm rl (Fin.step (r := f a s') h st)
  | err c s' => exact h
  | no => exact h
/-- at the end: the result stands here -/
theorem Fin.here {a : α} {s : Mem} (h : Fin G W ι H σ rel (.ok a s) Q) (sm : SimH G ι s H) {b : β} (rl : rel ι H b a) : Q b H := h ι b H .refl sm rl
theorem Fin.there {a : α} {s : Mem} (h : Fin G W ι H σ rel (.ok a s) Q) (st : Stp G.K ι H ι1 H1) (sm : SimH G ι1 s H1) {b : β} (rl : rel ι1 H1 b a) : Q b H1 := h ι1 b H1 st sm rl
end
def relB (_ : List Addr) (_ : Hp) (b a : Bool) : Prop := b = a
def dE (G : Gx) (W : WX) (m : EM) : TE := fun σ H Q => ∃ ι l s, SimH G ι s H ∧ Slots G.K ι H l σ ∧ Fin G W ι H σ (Rep G.K) (m l s) Q
def dT (G : Gx) (W : WX) (m : TM) : TT := fun σ H Q => ∃ ι l s, SimH G ι s H ∧ Slots G.K ι H l σ ∧ Fin G W ι H σ relB (m l s) Q
def dA (G : Gx) (W : WX) (m : AM) : TA := fun σ H Q => ∃ ι l s, SimH G ι s H ∧ Slots G.K ι H l σ ∧ Fin G W ι H σ (Reps G.K) (m l s) Q
theorem PE.imp {X : Cx} {e : Expr} {t t' : TE} (h : PE X e t) (f : ∀ σ H Q, t' σ H Q → t σ H Q) : PE X e t' := ⟨fun pins s σ H Q I hw => h.run pins s σ H Q I (f _ _ _ hw)⟩
theorem PT.imp {X : Cx} {e : Expr} {t t' : TT} (h : PT X e t) (f : ∀ σ H Q, t' σ H Q → t σ H Q) : PT X e t' := ⟨fun pins s σ H Q I hw => h.run pins s σ H Q I (f _ _ _ hw)⟩
theorem PA.imp {X : Cx} {e : List Expr} {t t' : TA} (h : PA X e t) (f : ∀ σ H Q, t' σ H Q → t σ H Q) : PA X e t' := ⟨fun pos pins s σ H Q I hw => h.run pos pins s σ H Q I (f _ _ _ hw)⟩
theorem PS.imp {X : Cx} {e : Stmt} {t t' : TS} (h : PS X e t) (f : ∀ D σ H, t' D σ H → t D σ H) : PS X e t' := ⟨fun pins s σ H D I hw => h.run pins s σ H D I (f _ _ _ hw)⟩
theorem PSs.imp {X : Cx} {e : List Stmt} {t t' : TS} (h : PSs X e t) (f : ∀ D σ H, t' D σ H → t D σ H) : PSs X e t' := ⟨fun pins s σ H D I hw => h.run pins s σ H D I (f _ _ _ hw)⟩

/-! ### operations on values: what a reading by values asks, in the store's words -/
def OpS2 (G : Gx) (r : R2) (g : D → D → Mem → R D) : Prop := ∀ (W : WX) (σ : L2.St) (ι : List Addr) (s : Mem) (H : Hp) (v w : V) (x y : D) (Q : VK), SimH G ι s H → Rep G.K ι H v x → Rep G.K ι H w y → Fin G W ι H σ (Rep G.K) (g x y s) Q → r v w H Q
def OpS1 (G : Gx) (r : V → Hp → VK → Prop) (g : D → Mem → R D) : Prop := ∀ (W : WX) (σ : L2.St) (ι : List Addr) (s : Mem) (H : Hp) (v : V) (x : D) (Q : VK), SimH G ι s H → Rep G.K ι H v x → Fin G W ι H σ (Rep G.K) (g x s) Q → r v H Q
def OpSA (G : Gx) (r : List V → Hp → VK → Prop) (g : List D → Mem → R D) : Prop := ∀ (W : WX) (σ : L2.St) (ι : List Addr) (s : Mem) (H : Hp) (vs : List V) (xs : List D) (Q : VK), SimH G ι s H → Reps G.K ι H vs xs → Fin G W ι H σ (Rep G.K) (g xs s) Q → r vs H Q
def OpSM (G : Gx) (r : V → List V → Hp → VK → Prop) (g : D → List D → Mem → R D) : Prop := ∀ (W : WX) (σ : L2.St) (ι : List Addr) (s : Mem) (H : Hp) (v : V) (x : D) (vs : List V) (xs : List D) (Q : VK), SimH G ι s H → Rep G.K ι H v x → Reps G.K ι H vs xs → Fin G W ι H σ (Rep G.K) (g x xs s) Q → r v vs H Q
theorem OpR.or {X : Cx} {f : Value → Value → Sem Value} {r r' : R2} (h : OpR X f r) (h' : OpR X f r') : OpR X f (fun x y H Q => r x y H Q ∨ r' x y H Q) := by
  intro pins s σ H x y v u Q I rx ry q
  rcases q with q | q
  · exact h pins s σ H x y v u Q I rx ry q
  · exact h' pins s σ H x y v u Q I rx ry q

/-! ### the actions -/
def mVar (i : Nat) : EM := fun l s => match l[i]? with
  | some (some d) => .ok d s
  | _ => .no
def mC (d : D) : EM := fun _ s => .ok d s
def mOp (g : D → D → Mem → R D) (ma mb : EM) : EM := fun l s => (ma l s).bind fun x s1 => (mb l s1).bind fun y s2 => g x y s2
def mUn (g : D → Mem → R D) (ma : EM) : EM := fun l s => (ma l s).bind g
def mNil : AM := fun _ s => .ok [] s
def mCons (me : EM) (ma : AM) : AM := fun l s => (me l s).bind fun x s1 => (ma l s1).bind fun xs s2 => .ok (x :: xs) s2
def mTup (ma : AM) : EM := fun l s => (ma l s).bind fun xs s1 => if xs.length ≤ 100000 then .ok (.tup xs) s1 else .no
def mLst (ma : AM) : EM := fun l s => (ma l s).bind fun xs s1 => if xs.length ≤ 100000 then .ok (.ref s1.length) (s1 ++ [.lst xs]) else .no
def mApp (g : List D → Mem → R D) (ma : AM) : EM := fun l s => (ma l s).bind g
def mMeth (g : D → List D → Mem → R D) (mo : EM) (ma : AM) : EM := fun l s => (mo l s).bind fun x s1 => (ma l s1).bind fun xs s2 => g x xs s2
/-- tests -/
def tstB (me : EM) : TM := fun l s => (me l s).bind fun x s1 => match x with
  | .bl b => .ok b s1
  | _ => .no
def tstAnd (a b : TM) : TM := fun l s => (a l s).bind fun c s1 => if c = true then b l s1 else .ok false s1
def tstOr (a b : TM) : TM := fun l s => (a l s).bind fun c s1 => if c = true then .ok true s1 else b l s1
def tstNot (a : TM) : TM := fun l s => (a l s).bind fun c s1 => .ok (!c) s1
def mIf (t : TM) (a b : EM) : EM := fun l s => (t l s).bind fun c s1 => if c = true then a l s1 else b l s1
def mAnd (a b : EM) : EM := fun l s => (a l s).bind fun x s1 => match x with
  | .bl c => if c = true then b l s1 else .ok (.bl false) s1
  | _ => .no
def mOr (a b : EM) : EM := fun l s => (a l s).bind fun x s1 => match x with
  | .bl c => if c = true then .ok (.bl true) s1 else b l s1
  | _ => .no
def mNot (a : EM) : EM := fun l s => (a l s).bind fun x s1 => match x with
  | .bl c => .ok (.bl (!c)) s1
  | _ => .no

section
variable {G : Gx} {W : WX} {X : Cx} {a b e : Expr} {es : List Expr} {pos : Pos} {ma mb me : EM} {mA : AM} {ta tb : TM}
theorem em_var {i : Nat} (h : PE X e (tVar i)) : PE X e (dE G W (mVar i)) := PE.imp h fun σ H Q ⟨ι, l, s, sm, sl, f⟩ => by
  cases q : l[i]? with
  | none => simp only [mVar, q] at f; exact f.elim
  | some o =>
    cases o with
    | none => simp only [mVar, q] at f; exact f.elim
    | some d =>
      simp only [mVar, q] at f
      obtain ⟨v, h1, h2⟩ := sl.2 i d q
      exact ⟨v, h1, f.here sm h2⟩
theorem em_c {v : V} {d : D} (h : PE X e (tC v)) (hr : ∀ ι H, Rep G.K ι H v d) : PE X e (dE G W (mC d)) := PE.imp h fun σ H Q ⟨ι, l, s, sm, sl, f⟩ => f.here sm (hr ι H)
theorem em_int {i : Int} {j p} : PE X (.Constant (.int i) j p) (dE G W (mC (.int i))) := em_c pe_int fun _ _ => .int i
theorem em_bl {i : Bool} {j p} : PE X (.Constant (.bool i) j p) (dE G W (mC (.bl i))) := em_c pe_bl fun _ _ => .bl i
theorem em_non {j p} : PE X (.Constant .none j p) (dE G W (mC .non)) := em_c pe_non fun _ _ => .non
theorem em_str {i : Str} {j p} : PE X (.Constant (.str i) j p) (dE G W (mC (.str i))) := em_c pe_str fun _ _ => .str i
theorem em_op {op : Operator} {r : R2} {g : D → D → Mem → R D} (ho : OpR X (binaryOp op) r) (hg : OpS2 G r g) (ha : PE X a (dE G W ma)) (hb : PE X b (dE G W mb)) : PE X (.BinOp a op b pos) (dE G W (mOp g ma mb)) :=
  PE.imp (pe_op ho ha hb) fun σ H Q ⟨ι, l, s, sm, sl, f⟩ => ⟨ι, l, s, sm, sl, f.bind fun x s1 ι1 v H1 st1 sm1 r1 f1 => ⟨ι1, l, s1, sm1, sl.mono st1, f1.bind fun y s2 ι2 w H2 st2 sm2 r2 f2 => hg W σ ι2 s2 H2 v w x y Q sm2 (r1.mono st2) r2 f2⟩⟩
theorem em_cmp {op : CmpOp} {r : R2} {g : D → D → Mem → R D} (ho : OpR X (compareOp op) r) (hg : OpS2 G r g) (ha : PE X a (dE G W ma)) (hb : PE X b (dE G W mb)) (h1 : behindInMarks op b = false) : PE X (.Compare a [op] [b] pos) (dE G W (mOp g ma mb)) :=
  PE.imp (pe_cmpR ho ha hb h1) fun σ H Q ⟨ι, l, s, sm, sl, f⟩ => ⟨ι, l, s, sm, sl, f.bind fun x s1 ι1 v H1 st1 sm1 r1 f1 => ⟨ι1, l, s1, sm1, sl.mono st1, f1.bind fun y s2 ι2 w H2 st2 sm2 r2 f2 => hg W σ ι2 s2 H2 v w x y Q sm2 (r1.mono st2) r2 f2⟩⟩
theorem em_un {op : UnaryOp} {r : V → Hp → VK → Prop} {g : D → Mem → R D} (ho : UnR X (unaryOp op) r) (hg : OpS1 G r g) (ha : PE X a (dE G W ma)) : PE X (.UnaryOp op a pos) (dE G W (mUn g ma)) :=
  PE.imp (pe_un ho ha) fun σ H Q ⟨ι, l, s, sm, sl, f⟩ => ⟨ι, l, s, sm, sl, f.bind fun x s1 ι1 v H1 st1 sm1 r1 f1 => hg W σ ι1 s1 H1 v x Q sm1 r1 f1⟩
theorem am_nil : PA X [] (dA G W mNil) := PA.imp pa_nil fun σ H Q ⟨ι, l, s, sm, sl, f⟩ => f.here sm .nil
theorem am_cons (he : PE X e (dE G W me)) (hr : PA X es (dA G W mA)) (hs : starEach (e :: es) X.env = (false, eval e X.env) :: starEach es X.env := by rfl) : PA X (e :: es) (dA G W (mCons me mA)) :=
  PA.imp (pa_cons he hr hs) fun σ H Q ⟨ι, l, s, sm, sl, f⟩ => ⟨ι, l, s, sm, sl, f.bind fun x s1 ι1 v H1 st1 sm1 r1 f1 => ⟨ι1, l, s1, sm1, sl.mono st1, f1.bind fun y s2 ι2 w H2 st2 sm2 r2 f2 => f2.here sm2 (.cons (r1.mono st2) r2)⟩⟩
theorem lim_le {n : Nat} (h : n ≤ 100000) : n ≤ sizeLine := Nat.le_trans h (by rw [sizeLine_eq]; decide)
theorem lim_lt {n : Nat} (h : n < 100000) : n < sizeLine := Nat.lt_of_lt_of_le h (by rw [sizeLine_eq]; decide)
theorem em_tup {x1} (h : PA X es (dA G W mA)) : PE X (.Tuple es x1 pos) (dE G W (mTup mA)) :=
  PE.imp (pe_tup h) fun σ H Q ⟨ι, l, s, sm, sl, f⟩ => ⟨ι, l, s, sm, sl, f.bind fun xs s1 ι1 vs H1 st1 sm1 r1 f1 => by
    by_cases hz : xs.length ≤ 100000
    · rw [if_pos hz] at f1
      have st2 : ∀ p, H1 p = none → Stp G.K ι1 H1 ι1 (upd H1 p (.tup vs)) := fun p hp => Stp.new hp fun _ _ z => z
      exact ⟨lim_le (by rw [r1.length]; exact hz), fun p hp => f1.there (st2 p hp) (sm1.laid hp) (.tup upd_same (r1.mono (st2 p hp)))⟩
    · rw [if_neg hz] at f1; exact f1.elim⟩
/-- a new list at p -/
theorem newL {ι1 : List Addr} {s1 : Mem} {H1 : Hp} {vs : List V} {xs : List D} {Q : VK} {σ : L2.St} (sm1 : SimH G ι1 s1 H1) (r1 : Reps G.K ι1 H1 vs xs) (f1 : Fin G W ι1 H1 σ (Rep G.K) (.ok (.ref s1.length) (s1 ++ [.lst xs])) Q) (p : Addr) (hp : H1 p = none) : Q (.ref p) (upd H1 p (.lst vs)) := by
  have st2 : Stp G.K ι1 H1 (ι1 ++ [p]) (upd H1 p (.lst vs)) := Stp.new hp (pre_snoc p)
  exact f1.there st2 (sm1.push hp rfl ⟨vs, upd_same, r1.mono st2⟩) (.ref (by rw [← sm1.len]; simp))
theorem em_lst (h : PA X es (dA G W mA)) : PE X (.List es pos) (dE G W (mLst mA)) :=
  PE.imp (pe_lst h) fun σ H Q ⟨ι, l, s, sm, sl, f⟩ => ⟨ι, l, s, sm, sl, f.bind fun xs s1 ι1 vs H1 st1 sm1 r1 f1 => by
    by_cases hz : xs.length ≤ 100000
    · rw [if_pos hz] at f1
      exact ⟨lim_le (by rw [r1.length]; exact hz), newL sm1 r1 f1⟩
    · rw [if_neg hz] at f1; exact f1.elim⟩
/-- built-ins called by name -/
theorem em_callB {x : Str} {p : Pos} {id : String} {r : List V → Hp → VK → Prop} {g : List D → Mem → R D} (hc : CallR X (.builtin id) r) (hS : OpSA G r g) (hg : Gl X x) (hm : X.mg x = none) (hv : bootBuiltins x = some (.builtin id)) (ha : PA X (e :: es) (dA G W mA)) (hn : x ≠ "__name__" := by decide) (hdb : (x == ("__debug__" : Str)) = false := by decide)
    (he : starEach (e :: es) X.env = (false, eval e X.env) :: starEach es X.env := by rfl) (hpl : (backTo pos (starEach es X.env)).any (·.1) = false := by rfl) : PE X (.Call (.Name x p) (e :: es) [] pos) (dE G W (mApp g mA)) :=
  PE.imp (pe_callB hc hg hm hv ha hn hdb he hpl) fun σ H Q ⟨ι, l, s, sm, sl, f⟩ => ⟨ι, l, s, sm, sl, f.bind fun xs s1 ι1 vs H1 st1 sm1 r1 f1 => hS W σ ι1 s1 H1 vs xs Q sm1 r1 f1⟩
theorem em_callTy {x : Str} {p : Pos} {T : String} {r : List V → Hp → VK → Prop} {g : List D → Mem → R D} (hc : CallR X (.type T) r) (hS : OpSA G r g) (hg : Gl X x) (hm : X.mg x = none) (hv : bootBuiltins x = some (.type T)) (ha : PA X (e :: es) (dA G W mA)) (hn : x ≠ "__name__" := by decide) (hdb : (x == ("__debug__" : Str)) = false := by decide)
    (he : starEach (e :: es) X.env = (false, eval e X.env) :: starEach es X.env := by rfl) (hpl : (backTo pos (starEach es X.env)).any (·.1) = false := by rfl) : PE X (.Call (.Name x p) (e :: es) [] pos) (dE G W (mApp g mA)) :=
  PE.imp (pe_callTy hc hg hm hv ha hn hdb he hpl) fun σ H Q ⟨ι, l, s, sm, sl, f⟩ => ⟨ι, l, s, sm, sl, f.bind fun xs s1 ι1 vs H1 st1 sm1 r1 f1 => hS W σ ι1 s1 H1 vs xs Q sm1 r1 f1⟩
/-- subscripts -/
theorem em_ix {r : R2} {g : D → D → Mem → R D} (hr : IxR X r) (hg : OpS2 G r g) (ha : PE X a (dE G W ma)) (hb : PE X b (dE G W mb)) (hs : PlainIx b) : PE X (.Subscript a b pos) (dE G W (mOp g ma mb)) :=
  PE.imp (pe_ix hr ha hb hs) fun σ H Q ⟨ι, l, s, sm, sl, f⟩ => ⟨ι, l, s, sm, sl, f.bind fun x s1 ι1 v H1 st1 sm1 r1 f1 => ⟨ι1, l, s1, sm1, sl.mono st1, f1.bind fun y s2 ι2 w H2 st2 sm2 r2 f2 => hg W σ ι2 s2 H2 v w x y Q sm2 (r1.mono st2) r2 f2⟩⟩

/-! ### tests, and, or, not -/
theorem tm_val (h : PE X e (dE G W me)) (he : ∀ whole, isTrue e X.env whole = (do let v ← whole; standAt e.pos; holding [v] (truthy v)) := by intro _; rfl) : PT X e (dT G W (tstB me)) :=
  PT.imp (pt_val h he) fun σ H Q ⟨ι, l, s, sm, sl, f⟩ => ⟨ι, l, s, sm, sl, f.bind fun x s1 ι1 v H1 st1 sm1 r1 f1 => by
    cases r1 with
    | bl b => exact ⟨b, rfl, f1.here sm1 rfl⟩
    | _ => exact f1.elim⟩
theorem tm_cmp {op : CmpOp} {r : R2} {g : D → D → Mem → R D} (ho : OpR X (compareOp op) r) (hg : OpS2 G r g) (ha : PE X a (dE G W ma)) (hb : PE X b (dE G W mb)) (h1 : behindInMarks op b = false) : PT X (.Compare a [op] [b] pos) (dT G W (tstB (mOp g ma mb))) :=
  PT.imp (pt_cmpR ho ha hb h1) fun σ H Q ⟨ι, l, s, sm, sl, f⟩ => by
    have f : Fin G W ι H σ relB ((ma l s).bind fun x s1 => ((mb l s1).bind fun y s2 => (g x y s2)).bind fun z s3 => match z with | .bl b => .ok b s3 | _ => .no) Q := by
      have e : tstB (mOp g ma mb) l s = ((ma l s).bind fun x s1 => ((mb l s1).bind fun y s2 => (g x y s2)).bind fun z s3 => match z with | .bl b => .ok b s3 | _ => .no) := by
        unfold tstB mOp
        cases ma l s <;> rfl
      rw [← e]; exact f
    refine ⟨ι, l, s, sm, sl, f.bind fun x s1 ι1 v H1 st1 sm1 r1 f1 => ?_⟩
    have f1' : Fin G W ι1 H1 σ relB ((mb l s1).bind fun y s2 => ((g x y s2).bind fun z s3 => match z with | .bl b => .ok b s3 | _ => .no)) Q := by
      cases q : mb l s1 <;> (simp only [q, R.bind] at f1 ⊢; exact f1)
    refine ⟨ι1, l, s1, sm1, sl.mono st1, f1'.bind fun y s2 ι2 w H2 st2 sm2 r2 f2 => ?_⟩
    exact hg W σ ι2 s2 H2 v w x y _ sm2 (r1.mono st2) r2 (f2.bind fun z s3 ι3 u H3 st3 sm3 r3 f3 => by
      cases r3 with
      | bl b => exact ⟨b, rfl, f3.here sm3 rfl⟩
      | _ => exact f3.elim)
theorem tm_not (h : PT X a (dT G W ta)) : PT X (.UnaryOp .Not a pos) (dT G W (tstNot ta)) :=
  PT.imp (pt_not h) fun σ H Q ⟨ι, l, s, sm, sl, f⟩ => ⟨ι, l, s, sm, sl, f.bind fun x s1 ι1 v H1 st1 sm1 r1 f1 => by
    cases r1; exact f1.here sm1 rfl⟩
end
structure TW (G : Gx) (W : WX) (X : Cx) (e : Expr) (m : TM) : Prop where
  w : PW X e (dT G W m)
section
variable {G : Gx} {W : WX} {X : Cx} {a b e : Expr} {rest : List Expr} {pos : Pos} {ma mb me : EM} {mA : AM} {ta tb : TM}
theorem TW.pt (h : TW G W X e ta) : PT X e (dT G W ta) := h.w.pt
theorem tw_and1 (h : PT X a (dT G W ta)) : TW G W X (.BoolOp .And [a] pos) ta := ⟨pw_and1 h⟩
theorem tw_or1 (h : PT X a (dT G W ta)) : TW G W X (.BoolOp .Or [a] pos) ta := ⟨pw_or1 h⟩
theorem PW.imp {X : Cx} {e : Expr} {t t' : TT} (h : PW X e t) (f : ∀ σ H Q, t' σ H Q → t σ H Q) : PW X e t' := ⟨fun wh pins s σ H Q I hw => h.run wh pins s σ H Q I (f _ _ _ hw)⟩
theorem tw_and (ha : PT X a (dT G W ta)) (hb : TW G W X (.BoolOp .And (b :: rest) pos) tb) : TW G W X (.BoolOp .And (a :: b :: rest) pos) (tstAnd ta tb) :=
  ⟨PW.imp (pw_and ha hb.w) fun σ H Q ⟨ι, l, s, sm, sl, f⟩ => ⟨ι, l, s, sm, sl, f.bind fun x s1 ι1 v H1 st1 sm1 r1 f1 => by
    cases r1
    cases x with
    | true => rw [if_pos rfl] at f1 ⊢; exact ⟨ι1, l, s1, sm1, sl.mono st1, f1⟩
    | false => rw [if_neg Bool.false_ne_true] at f1 ⊢; exact f1.here sm1 rfl⟩⟩
theorem tw_or (ha : PT X a (dT G W ta)) (hb : TW G W X (.BoolOp .Or (b :: rest) pos) tb) : TW G W X (.BoolOp .Or (a :: b :: rest) pos) (tstOr ta tb) :=
  ⟨PW.imp (pw_or ha hb.w) fun σ H Q ⟨ι, l, s, sm, sl, f⟩ => ⟨ι, l, s, sm, sl, f.bind fun x s1 ι1 v H1 st1 sm1 r1 f1 => by
    cases r1
    cases x with
    | true => rw [if_pos rfl] at f1 ⊢; exact f1.here sm1 rfl
    | false => rw [if_neg Bool.false_ne_true] at f1 ⊢; exact ⟨ι1, l, s1, sm1, sl.mono st1, f1⟩⟩⟩
theorem em_if {c : Expr} (hc : PT X c (dT G W ta)) (ha : PE X a (dE G W ma)) (hb : PE X b (dE G W mb)) : PE X (.IfExp c a b pos) (dE G W (mIf ta ma mb)) :=
  PE.imp (pe_ifExp hc ha hb) fun σ H Q ⟨ι, l, s, sm, sl, f⟩ => ⟨ι, l, s, sm, sl, f.bind fun x s1 ι1 v H1 st1 sm1 r1 f1 => by
    cases r1
    cases x with
    | true => rw [if_pos rfl] at f1 ⊢; exact ⟨ι1, l, s1, sm1, sl.mono st1, f1⟩
    | false => rw [if_neg Bool.false_ne_true] at f1 ⊢; exact ⟨ι1, l, s1, sm1, sl.mono st1, f1⟩⟩
theorem em_one {op} (h : PE X a (dE G W ma)) : PE X (.BoolOp op [a] pos) (dE G W ma) := pe_one h
theorem em_and (ha : PE X a (dE G W ma)) (hb : PE X (.BoolOp .And (b :: rest) pos) (dE G W mb)) : PE X (.BoolOp .And (a :: b :: rest) pos) (dE G W (mAnd ma mb)) :=
  PE.imp (pe_and ha hb) fun σ H Q ⟨ι, l, s, sm, sl, f⟩ => ⟨ι, l, s, sm, sl, f.bind fun x s1 ι1 v H1 st1 sm1 r1 f1 => by
    cases r1 with
    | bl c =>
      refine ⟨c, rfl, ?_⟩
      cases c with
      | true => simp only [if_pos] at f1 ⊢; exact ⟨ι1, l, s1, sm1, sl.mono st1, f1⟩
      | false => simp only [Bool.false_eq_true, if_false] at f1 ⊢; exact f1.here sm1 (.bl false)
    | _ => exact f1.elim⟩
theorem em_or (ha : PE X a (dE G W ma)) (hb : PE X (.BoolOp .Or (b :: rest) pos) (dE G W mb)) : PE X (.BoolOp .Or (a :: b :: rest) pos) (dE G W (mOr ma mb)) :=
  PE.imp (pe_or ha hb) fun σ H Q ⟨ι, l, s, sm, sl, f⟩ => ⟨ι, l, s, sm, sl, f.bind fun x s1 ι1 v H1 st1 sm1 r1 f1 => by
    cases r1 with
    | bl c =>
      refine ⟨c, rfl, ?_⟩
      cases c with
      | true => simp only [if_pos] at f1 ⊢; exact f1.here sm1 (.bl true)
      | false => simp only [Bool.false_eq_true, if_false] at f1 ⊢; exact ⟨ι1, l, s1, sm1, sl.mono st1, f1⟩
    | _ => exact f1.elim⟩
theorem em_not (ha : PE X a (dE G W ma)) : PE X (.UnaryOp .Not a pos) (dE G W (mNot ma)) :=
  PE.imp (pe_not ha) fun σ H Q ⟨ι, l, s, sm, sl, f⟩ => ⟨ι, l, s, sm, sl, f.bind fun x s1 ι1 v H1 st1 sm1 r1 f1 => by
    cases r1 with
    | bl c => exact ⟨c, rfl, f1.here sm1 (.bl _)⟩
    | _ => exact f1.elim⟩
end
end Core

set_option Elab.async false
set_option linter.all false
set_option maxRecDepth 100000
set_option maxHeartbeats 4000000
/-! Core: operations on values -/
namespace Core
open PySem PySem.Spec PyProof.Rows L2

def rdL (s : Mem) (n : Nat) : Option (List D) := match s[n]? with
  | some (.lst xs) => some xs
  | some (.frz xs) => some xs
  | _ => none
def seqD (s : Mem) : D → Option (List D)
  | .tup xs => some xs
  | .ref n => rdL s n
  | _ => none
section
variable {G : Gx} {ι : List Addr} {s : Mem} {H : Hp} {v : V} {d : D} {xs : List D} {n : Nat} {a : Addr}
theorem SimH.at (sm : SimH G ι s H) {o : Ob} (h : s[n]? = some o) : ∃ a, ι[n]? = some a ∧ ObR G ι H a o := by
  have hn : n < ι.length := by rw [sm.len]; exact (List.getElem?_eq_some_iff.mp h).1
  exact ⟨ι[n], List.getElem?_eq_getElem hn, sm.ob n _ o (List.getElem?_eq_getElem hn) h⟩
theorem SimH.rdL (sm : SimH G ι s H) (h : Core.rdL s n = some xs) (ha : ι[n]? = some a) : ∃ vs, SqL G.K H a vs ∧ Reps G.K ι H vs xs := by
  unfold Core.rdL at h
  cases q : s[n]? with
  | none => rw [q] at h; cases h
  | some o =>
    rw [q] at h
    have r := sm.ob n a o ha q
    cases o with
    | lst ys => cases h; obtain ⟨vs, h1, h2⟩ := r; exact ⟨vs, SqL.of h1, h2⟩
    | frz ys => cases h; obtain ⟨vs, h1, h2⟩ := r; exact ⟨vs, h1.sql, h2⟩
    | _ => cases h
theorem SimH.lst (sm : SimH G ι s H) (h : s[n]? = some (.lst xs)) (ha : ι[n]? = some a) : ∃ vs, H a = some (.lst vs) ∧ Reps G.K ι H vs xs := sm.ob n a _ ha h
theorem SimH.seq (sm : SimH G ι s H) (h : seqD s d = some xs) (r : Rep G.K ι H v d) : ∃ a vs, v = .ref a ∧ (SqL G.K H a vs ∨ SqT G.K H a vs) ∧ Reps G.K ι H vs xs := by
  cases r with
  | tup h1 h2 => cases h; exact ⟨_, _, rfl, .inr (SqT.of h1), h2⟩
  | ref h1 => obtain ⟨vs, q1, q2⟩ := sm.rdL h h1; exact ⟨_, vs, rfl, .inl q1, q2⟩
  | _ => cases h
theorem Reps.atI {K : PySem.W.Frag} {vs : List V} (r : Reps K ι H vs xs) {i : Int} (h : L2.atI xs i = some d) : ∃ v, L2.atI vs i = some v ∧ Rep K ι H v d := by
  unfold L2.atI at h ⊢
  rw [r.length]
  cases q : ixN xs.length i with
  | none => rw [q] at h; cases h
  | some j => rw [q] at h; exact r.get h
end

/-! ### arithmetic -/
def gAdd : D → D → Mem → R D
  | .int i, .int j, s => .ok (.int (i + j)) s
  | .str a, .str b, s => if a.length + b.length ≤ 100000 then .ok (.str (a ++ b)) s else .no
  | .tup a, .tup b, s => if a.length + b.length ≤ 100000 then .ok (.tup (a ++ b)) s else .no
  | .ref m, .ref n, s => match s[m]?, s[n]? with
    | some (.lst a), some (.lst b) => if a.length + b.length ≤ 100000 then .ok (.ref s.length) (s ++ [.lst (a ++ b)]) else .no
    | _, _ => .no
  | _, _, _ => .no
def rAddD (K : PySem.W.Frag) : R2 := fun x y H Q => rI0 (fun i j => .int (i + j)) x y H Q ∨ (∃ i j, x = .str i ∧ y = .str j ∧ i.length + j.length ≤ sizeLine ∧ Q (.str (i ++ j)) H) ∨ rCatA K x y H Q ∨ rCat x y H Q
theorem o_add {X : Cx} : OpR X (binaryOp .Add) (rAddD X.K) := OpR.or op_add (OpR.or op_add_str (OpR.or op_catA op_cat))
theorem s_add {G : Gx} : OpS2 G (rAddD G.K) gAdd := by
  intro W σ ι s H v w x y Q sm rv rw f
  cases rv with
  | int i => cases rw with
    | int j => exact .inl ⟨i, j, rfl, rfl, f.here sm (.int _)⟩
    | _ => exact f.elim
  | str a => cases rw with
    | str b =>
      simp only [gAdd] at f
      by_cases hz : a.length + b.length ≤ 100000
      · rw [if_pos hz] at f; exact .inr (.inl ⟨a, b, rfl, rfl, lim_le hz, f.here sm (.str _)⟩)
      · rw [if_neg hz] at f; exact f.elim
    | _ => exact f.elim
  | tup h1 r1 => cases rw with
    | tup h2 r2 =>
      rename_i a vs xs b ws ys
      simp only [gAdd] at f
      by_cases hz : xs.length + ys.length ≤ 100000
      · rw [if_pos hz] at f
        refine .inr (.inr (.inl ⟨a, b, vs, ws, rfl, rfl, SqT.of h1, SqT.of h2, lim_le (by rw [r1.length, r2.length]; exact hz), fun e => ?_, fun _ e => ?_, fun _ _ p hp => ?_⟩))
        · subst e; cases r1; exact f.here sm (.tup h2 r2)
        · subst e; cases r2; rw [List.append_nil] at f; exact f.here sm (.tup h1 r1)
        · have st : Stp G.K ι H ι (upd H p (.tup (vs ++ ws))) := Stp.new hp fun _ _ z => z
          exact f.there st (sm.laid hp) (.tup upd_same ((r1.append r2).mono st))
      · rw [if_neg hz] at f; exact f.elim
    | _ => exact f.elim
  | ref h1 => cases rw with
    | ref h2 =>
      rename_i a m b n
      simp only [gAdd] at f
      split at f
      · rename_i xs ys e1 e2
        obtain ⟨vs, k1, r1⟩ := sm.lst e1 h1
        obtain ⟨ws, k2, r2⟩ := sm.lst e2 h2
        by_cases hz : xs.length + ys.length ≤ 100000
        · rw [if_pos hz] at f
          exact .inr (.inr (.inr ⟨a, b, vs, ws, rfl, rfl, k1, k2, lim_le (by rw [r1.length, r2.length]; exact hz), newL sm (r1.append r2) f⟩))
        · rw [if_neg hz] at f; exact f.elim
      · exact f.elim
    | _ => exact f.elim
  | _ => exact f.elim
def gI2 (g : Int → Int → D) : D → D → Mem → R D
  | .int i, .int j, s => .ok (g i j) s
  | _, _, _ => .no
theorem s_I0 {G : Gx} {g : Int → Int → V} {g' : Int → Int → D} (hg : ∀ ι H i j, Rep G.K ι H (g i j) (g' i j)) : OpS2 G (rI0 g) (gI2 g') := by
  intro W σ ι s H v w x y Q sm rv rw f
  cases rv with
  | int i => cases rw with
    | int j => exact ⟨i, j, rfl, rfl, f.here sm (hg _ _ _ _)⟩
    | _ => exact f.elim
  | _ => exact f.elim
def gI2C (C : Int → Int → Bool) (g : Int → Int → D) : D → D → Mem → R D
  | .int i, .int j, s => if C i j = true then .ok (g i j) s else .no
  | _, _, _ => .no
theorem s_IC {G : Gx} {Cp : Int → Int → Prop} {C : Int → Int → Bool} {g : Int → Int → V} {g' : Int → Int → D} (hC : ∀ i j, C i j = true → Cp i j) (hg : ∀ ι H i j, Rep G.K ι H (g i j) (g' i j)) : OpS2 G (rI Cp g) (gI2C C g') := by
  intro W σ ι s H v w x y Q sm rv rw f
  cases rv with
  | int i => cases rw with
    | int j =>
      simp only [gI2C] at f
      by_cases hz : C i j = true
      · rw [if_pos hz] at f; exact ⟨i, j, rfl, rfl, hC i j hz, f.here sm (hg _ _ _ _)⟩
      · rw [if_neg hz] at f; exact f.elim
    | _ => exact f.elim
  | _ => exact f.elim
def gSub := gI2 fun i j => .int (i - j)
theorem s_sub {G : Gx} : OpS2 G (rI0 fun i j => .int (i - j)) gSub := s_I0 fun _ _ _ _ => .int _
def gFdiv := gI2C (fun _ j => decide (0 < j ∧ j < 1073741824)) fun i j => .int (i / j)
theorem s_fdiv {G : Gx} : OpS2 G (rI CDiv fun i j => .int (i / j)) gFdiv := s_IC (fun i j h => (of_decide_eq_true h : 0 < j ∧ j < 1073741824)) fun _ _ _ _ => .int _
def gMod := gI2C (fun _ j => decide (0 < j)) fun i j => .int (i % j)
theorem s_mod {G : Gx} : OpS2 G (rI (fun _ j => 0 < j) fun i j => .int (i % j)) gMod := s_IC (fun _ _ h => of_decide_eq_true h) fun _ _ _ _ => .int _
def gPow := gI2C (fun i j => decide (0 ≤ j ∧ j ≤ 1000 ∧ i.natAbs < 100000)) fun i j => .int (i ^ j.toNat)
theorem s_pow {G : Gx} : OpS2 G (rI CPow fun i j => .int (i ^ j.toNat)) gPow := s_IC (fun _ _ h => by have := of_decide_eq_true h; exact ⟨this.1, by omega, Nat.lt_trans this.2.2 (by decide)⟩) fun _ _ _ _ => .int _
/-- products of ints (one of them small), of a list or a tuple by an int -/
def gMul : D → D → Mem → R D
  | .int i, .int j, s => if (-(2 ^ 64) < i ∧ i < 2 ^ 64) ∨ (-(2 ^ 64) < j ∧ j < 2 ^ 64) then .ok (.int (i * j)) s else .no
  | .tup a, .int k, s => if a.isEmpty = false ∧ 2 ≤ k ∧ k ≤ 1000 ∧ a.length ≤ 1000 then .ok (.tup (List.replicate k.toNat a).flatten) s else .no
  | .ref m, .int k, s => match s[m]? with
    | some (.lst a) => if 0 ≤ k ∧ a.length * k.toNat ≤ 100000 ∧ k < 100000 then .ok (.ref s.length) (s ++ [.lst (List.replicate k.toNat a).flatten]) else .no
    | _ => .no
  | _, _, _ => .no
def rMulD (K : PySem.W.Frag) : R2 := fun x y H Q => rI CMul (fun i j => .int (i * j)) x y H Q ∨ rRepT K x y H Q ∨ rRep x y H Q
theorem o_mul {X : Cx} : OpR X (binaryOp .Mult) (rMulD X.K) := OpR.or op_mul (OpR.or op_repT op_rep)
theorem s_mul {G : Gx} : OpS2 G (rMulD G.K) gMul := by
  intro W σ ι s H v w x y Q sm rv rw f
  cases rv with
  | int i => cases rw with
    | int j =>
      simp only [gMul] at f
      by_cases hz : (-(2 ^ 64) < i ∧ i < 2 ^ 64) ∨ (-(2 ^ 64) < j ∧ j < 2 ^ 64)
      · rw [if_pos hz] at f; exact .inl ⟨i, j, rfl, rfl, hz, f.here sm (.int _)⟩
      · rw [if_neg hz] at f; exact f.elim
    | _ => exact f.elim
  | tup h1 r1 => cases rw with
    | int k =>
      rename_i a vs xs
      simp only [gMul] at f
      by_cases hz : xs.isEmpty = false ∧ 2 ≤ k ∧ k ≤ 1000 ∧ xs.length ≤ 1000
      · rw [if_pos hz] at f
        have hl := r1.length
        refine .inr (.inl ⟨a, k, vs, rfl, rfl, SqT.of h1, fun e => by subst e; cases r1; exact absurd hz.1 (by simp), hz.2.1, hz.2.2.1, by rw [hl]; exact hz.2.2.2, fun p hp => ?_⟩)
        have st : Stp G.K ι H ι (upd H p (.tup (List.replicate k.toNat vs).flatten)) := Stp.new hp fun _ _ z => z
        exact f.there st (sm.laid hp) (.tup upd_same ((r1.rep _).mono st))
      · rw [if_neg hz] at f; exact f.elim
    | _ => exact f.elim
  | ref h1 => cases rw with
    | int k =>
      rename_i a m
      simp only [gMul] at f
      split at f
      · rename_i xs e1
        obtain ⟨vs, k1, r1⟩ := sm.lst e1 h1
        by_cases hz : 0 ≤ k ∧ xs.length * k.toNat ≤ 100000 ∧ k < 100000
        · rw [if_pos hz] at f
          exact .inr (.inr ⟨a, k, vs, rfl, rfl, k1, by omega, by omega, by rw [r1.length]; exact lim_le hz.2.1, newL sm (r1.rep _) f⟩)
        · rw [if_neg hz] at f; exact f.elim
      · exact f.elim
    | _ => exact f.elim
  | _ => exact f.elim
def gNeg : D → Mem → R D
  | .int i, s => .ok (.int (-i)) s
  | _, _ => .no
theorem s_neg {G : Gx} : OpS1 G (rU fun i => .int (-i)) gNeg := by
  intro W σ ι s H v x Q sm rv f
  cases rv with
  | int i => exact ⟨i, rfl, f.here sm (.int _)⟩
  | _ => exact f.elim

/-! ### order -/
def gOrd (pi : Int → Int → Bool) (ps : Str → Str → Bool) : D → D → Mem → R D
  | .int i, .int j, s => .ok (.bl (pi i j)) s
  | .str i, .str j, s => .ok (.bl (ps i j)) s
  | _, _, _ => .no
def rOrd (pi : Int → Int → Bool) (ps : Str → Str → Bool) : R2 := fun x y H Q => rI0 (fun i j => .bl (pi i j)) x y H Q ∨ ∃ i j, x = .str i ∧ y = .str j ∧ Q (.bl (ps i j)) H
theorem s_ord {G : Gx} {pi : Int → Int → Bool} {ps : Str → Str → Bool} : OpS2 G (rOrd pi ps) (gOrd pi ps) := by
  intro W σ ι s H v w x y Q sm rv rw f
  cases rv with
  | int i => cases rw with
    | int j => exact .inl ⟨i, j, rfl, rfl, f.here sm (.bl _)⟩
    | _ => exact f.elim
  | str i => cases rw with
    | str j => exact .inr ⟨i, j, rfl, rfl, f.here sm (.bl _)⟩
    | _ => exact f.elim
  | _ => exact f.elim
abbrev gLt := gOrd (fun i j => decide (i < j)) fun i j => decide (i.cps.toList < j.cps.toList)
abbrev gLe := gOrd (fun i j => decide (i ≤ j)) fun i j => !decide (j.cps.toList < i.cps.toList)
abbrev gGt := gOrd (fun i j => decide (j < i)) fun i j => decide (j.cps.toList < i.cps.toList)
abbrev gGe := gOrd (fun i j => decide (j ≤ i)) fun i j => !decide (i.cps.toList < j.cps.toList)
theorem o_lt {X : Cx} : OpR X (compareOp .Lt) (rOrd (fun i j => decide (i < j)) fun i j => decide (i.cps.toList < j.cps.toList)) := OpR.or op_lt op_lt_str
theorem o_le {X : Cx} : OpR X (compareOp .LtE) (rOrd (fun i j => decide (i ≤ j)) fun i j => !decide (j.cps.toList < i.cps.toList)) := OpR.or op_le op_le_str
theorem o_gt {X : Cx} : OpR X (compareOp .Gt) (rOrd (fun i j => decide (j < i)) fun i j => decide (j.cps.toList < i.cps.toList)) := OpR.or op_gt op_gt_str
theorem o_ge {X : Cx} : OpR X (compareOp .GtE) (rOrd (fun i j => decide (j ≤ i)) fun i j => !decide (i.cps.toList < j.cps.toList)) := OpR.or op_ge op_ge_str

/-! ### equality -/
def py (s : Mem) : Nat → D → Option PyData
  | 0, _ => none
  | _ + 1, .non => some .none
  | _ + 1, .bl b => some (.bool b)
  | _ + 1, .int i => some (.int i)
  | _ + 1, .str x => if PyData.strOk x = true then some (.str x) else none
  | n + 1, .tup xs => (xs.mapM (py s n)).map .tuple
  | n + 1, .ref a => match rdL s a with
    | some xs => (xs.mapM (py s n)).map .list
    | none => none
def pyL : Nat := 40
def gEqB (s : Mem) : D → D → Option Bool
  | .int i, .int j => some (i == j)
  | .bl i, .bl j => some (i == j)
  | .non, .non => some true
  | .str i, .str j => some (i == j)
  | x, y => match py s pyL x, py s pyL y with
    | some p, some q => some (PyData.eqv p q)
    | _, _ => none
def gEq : D → D → Mem → R D := fun x y s => match gEqB s x y with
  | some b => .ok (.bl b) s
  | none => .no
def gNe : D → D → Mem → R D := fun x y s => match gEqB s x y with
  | some b => .ok (.bl (!b)) s
  | none => .no
section
variable {G : Gx} {ι : List Addr} {s : Mem} {H : Hp}
theorem py_ok (sm : SimH G ι s H) : ∀ (n : Nat) (d : D) (p : PyData), py s n d = some p → ∀ v, Rep G.K ι H v d → Dp G.K H v p ∧ p.canLay0 = true ∧ p.depth ≤ n := by
  intro n
  induction n with
  | zero => intro d p h; cases h
  | succ n ih =>
    have all : ∀ (ds : List D) (ps : List PyData), ds.mapM (py s n) = some ps → ∀ vs, Reps G.K ι H vs ds → DpAll G.K H vs ps ∧ PyData.canLayAll0 ps = true ∧ PyData.depthAll ps ≤ n := by
      intro ds
      induction ds with
      | nil => intro ps h vs r; cases h; cases r; exact ⟨.nil, rfl, Nat.zero_le _⟩
      | cons d ds ihd =>
        intro ps h vs r
        rw [List.mapM_cons] at h
        cases q : py s n d with
        | none => rw [q] at h; cases h
        | some p =>
          rw [q] at h
          cases q2 : ds.mapM (py s n) with
          | none => rw [q2] at h; cases h
          | some ps' =>
            rw [q2] at h
            cases h
            cases r with
            | cons r1 r2 =>
              obtain ⟨a1, a2, a3⟩ := ih d p q _ r1
              obtain ⟨b1, b2, b3⟩ := ihd ps' q2 _ r2
              exact ⟨.cons a1 b1, by rw [PyData.canLayAll0, a2, b2]; rfl, by rw [PyData.depthAll]; omega⟩
    intro d p h v r
    cases r with
    | non => cases h; exact ⟨.non, rfl, Nat.zero_le _⟩
    | bl b => cases h; exact ⟨.bl b, rfl, Nat.zero_le _⟩
    | int i => cases h; exact ⟨.int i, rfl, Nat.zero_le _⟩
    | str x =>
      unfold py at h
      by_cases hx : PyData.strOk x = true
      · rw [if_pos hx] at h; cases h; exact ⟨.str x, hx, Nat.zero_le _⟩
      · rw [if_neg hx] at h; cases h
    | tup h1 h2 =>
      unfold py at h
      rename_i a vs ds
      cases q : ds.mapM (py s n) with
      | none => rw [q] at h; cases h
      | some ps =>
        rw [q] at h
        cases h
        obtain ⟨b1, b2, b3⟩ := all ds ps q _ h2
        exact ⟨.tup (SqT.of h1) b1, b2, by rw [PyData.depth]; omega⟩
    | ref h1 =>
      unfold py at h
      rename_i a m
      cases q0 : rdL s m with
      | none => rw [q0] at h; cases h
      | some ds =>
        rw [q0] at h
        obtain ⟨vs, k1, k2⟩ := sm.rdL q0 h1
        dsimp only at h
        cases q : ds.mapM (py s n) with
        | none => rw [q] at h; cases h
        | some ps =>
          rw [q] at h
          cases h
          obtain ⟨b1, b2, b3⟩ := all ds ps q _ k2
          exact ⟨.lst k1 b1, b2, by rw [PyData.depth]; omega⟩
theorem py_shaped (sm : SimH G ι s H) {d : D} {p : PyData} (h : py s pyL d = some p) {v : V} (r : Rep G.K ι H v d) : Dp G.K H v p ∧ SeqAt.shaped p = true := by
  obtain ⟨a, b, c⟩ := py_ok sm _ d p h v r
  refine ⟨a, ?_⟩
  unfold SeqAt.shaped
  rw [b, decide_eq_true (show p.depth ≤ 64 from Nat.le_trans c (by decide))]; rfl
theorem dp_eq (sm : SimH G ι s H) {x y : D} {b : Bool} (h : gEqB s x y = some b) {v w : V} (rv : Rep G.K ι H v x) (rw : Rep G.K ι H w y) :
    (scal v w = true ∧ decide (v = w) = b) ∨ ∃ p q, Dp G.K H v p ∧ Dp G.K H w q ∧ SeqAt.shaped p = true ∧ SeqAt.shaped q = true ∧ PyData.eqv p q = b := by
  unfold gEqB at h
  split at h
  · cases rv; cases rw; cases h; exact .inl ⟨rfl, dec_int⟩
  · cases rv; cases rw; cases h; exact .inl ⟨rfl, dec_bl⟩
  · cases rv; cases rw; cases h; exact .inl ⟨rfl, rfl⟩
  · cases rv; cases rw; cases h; exact .inl ⟨rfl, dec_str⟩
  · split at h
    · rename_i p q e1 e2
      cases h
      obtain ⟨a1, a2⟩ := py_shaped sm e1 rv
      obtain ⟨b1, b2⟩ := py_shaped sm e2 rw
      exact .inr ⟨p, q, a1, b1, a2, b2, rfl⟩
    · cases h
end
def rEqAll (K : PySem.W.Frag) : R2 := fun x y H Q => rEq x y H Q ∨ rEqD K x y H Q
def rNeAll (K : PySem.W.Frag) : R2 := fun x y H Q => rNe x y H Q ∨ rNeD K x y H Q
theorem o_eq {X : Cx} (hu : X.A.units + 64 < cLine) : OpR X (compareOp .Eq) (rEqAll X.K) := OpR.or op_eq (op_eqD hu)
theorem o_ne {X : Cx} (hu : X.A.units + 64 < cLine) : OpR X (compareOp .NotEq) (rNeAll X.K) := OpR.or op_ne (op_neD hu)
theorem s_eq {G : Gx} : OpS2 G (rEqAll G.K) gEq := by
  intro W σ ι s H v w x y Q sm rv rw f
  unfold gEq at f
  cases q : gEqB s x y with
  | none => rw [q] at f; exact f.elim
  | some b =>
    rw [q] at f
    have fin := f.here sm (.bl b)
    rcases dp_eq sm q rv rw with ⟨h1, h2⟩ | ⟨p, q, h1, h2, h3, h4, h5⟩
    · exact .inl ⟨h1, by rw [h2]; exact fin⟩
    · exact .inr ⟨p, q, h1, h2, h3, h4, by rw [h5]; exact fin⟩
theorem s_ne {G : Gx} : OpS2 G (rNeAll G.K) gNe := by
  intro W σ ι s H v w x y Q sm rv rw f
  unfold gNe at f
  cases q : gEqB s x y with
  | none => rw [q] at f; exact f.elim
  | some b =>
    rw [q] at f
    have fin := f.here sm (.bl (!b))
    rcases dp_eq sm q rv rw with ⟨h1, h2⟩ | ⟨p, q, h1, h2, h3, h4, h5⟩
    · exact .inl ⟨h1, by rw [h2]; exact fin⟩
    · exact .inr ⟨p, q, h1, h2, h3, h4, by rw [h5]; exact fin⟩

/-! ### is None, in -/
def gIsN : D → D → Mem → R D
  | .non, .non, s => .ok (.bl true) s
  | _, .non, s => .ok (.bl false) s
  | _, _, _ => .no
def gNotN : D → D → Mem → R D
  | .non, .non, s => .ok (.bl false) s
  | _, .non, s => .ok (.bl true) s
  | _, _, _ => .no
theorem rep_non {K : PySem.W.Frag} {ι : List Addr} {H : Hp} {v : V} {x : D} (r : Rep K ι H v x) (h : x ≠ .non) : v ≠ .non := by
  cases r <;> first | exact absurd rfl h | (intro e; cases e)
theorem s_isN {G : Gx} : OpS2 G (fun x y H Q => y = .non ∧ Q (.bl (decide (x = .non))) H) gIsN := by
  intro W σ ι s H v w x y Q sm rv rw f
  cases rw with
  | non =>
    refine ⟨rfl, ?_⟩
    by_cases hx : x = .non
    · subst hx; cases rv; exact f.here sm (.bl true)
    · rw [decide_eq_false (rep_non rv hx)]
      cases x <;> first | exact absurd rfl hx | exact f.here sm (.bl false)
  | _ => cases x <;> exact f.elim
theorem s_notN {G : Gx} : OpS2 G (fun x y H Q => y = .non ∧ Q (.bl (!decide (x = .non))) H) gNotN := by
  intro W σ ι s H v w x y Q sm rv rw f
  cases rw with
  | non =>
    refine ⟨rfl, ?_⟩
    by_cases hx : x = .non
    · subst hx; cases rv; exact f.here sm (.bl false)
    · rw [decide_eq_false (rep_non rv hx)]
      cases x <;> first | exact absurd rfl hx | exact f.here sm (.bl true)
  | _ => cases x <;> exact f.elim
/-- flat data as values -/
def toV : D → Option V
  | .non => some .non
  | .bl b => some (.bl b)
  | .int i => some (.int i)
  | .str x => some (.str x)
  | _ => none
section
variable {K : PySem.W.Frag} {ι : List Addr} {H : Hp}
theorem toV_ok {v w : V} {d : D} (r : Rep K ι H v d) (h : toV d = some w) : v = w ∧ flatV w = true := by
  cases r <;> first | (cases h; exact ⟨rfl, rfl⟩) | cases h
theorem toVs_ok : ∀ {vs ws : List V} {ds : List D}, Reps K ι H vs ds → ds.mapM toV = some ws → vs = ws ∧ ws.all flatV = true
  | [], _, [], .nil, h => by cases h; exact ⟨rfl, rfl⟩
  | v :: vs, ws, d :: ds, .cons r t, h => by
    rw [List.mapM_cons] at h
    cases q : toV d with
    | none => rw [q] at h; cases h
    | some w =>
      rw [q] at h
      cases q2 : ds.mapM toV with
      | none => rw [q2] at h; cases h
      | some ws' =>
        rw [q2] at h
        cases h
        obtain ⟨a1, a2⟩ := toV_ok r q
        obtain ⟨b1, b2⟩ := toVs_ok t q2
        exact ⟨by rw [a1, b1], by rw [List.all_cons, a2, b2]; rfl⟩
end
def gInB (x y : D) (s : Mem) : Option Bool := match toV x, seqD s y with
  | some v, some ys => (ys.mapM toV).map (inV v)
  | _, _ => none
def gIn : D → D → Mem → R D := fun x y s => match gInB x y s with
  | some b => .ok (.bl b) s
  | none => .no
def gNotIn : D → D → Mem → R D := fun x y s => match gInB x y s with
  | some b => .ok (.bl (!b)) s
  | none => .no
theorem in_ok {G : Gx} {ι : List Addr} {s : Mem} {H : Hp} (sm : SimH G ι s H) {x y : D} {b : Bool} (h : gInB x y s = some b) {v w : V} (rv : Rep G.K ι H v x) (rw : Rep G.K ι H w y) :
    ∃ p xs, w = .ref p ∧ (SqL G.K H p xs ∨ SqT G.K H p xs) ∧ flatV v = true ∧ xs.all flatV = true ∧ inV v xs = b := by
  unfold gInB at h
  split at h
  · rename_i v' ys e1 e2
    obtain ⟨a, vs, rfl, hs, r⟩ := sm.seq e2 rw
    cases q : ys.mapM toV with
    | none => rw [q] at h; cases h
    | some ws =>
      rw [q] at h
      cases h
      obtain ⟨h1, h2⟩ := toV_ok rv e1
      obtain ⟨h3, h4⟩ := toVs_ok r q
      subst h1; subst h3
      exact ⟨a, vs, rfl, hs, h2, h4, rfl⟩
  · cases h
theorem s_in {G : Gx} : OpS2 G (rIn G.K false) gIn := by
  intro W σ ι s H v w x y Q sm rv rw f
  unfold gIn at f
  cases q : gInB x y s with
  | none => rw [q] at f; exact f.elim
  | some b =>
    rw [q] at f
    obtain ⟨p, xs, e, hs, h1, h2, h3⟩ := in_ok sm q rv rw
    refine ⟨p, xs, e, hs, h1, h2, ?_⟩
    rw [if_neg Bool.false_ne_true, h3]; exact f.here sm (.bl b)
theorem s_notIn {G : Gx} : OpS2 G (rIn G.K true) gNotIn := by
  intro W σ ι s H v w x y Q sm rv rw f
  unfold gNotIn at f
  cases q : gInB x y s with
  | none => rw [q] at f; exact f.elim
  | some b =>
    rw [q] at f
    obtain ⟨p, xs, e, hs, h1, h2, h3⟩ := in_ok sm q rv rw
    refine ⟨p, xs, e, hs, h1, h2, ?_⟩
    rw [if_pos rfl, h3]; exact f.here sm (.bl _)

/-! ### subscripts -/
def gIx : D → D → Mem → R D := fun x y s => match y with
  | .int i => match x with
    | .str z => if z.length ≤ 100000 then match atI z.cps.toList i with
        | some c => .ok (.str ⟨#[c]⟩) s
        | none => .no
      else .no
    | _ => match seqD s x with
      | some xs => match atI xs i with
        | some d => .ok d s
        | none => .no
      | none => .no
  | _ => .no
theorem s_ix {G : Gx} : OpS2 G (rIx G.K) gIx := by
  intro W σ ι s H v w x y Q sm rv rw f
  cases rw with
  | int i =>
    have seq : ∀ xs, seqD s x = some xs → Fin G W ι H σ (Rep G.K) (match atI xs i with | some d => .ok d s | none => .no) Q → rIx G.K v (.int i) H Q := fun xs e f => by
      obtain ⟨a, vs, rfl, hs, r⟩ := sm.seq e rv
      cases q : atI xs i with
      | none => rw [q] at f; exact f.elim
      | some d =>
        rw [q] at f
        obtain ⟨u, h1, h2⟩ := r.atI q
        rcases hs with hs | hs
        · exact .inl ⟨a, vs, i, u, rfl, rfl, hs, h1, f.here sm h2⟩
        · exact .inr (.inl ⟨a, vs, i, u, rfl, rfl, hs, h1, f.here sm h2⟩)
    cases rv with
    | str z =>
      simp only [gIx] at f

      by_cases hz : z.length ≤ 100000
      · rw [if_pos hz] at f
        cases q : atI z.cps.toList i with
        | none => rw [q] at f; exact f.elim
        | some c => rw [q] at f; exact .inr (.inr ⟨z, i, c, rfl, rfl, lim_le hz, q, f.here sm (.str _)⟩)
      · rw [if_neg hz] at f; exact f.elim
    | tup h1 h2 => exact seq _ rfl f
    | ref h1 =>
      rename_i aa mm
      simp only [gIx] at f
      cases q : seqD s (.ref mm) with
      | none => rw [q] at f; exact f.elim
      | some xs => rw [q] at f; exact seq xs q f
    | _ => exact f.elim
  | _ => cases x <;> exact f.elim

/-! ### built-ins -/
def gLen : List D → Mem → R D
  | [.str z], s => if z.length ≤ 100000 then .ok (.int z.length) s else .no
  | [x], s => match seqD s x with
    | some xs => .ok (.int xs.length) s
    | none => .no
  | _, _ => .no
def rLenD (K : PySem.W.Frag) : List V → Hp → VK → Prop := fun xs H Q => (∃ p ys, xs = [.ref p] ∧ (SqL K H p ys ∨ SqT K H p ys) ∧ Q (.int ys.length) H) ∨ ∃ z, xs = [.str z] ∧ z.length ≤ sizeLine ∧ Q (.int z.length) H
theorem c_len {X : Cx} : CallR X (.builtin "len") (rLenD X.K) := CallR.or call_len_seq call_len_str
theorem s_len {G : Gx} : OpSA G (rLenD G.K) gLen := by
  intro W σ ι s H vs xs Q sm rs f
  cases rs with
  | nil => exact f.elim
  | cons r t =>
    cases t with
    | cons _ _ => cases r <;> exact f.elim
    | nil =>
      rename_i v x
      have seq : ∀ xs, seqD s x = some xs → Q (.int xs.length) H → rLenD G.K [v] H Q := fun xs e f => by
        obtain ⟨a, ws, rfl, hs, r⟩ := sm.seq e r
        exact .inl ⟨a, ws, rfl, hs, by rw [r.length]; exact f⟩
      cases r with
      | str z =>
        simp only [gLen] at f
        by_cases hz : z.length ≤ 100000
        · rw [if_pos hz] at f; exact .inr ⟨z, rfl, lim_le hz, f.here sm (.int _)⟩
        · rw [if_neg hz] at f; exact f.elim
      | tup h1 h2 => exact seq _ rfl (f.here sm (.int _))
      | ref h1 =>
        rename_i aa mm
        simp only [gLen] at f
        cases q : seqD s (.ref mm) with
        | none => simp only [q] at f; exact f.elim
        | some xs => simp only [q] at f; exact seq xs q (f.here sm (.int _))
      | _ => exact f.elim
def gInt1 : List D → Mem → R D
  | [.int i], s => .ok (.int i) s
  | [.bl k], s => .ok (.int (if k then 1 else 0)) s
  | _, _ => .no
theorem s_int1 {G : Gx} : OpSA G (fun xs H Q => (∃ i, xs = [.int i] ∧ Q (.int i) H) ∨ ∃ k, xs = [.bl k] ∧ Q (.int (if k then 1 else 0)) H) gInt1 := by
  intro W σ ι s H vs xs Q sm rs f
  cases rs with
  | nil => exact f.elim
  | cons r t =>
    cases t with
    | cons _ _ => cases r <;> exact f.elim
    | nil =>
      cases r with
      | int i => exact .inl ⟨i, rfl, f.here sm (.int _)⟩
      | bl k => exact .inr ⟨k, rfl, f.here sm (.int _)⟩
      | _ => exact f.elim
def gAbs : List D → Mem → R D
  | [.int i], s => .ok (.int (if i < 0 then -i else i)) s
  | _, _ => .no
theorem s_abs {G : Gx} : OpSA G (fun xs H Q => ∃ i, xs = [.int i] ∧ Q (.int (if i < 0 then -i else i)) H) gAbs := by
  intro W σ ι s H vs xs Q sm rs f
  cases rs with
  | nil => exact f.elim
  | cons r t =>
    cases t with
    | cons _ _ => cases r <;> exact f.elim
    | nil =>
      cases r with
      | int i => exact ⟨i, rfl, f.here sm (.int _)⟩
      | _ => exact f.elim
def gM2 (g : Int → Int → Int) : List D → Mem → R D
  | [.int i, .int j], s => .ok (.int (g i j)) s
  | _, _ => .no
theorem s_m2 {G : Gx} {g : Int → Int → Int} : OpSA G (fun xs H Q => ∃ i j, xs = [.int i, .int j] ∧ Q (.int (g i j)) H) (gM2 g) := by
  intro W σ ι s H vs xs Q sm rs f
  cases rs with
  | nil => exact f.elim
  | cons r t =>
    cases t with
    | nil => cases r <;> exact f.elim
    | cons r2 t2 =>
      cases t2 with
      | cons _ _ => cases r <;> cases r2 <;> exact f.elim
      | nil =>
        cases r with
        | int i =>
          cases r2 with
          | int j => exact ⟨i, j, rfl, f.here sm (.int _)⟩
          | _ => exact f.elim
        | _ => cases r2 <;> exact f.elim
def gTuple : List D → Mem → R D
  | [x], s => match seqD s x with
    | some xs => .ok (.tup xs) s
    | none => .no
  | _, _ => .no
def rTupleD (K : PySem.W.Frag) : List V → Hp → VK → Prop := fun xs H Q => ∃ p ys, xs = [.ref p] ∧ ((SqL K H p ys ∧ ∀ l, H l = none → Q (.ref l) (upd H l (.tup ys))) ∨ (SqT K H p ys ∧ Q (.ref p) H))
theorem s_tuple {G : Gx} : OpSA G (rTupleD G.K) gTuple := by
  intro W σ ι s H vs xs Q sm rs f
  cases rs with
  | nil => exact f.elim
  | cons r t =>
    cases t with
    | cons _ _ => exact f.elim
    | nil =>
      rename_i v x
      simp only [gTuple] at f
      cases r with
      | tup h1 h2 => exact ⟨_, _, rfl, .inr ⟨SqT.of h1, f.here sm (.tup h1 h2)⟩⟩
      | ref h1 =>
        rename_i aa mm
        cases q : seqD s (.ref mm) with
        | none => simp only [q] at f; exact f.elim
        | some xs =>
          simp only [q] at f
          obtain ⟨ws, k1, k2⟩ := sm.rdL q h1
          refine ⟨_, ws, rfl, .inl ⟨k1, fun l hl => ?_⟩⟩
          have st : Stp G.K ι H ι (upd H l (.tup ws)) := Stp.new hl fun _ _ z => z
          exact f.there st (sm.laid hl) (.tup upd_same (k2.mono st))
      | _ => exact f.elim
def gList : List D → Mem → R D
  | [x], s => match seqD s x with
    | some xs => .ok (.ref s.length) (s ++ [.lst xs])
    | none => .no
  | _, _ => .no
theorem s_list {G : Gx} : OpSA G (fun xs H Q => ∃ p ys, xs = [.ref p] ∧ (SqL G.K H p ys ∨ SqT G.K H p ys) ∧ ∀ l, H l = none → Q (.ref l) (upd H l (.lst ys))) gList := by
  intro W σ ι s H vs xs Q sm rs f
  cases rs with
  | nil => exact f.elim
  | cons r t =>
    cases t with
    | cons _ _ => exact f.elim
    | nil =>
      rename_i v x
      simp only [gList] at f
      cases q : seqD s x with
      | none => simp only [q] at f; exact f.elim
      | some xs =>
        simp only [q] at f
        obtain ⟨a, ws, rfl, hs, r2⟩ := sm.seq q r
        exact ⟨a, ws, rfl, hs, newL sm r2 f⟩
/-- isinstance -/
def tyN (s : Mem) : D → Option String
  | .non => some "NoneType"
  | .bl _ => some "bool"
  | .int _ => some "int"
  | .str _ => some "str"
  | .tup _ => some "tuple"
  | .ref n => match s[n]? with
    | some (.lst _) => some "list"
    | some (.frz _) => some "list"
    | some (.dK _) => some "dict"
    | some (.lkK _) => some "dict"
    | _ => none
def isT (a b : String) : Bool := a == b || (a == "bool" && b == "int")
def gIs (T : String) : List D → Mem → R D
  | [x], s => match tyN s x with
    | some a => .ok (.bl (isT a T)) s
    | none => .no
  | _, _ => .no
end Core

set_option Elab.async false
set_option linter.all false
set_option maxRecDepth 100000
set_option maxHeartbeats 4000000
/-! Core: isinstance, fields, calls -/
namespace Core
open PySem PySem.Spec PyProof.Rows L2

/-! ### isinstance against built-in classes -/
def tyNames : List String := ["NoneType", "bool", "int", "str", "tuple", "list", "dict"]
def isNames : List String := ["tuple", "str", "int", "bool", "list"]
theorem kit_all : (tyNames.all fun a => isNames.all fun b => decide (kitB a b = some (isT a b))) = true := by decide +kernel
theorem kit_at {a b : String} (ha : a ∈ tyNames) (hb : b ∈ isNames) : kitB a b = some (isT a b) :=
  of_decide_eq_true (List.all_eq_true.mp (List.all_eq_true.mp kit_all a ha) b hb)
def gIsT (T : String) : D → Mem → R D := fun x s => match tyN s x with
  | some a => .ok (.bl (isT a T)) s
  | none => .no
theorem tyN_ok {G : Gx} {ι : List Addr} {s : Mem} {H : Hp} (sm : SimH G ι s H) {v : V} {x : D} (r : Rep G.K ι H v x) {a : String} (h : tyN s x = some a) : TyX G.K H v (.type a) ∧ a ∈ tyNames := by
  cases r with
  | non => cases h; exact ⟨.base .non, by decide⟩
  | bl b => cases h; exact ⟨.base (.bl b), by decide⟩
  | int i => cases h; exact ⟨.base (.int i), by decide⟩
  | str z => cases h; exact ⟨.base (.str z), by decide⟩
  | tup h1 h2 =>
    cases h
    refine ⟨?_, by decide⟩
    exact .base (.tup h1)
  | ref h1 =>
    rename_i p n
    unfold tyN at h
    cases q : s[n]? with
    | none => simp only [q] at h; cases h
    | some o =>
      simp only [q] at h
      have ob := sm.ob n p o h1 q
      cases o with
      | lst xs => cases h; obtain ⟨vs, k1, k2⟩ := ob; exact ⟨.base (.lst k1), by decide⟩
      | frz xs =>
        cases h
        obtain ⟨vs, k1, k2⟩ := ob
        refine ⟨?_, by decide⟩
        rcases k1 with ⟨o, k1⟩ | ⟨o, its, m, k1, k3, _⟩
        · exact .base (.frz k1)
        · exact .kList k1 k3
      | dK kvs => cases h; obtain ⟨vs, k1, k2⟩ := ob; exact ⟨.base (.dK k1), by decide⟩
      | lkK kvs => cases h; obtain ⟨o, vs, k1, k2⟩ := ob; exact ⟨.fDict k1, by decide⟩
      | _ => cases h
theorem em_isT {G : Gx} {W : WX} {X : Cx} {e : Expr} {me : EM} {T : Str} {Ts : String} {p p2 pos : Pos} (hK : X.K = G.K) (hT : Ts ∈ isNames) (hg : Gl X "isinstance") (hm : X.mg "isinstance" = none) (hg2 : Gl X T) (hm2 : X.mg T = none) (hv : bootBuiltins T = some (.type Ts)) (he : PE X e (dE G W me))
    (hn : T ≠ "__name__" := by decide) (hd : (T == ("__debug__" : Str)) = false := by decide)
    (hs : starEach [e, .Name T p2] X.env = (false, eval e X.env) :: starEach [.Name T p2] X.env := by rfl) (hs2 : starEach [.Name T p2] X.env = (false, eval (.Name T p2) X.env) :: starEach [] X.env := by rfl)
    (hpl : (backTo pos (starEach [.Name T p2] X.env)).any (·.1) = false := by rfl) :
    PE X (.Call (.Name "isinstance" p) [e, .Name T p2] [] pos) (dE G W (mUn (gIsT Ts) me)) :=
  PE.imp (pe_callB call_isi hg hm boot_isinstance (pa_cons he (pa_cons (pe_bltn (v := .ty Ts) hg2 hm2 hv rfl hn hd) pa_nil hs2) hs) (by decide) (by decide) hs hpl) fun σ H Q ⟨ι, l, s, sm, sl, f⟩ => ⟨ι, l, s, sm, sl, f.bind fun x s1 ι1 v H1 st1 sm1 r1 f1 => by
    unfold gIsT at f1
    cases q : tyN s1 x with
    | none => simp only [q] at f1; exact f1.elim
    | some a =>
      simp only [q] at f1
      obtain ⟨h1, h2⟩ := tyN_ok sm1 r1 q
      exact ⟨v, .ty Ts, .type a, .type Ts, isT a Ts, rfl, .ty Ts, by rw [hK]; exact h1, kit_ty (kit_at h2 hT), f1.here sm1 (.bl _)⟩⟩

/-! ### fields of instances -/
def putD (f : Str) (d : D) : List (Str × D) → List (Str × D)
  | [] => [(f, d)]
  | (g, e) :: r => if g = f then (g, d) :: r else (g, e) :: putD f d r
section
variable {K : PySem.W.Frag} {ι : List Addr} {H : Hp} {ws : List (Str × V)} {fs : List (Str × D)} {f : Str} {d : D} {v : V}
theorem RepF.lookup (h : RepF K ι H ws fs) (e : fs.lookup f = some d) : ∃ v, ws.lookup f = some v ∧ Rep K ι H v d := by
  induction h with
  | nil => cases e
  | cons r t ih =>
    rename_i x v vs d' ds
    rw [List.lookup_cons] at e ⊢
    cases q : f == x with
    | true => rw [q] at e; cases e; exact ⟨_, rfl, r⟩
    | false => rw [q] at e; exact ih e
theorem RepF.lookup_none (h : RepF K ι H ws fs) (e : fs.lookup f = none) : ws.lookup f = none := by
  induction h with
  | nil => rfl
  | cons r t ih =>
    rename_i x v vs d' ds
    rw [List.lookup_cons] at e ⊢
    cases q : f == x with
    | true => rw [q] at e; cases e
    | false => rw [q] at e; exact ih e
theorem RepF.length (h : RepF K ι H ws fs) : ws.length = fs.length := by
  induction h with
  | nil => rfl
  | cons r t ih => simp [ih]
theorem RepF.put (h : RepF K ι H ws fs) (r : Rep K ι H v d) : RepF K ι H (putF f v ws) (putD f d fs) := by
  induction h with
  | nil => exact .cons r .nil
  | cons r0 t ih =>
    rename_i x v0 vs d0 ds
    show RepF K ι H (if x = f then (x, v) :: vs else (x, v0) :: putF f v vs) (if x = f then (x, d) :: ds else (x, d0) :: putD f d ds)
    by_cases e : x = f
    · rw [if_pos e, if_pos e]; exact .cons r t
    · rw [if_neg e, if_neg e]; exact .cons r0 ih
end
def gFld (cs : List Str) (f : Str) : D → Mem → R D := fun x s => match x with
  | .ref n => match s[n]? with
    | some (.ins c fs) => if c ∈ cs then match fs.lookup f with
        | some d => .ok d s
        | none => .no
      else .no
    | _ => .no
  | _ => .no
/-- what the text has of the classes that are read: their instances have plain fields of that name -/
def FldOk (G : Gx) (cs : List Str) (f : Str) : Prop := ∀ c ∈ cs, Cls G.K (G.cls c) ∧ NoAttr G.K (G.cls c) f
section
variable {G : Gx} {W : WX} {X : Cx} {e o value : Expr} {f : Str} {pos pos' tpos : Pos} {me mv mo : EM} {cs : List Str}
theorem em_fld (hK : X.K = G.K) (hF : FldOk G cs f) (he : PE X e (dE G W me)) (hb : attributeBase e f X.env (eval e X.env) = eval e X.env) : PE X (.Attribute e f pos) (dE G W (mUn (gFld cs f) me)) :=
  PE.imp (pe_fld he hb) fun σ H Q ⟨ι, l, s, sm, sl, f0⟩ => ⟨ι, l, s, sm, sl, f0.bind fun x s1 ι1 v H1 st1 sm1 r1 f1 => by
    cases r1 with
    | ref h1 =>
      rename_i a n
      simp only [gFld] at f1
      split at f1
      · rename_i c fs q
        by_cases hc : c ∈ cs
        · rw [if_pos hc] at f1
          cases q2 : fs.lookup f with
          | none => simp only [q2] at f1; exact f1.elim
          | some d =>
            simp only [q2] at f1
            obtain ⟨dx, ws, k1, k2⟩ := sm1.ob n a _ h1 q
            obtain ⟨w, k3, k4⟩ := k2.lookup q2
            obtain ⟨c1, c2⟩ := hF c hc
            exact ⟨a, G.cls c, dx, ws, w, rfl, k1, by rw [hK]; exact c1, by rw [hK]; exact c2, k3, f1.here sm1 k4⟩
        · rw [if_neg hc] at f1; exact f1.elim
      · exact f1.elim
    | _ => exact f1.elim⟩
end

/-! ### calls -/
/-- what a def whose meaning is c promises -/
def spOf (G : Gx) (n : Nat) (c : List D → Mem → R D) : Sp := fun vs H Q E => ∃ ι s ds, SimH G ι s H ∧ Reps G.K ι H vs ds ∧ ds.length = n ∧
  match c ds s with
  | .ok d s' => ∀ ι' v H', Stp G.K ι H ι' H' → SimH G ι' s' H' → Rep G.K ι' H' v d → Q v H'
  | .err cl s' => ∀ ι' H', Stp G.K ι H ι' H' → SimH G ι' s' H' → E (.ref (G.cls cl)) none H'
  | .no => False
theorem spOf_len {G : Gx} {n : Nat} {c : List D → Mem → R D} : ∀ vs H Q E, spOf G n c vs H Q E → vs.length = n := fun vs H Q E ⟨ι, s, ds, sm, r, hl, _⟩ => by rw [r.length, hl]
theorem spOf_fin {G : Gx} {W : WX} {n : Nat} {c : List D → Mem → R D} {ι : List Addr} {s : Mem} {H : Hp} {σ : L2.St} {vs : List V} {ds : List D} {Q : VK} (sm : SimH G ι s H) (r : Reps G.K ι H vs ds) (hl : ds.length = n) (f : Fin G W ι H σ (Rep G.K) (c ds s) Q) :
    spOf G n c vs H Q (WE W σ) := by
  refine ⟨ι, s, ds, sm, r, hl, ?_⟩
  cases q : c ds s with
  | ok d s' => rw [q] at f; exact f
  | err cl s' => rw [q] at f; exact f
  | no => rw [q] at f; exact f
def mCall (n : Nat) (c : List D → Mem → R D) (ma : AM) : EM := fun l s => (ma l s).bind fun ds s1 => if ds.length = n then c ds s1 else .no
def mMethC (cl : Str) (m : Str) (n : Nat) (c : List D → Mem → R D) (mo : EM) (ma : AM) : EM := fun l s => (mo l s).bind fun x s1 => match x with
  | .ref k => match s1[k]? with
    | some (.ins c' fs) => if c' = cl ∧ fs.lookup m = none then (ma l s1).bind fun ds s2 => if ds.length + 1 = n then c (.ref k :: ds) s2 else .no else .no
    | _ => .no
  | _ => .no
def mMake (cl : Str) (n : Nat) (c : List D → Mem → R D) (ma : AM) : EM := fun l s => (ma l s).bind fun ds s1 => if ds.length + 1 = n then (c (.ref s1.length :: ds) (s1 ++ [.ins cl []])).bind fun v s2 => match v with
  | .non => .ok (.ref s1.length) s2
  | _ => .no else .no
section
variable {X : Cx} {CX : CXT} {k : Nat} {f C : Addr} {fd : FuncData} {ps : List Str} {sp : Sp} {E : L2.St → XK} {x m : Str} {p pos apos : Pos} {e o : Expr} {es : List Expr} {ta : TE} {t : TA}
def tMethS (C : Addr) (m : Str) (sp : Sp) (E : L2.St → XK) (ta : TE) (t : TA) : TE := fun σ H Q => ta σ H fun x H1 => ∃ a dx fs, x = .ref a ∧ H1 a = some (.ins C dx fs) ∧ fs.lookup m = none ∧ t σ H1 fun vs H2 => sp (x :: vs) H2 Q (E σ)
def tMakeS (C : Addr) (sp : Sp) (E : L2.St → XK) (t : TA) : TE := fun σ H Q => t σ H fun vs H1 => ∀ x dx, H1 x = none → H1 dx = none → dx ≠ x →
  sp (.ref x :: vs) (upd (upd H1 dx (.own x)) x (.ins C dx [])) (fun v H2 => v = .non ∧ Q (.ref x) H2) (E σ)
theorem pe_callS0 (F : FnOk X.prog X.w X.K X.mg X.base CX k f fd ps sp) (hr : Room k X.A) (hg : Gl X x) (hm : X.mg x = some (.ref f)) (hk : PySem.W.keepIn X.K (.ref f) = true) (hb : Binds X.K fd ps []) (hx : ∀ σ, PassesAt CX X σ (E σ))
    (hdb : (x == ("__debug__" : Str)) = false := by decide) : PE X (.Call (.Name x p) [] [] pos) (tCallS sp E tNil) := by
  refine ⟨fun pins s σ H Q I h => ?_⟩
  refine wpAny_Call_Name_kw (ld_glob I hg hm ?_ hdb)
  exact PySem.W.callWith_K0 I.kIn hk (run_fnS (us := []) F hr hb (hx σ) I .nil h)
theorem pe_methS {pl : Sem Bool} (he : PE X o ta) (c : Cls X.K C) (hm : Meth X.K C m f) (F : FnOk X.prog X.w X.K X.mg X.base CX k f fd ps sp) (hr : Room k X.A) (hb : Binds X.K fd ps []) (hx : ∀ σ, PassesAt CX X σ (E σ)) (ha : PA X (e :: es) t)
    (hst : starEach (e :: es) X.env = (false, eval e X.env) :: starEach es X.env := by rfl) (hpl : (backTo pos (starEach es X.env)).any (·.1) = false := by rfl)
    (ht : eval (.Call (.Attribute o m apos) (e :: es) [] pos) X.env = (do
      let ov ← eval o X.env
      standAt apos.atName
      let (f, first) ← holding [ov] (getMethod ov m pl)
      callWith pos f first (backTo pos (starEach (e :: es) X.env)) (backToKw pos (keywordEach [] X.env))) := by rfl) :
    PE X (.Call (.Attribute o m apos) (e :: es) [] pos) (tMethS C m sp E ta t) := by
  refine ⟨fun pins s σ H Q I h => ?_⟩
  refine PySem.W.methodCall_KW (pl := pl) (thn (he.run pins s σ H _ I h) fun u s1 ⟨x, H1, I1, rx, a, dx, fs, ex, ea, l, q⟩ => ?_) ht
  subst ex
  obtain rfl : u = Value.ref a := rx
  refine getmeth_ok I1 ea c hm l ?_
  refine PySem.W.callWith_K (first := [.ref a]) (h₀ := X.base) I.ok.mod.kin hm.kp (thn (ha.run pos pins s1 σ H1 _ I1 q) fun us s2 ⟨vs, H2, I2, r, q2⟩ => ⟨I2.kIn, ?_⟩) hst hpl
  exact run_fnS (us := .ref a :: us) (vs := .ref a :: vs) F hr hb (hx σ) I2 (.cons rfl r) q2
theorem pe_methS0 {pl : Sem Bool} (he : PE X o ta) (c : Cls X.K C) (hm : Meth X.K C m f) (F : FnOk X.prog X.w X.K X.mg X.base CX k f fd ps sp) (hr : Room k X.A) (hb : Binds X.K fd ps []) (hx : ∀ σ, PassesAt CX X σ (E σ))
    (ht : eval (.Call (.Attribute o m apos) [] [] pos) X.env = (do
      let ov ← eval o X.env
      standAt apos.atName
      let (f, first) ← holding [ov] (getMethod ov m pl)
      callWith pos f first (backTo pos (starEach [] X.env)) (backToKw pos (keywordEach [] X.env))) := by rfl) :
    PE X (.Call (.Attribute o m apos) [] [] pos) (tMethS C m sp E ta tNil) := by
  refine ⟨fun pins s σ H Q I h => ?_⟩
  refine PySem.W.methodCall_KW (pl := pl) (thn (he.run pins s σ H _ I h) fun u s1 ⟨x, H1, I1, rx, a, dx, fs, ex, ea, l, q⟩ => ?_) ht
  subst ex
  obtain rfl : u = Value.ref a := rx
  refine getmeth_ok I1 ea c hm l ?_
  exact PySem.W.callWith_K0 (first := [.ref a]) I1.kIn hm.kp (run_fnS (us := [.ref a]) (vs := [.ref a]) F hr hb (hx σ) I1 (.cons rfl .nil) q)
theorem run_makeS {pins : List (Addr × Obj)} {σ : L2.St} {H : Hp} {s : Shared} {Q : VK} {us : List Value} {vs : List V} (M : Mk X.K C f) (F : FnOk X.prog X.w X.K X.mg X.base CX k f fd ps sp) (hr : Room (k + 1) X.A) (hb : Binds X.K fd ps [])
    (hx : PassesAt CX X σ (E σ)) (I : Inv X pins σ H s) (r : Vals vs us)
    (h : ∀ x dx, H x = none → H dx = none → dx ≠ x → sp (.ref x :: vs) (upd (upd H dx (.own x)) x (.ins C dx [])) (fun v H2 => v = .non ∧ Q (.ref x) H2) (E σ)) :
    wpAny (model X.prog X.w) X.A (call (.ref C) us) (EP X pins σ Q) X.xe s := by
  have hq := h (s.heap.objs.size + 1) s.heap.objs.size (I.hok.fresh (Nat.le_succ _)) (I.hok.fresh (Nat.le_refl _)) (Nat.ne_of_lt (Nat.lt_succ_self _))
  have I2 := Inv.made (C := C) I
  have r2 : Vals (V.ref (s.heap.objs.size + 1) :: vs) (Value.ref (s.heap.objs.size + 1) :: us) := .cons rfl r
  have hl : (Value.ref (s.heap.objs.size + 1) :: us).length = ps.length := by
    have e := r2.length
    rw [F.len _ _ _ _ hq] at e
    exact e.symm
  have b := hb _ (Value.ref (s.heap.objs.size + 1) :: us) I2.kIn (by rw [List.append_nil]; exact hl)
  rw [List.append_nil] at b
  refine wpAny_call (make_map (f := f) I.kIn M.makes M.init (beq_iff_eq.mp M.fn) (codeAny_mono (F.run _ X.stack _ _ ⟨Value.ref (s.heap.objs.size + 1) :: us, []⟩ (Value.ref (s.heap.objs.size + 1) :: us) _ _ (E σ) (hr.make C us [])
    (I2.env0.make C us []) b r2 hq) fun r s' hq' => ?_))
  cases r with
  | error e => exact hx pins _ _ e s' I2 hq'
  | ok fl =>
    cases fl with
    | ret u =>
      obtain ⟨v, H', I3, rv, ev, q3⟩ := I2.after hq'
      subst ev
      exact ⟨rv, ⟨V.ref (s.heap.objs.size + 1), H', I3, rfl, q3⟩⟩
    | next => exact False.elim hq'
    | brk => exact False.elim hq'
    | cont => exact False.elim hq'
theorem pe_makeS (M : Mk X.K C f) (F : FnOk X.prog X.w X.K X.mg X.base CX k f fd ps sp) (hr : Room (k + 1) X.A) (hg : Gl X x) (hm : X.mg x = some (.ref C)) (hb : Binds X.K fd ps []) (hx : ∀ σ, PassesAt CX X σ (E σ))
    (ha : PA X (e :: es) t) (hdb : (x == ("__debug__" : Str)) = false := by decide) (he : starEach (e :: es) X.env = (false, eval e X.env) :: starEach es X.env := by rfl) (hpl : (backTo pos (starEach es X.env)).any (·.1) = false := by rfl) :
    PE X (.Call (.Name x p) (e :: es) [] pos) (tMakeS C sp E t) := by
  refine ⟨fun pins s σ H Q I h => ?_⟩
  refine wpAny_Call_Name_kw (ld_glob I hg hm ?_ hdb)
  refine PySem.W.callWith_K (h₀ := X.base) I.ok.mod.kin M.kp (thn (ha.run pos pins s σ H _ I h) fun us s1 ⟨vs, H1, I1, r, q⟩ => ⟨I1.kIn, ?_⟩) he hpl
  exact run_makeS M F hr hb (hx σ) I1 r q
end
section
variable {G : Gx} {W : WX} {X : Cx} {k : Nat} {f C : Addr} {fd : FuncData} {ps : List Str} {n : Nat} {c : List D → Mem → R D} {x m cl : Str} {p pos apos : Pos} {e o : Expr} {es : List Expr} {mo : EM} {mA : AM}
theorem em_call (F : FnOk X.prog X.w X.K X.mg X.base (L2.CX X.prog X.w) k f fd ps (spOf G n c)) (hr : Room k X.A) (tk : Takes X W) (hg : Gl X x) (hm : X.mg x = some (.ref f)) (hk : PySem.W.keepIn X.K (.ref f) = true) (hb : Binds X.K fd ps [])
    (ha : PA X (e :: es) (dA G W mA)) (hdb : (x == ("__debug__" : Str)) = false := by decide) (he : starEach (e :: es) X.env = (false, eval e X.env) :: starEach es X.env := by rfl) (hpl : (backTo pos (starEach es X.env)).any (·.1) = false := by rfl) :
    PE X (.Call (.Name x p) (e :: es) [] pos) (dE G W (mCall n c mA)) :=
  PE.imp (pe_callS (E := WE W) F hr hg hm hk hb (fun σ => passAt tk σ) ha hdb he hpl) fun σ H Q ⟨ι, l, s, sm, sl, f⟩ => ⟨ι, l, s, sm, sl, f.bind fun xs s1 ι1 vs H1 st1 sm1 r1 f1 => by
    by_cases hl : xs.length = n
    · rw [if_pos hl] at f1; exact spOf_fin sm1 r1 hl f1
    · rw [if_neg hl] at f1; exact f1.elim⟩
theorem em_call0 (F : FnOk X.prog X.w X.K X.mg X.base (L2.CX X.prog X.w) k f fd ps (spOf G n c)) (hr : Room k X.A) (tk : Takes X W) (hg : Gl X x) (hm : X.mg x = some (.ref f)) (hk : PySem.W.keepIn X.K (.ref f) = true) (hb : Binds X.K fd ps [])
    (hn : n = 0) (hdb : (x == ("__debug__" : Str)) = false := by decide) : PE X (.Call (.Name x p) [] [] pos) (dE G W (mCall n c mNil)) :=
  PE.imp (pe_callS0 (E := WE W) F hr hg hm hk hb (fun σ => passAt tk σ) hdb) fun σ H Q ⟨ι, l, s, sm, sl, f⟩ => by
    have f' : Fin G W ι H σ (Rep G.K) (if ([] : List D).length = n then c [] s else .no) Q := f
    rw [if_pos (by rw [hn]; rfl)] at f'
    exact spOf_fin sm .nil (by rw [hn]; rfl) f'
theorem em_meth {pl : Sem Bool} (hK : X.K = G.K) (ho : PE X o (dE G W mo)) (cC : Cls G.K (G.cls cl)) (hm : Meth G.K (G.cls cl) m f) (F : FnOk X.prog X.w X.K X.mg X.base (L2.CX X.prog X.w) k f fd ps (spOf G n c)) (hr : Room k X.A) (tk : Takes X W) (hb : Binds X.K fd ps [])
    (ha : PA X (e :: es) (dA G W mA)) (hst : starEach (e :: es) X.env = (false, eval e X.env) :: starEach es X.env := by rfl) (hpl : (backTo pos (starEach es X.env)).any (·.1) = false := by rfl)
    (ht : eval (.Call (.Attribute o m apos) (e :: es) [] pos) X.env = (do
      let ov ← eval o X.env
      standAt apos.atName
      let (f, first) ← holding [ov] (getMethod ov m pl)
      callWith pos f first (backTo pos (starEach (e :: es) X.env)) (backToKw pos (keywordEach [] X.env))) := by rfl) :
    PE X (.Call (.Attribute o m apos) (e :: es) [] pos) (dE G W (mMethC cl m n c mo mA)) :=
  PE.imp (pe_methS (E := WE W) (C := G.cls cl) ho (by rw [hK]; exact cC) (by rw [hK]; exact hm) F hr hb (fun σ => passAt tk σ) ha hst hpl ht) fun σ H Q ⟨ι, l, s, sm, sl, f⟩ => ⟨ι, l, s, sm, sl, f.bind fun x s1 ι1 v H1 st1 sm1 r1 f1 => by
    cases r1 with
    | ref h1 =>
      rename_i a j
      dsimp only at f1
      split at f1
      · rename_i c' fs q
        by_cases hc : c' = cl ∧ fs.lookup m = none
        · rw [if_pos hc] at f1
          obtain ⟨rfl, hc2⟩ := hc
          obtain ⟨dx, ws, k1, k2⟩ := sm1.ob j a _ h1 q
          refine ⟨a, dx, ws, rfl, k1, k2.lookup_none hc2, ι1, l, s1, sm1, sl.mono st1, f1.bind fun xs s2 ι2 vs H2 st2 sm2 r2 f2 => ?_⟩
          by_cases hl : xs.length + 1 = n
          · rw [if_pos hl] at f2; exact spOf_fin sm2 (.cons (.ref (st2.pre _ _ h1)) r2) hl f2
          · rw [if_neg hl] at f2; exact f2.elim
        · rw [if_neg hc] at f1; exact f1.elim
      · exact f1.elim
    | _ => exact f1.elim⟩
theorem em_meth0 {pl : Sem Bool} (hK : X.K = G.K) (ho : PE X o (dE G W mo)) (cC : Cls G.K (G.cls cl)) (hm : Meth G.K (G.cls cl) m f) (F : FnOk X.prog X.w X.K X.mg X.base (L2.CX X.prog X.w) k f fd ps (spOf G n c)) (hr : Room k X.A) (tk : Takes X W) (hb : Binds X.K fd ps []) (hn : n = 1)
    (ht : eval (.Call (.Attribute o m apos) [] [] pos) X.env = (do
      let ov ← eval o X.env
      standAt apos.atName
      let (f, first) ← holding [ov] (getMethod ov m pl)
      callWith pos f first (backTo pos (starEach [] X.env)) (backToKw pos (keywordEach [] X.env))) := by rfl) :
    PE X (.Call (.Attribute o m apos) [] [] pos) (dE G W (mMethC cl m n c mo mNil)) :=
  PE.imp (pe_methS0 (E := WE W) (C := G.cls cl) ho (by rw [hK]; exact cC) (by rw [hK]; exact hm) F hr hb (fun σ => passAt tk σ) ht) fun σ H Q ⟨ι, l, s, sm, sl, f⟩ => ⟨ι, l, s, sm, sl, f.bind fun x s1 ι1 v H1 st1 sm1 r1 f1 => by
    cases r1 with
    | ref h1 =>
      rename_i a j
      dsimp only at f1
      split at f1
      · rename_i c' fs q
        by_cases hc : c' = cl ∧ fs.lookup m = none
        · rw [if_pos hc] at f1
          obtain ⟨rfl, hc2⟩ := hc
          obtain ⟨dx, ws, k1, k2⟩ := sm1.ob j a _ h1 q
          have f2 : Fin G W ι1 H1 σ (Rep G.K) (if ([] : List D).length + 1 = n then c [.ref j] s1 else .no) Q := f1
          rw [if_pos (by rw [hn]; rfl)] at f2
          exact ⟨a, dx, ws, rfl, k1, k2.lookup_none hc2, spOf_fin sm1 (.cons (.ref h1) .nil) (by rw [hn]; rfl) f2⟩
        · rw [if_neg hc] at f1; exact f1.elim
      · exact f1.elim
    | _ => exact f1.elim⟩
theorem em_make (hK : X.K = G.K) (M : Mk G.K (G.cls cl) f) (F : FnOk X.prog X.w X.K X.mg X.base (L2.CX X.prog X.w) k f fd ps (spOf G n c)) (hr : Room (k + 1) X.A) (tk : Takes X W) (hg : Gl X x) (hm : X.mg x = some (.ref (G.cls cl))) (hb : Binds X.K fd ps [])
    (ha : PA X (e :: es) (dA G W mA)) (hdb : (x == ("__debug__" : Str)) = false := by decide) (he : starEach (e :: es) X.env = (false, eval e X.env) :: starEach es X.env := by rfl) (hpl : (backTo pos (starEach es X.env)).any (·.1) = false := by rfl) :
    PE X (.Call (.Name x p) (e :: es) [] pos) (dE G W (mMake cl n c mA)) :=
  PE.imp (pe_makeS (E := WE W) (C := G.cls cl) (by rw [hK]; exact M) F hr hg hm hb (fun σ => passAt tk σ) ha hdb he hpl) fun σ H Q ⟨ι, l, s, sm, sl, f⟩ => ⟨ι, l, s, sm, sl, f.bind fun xs s1 ι1 vs H1 st1 sm1 r1 f1 => fun y dx hy hdx hne => by
    by_cases hl : xs.length + 1 = n
    · rw [if_pos hl] at f1
      have smd : SimH G ι1 s1 (upd H1 dx (.own y)) := sm1.laid hdx
      have hy2 : upd H1 dx (.own y) y = none := by rw [upd_ne (Ne.symm hne)]; exact hy
      have std : Stp G.K ι1 H1 ι1 (upd H1 dx (.own y)) := Stp.new hdx fun _ _ z => z
      have sty : Stp G.K ι1 (upd H1 dx (.own y)) (ι1 ++ [y]) (upd (upd H1 dx (.own y)) y (.ins (G.cls cl) dx [])) := Stp.new hy2 (pre_snoc y)
      have smy : SimH G (ι1 ++ [y]) (s1 ++ [.ins cl []]) (upd (upd H1 dx (.own y)) y (.ins (G.cls cl) dx [])) := smd.push hy2 rfl ⟨dx, [], upd_same, .nil⟩
      have st := std.trans sty
      have ry : Rep G.K (ι1 ++ [y]) (upd (upd H1 dx (.own y)) y (.ins (G.cls cl) dx [])) (.ref y) (.ref s1.length) := .ref (by rw [← sm1.len]; simp)
      have f2 := Fin.step f1 st
      refine spOf_fin smy (.cons ry (r1.mono st)) hl (f2.bind fun v s2 ι2 u H2 st2 sm2 r2 f3 => ?_)
      cases r2 with
      | non => exact ⟨rfl, f3.here sm2 (ry.mono st2)⟩
      | _ => exact f3.elim
    · rw [if_neg hl] at f1; exact f1.elim⟩
end
end Core

set_option Elab.async false
set_option linter.all false
set_option maxRecDepth 100000
set_option maxHeartbeats 4000000
/-! Core: statements, loops, comprehensions -/
namespace Core
open PySem PySem.Spec PyProof.Rows L2

def FinS (G : Gx) (W : WX) (ι : List Addr) (H : Hp) (r : RS) (D : Ends) : Prop := match r with
  | .nx l s => ∀ ι' σ' H', Stp G.K ι H ι' H' → SimH G ι' s H' → Slots G.K ι' H' l σ' → D.nx σ' H'
  | .rt d s => ∀ ι' v H', Stp G.K ι H ι' H' → SimH G ι' s H' → Rep G.K ι' H' v d → D.rt v H'
  | .bk l s => ∀ ι' σ' H', Stp G.K ι H ι' H' → SimH G ι' s H' → Slots G.K ι' H' l σ' → D.bk σ' H'
  | .ct l s => ∀ ι' σ' H', Stp G.K ι H ι' H' → SimH G ι' s H' → Slots G.K ι' H' l σ' → D.ct σ' H'
  | .err c l s => ∀ ι' σ' H', Stp G.K ι H ι' H' → SimH G ι' s H' → Slots G.K ι' H' l σ' → W (.ref (G.cls c)) none σ' H'
  | .no => False
def dS (G : Gx) (W : WX) (m : SM) : TS := fun D σ H => ∃ ι l s, SimH G ι s H ∧ Slots G.K ι H l σ ∧ FinS G W ι H (m l s) D
section
variable {α β : Type} {G : Gx} {W : WX} {ι ι1 : List Addr} {H H1 : Hp} {σ : L2.St} {rel : List Addr → Hp → β → α → Prop} {r : R α} {q : RS} {D : Ends} {l : Loc}
theorem FinS.step (h : FinS G W ι H q D) (st : Stp G.K ι H ι1 H1) : FinS G W ι1 H1 q D := by
  cases q with
  | nx l s => exact fun ι' σ' H' st' => h ι' σ' H' (st.trans st')
  | rt d s => exact fun ι' σ' H' st' => h ι' σ' H' (st.trans st')
  | bk l s => exact fun ι' σ' H' st' => h ι' σ' H' (st.trans st')
  | ct l s => exact fun ι' σ' H' st' => h ι' σ' H' (st.trans st')
  | err c l s => exact fun ι' σ' H' st' => h ι' σ' H' (st.trans st')
  | no => exact h
theorem FinS.toS {f : α → Mem → RS} (h : FinS G W ι H (r.toS l f) D) (sl : Slots G.K ι H l σ) {Q : β → Hp → Prop}
    (k : ∀ a s1 ι1 b H1, Stp G.K ι H ι1 H1 → SimH G ι1 s1 H1 → rel ι1 H1 b a → FinS G W ι1 H1 (f a s1) D → Q b H1) : Fin G W ι H σ rel r Q := by
  cases r with
  | ok a s' => exact fun ι' b H' st sm rl => k a s' ι' b H' st sm rl (FinS.step (q := f a s') h st)
  | err c s' => exact fun ι' H' st sm => h ι' σ H' st sm (sl.mono st)
  | no => exact h
end

/-! ### targets -/
abbrev TGm := D → Loc → Option Loc
def dG (G : Gx) (vs : List Nat) (gt : TGm) : TG := fun v σ H Q => ∃ ι l s d, SimH G ι s H ∧ Slots G.K ι H l σ ∧ Rep G.K ι H v d ∧ match gt d l with
  | some l' => ∀ σ', Slots G.K ι H l' σ' → wipe σ' vs = wipe σ vs → Q σ' H
  | none => False
abbrev TGms := List D → Loc → Option Loc
def dGs (G : Gx) (vs : List Nat) (gt : TGms) : TGs := fun us σ H Q => ∃ ι l s ds, SimH G ι s H ∧ Slots G.K ι H l σ ∧ Reps G.K ι H us ds ∧ match gt ds l with
  | some l' => ∀ σ', Slots G.K ι H l' σ' → wipe σ' vs = wipe σ vs → Q σ' H
  | none => False
def gmName (i : Nat) : TGm := fun d l => some (l.set i (some d))
def gmNil : TGms := fun ds l => match ds with
  | [] => some l
  | _ => none
def gmCons (g : TGm) (gs : TGms) : TGms := fun ds l => match ds with
  | d :: r => match g d l with
    | some l' => gs r l'
    | none => none
  | [] => none
def gmTup (n : Nat) (gs : TGms) : TGm := fun d l => match d with
  | .tup ds => if ds.length = n then gs ds l else none
  | _ => none
theorem wipe_set {σ : L2.St} {i : Nat} {x : Option V} : ∀ {vs : List Nat}, i ∈ vs → wipe (σ.set i x) vs = wipe σ vs
  | [], h => by cases h
  | v :: vs, h => by
    unfold wipe
    by_cases e : i = v
    · subst e
      by_cases hm : i ∈ vs
      · rw [wipe_set hm]
      · have c : ∀ vs : List Nat, i ∉ vs → wipe (σ.set i x) vs = (wipe σ vs).set i x := by
          intro vs
          induction vs with
          | nil => intro _; rfl
          | cons w ws ih =>
            intro hn
            unfold wipe
            rw [ih (fun z => hn (List.mem_cons_of_mem _ z)), List.set_comm _ _ (fun e => hn (by rw [e]; exact List.mem_cons_self))]
        rw [c vs hm, List.set_set]
    · have hm : i ∈ vs := by
        rcases List.mem_cons.mp h with z | z
        · exact absurd z e
        · exact z
      rw [wipe_set hm]
theorem wipe_wipe (σ : L2.St) : ∀ vs : List Nat, wipe (wipe σ vs) vs = wipe σ vs
  | vs => by
    have c : ∀ ws : List Nat, (∀ i ∈ ws, i ∈ vs) → wipe (wipe σ ws) vs = wipe σ vs := by
      intro ws
      induction ws with
      | nil => intro _; rfl
      | cons w ws ih =>
        intro hs
        show wipe ((wipe σ ws).set w none) vs = wipe σ vs
        rw [wipe_set (hs w List.mem_cons_self), ih fun i hi => hs i (List.mem_cons_of_mem _ hi)]
    exact c vs fun _ z => z
theorem PG.imp {X : Cx} {e : Expr} {t t' : TG} (h : PG X e t) (f : ∀ v σ H Q, t' v σ H Q → t v σ H Q) : PG X e t' := ⟨fun pins s σ H v u Q I r hw => h.run pins s σ H v u Q I r (f _ _ _ _ hw)⟩
theorem PGs.imp {X : Cx} {e : List Expr} {t t' : TGs} (h : PGs X e t) (f : ∀ v σ H Q, t' v σ H Q → t v σ H Q) : PGs X e t' := ⟨fun pins s σ H v u Q I r hw => h.run pins s σ H v u Q I r (f _ _ _ _ hw)⟩
section
variable {G : Gx} {X : Cx} {vs : List Nat} {pos : Pos} {e : Expr} {es : List Expr} {g : TGm} {gs : TGms}
theorem gm_name {i : Nat} {x : Str} (hv : i ∈ vs) (hN : X.N.Nodup) (hi : X.N[i]? = some x) (hx : L2.Loc X.env.scope x) (hf : X.fn x = true ∨ X.env.scope.names.lookup x = some .local := by first | exact .inl rfl | exact .inr rfl | assumption) : PG X (.Name x pos) (dG G vs (gmName i)) :=
  PG.imp (pg_name hN hi hx hf) fun v σ H Q ⟨ι, l, s, d, sm, sl, r, k⟩ => k _ (sl.set i r) (wipe_set hv)
theorem gms_nil : PGs X [] (dGs G vs gmNil) := PGs.imp pgs_nil fun us σ H Q ⟨ι, l, s, ds, sm, sl, r, k⟩ => by
  cases r with
  | nil => exact ⟨rfl, k σ sl rfl⟩
  | cons _ _ => exact k.elim
theorem gms_cons (h1 : PG X e (dG G vs g)) (h2 : PGs X es (dGs G vs gs)) (hs : (assignEach (e :: es) X.env).map (·.2) = assign e X.env :: (assignEach es X.env).map (·.2) := by rfl) : PGs X (e :: es) (dGs G vs (gmCons g gs)) :=
  PGs.imp (pgs_cons h1 h2 hs) fun us σ H Q ⟨ι, l, s, ds, sm, sl, r, k⟩ => by
    cases r with
    | nil => exact k.elim
    | @cons v us d ds r t =>
      refine ⟨v, us, rfl, ι, l, s, d, sm, sl, r, ?_⟩
      simp only [gmCons] at k
      cases q : g d l with
      | none => simp only [q] at k
      | some l' =>
        simp only [q] at k
        intro σ' sl' hw
        refine ⟨ι, l', s, ds, sm, sl', t, ?_⟩
        cases q2 : gs ds l' with
        | none => rw [q2] at k; exact k.elim
        | some l2 => rw [q2] at k; exact fun σ2 sl2 hw2 => k σ2 sl2 (hw2.trans hw)
theorem gm_tup {k n : Nat} (hK : X.K = G.K) (hc : X.calm = true) (h : PGs X es (dGs G vs gs)) (hn : (assignEach es X.env).length = n := by rfl) (hst : (assignEach es X.env).findIdx? (·.1) = none := by rfl) : PG X (.Tuple es k pos) (dG G vs (gmTup n gs)) :=
  PG.imp (pg_tup hc h hn hst) fun v σ H Q ⟨ι, l, s, d, sm, sl, r, kk⟩ => by
    cases r with
    | @tup a us ds h1 h2 =>
      simp only [gmTup] at kk
      by_cases hl : ds.length = n
      · rw [if_pos hl] at kk; exact ⟨a, us, rfl, by rw [hK]; exact (SqT.of h1), by rw [h2.length, hl], ι, l, s, ds, sm, sl, h2, kk⟩
      · rw [if_neg hl] at kk; exact kk.elim
    | _ => exact kk.elim
end

/-! ### small statements -/
def mNx : SM := fun l s => .nx l s
def mSeq (a b : SM) : SM := fun l s => match a l s with
  | .nx l1 s1 => b l1 s1
  | x => x
def mExpr (me : EM) : SM := fun l s => (me l s).toS l fun _ s1 => .nx l s1
def mRet (me : EM) : SM := fun l s => (me l s).toS l fun d s1 => .rt d s1
def mRetN : SM := fun _ s => .rt .non s
def mIfS (t : TM) (a b : SM) : SM := fun l s => (t l s).toS l fun c s1 => if c = true then a l s1 else b l s1
def mAsg (me : EM) (g : TGm) : SM := fun l s => (me l s).toS l fun d s1 => match g d l with
  | some l' => .nx l' s1
  | none => .no
def mSet (i : Nat) (me : EM) : SM := fun l s => (me l s).toS l fun d s1 => .nx (l.set i (some d)) s1
def mAug (i : Nat) (g : D → D → Mem → R D) (me : EM) : SM := fun l s => match l[i]? with
  | some (some x) => (me l s).toS l fun y s1 => (g x y s1).toS l fun z s2 => .nx (l.set i (some z)) s2
  | _ => .no
/-- o.f = e: the value first -/
def mSetF (cs : List Str) (f : Str) (mo mv : EM) : SM := fun l s => (mv l s).toS l fun d s1 => (mo l s1).toS l fun x s2 => match x with
  | .ref n => match s2[n]? with
    | some (.ins c fs) => if c ∈ cs ∧ fs.length < 900 then .nx l (s2.set n (.ins c (putD f d fs))) else .no
    | _ => .no
  | _ => .no
def clsAt (s : Mem) (n : Nat) : Option Str := match s[n]? with
  | some (.ins c _) => some c
  | _ => none
/-- o.f op= e -/
def mAugF (cs : List Str) (f : Str) (g : D → D → Mem → R D) (mo mv : EM) : SM := fun l s => (mo l s).toS l fun x s1 => match x with
  | .ref n => (gFld cs f (.ref n) s1).toS l fun d s1' => (mv l s1').toS l fun y s2 => (g d y s2).toS l fun z s3 => match s3[n]? with
    | some (.ins c fs) => if c ∈ cs ∧ fs.length < 900 ∧ clsAt s1 n = some c then .nx l (s3.set n (.ins c (putD f z fs))) else .no
    | _ => .no
  | _ => .no
/-- xs[i] = e: value, object, index -/
def mSub (mv mo mi : EM) : SM := fun l s => (mv l s).toS l fun d s1 => (mo l s1).toS l fun x s2 => (mi l s2).toS l fun y s3 => match x, y with
  | .ref n, .int i => match s3[n]? with
    | some (.lst xs) => match ixN xs.length i with
      | some j => .nx l (s3.set n (.lst (xs.set j d)))
      | none => .no
    | _ => .no
  | _, _ => .no
section
variable {G : Gx} {W : WX} {X : Cx} {st : Stmt} {rest a b : List Stmt} {e o i value c : Expr} {pos pos' tpos : Pos} {me mo mv mi : EM} {m1 m2 : SM} {tm : TM} {f : Str} {cs : List Str}
theorem smm_nil : PSs X [] (dS G W mNx) := PSs.imp pss_nil fun D σ H ⟨ι, l, s, sm, sl, f⟩ => f ι σ H .refl sm sl
theorem smm_cons (h1 : PS X st (dS G W m1)) (h2 : PSs X rest (dS G W m2)) : PSs X (st :: rest) (dS G W (mSeq m1 m2)) :=
  PSs.imp (pss_cons h1 h2) fun D σ H ⟨ι, l, s, sm, sl, f⟩ => ⟨ι, l, s, sm, sl, by
    unfold mSeq at f
    cases q : m1 l s with
    | nx l1 s1 => simp only [q] at f; exact fun ι' σ' H' st' sm' sl' => ⟨ι', l1, s1, sm', sl', f.step st'⟩
    | rt d s1 => simp only [q] at f; exact f
    | bk l1 s1 => simp only [q] at f; exact f
    | ct l1 s1 => simp only [q] at f; exact f
    | err c l1 s1 => simp only [q] at f; exact f
    | no => simp only [q] at f; exact f⟩
theorem smm_one (h1 : PS X st (dS G W m1)) : PSs X [st] (dS G W m1) := pss_one h1
theorem sm_pass : PS X (.Pass pos) (dS G W mNx) := PS.imp ps_pass fun D σ H ⟨ι, l, s, sm, sl, f⟩ => f ι σ H .refl sm sl
theorem sm_expr (he : PE X e (dE G W me)) (hs : swapsWith e none pos.line X.env = pure false := by rfl) : PS X (.Expr e pos) (dS G W (mExpr me)) :=
  PS.imp (ps_expr he hs) fun D σ H ⟨ι, l, s, sm, sl, f⟩ => ⟨ι, l, s, sm, sl, f.toS sl fun d s1 ι1 v H1 st1 sm1 r1 f1 => f1 ι1 σ H1 .refl sm1 (sl.mono st1)⟩
theorem sm_ret (he : PE X e (dE G W me)) : PS X (.Return (some e) pos) (dS G W (mRet me)) :=
  PS.imp (ps_ret he) fun D σ H ⟨ι, l, s, sm, sl, f⟩ => ⟨ι, l, s, sm, sl, f.toS sl fun d s1 ι1 v H1 st1 sm1 r1 f1 => f1 ι1 v H1 .refl sm1 r1⟩
theorem sm_retN : PS X (.Return none pos) (dS G W mRetN) := PS.imp ps_retN fun D σ H ⟨ι, l, s, sm, sl, f⟩ => f ι _ H .refl sm .non
theorem sm_if (hc : PT X c (dT G W tm)) (ha : PSs X a (dS G W m1)) (hb : PSs X b (dS G W m2)) : PS X (.If c a b pos) (dS G W (mIfS tm m1 m2)) :=
  PS.imp (ps_if hc ha hb) fun D σ H ⟨ι, l, s, sm, sl, f⟩ => ⟨ι, l, s, sm, sl, f.toS sl fun d s1 ι1 v H1 st1 sm1 r1 f1 => by
    cases r1
    cases d with
    | true => rw [if_pos rfl] at f1 ⊢; exact ⟨ι1, l, s1, sm1, sl.mono st1, f1⟩
    | false => rw [if_neg Bool.false_ne_true] at f1 ⊢; exact ⟨ι1, l, s1, sm1, sl.mono st1, f1⟩⟩
theorem sm_asg {tg : Expr} {vs : List Nat} {g : TGm} (he : PE X e (dE G W me)) (hg : PG X tg (dG G vs g)) (hs : swapsWithSole [tg] e pos.line X.env = pure false := by rfl) (hw : swappedStores [tg] e X.env = pure none := by rfl)
    (h1 : (assignEach [tg] X.env).map (·.2) = [assign tg X.env] := by rfl) : PS X (.Assign [tg] e pos) (dS G W (mAsg me g)) :=
  PS.imp (ps_asg he hg hs hw h1) fun D σ H ⟨ι, l, s, sm, sl, f⟩ => ⟨ι, l, s, sm, sl, f.toS sl fun d s1 ι1 v H1 st1 sm1 r1 f1 => by
    refine ⟨ι1, l, s1, d, sm1, sl.mono st1, r1, ?_⟩
    cases q : g d l with
    | none => rw [q] at f1; exact f1.elim
    | some l' => rw [q] at f1; exact fun σ' sl' _ => f1 ι1 σ' H1 .refl sm1 sl'⟩
theorem sm_set {j : Nat} {x : Str} (hN : X.N.Nodup) (hi : X.N[j]? = some x) (hx : L2.Loc X.env.scope x) (he : PE X e (dE G W me)) (hs : swapsWith e (some (.Name x pos')) pos.line X.env = pure false := by rfl) (hf : X.fn x = true ∨ X.env.scope.names.lookup x = some .local := by first | exact .inl rfl | exact .inr rfl | assumption) :
    PS X (.Assign [.Name x pos'] e pos) (dS G W (mSet j me)) :=
  PS.imp (ps_set hN hi hx he hs hf) fun D σ H ⟨ι, l, s, sm, sl, f⟩ => ⟨ι, l, s, sm, sl, f.toS sl fun d s1 ι1 v H1 st1 sm1 r1 f1 => f1 ι1 _ H1 .refl sm1 ((sl.mono st1).set j r1)⟩
/-- x op= e -/
def IpS (G : Gx) (r : TIp) (g : D → D → Mem → R D) : Prop := OpS2 G r g
theorem sm_aug {j : Nat} {x : Str} {op : Operator} {r : TIp} {g : D → D → Mem → R D} (hN : X.N.Nodup) (hi : X.N[j]? = some x) (hx : L2.Loc X.env.scope x) (he : PE X e (dE G W me)) (ho : PIp X op r) (hg : OpS2 G r g) (hf : X.fn x = true ∨ X.env.scope.names.lookup x = some .local := by first | exact .inl rfl | exact .inr rfl | assumption) :
    PS X (.AugAssign (.Name x pos') op e pos) (dS G W (mAug j g me)) :=
  PS.imp (ps_aug hN hi hx he ho hf) fun D σ H ⟨ι, l, s, sm, sl, f⟩ => by
    unfold mAug at f
    cases q : l[j]? with
    | none => simp only [q] at f; exact f.elim
    | some od =>
      cases od with
      | none => simp only [q] at f; exact f.elim
      | some d =>
        simp only [q] at f
        obtain ⟨v, h1, h2⟩ := sl.2 j d q
        refine ⟨v, h1, ι, l, s, sm, sl, f.toS sl fun y s1 ι1 w H1 st1 sm1 r1 f1 => ?_⟩
        exact hg W σ ι1 s1 H1 v w d y _ sm1 (h2.mono st1) r1 (f1.toS (sl.mono st1) fun z s2 ι2 u H2 st2 sm2 r2 f2 => f2 ι2 _ H2 .refl sm2 (((sl.mono st1).mono st2).set j r2))
theorem sm_fld (hK : X.K = G.K) (hF : FldOk G cs f) (ho : PE X o (dE G W mo)) (hv : PE X value (dE G W mv)) (hs : swapsWith value (some (.Attribute o f pos')) pos.line X.env = pure false) : PS X (.Assign [.Attribute o f pos'] value pos) (dS G W (mSetF cs f mo mv)) :=
  PS.imp (ps_fld ho hv hs) fun D σ H ⟨ι, l, s, sm, sl, f0⟩ => ⟨ι, l, s, sm, sl, f0.toS sl fun d s1 ι1 v H1 st1 sm1 r1 f1 => ⟨ι1, l, s1, sm1, sl.mono st1, f1.toS (sl.mono st1) fun x s2 ι2 w H2 st2 sm2 r2 f2 => by
    cases r2 with
    | ref h1 =>
      rename_i a n
      dsimp only at f2
      split at f2
      · rename_i c fs q
        by_cases hc : c ∈ cs ∧ fs.length < 900
        · rw [if_pos hc] at f2
          obtain ⟨dx, ws, k1, k2⟩ := sm2.ob n a _ h1 q
          obtain ⟨c1, c2⟩ := hF c hc.1
          refine ⟨a, G.cls c, dx, ws, rfl, k1, by rw [hK]; exact c1, by rw [hK]; exact c2, by rw [k2.length]; omega, ?_⟩
          have nt : NoTup (upd H2 a (.ins (G.cls c) dx (putF f v ws))) a := NoTup.of upd_same (fun _ e => by cases e) (fun _ _ e => by cases e)
          obtain ⟨w1, w2⟩ := sm2.write (o' := .ins c (putD f d fs)) (u := .ins (G.cls c) dx (putF f v ws)) h1 q rfl rfl (fun _ => ⟨dx, _, upd_same, (k2.put (r1.mono st2)).mono (Stp.mut (NoTup.of k1 (fun _ e => by cases e) (fun _ _ e => by cases e)))⟩) nt
          exact f2 ι2 σ _ w2 w1 (((sl.mono st1).mono st2).mono w2)
        · rw [if_neg hc] at f2; exact f2.elim
      · exact f2.elim
    | _ => exact f2.elim⟩⟩
theorem sm_sub (hs : swapsWithSole [.Subscript o i tpos] value pos.line X.env = pure false := by rfl) (hw : swappedStores [.Subscript o i tpos] value X.env = pure none := by rfl)
    (h1 : (assignEach [.Subscript o i tpos] X.env).map (·.2) = [assign (.Subscript o i tpos) X.env] := by rfl)
    (ha : ∀ v, assign (.Subscript o i tpos) X.env v = (do
      let ov ← holding [v] (eval o X.env)
      let iv ← holding [v, ov] (eval i X.env)
      standAt tpos
      holding [v, ov, iv] (setItem ov iv v)
      release [v, ov, iv] []) := by intro _; rfl)
    (hv : PE X value (dE G W mv)) (ho : PE X o (dE G W mo)) (hi : PE X i (dE G W mi)) : PS X (.Assign [.Subscript o i tpos] value pos) (dS G W (mSub mv mo mi)) :=
  PS.imp (ps_asg hv (pg_sub ho hi set_list ha) hs hw h1) fun D σ H ⟨ι, l, s, sm, sl, f0⟩ => ⟨ι, l, s, sm, sl, f0.toS sl fun d s1 ι1 v H1 st1 sm1 r1 f1 => ⟨ι1, l, s1, sm1, sl.mono st1, f1.toS (sl.mono st1) fun x s2 ι2 w H2 st2 sm2 r2 f2 =>
    ⟨ι2, l, s2, sm2, (sl.mono st1).mono st2, f2.toS ((sl.mono st1).mono st2) fun y s3 ι3 u H3 st3 sm3 r3 f3 => by
    cases r2 with
    | ref h1 =>
      cases r3 with
      | int k =>
        rename_i a n
        dsimp only at f3
        split at f3
        · rename_i xs q
          have h1' := st3.pre _ _ h1
          obtain ⟨vs, k1, k2⟩ := sm3.lst q h1'
          cases q2 : ixN xs.length k with
          | none => simp only [q2] at f3; exact f3.elim
          | some j =>
            simp only [q2] at f3
            refine ⟨a, vs, k, j, rfl, rfl, k1, by rw [k2.length]; exact q2, ?_⟩
            have nt : NoTup (upd H3 a (.lst (vs.set j v))) a := NoTup.of upd_same (fun _ e => by cases e) (fun _ _ e => by cases e)
            obtain ⟨w1, w2⟩ := sm3.write (o' := .lst (xs.set j d)) (u := .lst (vs.set j v)) h1' q rfl rfl (fun _ => ⟨_, upd_same, (k2.set j ((r1.mono st2).mono st3)).mono (Stp.mut (NoTup.of k1 (fun _ e => by cases e) (fun _ _ e => by cases e)))⟩) nt
            exact f3 ι3 σ _ w2 w1 ((((sl.mono st1).mono st2).mono st3).mono w2)
        · exact f3.elim
      | _ => exact f3.elim
    | _ => cases y <;> exact f3.elim⟩⟩⟩
end

/-! ### loops -/
structure ItD where
  ds : List D
  ok : Mem → Bool
def WalkD (G : Gx) (ι : List Addr) (H : Hp) (J : It) (it : ItD) : Prop := ∃ (Gd : Hp → Prop) (Y : Nat → Hp → V → Hp → Prop), Walk J it.ds.length Gd Y ∧
  (∀ ι1 s1 H1, Stp G.K ι H ι1 H1 → SimH G ι1 s1 H1 → it.ok s1 = true → Gd H1) ∧
  ∀ i ι1 s1 H1 x H2 d, it.ds[i]? = some d → Stp G.K ι H ι1 H1 → SimH G ι1 s1 H1 → it.ok s1 = true → Y i H1 x H2 → SimH G ι1 s1 H2 ∧ Stp G.K ι1 H1 ι1 H2 ∧ Rep G.K ι1 H2 x d
abbrev IM := Loc → Mem → R ItD
def dI (G : Gx) (W : WX) (m : IM) : TI := fun σ H Q => ∃ ι l s, SimH G ι s H ∧ Slots G.K ι H l σ ∧ Fin G W ι H σ (WalkD G) (m l s) Q
theorem PI.imp {X : Cx} {tg e : Expr} {t t' : TI} (h : PI X tg e t) (f : ∀ σ H Q, t' σ H Q → t σ H Q) : PI X tg e t' := ⟨fun pins s σ H Q I hw => h.run pins s σ H Q I (f _ _ _ hw)⟩
mutual
def D.beq : D → D → Bool
  | .non, .non => true
  | .bl a, .bl b => a == b
  | .int a, .int b => a == b
  | .str a, .str b => a == b
  | .tup a, .tup b => D.beqs a b
  | .ref a, .ref b => a == b
  | _, _ => false
def D.beqs : List D → List D → Bool
  | [], [] => true
  | a :: r, b :: t => D.beq a b && D.beqs r t
  | _, _ => false
end
mutual
theorem D.beq_eq : ∀ {a b : D}, D.beq a b = true → a = b
  | .non, .non, _ => rfl
  | .bl a, .bl b, h => by rw [eq_of_beq (show (a == b) = true from h)]
  | .int a, .int b, h => by rw [eq_of_beq (show (a == b) = true from h)]
  | .str a, .str b, h => by rw [eq_of_beq (show (a == b) = true from h)]
  | .tup a, .tup b, h => by rw [D.beqs_eq (show D.beqs a b = true from h)]
  | .ref a, .ref b, h => by rw [eq_of_beq (show (a == b) = true from h)]
theorem D.beqs_eq : ∀ {a b : List D}, D.beqs a b = true → a = b
  | [], [], _ => rfl
  | a :: r, b :: t, h => by
    have h2 := Bool.and_eq_true_iff.mp (show (D.beq a b && D.beqs r t) = true from h)
    rw [D.beq_eq h2.1, D.beqs_eq h2.2]
end
mutual
theorem D.beq_refl : ∀ a : D, D.beq a a = true
  | .non => rfl
  | .bl a => beq_self_eq_true a
  | .int a => beq_self_eq_true a
  | .str a => beq_self_eq_true a
  | .tup a => D.beqs_refl a
  | .ref a => beq_self_eq_true a
theorem D.beqs_refl : ∀ a : List D, D.beqs a a = true
  | [] => rfl
  | a :: r => by show (D.beq a a && D.beqs r r) = true; rw [D.beq_refl a, D.beqs_refl r]; rfl
end
/-- over a tuple, a list that stays as it is -/
def okL (n : Nat) (ds : List D) (s : Mem) : Bool := match rdL s n with
  | some ys => D.beqs ys ds
  | none => false
theorem okL_of {n : Nat} {ds : List D} {s : Mem} (h : rdL s n = some ds) : okL n ds s = true := by unfold okL; rw [h]; exact D.beqs_refl ds
theorem okL_is {n : Nat} {ds : List D} {s : Mem} (h : okL n ds s = true) : rdL s n = some ds := by
  unfold okL at h
  cases q : rdL s n with
  | none => rw [q] at h; cases h
  | some ys => rw [q] at h; rw [D.beqs_eq h]
def iSeq (me : EM) : IM := fun l s => (me l s).bind fun x s1 => match x with
  | .tup ds => .ok ⟨ds, fun _ => true⟩ s1
  | .ref n => match rdL s1 n with
    | some ds => .ok ⟨ds, okL n ds⟩ s1
    | none => .no
  | _ => .no
def iRange1 (ma : AM) : IM := fun l s => (ma l s).bind fun xs s1 => match xs with
  | [.int j] => if j < 100000 ∧ -100000 < j then .ok ⟨(List.range j.toNat).map fun (i : Nat) => D.int (0 + (i : Int)), fun _ => true⟩ s1 else .no
  | _ => .no
def iRange2 (ma : AM) : IM := fun l s => (ma l s).bind fun xs s1 => match xs with
  | [.int a, .int j] => if a < 100000 ∧ -100000 < a ∧ j < 100000 ∧ -100000 < j then .ok ⟨(List.range (j - a).toNat).map fun (i : Nat) => D.int (a + (i : Int)), fun _ => true⟩ s1 else .no
  | _ => .no
section
variable {G : Gx} {W : WX} {X : Cx} {tg e : Expr} {me : EM} {mA : AM}
/-- a list or a tuple is walked -/
def iSq (K : PySem.W.Frag) (tl : TE) : TI := fun σ H R => tl σ H fun x H1 => ∃ a, x = .ref a ∧ (((∃ xs, SqL K H1 a xs) ∧ R (Itl K a) H1) ∨ ((∃ xs, SqT K H1 a xs) ∧ R (Itt K a) H1))
theorem pi_sq {l : Expr} {tl : TE} (hl : PE X l tl) : PI X tg l (iSq X.K tl) := by
  refine ⟨fun pins s σ H R I h => ?_⟩
  refine thn (hl.run pins s σ H _ I h) fun v s1 ⟨x, H1, I1, r1, q1⟩ => ?_
  obtain ⟨a, e, q⟩ := q1
  subst e
  cases r1
  rcases q with ⟨⟨xs, hq⟩, q⟩ | ⟨⟨xs, hq⟩, q⟩
  · obtain ⟨its, rv, p, hz⟩ := I1.list hq
    refine wpAny_pyIter_list p.isList ?_
    refine ⟨s1.heap.objs.size, [s1.heap.objs.size], _, _, H1, rfl, I1.kept (t' := s1.toks) fun b o e => Heap.get?_push_of_some _ e, turn_list a _, ⟨_, Heap.get?_push_size _ rfl, rfl, rfl⟩, fun b hb => ?_, q⟩
    have e : b = s1.heap.objs.size := by simpa using hb
    subst e
    exact I1.fpOk (Nat.le_refl _) (I1.hok.fresh (Nat.le_refl _))
  · obtain ⟨its, rv, p, hz⟩ := I1.tuple hq
    refine wpAny_pyIter_tuple (show s1.heap.IsTuple a its.toArray from p) ?_
    refine ⟨s1.heap.objs.size, [s1.heap.objs.size], _, _, H1, rfl, I1.kept (t' := s1.toks) fun b o e => Heap.get?_push_of_some _ e, turn_tuple a _, ⟨_, Heap.get?_push_size _ rfl, rfl, rfl⟩, fun b hb => ?_, q⟩
    have e : b = s1.heap.objs.size := by simpa using hb
    subst e
    exact I1.fpOk (Nat.le_refl _) (I1.hok.fresh (Nat.le_refl _))
/-- the i-th of the list as it stands -/
def YCur (K : PySem.W.Frag) (a : Addr) : Nat → Hp → V → Hp → Prop := fun i H x H' => H' = H ∧ ∀ vs, SqL K H a vs → vs[i]? = some x
theorem walk_cur {K : PySem.W.Frag} {a : Addr} {n : Nat} : Walk (Itl K a) n (fun H => ∃ vs, SqL K H a vs ∧ vs.length = n) (YCur K a) :=
  ⟨fun i _ hi ⟨vs, q, e⟩ => ⟨vs, vs[i]'(by rw [e]; exact hi), q, by simp [e, hi]⟩, fun _ ⟨vs, q, e⟩ => ⟨vs, q, by rw [e]; exact Nat.le_refl _⟩, fun _ _ _ _ _ _ y => y⟩
theorem im_seq (hK : X.K = G.K) (he : PE X e (dE G W me)) : PI X tg e (dI G W (iSeq me)) :=
  PI.imp (pi_sq he) fun σ H Q ⟨ι, l, s, sm, sl, f⟩ => ⟨ι, l, s, sm, sl, f.bind fun x s1 ι1 v H1 st1 sm1 r1 f1 => by
    cases r1 with
    | @tup a vs ds h1 h2 =>
      refine ⟨a, rfl, .inr ⟨⟨vs, by rw [hK]; exact SqT.of h1⟩, f1.here sm1 ⟨fun H => SqT X.K H a vs, YAt vs, ?_, fun ι2 s2 H2 st2 sm2 _ => by rw [hK]; exact SqT.of (st2.tup _ _ h1), fun i ι2 s2 H2 x H3 d hd st2 sm2 _ hy => ?_⟩⟩⟩
      · show Walk (Itt X.K a) ds.length _ _
        rw [← h2.length]; exact walk_tup
      · obtain ⟨e3, hx⟩ := hy
        subst e3
        obtain ⟨d', h3, h4⟩ := h2.getV hx
        have e4 : ds[i]? = some d := hd
        rw [e4] at h3; cases h3
        exact ⟨sm2, .refl, h4.mono st2⟩
    | @ref a n h1 =>
      dsimp only at f1
      cases q : rdL s1 n with
      | none => rw [q] at f1; exact f1.elim
      | some ds =>
        rw [q] at f1
        obtain ⟨vs, k1, k2⟩ := sm1.rdL q h1
        refine ⟨a, rfl, .inl ⟨⟨vs, by rw [hK]; exact k1⟩, f1.here sm1 ⟨fun H => ∃ vs, SqL X.K H a vs ∧ vs.length = ds.length, YCur X.K a, walk_cur, fun ι2 s2 H2 st2 sm2 hok => ?_, fun i ι2 s2 H2 x H3 d hd st2 sm2 hok hy => ?_⟩⟩⟩
        · obtain ⟨ws, w1, w2⟩ := sm2.rdL (okL_is hok) (st2.pre _ _ h1)
          exact ⟨ws, by rw [hK]; exact w1, w2.length⟩
        · obtain ⟨ws, w1, w2⟩ := sm2.rdL (okL_is hok) (st2.pre _ _ h1)
          obtain ⟨e3, hx⟩ := hy
          subst e3
          have hx2 := hx ws (by rw [hK]; exact w1)
          obtain ⟨d', h3, h4⟩ := w2.getV hx2
          have e4 : ds[i]? = some d := hd
          rw [e4] at h3; cases h3
          exact ⟨sm2, .refl, h4⟩
    | _ => exact f1.elim⟩
theorem im_range1 {a : Expr} {p pos : Pos} (hg : Gl X "range") (hm : X.mg "range" = none) (ha : PA X [a] (dA G W mA)) (hs : starEach [a] X.env = [(false, eval a X.env)] := by rfl) : PI X tg (.Call (.Name "range" p) [a] [] pos) (dI G W (iRange1 mA)) :=
  PI.imp (pi_range1 hg hm ha hs) fun σ H Q ⟨ι, l, s, sm, sl, f⟩ => ⟨ι, l, s, sm, sl, f.bind fun xs s1 ι1 vs H1 st1 sm1 r1 f1 => by
    split at f1
    · rename_i j
      cases r1 with
      | cons r t =>
        cases t
        cases r
        by_cases hj : j < 100000 ∧ -100000 < j
        · rw [if_pos hj] at f1
          refine ⟨j, rfl, by omega, by omega, f1.here sm1 ⟨fun _ => True, YFn fun i => .int (0 + (i : Int)), ?_, fun _ _ _ _ _ _ => trivial, fun i ι2 s2 H2 x H3 d hd st2 sm2 hok hy => ?_⟩⟩
          · show Walk (Itr 0 j.toNat) ((List.range j.toNat).map fun (i : Nat) => D.int (0 + (i : Int))).length _ _
            rw [List.length_map, List.length_range]; exact walk_range
          · obtain ⟨e3, hx⟩ := hy
            subst e3; subst hx
            have e4 : ((List.range j.toNat).map fun (i : Nat) => D.int (0 + (i : Int)))[i]? = some d := hd
            rw [List.getElem?_map] at e4
            cases q : (List.range j.toNat)[i]? with
            | none => rw [q] at e4; cases e4
            | some k =>
              rw [q] at e4
              have := (List.getElem?_eq_some_iff.mp q).2
              rw [List.getElem_range] at this
              subst this
              cases e4
              exact ⟨sm2, .refl, .int _⟩
        · rw [if_neg hj] at f1; exact f1.elim
    · exact f1.elim⟩
theorem im_range2 {a b : Expr} {p pos : Pos} (hg : Gl X "range") (hm : X.mg "range" = none) (ha : PA X [a, b] (dA G W mA)) (hs : starEach [a, b] X.env = [(false, eval a X.env), (false, eval b X.env)] := by rfl) (hs2 : starEach [b] X.env = [(false, eval b X.env)] := by rfl) : PI X tg (.Call (.Name "range" p) [a, b] [] pos) (dI G W (iRange2 mA)) :=
  PI.imp (pi_range2 hg hm ha hs hs2) fun σ H Q ⟨ι, l, s, sm, sl, f⟩ => ⟨ι, l, s, sm, sl, f.bind fun xs s1 ι1 vs H1 st1 sm1 r1 f1 => by
    split at f1
    · rename_i a j
      cases r1 with
      | cons r t =>
        cases t with
        | cons r' t' =>
        cases t'
        cases r
        cases r'
        by_cases hj : a < 100000 ∧ -100000 < a ∧ j < 100000 ∧ -100000 < j
        · rw [if_pos hj] at f1
          refine ⟨a, j, rfl, by omega, f1.here sm1 ⟨fun _ => True, YFn fun i => .int (a + (i : Int)), ?_, fun _ _ _ _ _ _ => trivial, fun i ι2 s2 H2 x H3 d hd st2 sm2 hok hy => ?_⟩⟩
          · show Walk (Itr a (j - a).toNat) ((List.range (j - a).toNat).map fun (i : Nat) => D.int (a + (i : Int))).length _ _
            rw [List.length_map, List.length_range]; exact walk_range
          · obtain ⟨e3, hx⟩ := hy
            subst e3; subst hx
            have e4 : ((List.range (j - a).toNat).map fun (i : Nat) => D.int (a + (i : Int)))[i]? = some d := hd
            rw [List.getElem?_map] at e4
            cases q : (List.range (j - a).toNat)[i]? with
            | none => rw [q] at e4; cases e4
            | some k =>
              rw [q] at e4
              have := (List.getElem?_eq_some_iff.mp q).2
              rw [List.getElem_range] at this
              subst this
              cases e4
              exact ⟨sm2, .refl, .int _⟩
        · rw [if_neg hj] at f1; exact f1.elim
    · exact f1.elim⟩
end
def loopS (ok : Mem → Bool) (g : TGm) (body : SM) : List D → SM
  | [], l, s => if ok s = true then .nx l s else .no
  | d :: r, l, s => if ok s = true then match g d l with
      | some l1 => match body l1 s with
        | .nx l2 s2 => loopS ok g body r l2 s2
        | .ct l2 s2 => loopS ok g body r l2 s2
        | .bk l2 s2 => .nx l2 s2
        | x => x
      | none => .no
    else .no
def mFor (mi : IM) (g : TGm) (body : SM) : SM := fun l s => (mi l s).toS l fun it s1 => loopS it.ok g body it.ds l s1
theorem loopS_ok {G : Gx} {W : WX} {ι : List Addr} {H : Hp} {En : Ends} {ok : Mem → Bool} {g : TGm} {body : SM} {ds : List D} {l : Loc} {s : Mem} (f : FinS G W ι H (loopS ok g body ds l s) En) : ok s = true := by
  cases ds with
  | nil => unfold loopS at f; by_cases h : ok s = true
           · exact h
           · rw [if_neg h] at f; exact f.elim
  | cons d r => unfold loopS at f; by_cases h : ok s = true
                · exact h
                · rw [if_neg h] at f; exact f.elim
theorem sm_for {G : Gx} {W : WX} {X : Cx} {tg iter : Expr} {body : List Stmt} {vs : List Nat} {mi : IM} {g : TGm} {mb : SM} {pos : Pos} (hp : PassesOwn (model X.prog X.w) X.A X.env X.xe) (hc : X.calm = true) (hi : PI X tg iter (dI G W mi)) (hg : PG X tg (dG G vs g)) (hb : PSs X body (dS G W mb)) (hs : ∀ x, foldedSetIterable iter X.env x = pure x := by intro _; rfl) :
    PS X (.For tg iter body [] pos) (dS G W (mFor mi g mb)) :=
  PS.imp (ps_for hp hc hi hg hb hs) fun D σ H ⟨ι, l, s, sm, sl, f⟩ => ⟨ι, l, s, sm, sl, f.toS sl fun it s1 ι1 J H1 st1 sm1 r1 f1 => by
    obtain ⟨Gd, Y, wk, hG, hY⟩ := r1
    refine for_it wk (fun i σ' H' => ∃ ι' l' s', Stp G.K ι1 H1 ι' H' ∧ SimH G ι' s' H' ∧ Slots G.K ι' H' l' σ' ∧ FinS G W ι' H' (loopS it.ok g mb (it.ds.drop i) l' s') D) ⟨ι1, l, s1, .refl, sm1, sl.mono st1, f1⟩ (fun i σ' H' _ ⟨ι', l', s', st', sm', sl', f'⟩ => hG ι' s' H' st' sm' (loopS_ok f')) ?_ ?_
    · rintro i x σ' H' H2 hi ⟨ι', l', s', st', sm', sl', f'⟩ hy
      have hd : it.ds[i]? = some it.ds[i] := List.getElem?_eq_getElem hi
      rw [List.drop_eq_getElem_cons hi] at f'
      have hok := loopS_ok f'
      obtain ⟨sm2, st2, r2⟩ := hY i ι' s' H' x H2 _ hd st' sm' hok hy
      unfold loopS at f'
      rw [if_pos hok] at f'
      refine ⟨ι', l', s', it.ds[i], sm2, sl'.mono st2, r2, ?_⟩
      cases q : g it.ds[i] l' with
      | none => rw [q] at f'; exact f'.elim
      | some l1 =>
        rw [q] at f'
        dsimp only at f' ⊢
        intro σ2 sl2 _
        refine ⟨ι', l1, s', sm2, sl2, ?_⟩
        cases q2 : mb l1 s' with
        | nx l2 s2 => rw [q2] at f'; exact fun ι3 σ3 H3 st3 sm3 sl3 => ⟨ι3, l2, s2, (st'.trans st2).trans st3, sm3, sl3, f'.step (st2.trans st3)⟩
        | ct l2 s2 => rw [q2] at f'; exact fun ι3 σ3 H3 st3 sm3 sl3 => ⟨ι3, l2, s2, (st'.trans st2).trans st3, sm3, sl3, f'.step (st2.trans st3)⟩
        | bk l2 s2 => rw [q2] at f'; exact f'.step st2
        | rt d s2 => rw [q2] at f'; exact f'.step st2
        | err c l2 s2 => rw [q2] at f'; exact f'.step st2
        | no => rw [q2] at f'; exact f'
    · rintro σ' H' ⟨ι', l', s', st', sm', sl', f'⟩
      rw [List.drop_length] at f'
      have hok := loopS_ok f'
      unfold loopS at f'
      rw [if_pos hok] at f'
      exact f' ι' σ' H' .refl sm' sl'⟩
/-- while, with so many turns at most -/
def whileS (t : TM) (body : SM) : Nat → SM
  | 0, _, _ => .no
  | n + 1, l, s => (t l s).toS l fun b s1 => if b = true then match body l s1 with
      | .nx l2 s2 => whileS t body n l2 s2
      | .ct l2 s2 => whileS t body n l2 s2
      | .bk l2 s2 => .nx l2 s2
      | x => x
    else .nx l s1
theorem sm_while {G : Gx} {W : WX} {X : Cx} {c : Expr} {body : List Stmt} {t : TM} {mb : SM} {pos : Pos} (n : Nat) (hp : PassesOwn (model X.prog X.w) X.A X.env X.xe) (hc : PT X c (dT G W t)) (hb : PSs X body (dS G W mb)) : PS X (.While c body [] pos) (dS G W (whileS t mb n)) :=
  PS.imp (ps_while hp hc hb) fun D σ H ⟨ι, l, s, sm, sl, f⟩ => by
    refine ⟨fun m σ' H' => ∃ ι' l' s', Stp G.K ι H ι' H' ∧ SimH G ι' s' H' ∧ Slots G.K ι' H' l' σ' ∧ FinS G W ι' H' (whileS t mb m l' s') D, ⟨n, ι, l, s, .refl, sm, sl, f⟩, ?_⟩
    rintro m σ' H' ⟨ι', l', s', st', sm', sl', f'⟩
    cases m with
    | zero => exact f'.elim
    | succ m =>
      refine ⟨ι', l', s', sm', sl', FinS.toS f' sl' fun b s1 ι1 b' H1 st1 sm1 r1 f1 => ?_⟩
      cases r1
      cases b with
      | false => rw [if_neg Bool.false_ne_true] at f1 ⊢; exact f1 ι1 σ' H1 .refl sm1 (sl'.mono st1)
      | true =>
        rw [if_pos rfl] at f1 ⊢
        refine ⟨fun σ2 H2 => ∃ ι2 l2 s2, Stp G.K ι H ι2 H2 ∧ SimH G ι2 s2 H2 ∧ Slots G.K ι2 H2 l2 σ2 ∧ FinS G W ι2 H2 (whileS t mb m l2 s2) D, fun σ2 H2 h => ⟨m, Nat.lt_succ_self m, h⟩, ι1, l', s1, sm1, sl'.mono st1, ?_⟩
        cases q : mb l' s1 with
        | nx l2 s2 => rw [q] at f1; exact fun ι3 σ3 H3 st3 sm3 sl3 => ⟨ι3, l2, s2, (st'.trans st1).trans st3, sm3, sl3, f1.step st3⟩
        | ct l2 s2 => rw [q] at f1; exact fun ι3 σ3 H3 st3 sm3 sl3 => ⟨ι3, l2, s2, (st'.trans st1).trans st3, sm3, sl3, f1.step st3⟩
        | bk l2 s2 => rw [q] at f1; exact f1
        | rt d s2 => rw [q] at f1; exact f1
        | err c l2 s2 => rw [q] at f1; exact f1
        | no => rw [q] at f1; exact f1
end Core

set_option Elab.async false
set_option linter.all false
set_option maxRecDepth 100000
set_option maxHeartbeats 4000000
/-! Core: comprehensions, slices, methods of lists, chains, module constants, raise, try -/
namespace Core
open PySem PySem.Spec PyProof.Rows L2

/-! ### list comprehensions -/
abbrev W0 : WX := fun _ _ _ _ => False
/-- no error may come out -/
def R.nox {α β : Type} (r : R α) (f : α → Mem → R β) : R β := match r with
  | .ok a s => f a s
  | _ => .no
def loopC (ok : Mem → Bool) (g : TGm) (vs : List Nat) (l : Loc) (tt : TM) (me : EM) (n : Nat) : List D → Mem → R D
  | [], s => if ok s = true then .ok (.ref n) s else .no
  | d :: r, s => if ok s = true then match g d (wipeL l vs) with
      | some l1 => (tt l1 s).nox fun b s2 => if b = true then (me l1 s2).nox fun y s3 => match s3[n]? with
          | some (.lst acc) => if acc.length < 100000 then loopC ok g vs l tt me n r (s3.set n (.lst (acc ++ [y]))) else .no
          | _ => .no
        else loopC ok g vs l tt me n r s2
      | none => .no
    else .no
def mLc (mi : IM) (g : TGm) (vs : List Nat) (tt : TM) (me : EM) : EM := fun l s => (mi l s).bind fun it s1 => loopC it.ok g vs l tt me s1.length it.ds (s1 ++ [.lst []])
def tYes' : TM := fun _ s => .ok true s
theorem Fin.nox {α β γ δ : Type} {G : Gx} {W : WX} {ι : List Addr} {H : Hp} {σ σ2 : L2.St} {rel : List Addr → Hp → β → α → Prop} {rel' : List Addr → Hp → δ → γ → Prop} {r : R α} {f : α → Mem → R γ} {Q' : δ → Hp → Prop} (h : Fin G W ι H σ rel' (r.nox f) Q') {Q : β → Hp → Prop}
    (k : ∀ a s1 ι1 b H1, Stp G.K ι H ι1 H1 → SimH G ι1 s1 H1 → rel ι1 H1 b a → Fin G W ι1 H1 σ rel' (f a s1) Q' → Q b H1) : Fin G W0 ι H σ2 rel r Q := by
  cases r with
  | ok a s' => exact fun ι' b H' st sm rl => k a s' ι' b H' st sm rl (Fin.step (r := f a s') h st)
  | err c s' => exact h.elim
  | no => exact h
theorem loopC_ok {G : Gx} {W : WX} {ι : List Addr} {H : Hp} {σ : L2.St} {Q : VK} {ok : Mem → Bool} {g : TGm} {vs : List Nat} {l : Loc} {tt : TM} {me : EM} {n : Nat} {ds : List D} {s : Mem} (f : Fin G W ι H σ (Rep G.K) (loopC ok g vs l tt me n ds s) Q) : ok s = true := by
  cases ds with
  | nil => unfold loopC at f; by_cases h : ok s = true
           · exact h
           · rw [if_neg h] at f; exact f.elim
  | cons d r => unfold loopC at f; by_cases h : ok s = true
                · exact h
                · rw [if_neg h] at f; exact f.elim
theorem lc_imp {G : Gx} {W : WX} {mi : IM} {g : TGm} {vs : List Nat} {tt : TM} {me : EM} {σ : L2.St} {H : Hp} {Q : VK} (h : dE G W (mLc mi g vs tt me) σ H Q) : tLc (dI G W mi) (dG G vs g) (dT G W0 tt) (dE G W0 me) vs σ H Q := by
  obtain ⟨ι, l, s, sm, sl, f⟩ := h
  refine ⟨ι, l, s, sm, sl, f.bind fun it s1 ι1 J H1 st1 sm1 r1 f1 => fun Da hD => ?_⟩
  obtain ⟨Gd, Y, wk, hG, hY⟩ := r1
  have stD : Stp G.K ι1 H1 (ι1 ++ [Da]) (upd H1 Da (.lst [])) := Stp.new hD (pre_snoc Da)
  have smD : SimH G (ι1 ++ [Da]) (s1 ++ [.lst []]) (upd H1 Da (.lst [])) := sm1.push hD rfl ⟨[], upd_same, .nil⟩
  have hDn : (ι1 ++ [Da])[s1.length]? = some Da := by rw [← sm1.len]; simp
  refine lc_it wk (fun i H' => ∃ ι' s', Stp G.K ι1 H1 ι' H' ∧ SimH G ι' s' H' ∧ Slots G.K ι' H' l σ ∧ ι'[s1.length]? = some Da ∧ Fin G W ι' H' σ (Rep G.K) (loopC it.ok g vs l tt me s1.length (it.ds.drop i) s') Q)
    ⟨ι1 ++ [Da], s1 ++ [.lst []], stD, smD, (sl.mono st1).mono stD, hDn, by rw [List.drop_zero]; exact f1.step stD⟩ (fun i H' _ ⟨ι', s', st', sm', sl', hn, f'⟩ => hG ι' s' H' st' sm' (loopC_ok f')) ?_ ?_
  · rintro i x H' H2 hi ⟨ι', s', st', sm', sl', hn, f'⟩ hy
    have hd : it.ds[i]? = some it.ds[i] := List.getElem?_eq_getElem hi
    rw [List.drop_eq_getElem_cons hi] at f'
    have hok := loopC_ok f'
    obtain ⟨sm2, st2, r2⟩ := hY i ι' s' H' x H2 _ hd st' sm' hok hy
    unfold loopC at f'
    rw [if_pos hok] at f'
    refine ⟨ι', wipeL l vs, s', it.ds[i], sm2, (sl'.mono st2).wipe vs, r2, ?_⟩
    cases q : g it.ds[i] (wipeL l vs) with
    | none => rw [q] at f'; exact f'.elim
    | some l1 =>
      rw [q] at f'
      dsimp only at f' ⊢
      intro σ2 sl2 hw
      refine ⟨hw.trans (wipe_wipe σ vs), ι', l1, s', sm2, sl2, (f'.step st2).nox fun b s2 ι2 b' H3 st3 sm3 r3 f3 => ?_⟩
      cases r3
      cases b with
      | false =>
        rw [if_neg Bool.false_ne_true] at f3 ⊢
        exact ⟨ι2, s2, (st'.trans st2).trans st3, sm3, (sl'.mono st2).mono st3, st3.pre _ _ (st2.pre _ _ hn), f3⟩
      | true =>
        rw [if_pos rfl] at f3 ⊢
        refine ⟨ι2, l1, s2, sm3, sl2.mono st3, f3.nox fun y s3 ι3 v H4 st4 sm4 r4 f4 => ?_⟩
        have hn4 := st4.pre _ _ (st3.pre _ _ (st2.pre _ _ hn))
        split at f4
        · rename_i acc q2
          by_cases hz : acc.length < 100000
          · rw [if_pos hz] at f4
            obtain ⟨ws, k1, k2⟩ := sm4.lst q2 hn4
            have ntD : NoTup H4 Da := NoTup.of k1 (fun _ e => by cases e) (fun _ _ e => by cases e)
            have nt : NoTup (upd H4 Da (.lst (ws ++ [v]))) Da := NoTup.of upd_same (fun _ e => by cases e) (fun _ _ e => by cases e)
            obtain ⟨w1, w2⟩ := sm4.write (o' := .lst (acc ++ [y])) (u := .lst (ws ++ [v])) hn4 q2 rfl rfl (fun _ => ⟨_, upd_same, (k2.append (.cons r4 .nil)).mono (Stp.mut ntD)⟩) nt
            exact ⟨ws, k1, by rw [k2.length]; exact lim_lt hz, ι3, _, (((st'.trans st2).trans st3).trans st4).trans w2, w1, (((sl'.mono st2).mono st3).mono st4).mono w2, hn4, f4.step w2⟩
          · rw [if_neg hz] at f4; exact f4.elim
        · exact f4.elim
  · rintro H' ⟨ι', s', st', sm', sl', hn, f'⟩
    rw [List.drop_length] at f'
    have hok := loopC_ok f'
    unfold loopC at f'
    rw [if_pos hok] at f'
    exact f'.here sm' (.ref hn)
section
variable {G : Gx} {W : WX} {X : Cx} {elt tg iter : Expr} {ifs : List Expr} {scope : Scope} {own : List (Str × Nat)} {pos spos : Pos} {mi : IM} {g : TGm} {tt : TM} {me : EM}
theorem pts_yes {X : Cx} : PTs X [] (dT G W0 tYes') := ⟨fun pins s σ H Q I h => by
  obtain ⟨ι, l, s0, sm, sl, f⟩ := h
  exact wpAny_tests_nil ⟨H, I, f.here sm rfl⟩⟩
theorem pts_if {X : Cx} {c : Expr} {t : TM} (h : PT X c (dT G W0 t)) : PTs X [c] (dT G W0 t) := pts_one h
theorem em_lc (hc : X.calm = true) (hN : X.N.Nodup) (hi : PI X tg iter (dI G W mi)) (ok : BlkOk X.N X.env.scope scope own)
    (hg : ∀ (s : Shared) (H : Hp) (C : Addr) (cl : List (Str × Addr)) (fp : List Addr), PG (X.blk s H scope (compEnvC scope cl C X.env) fp) tg (dG G (own.map (·.2)) g)) (ht : ∀ (s : Shared) (H : Hp) (C : Addr) (cl : List (Str × Addr)) (fp : List Addr), PTs (X.blk s H scope (compEnvC scope cl C X.env) fp) ifs (dT G W0 tt))
    (he : ∀ (s : Shared) (H : Hp) (C : Addr) (cl : List (Str × Addr)) (fp : List Addr), PE (X.blk s H scope (compEnvC scope cl C X.env) fp) elt (dE G W0 me)) (hs : ∀ x, foldedSetIterable iter X.env x = pure x := by intro _; rfl) :
    PE X (.ListComp elt [⟨tg, iter, ifs, 0⟩] scope pos) (dE G W (mLc mi g (own.map (·.2)) tt me)) :=
  PE.imp (pe_lc hc hN hi ok hg ht he hs) fun σ H Q h => lc_imp h
theorem sm_setLc {i : Nat} {y : Str} {py : Pos} (hc : X.calm = true) (hN : X.N.Nodup) (hy : X.N[i]? = some y) (hyl : X.env.scope.names.lookup y = some .local)
    (hsw : swapsWith (.ListComp elt [⟨tg, iter, ifs, 0⟩] scope pos) (some (.Name y py)) spos.line X.env = pure true) (hi : PI X tg iter (dI G W mi)) (ok : BlkOk X.N X.env.scope scope own)
    (hg : ∀ (s : Shared) (H : Hp) (C : Addr) (cl : List (Str × Addr)) (fp : List Addr), PG (X.blk s H scope (compEnvC scope cl C X.env) fp) tg (dG G (own.map (·.2)) g)) (ht : ∀ (s : Shared) (H : Hp) (C : Addr) (cl : List (Str × Addr)) (fp : List Addr), PTs (X.blk s H scope (compEnvC scope cl C X.env) fp) ifs (dT G W0 tt))
    (he : ∀ (s : Shared) (H : Hp) (C : Addr) (cl : List (Str × Addr)) (fp : List Addr), PE (X.blk s H scope (compEnvC scope cl C X.env) fp) elt (dE G W0 me)) (hs : ∀ x, foldedSetIterable iter X.env x = pure x := by intro _; rfl) :
    PS X (.Assign [.Name y py] (.ListComp elt [⟨tg, iter, ifs, 0⟩] scope pos) spos) (dS G W (mSet i (mLc mi g (own.map (·.2)) tt me))) :=
  PS.imp (ps_setLc hc hN hy hyl hsw hi ok hg ht he hs) fun D σ H ⟨ι, l, s, sm, sl, f⟩ => lc_imp ⟨ι, l, s, sm, sl, f.toS sl fun d s1 ι1 v H1 st1 sm1 r1 f1 => f1 ι1 _ H1 .refl sm1 ((sl.mono st1).set i r1)⟩
end
theorem takesW0 {X : Cx} : Takes X W0 := fun _ _ x => by
  obtain ⟨_, _, _, _, _, _, _, _, _, _, _, _, _, _, _, _, z⟩ := x
  exact z.elim

/-! ### slices -/
def cutD (xs : List D) (lo hi : Option Int) : List D := (xs.drop (HT.sIx xs.length 0 lo)).take (HT.sIx xs.length xs.length hi - HT.sIx xs.length 0 lo)
def gSl (lo hi : Option Int) : D → Mem → R D := fun x s => match x with
  | .tup xs => .ok (.tup (cutD xs lo hi)) s
  | .ref n => match rdL s n with
    | some xs => .ok (.ref s.length) (s ++ [.lst (cutD xs lo hi)])
    | none => .no
  | _ => .no
abbrev OM := Loc → Mem → R (Option Int)
def dO (G : Gx) (W : WX) (m : OM) : TO := fun σ H Q => ∃ ι l s, SimH G ι s H ∧ Slots G.K ι H l σ ∧ Fin G W ι H σ (fun _ _ b a => b = a) (m l s) Q
def oNone : OM := fun _ s => .ok none s
def oSome (me : EM) : OM := fun l s => (me l s).bind fun x s1 => match x with
  | .int i => .ok (some i) s1
  | _ => .no
def mSl (me : EM) (lo hi : OM) : EM := fun l s => (me l s).bind fun x s1 => (lo l s1).bind fun a s2 => (hi l s2).bind fun b s3 => gSl a b x s3
section
variable {G : Gx} {W : WX} {X : Cx} {e : Expr} {lo hi : Option Expr} {me : EM} {ml mh : OM} {pos p2 : Pos}
theorem om_none : PO X none (dO G W oNone) := ⟨fun pins s σ H Q I h => by
  obtain ⟨ι, l, s0, sm, sl, f⟩ := h
  exact po_none.run pins s σ H Q I (f.here sm rfl)⟩
theorem om_some {e : Expr} (h : PE X e (dE G W me)) : PO X (some e) (dO G W (oSome me)) := ⟨fun pins s σ H Q I hw => by
  obtain ⟨ι, l, s0, sm, sl, f⟩ := hw
  exact (po_some h).run pins s σ H Q I ⟨ι, l, s0, sm, sl, f.bind fun x s1 ι1 v H1 st1 sm1 r1 f1 => by
    cases r1 with
    | int i => exact ⟨i, rfl, f1.here sm1 rfl⟩
    | _ => exact f1.elim⟩⟩
def rSlD (K : PySem.W.Frag) : V → Option Int → Option Int → Hp → VK → Prop := fun x lo hi H Q => rSlL K x lo hi H Q ∨ rSlA K x lo hi H Q
theorem em_slice (hK : X.K = G.K) (he : PE X e (dE G W me)) (hl : PO X lo (dO G W ml)) (hu : PO X hi (dO G W mh)) : PE X (.Subscript e (.Slice lo hi none p2) pos) (dE G W (mSl me ml mh)) :=
  PE.imp (pe_slice (r := rSlD X.K) (SlR.or sl_list sl_tupA) he hl hu) fun σ H Q ⟨ι, l, s, sm, sl, f⟩ => ⟨ι, l, s, sm, sl, f.bind fun x s1 ι1 v H1 st1 sm1 r1 f1 => ⟨ι1, l, s1, sm1, sl.mono st1, f1.bind fun a s2 ι2 a' H2 st2 sm2 e2 f2 => ⟨ι2, l, s2, sm2, (sl.mono st1).mono st2, f2.bind fun b s3 ι3 b' H3 st3 sm3 e3 f3 => by
    cases e2
    cases e3
    have r3 := (r1.mono st2).mono st3
    unfold gSl at f3
    cases r3 with
    | @tup p vs xs h1 h2 =>
      dsimp only at f3
      have hc : Reps G.K ι3 H3 (cutV vs a b) (cutD xs a b) := by
        unfold cutV cutD; rw [h2.length]; exact (h2.drop _).take _
      refine .inr ⟨p, vs, rfl, by rw [hK]; exact SqT.of h1, fun hw => ?_, fun hw q hq => ?_⟩
      · have e : cutD xs a b = xs := by
          unfold cutD
          rw [← h2.length, hw.1, hw.2, h2.length]
          simp
        rw [e] at f3
        exact f3.here sm3 (.tup h1 h2)
      · have st : Stp G.K ι3 H3 ι3 (upd H3 q (.tup (cutV vs a b))) := Stp.new hq fun _ _ z => z
        exact f3.there st (sm3.laid hq) (.tup upd_same (hc.mono st))
    | @ref p n h1 =>
      dsimp only at f3
      cases q : rdL s3 n with
      | none => rw [q] at f3; exact f3.elim
      | some xs =>
        rw [q] at f3
        obtain ⟨vs, k1, k2⟩ := sm3.rdL q h1
        have hc : Reps G.K ι3 H3 (cutV vs a b) (cutD xs a b) := by
          unfold cutV cutD; rw [k2.length]; exact (k2.drop _).take _
        exact .inl ⟨p, vs, rfl, by rw [hK]; exact k1, newL sm3 hc f3⟩
    | _ => exact f3.elim⟩⟩⟩
def gRevL : D → Mem → R D := fun x s => match x with
  | .ref n => match rdL s n with
    | some xs => .ok (.ref s.length) (s ++ [.lst xs.reverse])
    | none => .no
  | _ => .no
theorem em_revL {e : Expr} {k : Nat} {p1 p2 p3 pos : Pos} (hK : X.K = G.K) (he : PE X e (dE G W me)) : PE X (.Subscript e (.Slice none none (some (.UnaryOp .USub (.Constant (.int 1) k p1) p2)) p3) pos) (dE G W (mUn gRevL me)) :=
  PE.imp (pe_revL he) fun σ H Q ⟨ι, l, s, sm, sl, f⟩ => ⟨ι, l, s, sm, sl, f.bind fun x s1 ι1 v H1 st1 sm1 r1 f1 => by
    unfold gRevL at f1
    cases r1 with
    | @ref p n h1 =>
      dsimp only at f1
      cases q : rdL s1 n with
      | none => rw [q] at f1; exact f1.elim
      | some xs =>
        rw [q] at f1
        obtain ⟨vs, k1, k2⟩ := sm1.rdL q h1
        exact ⟨p, vs, rfl, by rw [hK]; exact k1, newL sm1 k2.reverse f1⟩
    | _ => exact f1.elim⟩
end

/-! ### methods of lists -/
/-- o.m(..) of a list that may be written -/
def mLm (g : D → List D → Mem → R D) (mo : EM) (ma : AM) : EM := fun l s => (mo l s).bind fun x s1 => match x with
  | .ref n => match s1[n]? with
    | some (.lst _) => (ma l s1).bind fun xs s2 => g x xs s2
    | _ => .no
  | _ => .no
def gAppend : D → List D → Mem → R D := fun x vs s => match x, vs with
  | .ref n, [y] => match s[n]? with
    | some (.lst xs) => if xs.length < 100000 then .ok .non (s.set n (.lst (xs ++ [y]))) else .no
    | _ => .no
  | _, _ => .no
section
variable {G : Gx} {W : WX} {X : Cx} {o e : Expr} {es : List Expr} {mo : EM} {mA : AM} {name : Str} {apos cpos : Pos} {id : String} {r : V → List V → Hp → VK → Prop} {g : D → List D → Mem → R D}
theorem tyL {G : Gx} {ι : List Addr} {s : Mem} {H : Hp} (sm : SimH G ι s H) {n : Nat} {a : Addr} {xs : List D} (h : ι[n]? = some a) (q : s[n]? = some (.lst xs)) : tyV G.K "list" (.ref a) H := by
  obtain ⟨vs, k1, _⟩ := sm.lst q h
  exact .inl ⟨rfl, vs, SqL.of k1⟩
theorem em_lm (hK : X.K = G.K) (slot : Slot "list" name id) (hty : typeOf (.builtin id) = pure (.type "method_descriptor")) (hm : MtR X id r) (hS : OpSM G r g) (ho : PE X o (dE G W mo)) (ha : PA X (e :: es) (dA G W mA))
    (hbase : attributeBase o name X.env (eval o X.env) = eval o X.env := by rfl)
    (hfew : ((backTo cpos (starEach (e :: es) X.env)).all (fun x => !x.1) && (backToKw cpos (keywordEach [] X.env)).all (fun x => x.1.isSome)
      && decide ((e :: es).length + ([] : List Keyword).length + (if ([] : List Keyword).isEmpty then 0 else 1) < 30)) = true := by rfl)
    (hline : (apos.endLine == cpos.line) = true := by rfl) (hs : starEach (e :: es) X.env = (false, eval e X.env) :: starEach es X.env := by rfl) (hplain : (backTo cpos (starEach es X.env)).any (·.1) = false := by rfl) :
    PE X (.Call (.Attribute o name apos) (e :: es) [] cpos) (dE G W (mLm g mo mA)) :=
  PE.imp (pe_bm PySem.F.plainAttrs_list slot hty hm ho ha hbase hfew hline hs hplain) fun σ H Q ⟨ι, l, s, sm, sl, f⟩ => ⟨ι, l, s, sm, sl, f.bind fun x s1 ι1 v H1 st1 sm1 r1 f1 => by
    cases r1 with
    | @ref a n h1 =>
      dsimp only at f1
      split at f1
      · rename_i xs q
        exact ⟨by rw [hK]; exact tyL sm1 h1 q, ι1, l, s1, sm1, sl.mono st1, f1.bind fun ys s2 ι2 ws H2 st2 sm2 r2 f2 => hS W σ ι2 s2 H2 _ _ ws ys Q sm2 (.ref (st2.pre _ _ h1)) r2 f2⟩
      · exact f1.elim
    | _ => exact f1.elim⟩
theorem s_append : OpSM G rAppend gAppend := by
  intro W σ ι s H v x vs xs Q sm rv rs f
  unfold gAppend at f
  split at f
  · rename_i n y
    cases rv with
    | ref h1 =>
      cases rs with
      | cons r t =>
        cases t
        rename_i a w
        split at f
        · rename_i ys q
          by_cases hz : ys.length < 100000
          · rw [if_pos hz] at f
            obtain ⟨ws, k1, k2⟩ := sm.lst q h1
            have nt0 : NoTup H a := NoTup.of k1 (fun _ e => by cases e) (fun _ _ e => by cases e)
            have nt : NoTup (upd H a (.lst (ws ++ [w]))) a := NoTup.of upd_same (fun _ e => by cases e) (fun _ _ e => by cases e)
            obtain ⟨w1, w2⟩ := sm.write (o' := .lst (ys ++ [y])) (u := .lst (ws ++ [w])) h1 q rfl rfl (fun _ => ⟨_, upd_same, (k2.append (.cons r .nil)).mono (Stp.mut nt0)⟩) nt
            exact ⟨a, ws, w, rfl, rfl, k1, by rw [k2.length]; exact lim_lt hz, f.there w2 w1 .non⟩
          · rw [if_neg hz] at f; exact f.elim
        · exact f.elim
  · exact f.elim
end

/-! ### chains of two comparisons -/
def mChain (g g' : D → D → Mem → R D) (ma mb mc : EM) : EM := fun l s => (ma l s).bind fun x s1 => (mb l s1).bind fun y s2 => (g x y s2).bind fun z s3 => match z with
  | .bl b => if b = true then (mc l s3).bind fun u s4 => g' y u s4 else .ok (.bl false) s3
  | _ => .no
section
variable {G : Gx} {W : WX} {X : Cx} {a b c : Expr} {pos : Pos} {ma mb mc : EM} {op op' : CmpOp} {r r' : R2} {g g' : D → D → Mem → R D}
end
end Core

set_option Elab.async false
set_option linter.all false
set_option maxRecDepth 100000
set_option maxHeartbeats 4000000
/-! Core: chains, constants of the module, raise, try, match -/
namespace Core
open PySem PySem.Spec PyProof.Rows L2

section
variable {G : Gx} {W : WX} {X : Cx} {a b c : Expr} {pos : Pos} {ma mb mc : EM} {op op' : CmpOp} {r r' : R2} {g g' : D → D → Mem → R D}
theorem em_chain (ho : OpR X (compareOp op) r) (ho' : OpR X (compareOp op') r') (hg : OpS2 G r g) (hg' : OpS2 G r' g') (ha : PE X a (dE G W ma)) (hb : PE X b (dE G W mb)) (hc : PE X c (dE G W mc))
    (hm : lastMarks [op, op'] [b, c] = false := by with_unfolding_all rfl) : PE X (.Compare a [op, op'] [b, c] pos) (dE G W (mChain g g' ma mb mc)) :=
  PE.imp (pe_chain ho ho' ha hb hc hm) fun σ H Q ⟨ι, l, s, sm, sl, f⟩ => ⟨ι, l, s, sm, sl, f.bind fun x s1 ι1 v H1 st1 sm1 r1 f1 => ⟨ι1, l, s1, sm1, sl.mono st1, f1.bind fun y s2 ι2 w H2 st2 sm2 r2 f2 => by
    refine hg W σ ι2 s2 H2 v w x y _ sm2 (r1.mono st2) r2 (f2.bind fun z s3 ι3 u H3 st3 sm3 r3 f3 => ?_)
    cases r3 with
    | bl b =>
      refine ⟨b, rfl, ?_⟩
      cases b with
      | true =>
        dsimp only at f3
        rw [if_pos rfl] at f3 ⊢
        exact ⟨ι3, l, s3, sm3, ((sl.mono st1).mono st2).mono st3, f3.bind fun t s4 ι4 v4 H4 st4 sm4 r4 f4 => hg' W σ ι4 s4 H4 w v4 y t Q sm4 ((r2.mono st3).mono st4) r4 f4⟩
      | false =>
        dsimp only at f3
        rw [if_neg Bool.false_ne_true] at f3 ⊢
        exact f3.here sm3 (.bl false)
    | _ => exact f3.elim⟩⟩
/-- an int that the module's top binds -/
theorem em_glob {x : Str} {i : Int} {t : Tok} (hg : Gl X x) (hm : X.mg x = some (.int i t)) (hd : (x == ("__debug__" : Str)) = false := by decide) : PE X (.Name x pos) (dE G W (mC (.int i))) := em_c (pe_glob (v := .int i) hg hm ⟨t, rfl⟩ hd) fun _ _ => .int i

/-! ### raise -/
def mRaise (cl : Str) : SM := fun l s => .err cl l s
theorem pmk_own0 {C : Addr} {bmB : List Value} {B newId initId : String} {x : Str} {p : Pos} (F : ExcBaseFacts B newId initId bmB) (q : PySem.W.excIn X.K C bmB newId = true) (gC : X.mg x = some (.ref C)) (kC : PySem.W.keepIn X.K (.ref C) = true) (r : Raises X (.ref C)) (hg : Gl X x)
    (hdb : (x == ("__debug__" : Str)) = false := by decide) : PMk X (.Call (.Name x p) [] [] pos) (fun _ H Q => Q (.ref C) none H) := by
  intro pins s σ H Q I h
  refine wpAny_Call_Name_kw (ld_glob I hg gC ?_ hdb)
  refine PySem.W.callWith_K0 I.kIn kC ?_
  show wpAny _ _ (call (.ref C) []) _ _ _
  obtain ⟨bm, N, nm, qn, bs, hdct, sn, sub, ab, col, dd, k0, k1, k2, k3, k5, mN, hC, hN, hni, T⟩ := exc_obj I.kIn q
  exact wpAny_call_exc_subT F T hC hN hni (fun h' e hm => mk_of I hm r h (I.hok.gone hm.new)) (Nat.zero_le _)
/-- what the text has of an error class of its own over ValueError -/
structure ExcOk (K : PySem.W.Frag) (C : Addr) : Prop where
  exc : PySem.W.excIn K C He.veBase "ValueError.__new__" = true
  kp : PySem.W.keepIn K (.ref C) = true
  sb : PySem.W.subIn K (.ref C) (.type "BaseException") = some true
  ty : PySem.W.typeIn K (.ref C) = some (.type "type")
theorem sm_raise {x cl : Str} {p p2 : Pos} (hK : X.K = G.K) (hc : X.calm = true) (tk : Takes X W) (eo : ExcOk G.K (G.cls cl)) (hg : Gl X x) (hm : X.mg x = some (.ref (G.cls cl))) (hdb : (x == ("__debug__" : Str)) = false := by decide) :
    PS X (.Raise (some (.Call (.Name x p) [] [] p2)) none pos) (dS G W (mRaise cl)) :=
  PS.imp (ps_raise hc tk (pmk_own0 PySem.F.excBase_ValueError (by rw [hK]; exact eo.exc) hm (by rw [hK]; exact eo.kp) (raises_own (by rw [hK]; exact eo.sb) (by rw [hK]; exact eo.ty)) hg hdb)) fun D σ H ⟨ι, l, s, sm, sl, f⟩ => f ι σ H .refl sm sl

/-! ### try -/
def noErr (r : RS) : RS := match r with
  | .err _ _ _ => .no
  | x => x
/-- errs: the errors that may come; sub: which of them the clause takes -/
def mTry (errs : List Str) (sub : Str → Bool) (mb ms : SM) : SM := fun l s => match mb l s with
  | .err c l1 s1 => if c ∈ errs then if sub c = true then noErr (ms l1 s1) else .err c l1 s1 else .no
  | x => x
theorem FinS.noErr {G : Gx} {W W' : WX} {ι : List Addr} {H : Hp} {r : RS} {D : Ends} (h : FinS G W ι H (noErr r) D) : FinS G W' ι H r D := by
  cases r with
  | err c l s => exact h.elim
  | nx l s => exact h
  | rt d s => exact h
  | bk l s => exact h
  | ct l s => exact h
  | no => exact h
theorem sm_try {x : Str} {body suite : List Stmt} {b₀ : Stmt} {np pos' : Pos} {errs : List Str} {sub : Str → Bool} {cl : Str} {mb ms : SM} (hK : X.K = G.K) (hs : X.stack = X.env :: X.outer) (hf : X.env.frame = some X.env.locals) (hc : Names X x (.ref (G.cls cl))) (tk : Takes X W)
    (hx : ∀ c ∈ errs, PySem.W.exmOne G.K (.ref (G.cls c)) (.ref (G.cls cl)) = some (sub c))
    (hb : ∀ (W : WX) (pn : List (Addr × Obj)) (xe : Value → Shared → Prop), Takes (X.tr pn xe) W → PassesOwn (model X.prog X.w) X.A X.env xe → PSs (X.tr pn xe) body (dS G W mb))
    (hsu : ∀ (a : Addr) (oe : Obj) (pn : List (Addr × Obj)), PSs (X.suite a ((a, oe) :: pn)) (b₀ :: suite) (dS G W0 ms)) :
    PS X (.Try body [.ExceptHandler (some (.Name x np)) none (b₀ :: suite) pos'] [] [] pos) (dS G W (mTry errs sub mb ms)) :=
  PS.imp (ps_try_only (tb := fun W => dS G W mb) (ts := fun _ _ _ => dS G W0 ms) (Wout := W) hs hf hc tk hb fun a oe _ _ pn _ _ => hsu a oe pn) fun D σ H ⟨ι, l, s, sm, sl, f⟩ => ⟨ι, l, s, sm, sl, by
    unfold mTry at f
    cases q : mb l s with
    | nx l1 s1 => simp only [q] at f; exact f
    | rt d s1 => simp only [q] at f; exact f
    | bk l1 s1 => simp only [q] at f; exact f
    | ct l1 s1 => simp only [q] at f; exact f
    | no => simp only [q] at f; exact f
    | err c l1 s1 =>
      simp only [q] at f
      by_cases hce : c ∈ errs
      · rw [if_pos hce] at f
        intro ι' σ' H' st sm' sl'
        refine ⟨sub c, by rw [hK]; exact hx c hce, fun hy a ha => ?_, fun hn => ?_⟩
        · rw [if_pos hy] at f; exact ⟨ι', l1, s1, sm', sl', (FinS.noErr f).step st⟩
        · rw [if_neg (by rw [hn]; decide)] at f; exact f ι' σ' H' st sm' sl'
      · rw [if_neg hce] at f; exact f.elim⟩
/-- .. except X as n: what the suite does hangs on the error's class; n is not seen by the store -/
theorem sm_tryAs {x n : Str} {i : Nat} {body suite : List Stmt} {b₀ : Stmt} {np pos' : Pos} {errs : List Str} {sub : Str → Bool} {cl : Str} {mb : SM} {ms : Str → SM} (hK : X.K = G.K) (hs : X.stack = X.env :: X.outer) (hf : X.env.frame = some X.env.locals) (hN : X.N.Nodup) (hi : X.N[i]? = some n) (hln : X.env.kindOf n = some .local) (hc : Names X x (.ref (G.cls cl))) (tk : Takes X W)
    (hx : ∀ c ∈ errs, PySem.W.exmOne G.K (.ref (G.cls c)) (.ref (G.cls cl)) = some (sub c))
    (hb : ∀ (W : WX) (pn : List (Addr × Obj)) (xe : Value → Shared → Prop), Takes (X.tr pn xe) W → PassesOwn (model X.prog X.w) X.A X.env xe → PSs (X.tr pn xe) body (dS G W mb))
    (ts : Addr → Value → Option Addr → TS)
    (hsu : ∀ (a : Addr) (oe : Obj) (cls : Value) (d : Option Addr) (pn : List (Addr × Obj)), Zc cls d oe → (∃ vs, oe.data = .fields vs) → PSs (X.suite a ((a, oe) :: pn)) (b₀ :: suite) (ts a cls d))
    (hts : ∀ (a : Addr) (c : Str) (D : Ends) (σ : L2.St) (H : Hp) (ι : List Addr) (l : Loc) (s : Mem), c ∈ errs → H a = none → SimH G ι s H → Slots G.K ι H l σ → i < σ.length → FinS G W0 ι H (ms c l s) D → ts a (.ref (G.cls c)) none D (σ.set i (some (.ref a))) H) :
    PS X (.Try body [.ExceptHandler (some (.Name x np)) (some n) (b₀ :: suite) pos'] [] [] pos) (dS G W fun l s => match mb l s with
      | .err c l1 s1 => if c ∈ errs ∧ i < l1.length then if sub c = true then (match ms c (l1.set i none) s1 with
          | .nx l2 s2 => .nx (l2.set i none) s2
          | .bk l2 s2 => .bk (l2.set i none) s2
          | .ct l2 s2 => .ct (l2.set i none) s2
          | .rt d s2 => .rt d s2
          | _ => .no) else .err c l1 s1 else .no
      | x => x) :=
  PS.imp (ps_try_as (tb := fun W => dS G W mb) (ts := ts) (Wout := W) hs hf hN hi hln hc tk hb hsu) fun D σ H ⟨ι, l, s, sm, sl, f⟩ => ⟨ι, l, s, sm, sl, by
    cases q : mb l s with
    | nx l1 s1 => simp only [q] at f; exact f
    | rt d s1 => simp only [q] at f; exact f
    | bk l1 s1 => simp only [q] at f; exact f
    | ct l1 s1 => simp only [q] at f; exact f
    | no => simp only [q] at f
            exact f
    | err c l1 s1 =>
      simp only [q] at f
      by_cases hce : c ∈ errs ∧ i < l1.length
      · rw [if_pos hce] at f
        intro ι' σ' H' st sm' sl'
        refine ⟨sub c, by rw [hK]; exact hx c hce.1, fun hy a ha => ?_, fun hn => ?_⟩
        · rw [if_pos hy] at f
          have sl2 := sl'.none i
          have e : σ'.set i (some (V.ref a)) = (σ'.set i none).set i (some (V.ref a)) := by rw [List.set_set]
          rw [e]
          refine hts a c _ _ H' ι' (l1.set i none) s1 hce.1 ha sm' sl2 (by rw [List.length_set, ← sl'.1]; exact hce.2) ?_
          cases q2 : ms c (l1.set i none) s1 with
          | nx l2 s2 => simp only [q2] at f; exact fun ι3 σ3 H3 st3 sm3 sl3 => f ι3 _ H3 (st.trans st3) sm3 (sl3.none i)
          | bk l2 s2 => simp only [q2] at f; exact fun ι3 σ3 H3 st3 sm3 sl3 => f ι3 _ H3 (st.trans st3) sm3 (sl3.none i)
          | ct l2 s2 => simp only [q2] at f; exact fun ι3 σ3 H3 st3 sm3 sl3 => f ι3 _ H3 (st.trans st3) sm3 (sl3.none i)
          | rt d s2 => simp only [q2] at f; exact fun ι3 v H3 st3 sm3 r3 => f ι3 v H3 (st.trans st3) sm3 r3
          | err c' l2 s2 => simp only [q2] at f; exact f.elim
          | no => simp only [q2] at f; exact f.elim
        · rw [if_neg (by rw [hn]; decide)] at f; exact f ι' σ' H' st sm' sl'
      · rw [if_neg hce] at f; exact f.elim⟩
end

/-! ### match -/
abbrev MPm := Mem → D → Option (Option (List (Nat × D)))
def Bnd (G : Gx) (X : Cx) (ι : List Addr) (H : Hp) : List (Str × Value) → List (Nat × D) → Prop := Paired fun (p : Str × Value) (q : Nat × D) =>
  X.N[q.1]? = some p.1 ∧ L2.Loc X.env.scope p.1 ∧ (X.fn p.1 = true ∨ X.env.scope.names.lookup p.1 = some .local) ∧ ∃ v, RelV v p.2 ∧ Rep G.K ι H v q.2
def BndO (G : Gx) (X : Cx) (ι : List Addr) (H : Hp) : Option (List (Str × Value)) → Option (List (Nat × D)) → Prop
  | none, none => True
  | some a, some b => Bnd G X ι H a b
  | _, _ => False
structure MPat (G : Gx) (X : Cx) (p : Pattern) (m : MPm) : Prop where
  run : ∀ (pins : List (Addr × Obj)) (s : Shared) (σ : L2.St) (H : Hp) (ι : List Addr) (st : Mem) (v : V) (u : Value) (d : D) (r : Option (List (Nat × D))) (Q : Option (List (Str × Value)) → Shared → Prop), Inv X pins σ H s → SimH G ι st H → RelV v u → Rep G.K ι H v d → m st d = some r →
    (∀ s' r', Inv X pins σ H s' → BndO G X ι H r' r → Q r' s') → wpAny (model X.prog X.w) X.A (matchPattern p X.env u) Q X.xe s
abbrev MPms := Mem → List D → Option (Option (List (Nat × D)))
structure MPats (G : Gx) (X : Cx) (ps : List Pattern) (m : MPms) : Prop where
  run : ∀ (pins : List (Addr × Obj)) (s : Shared) (σ : L2.St) (H : Hp) (ι : List Addr) (st : Mem) (vs : List V) (us : List Value) (ds : List D) (r : Option (List (Nat × D))) (Q : Option (List (Str × Value)) → Shared → Prop), Inv X pins σ H s → SimH G ι st H → Vals vs us → Reps G.K ι H vs ds → m st ds = some r →
    (∀ s' r', Inv X pins σ H s' → BndO G X ι H r' r → Q r' s') → wpAny (model X.prog X.w) X.A (matchEach ps X.env us) Q X.xe s
def mpLit (z : Str) : MPm := fun st d => match gEqB st d (.str z) with
  | some true => some (some [])
  | some false => some none
  | none => none
def mpCap (i : Nat) : MPm := fun _ d => some (some [(i, d)])
def mpWild : MPm := fun _ _ => some (some [])
def mpOr : List Str → MPm
  | [], _, _ => some none
  | z :: zs, st, d => match gEqB st d (.str z) with
    | some true => some (some [])
    | some false => mpOr zs st d
    | none => none
def mpNil : MPms := fun _ _ => some (some [])
def mpCons (p : MPm) (ps : MPms) : MPms := fun st ds => match ds with
  | d :: r => match p st d with
    | some none => some none
    | some (some bs) => match ps st r with
      | some none => some none
      | some (some more) => some (some (bs ++ more))
      | none => none
    | none => none
  | [] => some (some [])
def mpSeq (n : Nat) (ps : MPms) : MPm := fun st d => match d with
  | .tup ds => if ds.length = n then ps st ds else some none
  | _ => none
theorem eq_read {G : Gx} {ι : List Addr} {s : Mem} {H : Hp} (sm : SimH G ι s H) {x y : D} {b : Bool} (h : gEqB s x y = some b) {v w : V} (rv : Rep G.K ι H v x) (rw : Rep G.K ι H w y) {Q : VK} (q : Q (.bl b) H) : rEqAll G.K v w H Q := by
  rcases dp_eq sm h rv rw with ⟨h1, h2⟩ | ⟨p, q', h1, h2, h3, h4, h5⟩
  · exact .inl ⟨h1, by rw [h2]; exact q⟩
  · exact .inr ⟨p, q', h1, h2, h3, h4, by rw [h5]; exact q⟩
section
variable {G : Gx} {W : WX} {X : Cx} {p : Pattern} {ps : List Pattern} {m : MPm} {ms : MPms} {pos p2 : Pos}
/-- a text compared with the subject: the answer, the state as it was but for tokens -/
theorem lit_run (hK : X.K = G.K) (hu : X.A.units + 64 < cLine) {z : Str} {j : Nat} {pins : List (Addr × Obj)} {s : Shared} {σ : L2.St} {H : Hp} {ι : List Addr} {st : Mem} {v : V} {u : Value} {d : D} {b : Bool} {Q : Option (List (Str × Value)) → Shared → Prop} (I : Inv X pins σ H s) (sm : SimH G ι st H) (rv : RelV v u) (rd : Rep G.K ι H v d) (q : gEqB st d (.str z) = some b)
    (k : ∀ s', Inv X pins σ H s' → if b = true then Q (some []) s' else Q none s') : wpAny (model X.prog X.w) X.A (matchPattern (.MatchValue (.Constant (.str z) j p2) pos) X.env u) Q X.xe s := by
  refine wpAny_matchPattern_Value (Calls.Constant_str ?_)
  have h := eq_read (Q := fun x H' => x = .bl b ∧ H' = H) sm q rd (.str z) ⟨rfl, rfl⟩
  rw [← hK] at h
  refine thn (o_eq hu pins _ σ H v (.str z) u (.str z s.toks) _ (I.tok _) rv ⟨_, rfl⟩ h) fun c s2 ⟨x, H2, I2, r2, e2, e3⟩ => ?_
  subst e2
  subst e3
  cases r2
  refine wpAny_truthy_bool ?_
  exact k s2 I2
theorem mp_lit (hK : X.K = G.K) (hu : X.A.units + 64 < cLine) {z : Str} {j : Nat} : MPat G X (.MatchValue (.Constant (.str z) j p2) pos) (mpLit z) := by
  refine ⟨fun pins s σ H ι st v u d r Q I sm rv rd hm k => ?_⟩
  unfold mpLit at hm
  cases q : gEqB st d (.str z) with
  | none => rw [q] at hm; cases hm
  | some b =>
    rw [q] at hm
    refine lit_run hK hu I sm rv rd q fun s' I' => ?_
    cases b with
    | true => cases hm; rw [if_pos rfl]; exact k s' (some []) I' .nil
    | false => cases hm; rw [if_neg Bool.false_ne_true]; exact k s' none I' trivial
theorem mp_cap {i : Nat} {x : Str} (hi : X.N[i]? = some x) (hx : L2.Loc X.env.scope x) (hf : X.fn x = true ∨ X.env.scope.names.lookup x = some .local := by first | exact .inl rfl | exact .inr rfl) : MPat G X (.MatchAs none (some x) pos) (mpCap i) :=
  ⟨fun pins s σ H ι st v u d r Q I sm rv rd hm k => by
    cases hm
    exact wpAny_matchPattern_Capture (k s (some [(x, u)]) I (.cons ⟨hi, hx, hf, v, rv, rd⟩ .nil))⟩
theorem mp_wild : MPat G X (.MatchAs none none pos) mpWild :=
  ⟨fun pins s σ H ι st v u d r Q I sm rv rd hm k => by
    cases hm
    exact wpAny_matchPattern_Capture (k s (some []) I .nil)⟩
/-- one of some texts -/
structure MFirst (G : Gx) (X : Cx) (ps : List Pattern) (zs : List Str) : Prop where
  run : ∀ (pins : List (Addr × Obj)) (s : Shared) (σ : L2.St) (H : Hp) (ι : List Addr) (st : Mem) (v : V) (u : Value) (d : D) (r : Option (List (Nat × D))) (Q : Option (List (Str × Value)) → Shared → Prop), Inv X pins σ H s → SimH G ι st H → RelV v u → Rep G.K ι H v d → mpOr zs st d = some r →
    (∀ s', Inv X pins σ H s' → (r = none → Q none s') ∧ (r = some [] → Q (some []) s')) → wpAny (model X.prog X.w) X.A (matchFirst ps X.env u) Q X.xe s
theorem mf_nil : MFirst G X [] [] := ⟨fun pins s σ H ι st v u d r Q I sm rv rd hm k => by cases hm; exact wpAny_matchFirst_nil ((k s I).1 rfl)⟩
theorem mf_cons (hK : X.K = G.K) (hu : X.A.units + 64 < cLine) {z : Str} {zs : List Str} {j : Nat} (h : MFirst G X ps zs) : MFirst G X (.MatchValue (.Constant (.str z) j p2) pos :: ps) (z :: zs) := by
  refine ⟨fun pins s σ H ι st v u d r Q I sm rv rd hm k => ?_⟩
  unfold mpOr at hm
  cases q : gEqB st d (.str z) with
  | none => rw [q] at hm; cases hm
  | some b =>
    rw [q] at hm
    refine wpAny_matchFirst_cons (lit_run hK hu I sm rv rd q fun s' I' => ?_)
    cases b with
    | true => cases hm; rw [if_pos rfl]; exact (k s' I').2 rfl
    | false => rw [if_neg Bool.false_ne_true]; exact h.run pins s' σ H ι st v u d r Q I' sm rv rd hm k
theorem mpOr_is {zs : List Str} {st : Mem} {d : D} {r : Option (List (Nat × D))} (h : mpOr zs st d = some r) : r = none ∨ r = some [] := by
  induction zs with
  | nil => cases h; exact .inl rfl
  | cons z zs ih =>
    unfold mpOr at h
    split at h
    · cases h; exact .inr rfl
    · exact ih h
    · cases h
theorem mp_or {zs : List Str} (h : MFirst G X ps zs) (hn : namesOfAll (ps.take 1) = [] := by rfl) : MPat G X (.MatchOr ps pos) (mpOr zs) :=
  ⟨fun pins s σ H ι st v u d r Q I sm rv rd hm k => by
    refine wpAny_matchPattern_Or (h.run pins s σ H ι st v u d r _ I sm rv rd hm fun s' I' => ⟨fun e => ?_, fun e => ?_⟩)
    · subst e; exact k s' none I' trivial
    · subst e
      show Q (some ((namesOfAll (ps.take 1)).filterMap _)) s'
      rw [hn]
      exact k s' (some []) I' .nil⟩
theorem mps_nil : MPats G X [] mpNil := ⟨fun pins s σ H ι st vs us ds r Q I sm rv rd hm k => by
  cases hm
  have e : matchEach [] X.env us = pure (some []) := by cases us <;> rfl
  rw [e]
  exact wpAny_pure (k s (some []) I .nil)⟩
theorem Bnd.append {ι : List Addr} {H : Hp} : ∀ {a b : List (Str × Value)} {a' b' : List (Nat × D)}, Bnd G X ι H a a' → Bnd G X ι H b b' → Bnd G X ι H (a ++ b) (a' ++ b')
  | _, _, _, _, .nil, h => h
  | _, _, _, _, .cons r t, h => .cons r (Bnd.append t h)
theorem mps_cons (hns : p.isStar = false) (h1 : MPat G X p m) (h2 : MPats G X ps ms) : MPats G X (p :: ps) (mpCons m ms) := by
  refine ⟨fun pins s σ H ι st vs us ds r Q I sm rv rd hm k => ?_⟩
  cases rd with
  | nil =>
    cases hm
    cases rv
    have e : matchEach (p :: ps) X.env [] = pure (some []) := by cases p <;> rfl
    rw [e]
    exact wpAny_pure (k s (some []) I .nil)
  | @cons v vs d ds rd rds =>
    cases rv with
    | cons rv rvs =>
      rename_i u us
      simp only [mpCons] at hm
      have e : matchEach (p :: ps) X.env (u :: us) = (do
          match ← holding (u :: us) (matchPattern p X.env u) with
          | none => pure none
          | some bs =>
            match ← holding (bs.map (·.2)) (matchEach ps X.env us) with
            | none => pure none
            | some more => pure (some (bs ++ more))) := by
        cases p <;> first | rfl | cases hns
      rw [e]
      cases q : m st d with
      | none => rw [q] at hm; cases hm
      | some r1 =>
        rw [q] at hm
        refine wpAny_bind (wpAny_holding (h1.run pins s σ H ι st v u d r1 _ I sm rv rd q fun s1 r1' I1 hb => ?_))
        cases r1 with
        | none =>
          cases hm
          cases r1' with
          | none => exact wpAny_pure (k s1 none I1 trivial)
          | some _ => exact hb.elim
        | some bs =>
          cases r1' with
          | none => exact hb.elim
          | some bs' =>
            dsimp only at hm ⊢
            cases q2 : ms st ds with
            | none => rw [q2] at hm; cases hm
            | some r2 =>
              rw [q2] at hm
              refine wpAny_bind (wpAny_holding (h2.run pins s1 σ H ι st vs us ds r2 _ I1 sm rvs rds q2 fun s2 r2' I2 hb2 => ?_))
              cases r2 with
              | none =>
                cases hm
                cases r2' with
                | none => exact wpAny_pure (k s2 none I2 trivial)
                | some _ => exact hb2.elim
              | some more =>
                cases hm
                cases r2' with
                | none => exact hb2.elim
                | some more' => exact wpAny_pure (k s2 (some (bs' ++ more')) I2 (Bnd.append hb hb2))
theorem mp_seq {n : Nat} (hK : X.K = G.K) (hc : X.calm = true) (h : MPats G X ps ms) (hn : ps.length = n := by rfl) (hstar : ps.findIdx? (·.isStar) = none := by rfl) (hwild : (ps.all fun p => p.isWildcard || (p.isStar && p.names.isEmpty)) = false := by rfl) : MPat G X (.MatchSequence ps pos) (mpSeq n ms) := by
  refine ⟨fun pins s σ H ι st v u d r Q I sm rv rd hm k => ?_⟩
  cases rd with
  | @tup a vs ds h1 h2 =>
    cases rv
    simp only [mpSeq] at hm
    obtain ⟨its, rv, ht, hz⟩ := I.tuple (by rw [hK]; exact SqT.of h1)
    have hsz : its.toArray.size = ds.length := by rw [List.size_toArray, ← rv.length, h2.length]
    have hfit : (its.toArray.size : Int) < 2 ^ 63 := by
      have : vs.length ≤ 16777216 := by rw [← sizeLine_eq]; exact hz
      rw [hsz, ← h2.length]; omega
    by_cases hl : ds.length = n
    · rw [if_pos hl] at hm
      refine PyProof.Rows.matchSeq_tuple_hit ht hfit (by rw [hsz, hl, hn]) ?_ hstar hwild
      rw [show ps.length = its.toArray.size by rw [hsz, hl, hn]]
      refine unpackItems_tuple (I.ok.hd hc) ht fun h' hx => ?_
      have I3 : Inv X pins σ H { s with heap := h', toks := s.toks + 1 + 1 } := I.kept fun b o e => hx b o (Nat.ne_of_lt (Heap.lt_size e)) e
      exact h.run pins _ σ H ι st vs its ds r Q I3 sm rv h2 hm k
    · rw [if_neg hl] at hm
      cases hm
      exact PyProof.Rows.matchSeq_tuple_miss ht hfit (by rw [hsz, hn]; exact hl) (k _ none (I.tok _) trivial) hstar hwild
  | _ => cases hm
end
/-- the bound names' slots -/
def setAll (bs : List (Nat × D)) (l : Loc) : Loc := bs.foldl (fun l p => l.set p.1 (some p.2)) l
def mCases : List (MPm × SM) → D → SM
  | [], _, l, s => .nx l s
  | (mp, b) :: r, d, l, s => match mp s d with
    | none => .no
    | some none => mCases r d l s
    | some (some bs) => b (setAll bs l) s
def mMatch (me : EM) (cs : List (MPm × SM)) : SM := fun l s => (me l s).toS l fun d s1 => mCases cs d l s1
structure MCs (G : Gx) (W : WX) (X : Cx) (cases : List MatchCase) (cs : List (MPm × SM)) : Prop where
  run : ∀ (pins : List (Addr × Obj)) (s : Shared) (σ : L2.St) (H : Hp) (En : Ends) (ι : List Addr) (l : Loc) (st : Mem) (v : V) (u : Value) (d : D) (first : Bool), Inv X pins σ H s → SimH G ι st H → Slots G.K ι H l σ → RelV v u → Rep G.K ι H v d → FinS G W ι H (mCases cs d l st) En →
    wpAny (model X.prog X.w) X.A (matchCases cases X.env u first) (fun f s' => SP X pins En f s') X.xe s
section
variable {G : Gx} {W : WX} {X : Cx} {p : Pattern} {m : MPm} {pos : Pos}
theorem bnd_assign {pins : List (Addr × Obj)} {H : Hp} {ι : List Addr} {E : Value → Shared → Prop} (hN : X.N.Nodup) : ∀ {bs' : List (Str × Value)} {bs : List (Nat × D)} {s : Shared} {σ : L2.St} {l : Loc} {Q : Unit → Shared → Prop}, Bnd G X ι H bs' bs → Inv X pins σ H s → Slots G.K ι H l σ →
    (∀ s' σ', Inv X pins σ' H s' → Slots G.K ι H (setAll bs l) σ' → Q () s') → wpAny (model X.prog X.w) X.A (assignInOrder (bs'.map fun (n, _) => bindName X.env n) (bs'.map (·.2))) Q E s
  | _, _, s, σ, l, Q, .nil, I, sl, k => wpAny_assignInOrder_none (k s σ I sl)
  | _, _, s, σ, l, Q, .cons (a := a) (b := b) r t, I, sl, k => by
    obtain ⟨h1, h2, h3, v, h4, h5⟩ := r
    exact wpAny_assignInOrder_more (wpAny_bindName (store_ok I hN h1 h2 h4 (fun s' I' => bnd_assign hN t I' (sl.set b.1 h5) k) h3))
theorem mcs_nil : MCs G W X [] [] := ⟨fun pins s σ H En ι l st v u d first I sm sl rv rd f => wpAny_matchCases_nil ⟨σ, H, I, f ι σ H .refl sm sl⟩⟩
theorem mcs_cons {body : List Stmt} {rest : List MatchCase} {mb : SM} {cs : List (MPm × SM)} (hN : X.N.Nodup) (hp : MPat G X p m) (hb : PSs X body (dS G W mb)) (hr : MCs G W X rest cs) : MCs G W X (⟨p, none, body⟩ :: rest) ((m, mb) :: cs) := by
  refine ⟨fun pins s σ H En ι l st v u d first I sm sl rv rd f => ?_⟩
  simp only [mCases] at f
  cases q : m st d with
  | none => rw [q] at f; exact f.elim
  | some r =>
    rw [q] at f
    refine wpAny_matchCases_cons (hp.run pins s σ H ι st v u d r _ I sm rv rd q fun s1 r1 I1 hbd => ?_)
    cases r with
    | none =>
      cases r1 with
      | none => exact hr.run pins s1 σ H En ι l st v u d false I1 sm sl rv rd f
      | some _ => exact hbd.elim
    | some bs =>
      cases r1 with
      | none => exact hbd.elim
      | some bs' => exact bnd_assign hN hbd I1 sl fun s2 σ2 I2 sl2 => hb.run pins s2 σ2 H En I2 ⟨ι, _, st, sm, sl2, f⟩
theorem sm_match {e : Expr} {me : EM} {cases : List MatchCase} {cs : List (MPm × SM)} (he : PE X e (dE G W me)) (hc : MCs G W X cases cs) : PS X (.Match e cases pos) (dS G W (mMatch me cs)) := by
  refine ⟨fun pins s σ H En I h => ?_⟩
  obtain ⟨ι, l, st, sm, sl, f⟩ := h
  refine wpAny_Match (thn (he.run pins s σ H (fun v H1 => ∃ d ι1 st1, Stp G.K ι H ι1 H1 ∧ SimH G ι1 st1 H1 ∧ Rep G.K ι1 H1 v d ∧ FinS G W ι1 H1 (mCases cs d l st1) En) I ⟨ι, l, st, sm, sl, f.toS sl fun d s1 ι1 v H1 st1 sm1 r1 f1 => ⟨d, ι1, s1, st1, sm1, r1, f1⟩⟩) fun u s1 ⟨v, H1, I1, rv, d, ι1, st1, stp, sm1, rd, f1⟩ => ?_)
  exact hc.run pins s1 σ H1 En ι1 l st1 v u d true I1 sm1 (sl.mono stp) rv rd f1
end
end Core

set_option Elab.async false
set_option linter.all false
set_option maxRecDepth 100000
set_option maxHeartbeats 4000000
/-! Core: a def by its body; what the top has left -/
namespace Core
open PySem PySem.Spec PyProof.Rows L2

def fin (r : RS) : R D := match r with
  | .nx _ s => .ok .non s
  | .rt d s => .ok d s
  | .err c _ s => .err c s
  | _ => .no
def startL (n : Nat) (ds : List D) : Loc := ds.map some ++ List.replicate (n - ds.length) none
theorem slots_start {K : PySem.W.Frag} {ι : List Addr} {H : Hp} {N : List Str} : ∀ {vs : List V} {ds : List D}, Reps K ι H vs ds → Slots K ι H (startL N.length ds) (L2.start N vs) := by
  intro vs ds r
  unfold startL L2.start
  rw [r.length]
  refine ⟨by simp [r.length], fun i d e => ?_⟩
  by_cases hi : i < ds.length
  · rw [List.getElem?_append_left (by simpa using hi), List.getElem?_map] at e
    cases q : ds[i]? with
    | none => rw [q] at e; cases e
    | some d' =>
      rw [q] at e
      cases e
      obtain ⟨v, h1, h2⟩ := r.get q
      exact ⟨v, by rw [List.getElem?_append_left (by rw [List.length_map, r.length]; exact hi), List.getElem?_map, h1]; rfl, h2⟩
  · rw [List.getElem?_append_right (by simpa using hi), List.getElem?_replicate] at e
    split at e <;> cases e
/-- a def's meaning: so many arguments, so many slots, its body -/
def defM (n sl : Nat) (m : SM) : List D → Mem → R D := fun ds s => if ds.length = n then Core.fin (m (startL sl ds) s) else .no
section
variable {P : Program} {w : World} {K : PySem.W.Frag} {mg : Str → Option Value} {base : Heap} {G : Gx} {x qual : Str} {st : Stmt} {f : Addr} {fd : FuncData} {N ps : List Str} {n k : Nat} {m : SM}
theorem def_ok (F : FunD K x qual (defArgs st) (defBody st) (defScope st) [] [] f fd) (S : FnScope N ps (defScope st)) (hl : ps.length = n)
    (hb : ∀ (cdv : Value) (A : Around) (outer : List Env) (s : Shared) (H : Hp) (E : XK), (∃ oc od osl, K.lookup f = some ⟨oc, od, .func fd, osl⟩ ∧ fd.code = cdv ∧ PySem.W.codeIn K cdv qual = true) → Room k (A.deeper (envOfC qual (defScope st) s.heap.objs.size f cdv)) →
      Takes (cxOf (L2.CX P w) P w K mg base N qual (defScope st) f cdv A outer s H E) (fun cls d _ H => E cls d H) → PassesOwn (model P w) (A.deeper (envOfC qual (defScope st) s.heap.objs.size f cdv)) (envOfC qual (defScope st) s.heap.objs.size f cdv) (cxOf (L2.CX P w) P w K mg base N qual (defScope st) f cdv A outer s H E).xe →
      PSs (cxOf (L2.CX P w) P w K mg base N qual (defScope st) f cdv A outer s H E) (defBody st) (dS G (fun cls d _ H => E cls d H) m)) :
    FnOk P w K mg base (L2.CX P w) (k + 1) f fd ps (spOf G n (defM n N.length m)) := by
  obtain ⟨oc, od, dV, kV, doc, pm, an, cdv, ct, osl, rfl, lk, hcd, _, _⟩ := F.ex
  refine fn_of lk hcd S (fun vs H Q E h => (spOf_len vs H Q E h).trans hl.symm) fun A outer s H vs Q E hr hsp => ⟨_, hb cdv A outer s H E ⟨oc, od, osl, lk, rfl, hcd⟩ hr (takes_of rfl rfl rfl rfl) (passes_of rfl), ?_⟩
  obtain ⟨ι, s0, ds, sm, r, hlen, h⟩ := hsp
  refine ⟨ι, startL N.length ds, s0, sm, slots_start r, ?_⟩
  unfold defM at h
  rw [if_pos hlen] at h
  cases q : m (startL N.length ds) s0 with
  | nx l s1 => simp only [q, Core.fin] at h; exact fun ι' σ' H' st' sm' sl' => h ι' _ H' st' sm' .non
  | rt d s1 => simp only [q, Core.fin] at h; exact h
  | err c l s1 => simp only [q, Core.fin] at h; exact fun ι' σ' H' st' sm' sl' => h ι' H' st' sm'
  | bk l s1 => simp only [q, Core.fin] at h
  | ct l s1 => simp only [q, Core.fin] at h
  | no => simp only [q, Core.fin] at h
theorem no_ok {c : List D → Mem → R D} (hc : ∀ ds s, c ds s = .no) (hl : ps.length = n) {CX : CXT} {fd : FuncData} {f : Addr} : FnOk P w K mg base CX k f fd ps (spOf G n c) :=
  ⟨fun vs H Q E h => (spOf_len vs H Q E h).trans hl.symm, fun A outer s H args us vs Q E hr he hb hv hs => by
    obtain ⟨ι, s0, ds, sm, r, hlen, h⟩ := hs
    rw [hc] at h
    exact h.elim⟩
end
/-- a def that may be called: its promise, that it may be kept, how its arguments are bound -/
def CallOk (P : Program) (w : World) (K : PySem.W.Frag) (mg : Str → Option Value) (base : Heap) (G : Gx) (k : Nat) (f : Addr) (ps : List Str) (n : Nat) (c : List D → Mem → R D) : Prop :=
  ∃ fd, FnOk P w K mg base (L2.CX P w) k f fd ps (spOf G n c) ∧ PySem.W.keepIn K (.ref f) = true ∧ Binds K fd ps []
section
variable {G : Gx} {W : WX} {X : Cx} {k : Nat} {f : Addr} {ps : List Str} {n : Nat} {c : List D → Mem → R D} {x m cl : Str} {p pos apos : Pos} {e o : Expr} {es : List Expr} {mo : EM} {mA : AM}
theorem em_callE (F : CallOk X.prog X.w X.K X.mg X.base G k f ps n c) (hr : Room k X.A) (tk : Takes X W) (hg : Gl X x) (hm : X.mg x = some (.ref f))
    (ha : PA X (e :: es) (dA G W mA)) (hdb : (x == ("__debug__" : Str)) = false := by decide) (he : starEach (e :: es) X.env = (false, eval e X.env) :: starEach es X.env := by rfl) (hpl : (backTo pos (starEach es X.env)).any (·.1) = false := by rfl) :
    PE X (.Call (.Name x p) (e :: es) [] pos) (dE G W (mCall n c mA)) := let ⟨_, F1, hk, hb⟩ := F; em_call F1 hr tk hg hm hk hb ha hdb he hpl
theorem em_call0E (F : CallOk X.prog X.w X.K X.mg X.base G k f ps n c) (hr : Room k X.A) (tk : Takes X W) (hg : Gl X x) (hm : X.mg x = some (.ref f)) (hn : n = 0)
    (hdb : (x == ("__debug__" : Str)) = false := by decide) : PE X (.Call (.Name x p) [] [] pos) (dE G W (mCall n c mNil)) := let ⟨_, F1, hk, hb⟩ := F; em_call0 F1 hr tk hg hm hk hb hn hdb
theorem em_methE {pl : Sem Bool} (F : CallOk X.prog X.w X.K X.mg X.base G k f ps n c) (hK : X.K = G.K) (ho : PE X o (dE G W mo)) (cC : Cls G.K (G.cls cl)) (hm : Meth G.K (G.cls cl) m f) (hr : Room k X.A) (tk : Takes X W)
    (ha : PA X (e :: es) (dA G W mA)) (hst : starEach (e :: es) X.env = (false, eval e X.env) :: starEach es X.env := by rfl) (hpl : (backTo pos (starEach es X.env)).any (·.1) = false := by rfl)
    (ht : eval (.Call (.Attribute o m apos) (e :: es) [] pos) X.env = (do
      let ov ← eval o X.env
      standAt apos.atName
      let (f, first) ← holding [ov] (getMethod ov m pl)
      callWith pos f first (backTo pos (starEach (e :: es) X.env)) (backToKw pos (keywordEach [] X.env))) := by rfl) :
    PE X (.Call (.Attribute o m apos) (e :: es) [] pos) (dE G W (mMethC cl m n c mo mA)) := let ⟨_, F1, hk, hb⟩ := F; em_meth hK ho cC hm F1 hr tk hb ha hst hpl ht
theorem em_meth0E {pl : Sem Bool} (F : CallOk X.prog X.w X.K X.mg X.base G k f ps n c) (hK : X.K = G.K) (ho : PE X o (dE G W mo)) (cC : Cls G.K (G.cls cl)) (hm : Meth G.K (G.cls cl) m f) (hr : Room k X.A) (tk : Takes X W) (hn : n = 1)
    (ht : eval (.Call (.Attribute o m apos) [] [] pos) X.env = (do
      let ov ← eval o X.env
      standAt apos.atName
      let (f, first) ← holding [ov] (getMethod ov m pl)
      callWith pos f first (backTo pos (starEach [] X.env)) (backToKw pos (keywordEach [] X.env))) := by rfl) :
    PE X (.Call (.Attribute o m apos) [] [] pos) (dE G W (mMethC cl m n c mo mNil)) := let ⟨_, F1, hk, hb⟩ := F; em_meth0 hK ho cC hm F1 hr tk hb hn ht
theorem em_makeE (F : CallOk X.prog X.w X.K X.mg X.base G k f ps n c) (hK : X.K = G.K) (M : Mk G.K (G.cls cl) f) (hr : Room (k + 1) X.A) (tk : Takes X W) (hg : Gl X x) (hm : X.mg x = some (.ref (G.cls cl)))
    (ha : PA X (e :: es) (dA G W mA)) (hdb : (x == ("__debug__" : Str)) = false := by decide) (he : starEach (e :: es) X.env = (false, eval e X.env) :: starEach es X.env := by rfl) (hpl : (backTo pos (starEach es X.env)).any (·.1) = false := by rfl) :
    PE X (.Call (.Name x p) (e :: es) [] pos) (dE G W (mMake cl n c mA)) := let ⟨_, F1, hk, hb⟩ := F; em_make hK M F1 hr tk hg hm hb ha hdb he hpl
theorem sm_break : PS X (.Break pos) (dS G W fun l s => .bk l s) := PS.imp ps_break fun D σ H ⟨ι, l, s, sm, sl, f⟩ => f ι σ H .refl sm sl
theorem sm_continue : PS X (.Continue pos) (dS G W fun l s => .ct l s) := PS.imp ps_continue fun D σ H ⟨ι, l, s, sm, sl, f⟩ => f ι σ H .refl sm sl
theorem s_ipI {g : Int → Int → Int} : OpS2 G (ipI g) (gI2 fun i j => .int (g i j)) := by
  intro W σ ι s H v w x y Q sm rv rw f
  cases rv with
  | int i => cases rw with
    | int j => exact ⟨i, j, rfl, rfl, f.here sm (.int _)⟩
    | _ => exact f.elim
  | _ => exact f.elim
/-- o.f op= e -/
theorem sm_fldaug {op : Operator} {rd : V → V → Hp → VK → Prop} {g : D → D → Mem → R D} {value : Expr} {f : Str} {tpos : Pos} {cs : List Str} {mv : EM} (hK : X.K = G.K) (hF : FldOk G cs f) (ho : PE X o (dE G W mo)) (hv : PE X value (dE G W mv)) (hop : InOp X op rd) (hg : OpS2 G rd g) :
    PS X (.AugAssign (.Attribute o f tpos) op value pos) (dS G W (mAugF cs f g mo mv)) :=
  PS.imp (ps_fldaug ho hv hop) fun D σ H ⟨ι, l, s, sm, sl, f0⟩ => ⟨ι, l, s, sm, sl, f0.toS sl fun x s1 ι1 v H1 st1 sm1 r1 f1 => by
    cases r1 with
    | @ref a n h1 =>
      simp only [gFld] at f1
      split at f1
      · rename_i c fs q
        by_cases hc : c ∈ cs
        · rw [if_pos hc] at f1
          cases q2 : fs.lookup f with
          | none => simp only [q2] at f1; exact f1.elim
          | some d =>
            simp only [q2, R.toS] at f1
            obtain ⟨dx, ws, k1, k2⟩ := sm1.ob n a _ h1 q
            obtain ⟨w, k3, k4⟩ := k2.lookup q2
            obtain ⟨c1, c2⟩ := hF c hc
            refine ⟨a, G.cls c, dx, ws, w, rfl, k1, by rw [hK]; exact c1, by rw [hK]; exact c2, k3, ι1, l, s1, sm1, sl.mono st1, FinS.toS f1 (sl.mono st1) fun y s2 ι2 u H2 st2 sm2 r2 f2 => ?_⟩
            refine hg W σ ι2 s2 H2 w u d y _ sm2 (k4.mono st2) r2 (f2.toS ((sl.mono st1).mono st2) fun z s3 ι3 t H3 st3 sm3 r3 f3 => ?_)
            have h3 := st3.pre _ _ (st2.pre _ _ h1)
            split at f3
            · rename_i c' fs' q3
              by_cases hc' : c' ∈ cs ∧ fs'.length < 900 ∧ clsAt s1 n = some c'
              · rw [if_pos hc'] at f3
                obtain ⟨h4, h5, h6⟩ := hc'
                have e : c = c' := by unfold clsAt at h6; rw [q] at h6; exact Option.some.inj h6
                subst e
                obtain ⟨dx', ws', j1, j2⟩ := sm3.ob n a _ h3 q3
                refine ⟨dx', ws', j1, by rw [j2.length]; omega, ?_⟩
                have nt : NoTup (upd H3 a (.ins (G.cls c) dx' (putF f t ws'))) a := NoTup.of upd_same (fun _ e => by cases e) (fun _ _ e => by cases e)
                obtain ⟨w1, w2⟩ := sm3.write (o' := .ins c (putD f z fs')) (u := .ins (G.cls c) dx' (putF f t ws')) h3 q3 rfl rfl (fun _ => ⟨dx', _, upd_same, (j2.put r3).mono (Stp.mut (NoTup.of j1 (fun _ e => by cases e) (fun _ _ e => by cases e)))⟩) nt
                exact f3 ι3 σ _ w2 w1 ((((sl.mono st1).mono st2).mono st3).mono w2)
              · rw [if_neg hc'] at f3; exact f3.elim
            · exact f3.elim
        · rw [if_neg hc] at f1; exact f1.elim
      · exact f1.elim
    | _ => exact f1.elim⟩
end
/-- what the top has left: the facts, the functions, where the names stand -/
structure Top (K : PySem.W.Frag) (mg : Str → Option Value) (fa : List He.Fa) (fn : List He.DefD) : Prop where
  says : He.SaysD fa fn K
  ns : ∃ h : Heap, K.In h ∧ h.Ns mainGlobals mg
section
variable {K : PySem.W.Frag} {mg : Str → Option Value} {fa : List He.Fa} {fn : List He.DefD}
theorem Top.glo (T : Top K mg fa fn) (i : Nat) {x : Str} (h : fa[i]? = some (.glo x)) : mg x = some (.ref (He.ga K x)) := let ⟨_, X, g⟩ := T.ns; He.glo_ok X g (T.says.fact i h)
theorem Top.free (T : Top K mg fa fn) (i : Nat) {x : Str} (h : fa[i]? = some (.free x)) : mg x = none := let ⟨_, X, g⟩ := T.ns; He.free_ok X g (T.says.fact i h)
theorem Top.int (T : Top K mg fa fn) (i : Nat) {x : Str} {z : Int} (h : fa[i]? = some (.int x z)) : ∃ t, mg x = some (.int z t) := let ⟨_, X, g⟩ := T.ns; He.int_ok X g (T.says.fact i h)
theorem Top.cls (T : Top K mg fa fn) (i : Nat) {x : Str} (h : fa[i]? = some (.cls x)) : Cls K (He.ga K x) := He.cls_ok (T.says.fact i h)
theorem Top.noat (T : Top K mg fa fn) (i : Nat) {x f : Str} (h : fa[i]? = some (.noat x f)) : NoAttr K (He.ga K x) f := He.noat_ok (T.says.fact i h)
theorem Top.meth (T : Top K mg fa fn) (i : Nat) {x m : Str} (h : fa[i]? = some (.meth x m)) : Meth K (He.ga K x) m (He.ma K (He.ga K x) m) := He.meth_ok (T.says.fact i h)
theorem Top.mkr (T : Top K mg fa fn) (i : Nat) {x : Str} (h : fa[i]? = some (.mkr x)) : Mk K (He.ga K x) (He.ma K (He.ga K x) "__init__") := He.mkr_ok (T.says.fact i h)
theorem Top.exc (T : Top K mg fa fn) (i : Nat) {x : Str} (h : fa[i]? = some (.exc x)) : ExcOk K (He.ga K x) := let ⟨a, b, c, d⟩ := He.exc_ok (T.says.fact i h); ⟨a, b, c, d⟩
theorem Top.exm (T : Top K mg fa fn) (i : Nat) {x y : Str} {b : Bool} (h : fa[i]? = some (.exm x y b)) : PySem.W.exmOne K (.ref (He.ga K x)) (.ref (He.ga K y)) = some b := He.exm_ok (T.says.fact i h)
theorem Top.keep (T : Top K mg fa fn) (i : Nat) {x : Str} (h : fa[i]? = some (.keep x)) : PySem.W.keepIn K (.ref (He.ga K x)) = true := He.keep_ok (T.says.fact i h)
end
end Core

set_option Elab.async false
set_option linter.all false
set_option maxRecDepth 100000
set_option maxHeartbeats 4000000
/-! Core: the number of the different ones among texts -/
namespace Core
open PySem PySem.Spec PyProof.Rows L2

def addS (l : List Str) (x : Str) : List Str := if l.any (· == x) then l else l ++ [x]
def metS (xs : List Str) : List Str := xs.foldl addS []
theorem metS_snoc (xs : List Str) (x : Str) : metS (xs ++ [x]) = addS (metS xs) x := by unfold metS; rw [List.foldl_append]; rfl
theorem addS_any (l : List Str) (x k : Str) : (addS l x).any (· == k) = (l.any (· == k) || decide (k = x)) := by
  unfold addS
  by_cases h : l.any (· == x) = true
  · rw [if_pos h]
    by_cases e : k = x
    · subst e; rw [h]; simp
    · simp [e]
  · rw [if_neg h, List.any_append]
    by_cases e : k = x
    · subst e; simp
    · have hb : (x == k) = false := beq_eq_false_iff_ne.mpr fun h' => e h'.symm
      simp [hb, e]
theorem addS_len (l : List Str) (x : Str) : (addS l x).length = if l.any (· == x) then l.length else l.length + 1 := by unfold addS; split <;> simp
theorem metS_le (xs : List Str) : ∀ l : List Str, (xs.foldl addS l).length ≤ l.length + xs.length := by
  induction xs with
  | nil => intro l; exact Nat.le_refl _
  | cons x r ih =>
    intro l
    have h := ih (addS l x)
    have e : (addS l x).length ≤ l.length + 1 := by rw [addS_len]; split <;> omega
    simp only [List.foldl_cons, List.length_cons]
    omega
section
variable {P : Program} {w : World} {A : Around} {R : Result → Shared → Prop} {I : Addr} {fp wr : List Addr} {G : Array GenState → Array GenState → Prop} {n : Nat} {Pv : Nat → Value → Prop} {St : Nat → Shared → Prop}
theorem setLoop (W : WalksS P w A.in1 I fp wr G n Pv St) (S : Addr) (hSf : S ∉ fp) (xs : List Str) (hsz : xs.length = n) (hb : n + 1 < scanBound) (hval : ∀ i v, Pv i v → ∃ t, v = .str (xs.getD i Str.empty) t) :
    ∀ (k i : Nat) (s : Shared), i + k = n → St i s → s.heap.SetOf (PySem.strKind P w) S (fun z => (metS (xs.take i)).any (· == z)) (metS (xs.take i)).length →
      (∀ s', Moved (S :: wr) G s s' → s'.heap.SetOf (PySem.strKind P w) S (fun z => (metS xs).any (· == z)) (metS xs).length → R (.ok (.ret .none)) s') →
      codeAny (model P w) A (.builtin "set.update.loop" ⟨[.ref S, .ref I], []⟩) R s
  | 0, i, s, hk, hst, hS, hR => by
    have hi : i = n := hk
    subst hi
    have hSw : S ∉ wr := fun h => hSf (W.sub _ h)
    rw [← hsz, List.take_length] at hS
    refine codeAny_builtin PyProof.Rows.F.entry_set_update_loop ?_
    rw [Around.under_plainId PyProof.Rows.F.plain_set_update_loop _]
    refine wpAny_bind (m := pyNext (.ref I)) (W.done s _ _ hst fun s' hm => ?_)
    have hm' : Moved (S :: wr) G s s' := hm.mono fun b q => List.mem_cons_of_mem _ q
    show wpAny _ A.in1 (ret Value.none) _ _ s'
    exact wpAny_pure (hR s' hm' (let ⟨o, es, ep, t, ho, rest⟩ := hS; ⟨o, es, ep, t, hm.heap S _ hSw ho, rest⟩))
  | k + 1, i, s, hk, hst, hS, hR => by
    have hlt : i < n := by omega
    have hSw : S ∉ wr := fun h => hSf (W.sub _ h)
    refine codeAny_builtin PyProof.Rows.F.entry_set_update_loop ?_
    rw [Around.under_plainId PyProof.Rows.F.plain_set_update_loop _]
    refine wpAny_bind (m := pyNext (.ref I)) (W.item i s _ _ hlt hst fun v s' hP hst' hm => ?_)
    obtain ⟨t, rfl⟩ := hval i v hP
    have hS1 : s'.heap.SetOf (PySem.strKind P w) S (fun z => (metS (xs.take i)).any (· == z)) (metS (xs.take i)).length := let ⟨o, es, ep, tb, ho, rest⟩ := hS; ⟨o, es, ep, tb, hm.heap S _ hSw ho, rest⟩
    have hil : i < xs.length := by omega
    have hx : xs.getD i Str.empty = xs[i] := by rw [List.getD_eq_getElem?_getD, List.getElem?_eq_getElem hil]; rfl
    have htk : metS (xs.take (i + 1)) = addS (metS (xs.take i)) (xs.getD i Str.empty) := by rw [List.take_succ, List.getElem?_eq_getElem hil, hx]; exact metS_snoc _ _
    have hroom : (metS (xs.take i)).length + 1 < scanBound := by
      have := metS_le (xs.take i) []
      have e : (xs.take i).length = i := by rw [List.length_take]; omega
      unfold metS
      simp only [List.length_nil] at this
      omega
    refine wpAny_bind (m := holding [Value.str (xs.getD i Str.empty) t] (setAdd S (.str (xs.getD i Str.empty) t))) (wpAny_holding ?_)
    unfold setAdd
    refine wpAny_holding (wpAny_bind ((PySem.strKind P w).pyHash (k := xs.getD i Str.empty) (strKind_is _ _ _ _) ?_))
    refine wpAny_setAddHashed_of (knd := PySem.strKind P w) (s := { s' with toks := s'.toks + 1 }) (strKind_is _ _ _ _) rfl hS1 hroom fun h' hsb hS2 => ?_
    have same : ∀ b, b ≠ S → h'.get? b = s'.heap.get? b := fun b q => hsb.2 b q
    have hS3 := SetOf_congr (S' := fun z => (metS (xs.take (i + 1))).any (· == z)) (n' := (metS (xs.take (i + 1))).length) hS2 (fun z => by rw [htk, addS_any]) (by rw [htk, addS_len])
    refine wpAny_pure ⟨plainId_quiet PyProof.Rows.F.plain_set_update_loop _, setLoop W S hSf xs hsz hb hval k (i + 1) _ (by omega) (W.frame _ s' _ _ hst' (Nat.le_succ _) fun b q o e => ?_) hS3 fun s2 hm2 hS4 => hR s2 (Moved.trans W.gtrans ((hm.mono fun b q => List.mem_cons_of_mem _ q).then_heap (Nat.le_succ _) fun b o q e => ?_) hm2) hS4⟩
    · rw [same b fun z => hSf (z ▸ q)]; exact e
    · rw [same b fun z => q (z ▸ List.mem_cons_self)]; exact e
end
section
variable {P : Program} {w : World} {A : Around} {E : Value → Shared → Prop} {s : Shared}
/-- an empty set, new -/
def set0 (led : Bool) : Obj := { cls := .type "set", dict := none, data := .set #[] 0 (.fresh 0 0 led) }
/-- set(xs) of texts in a sequence of the type T, walked by the iterator type IT -/
structure SeqWay (P : Program) (w : World) (T IT : String) : Prop where
  set : isSubtype (.type T) (.type "set") = pure false
  froz : isSubtype (.type T) (.type "frozenset") = pure false
  dict : (Value.type T == Value.type "dict") = false
  way : ∀ {A A' : Around} {E : Value → Shared → Prop} {s : Shared} {l : Addr} {o : Obj} {items : Array Value} {n : Nat} {Q : Value → Shared → Prop}, A'.handled = none → s.heap.get? l = some o → o.cls = .type T → o.data = .seq items n →
    (∀ St : Nat → Shared → Prop, WalksS P w A' s.heap.objs.size [s.heap.objs.size, l] [s.heap.objs.size] (fun a b => b = a) items.size (fun i v => items[i]? = some v) St → St 0 { s with heap := s.heap.push { cls := .type IT, data := .fields #[.ref l, .int 0 0] } } →
      Q (.ref s.heap.objs.size) { s with heap := s.heap.push { cls := .type IT, data := .fields #[.ref l, .int 0 0] } }) → wpAny (model P w) A (pyIter (.ref l)) Q E s
theorem wayL : SeqWay P w "list" "list_iterator" where
  set := PySem.F.sub_list_set
  froz := PySem.F.sub_list_frozenset
  dict := by decide
  way := fun {A A' E s l o items n Q} hh ho hc hd h => by
    have hl : s.heap.IsList l items := ⟨o, ho, hc, n, hd⟩
    have hne : l ≠ s.heap.objs.size := Nat.ne_of_lt (Heap.lt_size ho)
    exact wpAny_pyIter_list hl (h _ ((Walks.list hh _ l hne items).toS) ⟨⟨_, Heap.get?_push_size _ rfl, rfl, rfl⟩, hl.push _⟩)
theorem wayT : SeqWay P w "tuple" "tuple_iterator" where
  set := PySem.F.sub_tuple_set
  froz := PySem.F.sub_tuple_frozenset
  dict := by decide
  way := fun {A A' E s l o items n Q} hh ho hc hd h => by
    have hl : s.heap.IsTuple l items := ⟨o, ho, hc, n, hd⟩
    have hne : l ≠ s.heap.objs.size := Nat.ne_of_lt (Heap.lt_size ho)
    exact wpAny_pyIter_tuple hl (h _ ((Walks.tuple hh _ l hne items).toS) ⟨⟨_, Heap.get?_push_size _ rfl, rfl, rfl⟩, hl.push _⟩)
theorem setSeq {T IT : String} (y : SeqWay P w T IT) {l : Addr} {o : Obj} {items : Array Value} {n : Nat} {xs : List Str} {Q : Value → Shared → Prop} (hh : A.handled = none) (ho : s.heap.get? l = some o) (hc : o.cls = .type T) (hd : o.data = .seq items n)
    (hi : StrsAre items.toList xs) (hb : xs.length + 1 < scanBound)
    (h : ∀ (h' : Heap) (tk : Nat), h'.SetOf (PySem.strKind P w) s.heap.objs.size (fun z => (metS xs).any (· == z)) (metS xs).length → (∀ b o, b < s.heap.objs.size → s.heap.get? b = some o → h'.get? b = some o) →
      Q (.ref s.heap.objs.size) { s with heap := h', toks := tk }) :
    wpAny (model P w) A (call (.type "set") [.ref l]) Q E s := by
  obtain ⟨c, tl, hmro⟩ := PySem.F.called_set.mro
  have made := PySem.F.called_set.made
  have self := PySem.F.called_set.sub
  have notT := PySem.F.called_set.notType
  have can := PySem.F.called_set.canCreate
  have chk := PySem.F.typeCall_set_1 (.ref l)
  have ini := PySem.F.called_set.init.lookup
  have bnd := PySem.F.called_set.init.bind (.ref s.heap.objs.size)
  have ys := y.set
  have yf := y.froz
  have yd := y.dict
  obtain ⟨ocls, odict, odata, oslots⟩ := o
  cases hc
  cases hd
  refine wpAny_call (codeAny_of_tree ?_)
  show wpAny _ _ (callAny (.type "set") _) _ _ _
  refine wpAny_pure ⟨Code.quiet_builtin _ (by decide +kernel), codeAny_builtin PySem.F.entry_type_call ?_⟩
  rw [Around.under_plain (weight_type_call_type "set" [.ref l] []) rfl]
  repeat (any_goals (first | assumption | wp_step))
  have lt : l < s.heap.objs.size := Heap.lt_size ho
  refine codeAny_mono (code_set_new_1 (.ref l) (E := E) (Q₁ := fun r s1 => ∃ led : Bool, r = .ref s.heap.objs.size ∧ s1 = { s with heap := s.heap.push (set0 led) }) fun led => ⟨led, rfl, rfl⟩) fun r s1 hr => ?_
  rcases r with e | fl
  case error => exact hr
  cases fl with
  | ret r =>
    obtain ⟨led, rfl, rfl⟩ := hr
    have g0 : (s.heap.push (set0 led)).get? s.heap.objs.size = some (set0 led) := Heap.get?_push_size _ rfl
    have ty0 : Shared.TypeIs { s with heap := s.heap.push (set0 led) } (.ref s.heap.objs.size) "set" := ⟨_, g0, rfl⟩
    repeat (any_goals (first | assumption | wp_step))
    refine codeAny_mono (codeAny_call_builtin (R := wants (fun r s2 => r = .none ∧ ∃ h' tk, s2 = { s with heap := h', toks := tk } ∧ h'.SetOf (PySem.strKind P w) s.heap.objs.size (fun z => (metS xs).any (· == z)) (metS xs).length ∧
        ∀ b o, b < s.heap.objs.size → s.heap.get? b = some o → h'.get? b = some o) E) PySem.F.called_set.init.plain PySem.F.entry_set_init (check_set_init_1 ty0 ?_)) fun r2 s2 hr2 => ?_
    · have gl : (s.heap.push (set0 led)).get? l = some { cls := .type T, dict := odict, data := .seq items n, slots := oslots } := Heap.get?_push_of_some _ ho
      unfold set0 at g0 gl
      unfold Builtin.«set.__init__» noKeywords Builtin.Frozenset.updateFrom set0
      generalize hPI : pyIter = PI
      wp_walk
      subst hPI
      refine y.way (A' := A.in1.in1.in1) (by simp [hh]) gl rfl rfl fun St W st => ?_
      refine wpAny_bind (wpAny_runValue ?_)
      have n1 : s.heap.objs.size ≠ (s.heap.push (set0 led)).objs.size := by rw [Heap.size_push]; exact Nat.ne_of_lt (Nat.lt_succ_self _)
      have hsz : xs.length = items.size := by rw [← StrsAre.len_eq hi, Array.length_toList]
      refine setLoop W s.heap.objs.size (fun q => ?_) xs hsz (by rw [← hsz]; exact hb) (fun i v hv => SS.strs_at hi i v (by rw [Array.getElem?_toList]; exact hv)) items.size 0 _ (Nat.zero_add _) st ?_ fun s3 hm hS => ?_
      · rcases List.mem_cons.mp q with q | q
        · exact n1 q
        · exact absurd (List.mem_singleton.mp q) (Nat.ne_of_gt lt)
      · exact SetOf_congr ((setObjOf_fresh (knd := PySem.strKind P w) led).setOf (Heap.get?_push_of_some _ g0) (by unfold scanBound; omega)) (fun _ => rfl) rfl
      · obtain ⟨h3, g3, d3, t3, o3⟩ := s3
        cases hm.gens
        cases hm.drawn
        cases hm.os
        show wpAny _ _ _ _ _ _
        refine wpAny_pure ?_
        show wpAny _ _ (ret Value.none) _ _ _
        refine wpAny_pure ⟨rfl, h3, t3, rfl, hS, fun b o hb e => hm.heap b o (fun q => ?_) (Heap.get?_push_of_some _ (Heap.get?_push_of_some _ e))⟩
        rcases List.mem_cons.mp q with q | q
        · exact absurd q (Nat.ne_of_lt hb)
        · have : b = (s.heap.push (set0 led)).objs.size := List.mem_singleton.mp q
          rw [Heap.size_push] at this
          omega
    · rcases r2 with e | fl2
      case error => exact hr2
      cases fl2 with
      | ret r =>
        obtain ⟨rfl, h', tk, rfl, hS, hk⟩ := hr2
        repeat (any_goals (first | assumption | wp_step))
        exact h _ _ hS hk
      | _ => exact hr2.elim
  | _ => exact hr.elim
end
end Core

set_option Elab.async false
set_option linter.all false
set_option maxRecDepth 100000
set_option maxHeartbeats 4000000
/-! Core: len(set(..)), all(.. for ..), max of a sequence, texts repeated, classes of fields, an error that is looked at -/
namespace Core
open PySem PySem.Spec PyProof.Rows L2
open PySem.W (HoldAll max_tuple_datum maxOf)

/-! ### len(set(xs)), xs texts -/
def strsD : List D → Option (List Str)
  | [] => some []
  | .str x :: r => (strsD r).map (x :: ·)
  | _ :: _ => none
def gLenSet : D → Mem → R D := fun d s => match seqD s d with
  | some ds => match strsD ds with
    | some xs => if xs.length ≤ 1000 then .ok (.int (metS xs).length) s else .no
    | none => .no
  | none => .no
theorem strsD_vals {K : PySem.W.Frag} {ι : List Addr} {H : Hp} : ∀ {ds : List D} {xs : List Str} {vs : List V}, strsD ds = some xs → Reps K ι H vs ds → vs = xs.map V.str
  | [], xs, vs, h, rs => by cases h; cases rs; rfl
  | .str x :: r, xs, vs, h, rs => by
    cases rs with
    | cons r1 t =>
    cases r1
    cases q : strsD r with
    | none => simp only [strsD, q] at h; cases h
    | some ys =>
      simp only [strsD, q] at h
      cases h
      rw [strsD_vals q t]; rfl
def tLenS (K : PySem.W.Frag) (ta : TE) : TE := fun σ H Q => ta σ H fun x H1 => ∃ l, ∃ xs : List Str, x = .ref l ∧ (SqL K H1 l (xs.map V.str) ∨ SqT K H1 l (xs.map V.str)) ∧ xs.length ≤ 1000 ∧ Q (.int (metS xs).length) H1
theorem pe_lenS {X : Cx} {a : Expr} {ta : TE} {p p2 q pos : Pos} (hc : X.calm = true) (hg : Gl X "len") (hm : X.mg "len" = none) (hg2 : Gl X "set") (hm2 : X.mg "set" = none) (ha : PE X a ta)
    (na : starEach [a] X.env = (false, eval a X.env) :: starEach [] X.env := by rfl) : PE X (.Call (.Name "len" p) [.Call (.Name "set" p2) [a] [] q] [] pos) (tLenS X.K ta) := by
  refine ⟨fun pins s σ H Q I h => ?_⟩
  refine Call_ (ld_blt I hg hm boot_len ?_)
  refine callWith_builtin1 (args_cons ?_ rfl) rfl rfl
  refine Call_ (ld_blt I hg2 hm2 boot_set ?_)
  refine callWith_type1 (args_cons (thn (ha.run pins s σ H _ I h) fun v s1 ⟨x, H1, I1, r1, q1⟩ => args_nil ?_) na) na rfl
  obtain ⟨l, xs, rfl, hq, h1, q1⟩ := q1
  cases r1
  have fin : ∀ (h' : Heap) (tk : Nat), h'.SetOf (PySem.strKind X.prog X.w) s1.heap.objs.size (fun z => (metS xs).any (· == z)) (metS xs).length → (∀ b o, b < s1.heap.objs.size → s1.heap.get? b = some o → h'.get? b = some o) →
      wpAny (model X.prog X.w) X.A (spliced (backTo pos (starEach [] X.env))) (fun vs s2 => wpAny (model X.prog X.w) X.A (call (.builtin "len") (Value.ref s1.heap.objs.size :: vs)) (EP X pins σ Q) X.xe s2) X.xe { s1 with heap := h', toks := tk } := fun h' tk hS hk => by
    refine args_nil ?_
    obtain ⟨o, es, ep, t, ho, hex, hd, _, _, _, hf, hn⟩ := hS
    have I2 : Inv X pins σ H1 { s1 with heap := h', toks := tk } := I1.kept fun b o e => hk b o (Heap.lt_size e) e
    have hl : (metS xs).length ≤ xs.length := by have := metS_le xs []; simpa [metS] using this
    exact call_len_set ho hex hd hf (by rw [hn]; omega) ⟨.int (metS xs).length, H1, I2.tok _, ⟨_, by rw [hn]⟩, q1⟩
  have hb : xs.length + 1 < scanBound := by unfold scanBound; omega
  rcases hq with hq | hq
  · obtain ⟨its, r, pl, hz⟩ := I1.list hq
    obtain ⟨o, ho, hcl, n, hd⟩ := pl.isList
    exact setSeq wayL (I1.ok.hd hc) ho hcl hd (by simpa using strsAre_of r) hb fin
  · obtain ⟨its, r, pl, hz⟩ := I1.tuple hq
    obtain ⟨o, ho, hcl, n, hd⟩ := pl
    exact setSeq wayT (I1.ok.hd hc) ho hcl hd (by simpa using strsAre_of r) hb fin
theorem em_lenSet {G : Gx} {W : WX} {X : Cx} {a : Expr} {ma : EM} {p p2 q pos : Pos} (hK : X.K = G.K) (hc : X.calm = true) (hg : Gl X "len") (hm : X.mg "len" = none) (hg2 : Gl X "set") (hm2 : X.mg "set" = none) (ha : PE X a (dE G W ma))
    (na : starEach [a] X.env = (false, eval a X.env) :: starEach [] X.env := by rfl) : PE X (.Call (.Name "len" p) [.Call (.Name "set" p2) [a] [] q] [] pos) (dE G W (mUn gLenSet ma)) :=
  PE.imp (pe_lenS hc hg hm hg2 hm2 ha na) fun σ H Q ⟨ι, l, s, sm, sl, f⟩ => ⟨ι, l, s, sm, sl, f.bind fun x s1 ι1 v H1 st1 sm1 r1 f1 => by
    unfold gLenSet at f1
    cases q : seqD s1 x with
    | none => simp only [q] at f1; exact f1.elim
    | some ds =>
      simp only [q] at f1
      cases q2 : strsD ds with
      | none => simp only [q2] at f1; exact f1.elim
      | some xs =>
        simp only [q2] at f1
        by_cases h : xs.length ≤ 1000
        · rw [if_pos h] at f1
          obtain ⟨b, vs, rfl, hs, rs⟩ := sm1.seq q r1
          rw [hK]
          have e := strsD_vals q2 rs
          subst e
          exact ⟨b, xs, rfl, hs, h, f1.here sm1 (.int _)⟩
        · rw [if_neg h] at f1; exact f1.elim⟩

/-! ### all(test for x in text) -/
def gAll (pb : Nat → Bool) : D → Mem → R D := fun d s => match d with
  | .str x => .ok (.bl (x.cps.toList.all pb)) s
  | _ => .no
theorem SimH.tabbed {G : Gx} {ι : List Addr} {s : Mem} {H H' : Hp} {P : Addr} (sm : SimH G ι s H) (hP : P ∈ G.tabs) (h : GxR.Tabbed P H H') : SimH G ι s H' ∧ Stp G.K ι H ι H' := by
  obtain ⟨⟨ps, hp, ht⟩, hk⟩ := h
  obtain ⟨qs, hq, _⟩ := sm.tabs P hP
  have ne : ∀ b o, H b = some o → (∀ z, o ≠ .tbl z) → H' b = some o := fun b o e hn => by
    rw [hk b fun z => ?_]
    · exact e
    · rw [z, hq] at e; exact hn qs (Option.some.inj e).symm
  have rd : ∀ b o, (∀ z, o ≠ .tbl z) → Rd H b o → Rd H' b o := fun b o hn h => by
    rcases h with h | ⟨u, h⟩
    · exact .inl (ne b o h hn)
    · exact .inr ⟨u, ne b _ h fun z e => by cases e⟩
  have st : Stp G.K ι H ι H' := ⟨fun _ _ e => e, fun b vs h => ne b _ h (fun z e => by cases e), fun b o u h => ne b _ h (fun z e => by cases e)⟩
  refine ⟨⟨sm.len, fun n a o h1 h2 => ?_, sm.inj, fun P' hP' => ?_⟩, st⟩
  · have ob := sm.ob n a o h1 h2
    cases o with
    | lst xs => obtain ⟨vs, k1, k2⟩ := ob; exact ⟨vs, ne _ _ k1 (fun z e => by cases e), k2.mono st⟩
    | frz xs =>
      obtain ⟨vs, k1, k2⟩ := ob
      refine ⟨vs, ?_, k2.mono st⟩
      rcases k1 with ⟨o, k1⟩ | k1
      · exact .inl ⟨o, ne _ _ k1 fun z e => by cases e⟩
      · exact .inr k1
    | ins c fs => obtain ⟨dx, ws, k1, k2⟩ := ob; exact ⟨dx, ws, ne _ _ k1 (fun z e => by cases e), k2.mono st⟩
    | dK kvs => obtain ⟨ws, k1, k2⟩ := ob; exact ⟨ws, ne _ _ k1 (fun z e => by cases e), k2.mono st⟩
    | dT kvs => obtain ⟨ws, k1, k2⟩ := ob; exact ⟨ws, ne _ _ k1 (fun z e => by cases e), k2.mono st⟩
    | lkK kvs => obtain ⟨o, ws, k1, k2⟩ := ob; exact ⟨o, ws, ne _ _ k1 (fun z e => by cases e), k2.mono st⟩
  · by_cases e : P' = P
    · rw [e]; exact ⟨ps, hp, ht⟩
    · obtain ⟨rs, hr, ht'⟩ := sm.tabs P' hP'
      exact ⟨rs, by rw [hk P' e]; exact hr, ht'⟩
theorem em_all {G : Gx} {W : WX} {X : Cx} {c Pt : Addr} {elt iter : Expr} {x : Str} {px p pos gpos : Pos} {scope : Scope} {pb : Nat → Bool} {me : EM} {k : Nat}
    (hr : Room k X.A) (hg : Gl X "all") (hm : X.mg "all" = none) (hb : bootBuiltins "all" = some (.builtin "all")) (TB : GxR.TabB X.base X.mg c Pt) (hP : Pt ∈ G.tabs) (hcode : X.env.code = .ref c) (S : GxR.GenS X.env scope x) (hi : PE X iter (dE G W me)) (hel : GxR.EltP X.prog X.w scope x elt pb)
    (hs : ∀ v, genFold iter X.env v = pure v)
    (he : starEach [.GeneratorExp elt [⟨.Name x px, iter, [], 0⟩] scope gpos] X.env = (false, eval (.GeneratorExp elt [⟨.Name x px, iter, [], 0⟩] scope gpos) X.env) :: starEach [] X.env := by rfl) :
    PE X (.Call (.Name "all" p) [.GeneratorExp elt [⟨.Name x px, iter, [], 0⟩] scope gpos] [] pos) (dE G W (mUn (gAll pb) me)) :=
  PE.imp (GxR.pe_allS hr hg hm hb TB hcode S hi hel hs he) fun σ H Q ⟨ι, l, s, sm, sl, f⟩ => ⟨ι, l, s, sm, sl, f.bind fun x s1 ι1 v H1 st1 sm1 r1 f1 => by
    cases r1 with
    | str z =>
      obtain ⟨ps, h1, h2⟩ := sm1.tabs Pt hP
      refine ⟨z, rfl, ⟨ps, h1, h2⟩, fun H2 ht => ?_⟩
      obtain ⟨sm2, st2⟩ := sm1.tabbed hP ht
      exact f1.there st2 sm2 (.bl _)
    | _ => exact f1.elim⟩
def rngB (a b : Str) (c : Nat) : Bool := !decide ([c] < a.cps.toList) && !decide (b.cps.toList < [c])
/-- 'a' <= x <= 'b' -/
theorem elt_rng {P : Program} {w : World} {scope : Scope} {x a b : Str} {j1 j2 : Nat} {p1 p2 p3 p4 : Pos} (hk : scope.kind = .function) (hl : scope.names.lookup x = some .local) (hd : (x == ("__debug__" : Str)) = false := by decide)
    (hm : lastMarks [CmpOp.LtE, CmpOp.LtE] [.Name x p2, .Constant (.str b) j2 p3] = false := by with_unfolding_all rfl) :
    GxR.EltP P w scope x (.Compare (.Constant (.str a) j1 p1) [.LtE, .LtE] [.Name x p2, .Constant (.str b) j2 p3] p4) (rngB a b) := by
  intro cenv A' E' c t s₂ m₂ hs hn hm2
  refine Compare_chain (Calls.Constant_str (chain_link (wpAny_Name (wpAny_loadName_local (by rw [hs]; exact hk) (show cenv.scope.names.lookup x = some .local by rw [hs]; exact hl) hn hm2 ?_) hd))) hm
  refine PySem.P.le_str ?_
  refine wpAny_truthy_bool ?_
  have tok : ∀ k, Keeps s₂ { s₂ with toks := k } := fun k => GxR.keeps_tok _ _
  cases q : !decide ((⟨#[c]⟩ : Str).cps.toList < a.cps.toList) with
  | false =>
    refine ite_ff ⟨?_, tok _⟩
    show Value.bool false = Value.bool (!decide ((⟨#[c]⟩ : Str).cps.toList < a.cps.toList) && !decide (b.cps.toList < [c]))
    rw [q]; rfl
  | true =>
    refine ite_tt (chain_last (Calls.Constant_str ?_))
    refine PySem.P.le_str ⟨?_, tok _⟩
    show Value.bool (!decide (b.cps.toList < [c])) = Value.bool (!decide ((⟨#[c]⟩ : Str).cps.toList < a.cps.toList) && !decide (b.cps.toList < [c]))
    rw [q]; rfl

/-! ### max(xs), xs ints -/
def intsD : List D → Option (List Int)
  | [] => some []
  | .int x :: r => (intsD r).map (x :: ·)
  | _ :: _ => none
theorem intsD_vals {K : PySem.W.Frag} {ι : List Addr} {H : Hp} : ∀ {ds : List D} {xs : List Int} {vs : List V}, intsD ds = some xs → Reps K ι H vs ds → vs = xs.map V.int
  | [], xs, vs, h, rs => by cases h; cases rs; rfl
  | .int x :: r, xs, vs, h, rs => by
    cases rs with
    | cons r1 t =>
    cases r1
    cases q : intsD r with
    | none => simp only [intsD, q] at h; cases h
    | some ys =>
      simp only [intsD, q] at h
      cases h
      rw [intsD_vals q t]; rfl
def maxI (x : Int) (xs : List Int) : Int := xs.foldl (fun a y => if decide (a < y) = true then y else a) x
theorem maxI_mem : ∀ (xs : List Int) (x : Int), maxI x xs ∈ x :: xs
  | [], x => List.mem_cons_self
  | y :: r, x => by
    show maxI (if decide (x < y) = true then y else x) r ∈ _
    have h := maxI_mem r (if decide (x < y) = true then y else x)
    rcases List.mem_cons.mp h with h | h
    · rw [h]; split
      · exact List.mem_cons_of_mem _ List.mem_cons_self
      · exact List.mem_cons_self
    · exact List.mem_cons_of_mem _ (List.mem_cons_of_mem _ h)
theorem maxI_ge : ∀ (xs : List Int) (x : Int), x ≤ maxI x xs ∧ ∀ y ∈ xs, y ≤ maxI x xs
  | [], x => ⟨Int.le_refl _, fun y h => absurd h List.not_mem_nil⟩
  | y :: r, x => by
    show x ≤ maxI (if decide (x < y) = true then y else x) r ∧ _
    obtain ⟨h1, h2⟩ := maxI_ge r (if decide (x < y) = true then y else x)
    have e : x ≤ (if decide (x < y) = true then y else x) ∧ y ≤ (if decide (x < y) = true then y else x) := by
      by_cases h : x < y
      · rw [if_pos (decide_eq_true h)]; omega
      · rw [if_neg (by simpa using h)]; omega
    refine ⟨Int.le_trans e.1 h1, fun z hz => ?_⟩
    rcases List.mem_cons.mp hz with rfl | hz
    · exact Int.le_trans e.2 h1
    · exact h2 z hz
def gMaxI : List D → Mem → R D
  | [x], s => match seqD s x with
    | some ds => match intsD ds with
      | some (y :: ys) => .ok (.int (maxI y ys)) s
      | _ => .no
    | none => .no
  | _, _ => .no
def rMaxA (K : PySem.W.Frag) : List V → Hp → VK → Prop := fun vs H Q => ∃ (a : Addr) (y : Int) (ys : List Int), vs = [V.ref a] ∧ (SqL K H a ((y :: ys).map V.int) ∨ SqT K H a ((y :: ys).map V.int)) ∧ Q (.int (maxI y ys)) H
theorem c_max1 {X : Cx} (hc : X.calm = true) (hu : X.A.units + 64 < cLine) : CallR X (.builtin "max") (rMaxA X.K) := by
  intro pins s σ H vs us Q I r h
  obtain ⟨a, y, ys, rfl, hs, q⟩ := h
  rcases hs with hs | hs
  · refine cr_max hc pins s σ H [.ref a] us Q I r ⟨a, y :: ys, rfl, hs, Nat.succ_pos _, fun m h1 h2 => ?_⟩
    obtain ⟨k1, k2⟩ := maxI_ge ys y
    have e : m = maxI y ys := by
      have e1 := h2 _ (maxI_mem ys y)
      have e2 : m ≤ maxI y ys := by
        rcases List.mem_cons.mp h1 with rfl | h1
        · exact k1
        · exact k2 m h1
      omega
    rw [e]; exact q
  · obtain ⟨its, rv, hl, _⟩ := I.tuple hs
    rw [Vals.ref1 r]
    have ha : ∀ {xs : List Int} {us : List Value} {h : Heap}, Vals (xs.map V.int) us → HoldAll h us xs := by
      intro xs
      induction xs with
      | nil => intro us h r; cases r; exact PySem.W.HoldAll.nil
      | cons x xs ih =>
        intro us h r
        cases r with
        | cons r1 t =>
          obtain ⟨k, rfl⟩ := r1
          exact PySem.W.HoldAll.cons ⟨_, .int x k⟩ (ih t)
    refine max_tuple_datum (x := y) (xs := ys) (I.ok.hd hc) hl (by simpa using ha rv) (by show X.A.units + 1 + 0 < cLine; omega) fun i v h' tk hi hv hk => ?_
    obtain ⟨as, hv⟩ := hv
    have e : maxOf y ys = maxI y ys := rfl
    rw [e] at hv
    cases hv
    exact ⟨.int (maxI y ys), H, I.kept hk, ⟨_, rfl⟩, q⟩
theorem s_max1 {G : Gx} : OpSA G (rMaxA G.K) gMaxI := by
  intro W σ ι s H vs xs Q sm rs f
  cases rs with
  | nil => exact f.elim
  | cons r t =>
    cases t with
    | cons _ _ => exact f.elim
    | nil =>
      rename_i v x
      simp only [gMaxI] at f
      cases q : seqD s x with
      | none => simp only [q] at f; exact f.elim
      | some ds =>
        simp only [q] at f
        cases q2 : intsD ds with
        | none => simp only [q2] at f; exact f.elim
        | some zs =>
          cases zs with
          | nil => simp only [q2] at f; exact f.elim
          | cons y ys =>
            simp only [q2] at f
            obtain ⟨b, ws, rfl, hs, rs⟩ := sm.seq q r
            have e := intsD_vals q2 rs
            subst e
            exact ⟨b, y, ys, rfl, hs, f.here sm (.int _)⟩

/-! ### a text so many times; with the other products -/
def repS (x : Str) (n : Nat) : Str := ⟨(List.replicate n x.cps).foldl (· ++ ·) #[]⟩
def gMulA : D → D → Mem → R D := fun x y s => match x, y with
  | .str z, .int i => if 2 ≤ i ∧ i ≤ 1000 ∧ 1 ≤ z.length ∧ z.length ≤ 1000 then .ok (.str (repS z i.toNat)) s else .no
  | _, _ => gMul x y s
theorem rep_len (c : Array Nat) : ∀ (n : Nat) (acc : Array Nat), ((List.replicate n c).foldl (· ++ ·) acc).size = acc.size + n * c.size
  | 0, acc => by simp
  | n + 1, acc => by
    rw [List.replicate_succ, List.foldl_cons, rep_len c n, Array.size_append, Nat.succ_mul]; omega
theorem repS_len (x : Str) (n : Nat) : (repS x n).length = n * x.length := by
  show ((List.replicate n x.cps).foldl (· ++ ·) #[]).size = _
  rw [rep_len]; show 0 + _ = _; rw [Nat.zero_add]; rfl
def rMulS : R2 := fun x y H Q => ∃ z i, x = .str z ∧ y = .int i ∧ 2 ≤ i ∧ i ≤ 1000 ∧ 1 ≤ z.length ∧ z.length ≤ 1000 ∧ Q (.str (repS z i.toNat)) H
theorem op_mulS {X : Cx} : OpR X (binaryOp .Mult) rMulS := by
  intro pins s σ H x y v u Q I rx ry q
  obtain ⟨z, i, rfl, rfl, h1, h2, h3, h4, q⟩ := q
  obtain ⟨t, rfl⟩ := _root_.id rx
  obtain ⟨t', rfl⟩ := _root_.id ry
  have n1 : ¬ i < 1 := by omega
  have n2 : (i == 1 || z.length == 0) = false := by
    have e1 : (i == 1) = false := beq_eq_false_iff_ne.mpr (by omega)
    have e2 : (z.length == 0) = false := beq_eq_false_iff_ne.mpr (by omega)
    rw [e1, e2]; rfl
  have big : z.length * i.toNat ≤ sizeLine := by
    have e : i.toNat ≤ 1000 := by omega
    have := Nat.mul_le_mul h4 e
    rw [sizeLine_eq]; omega
  refine PySem.P.mul_str (by rw [decide_eq_false (by omega), decide_eq_false (by omega)]; rfl) (fun _ _ => ?_) (fun _ _ => decide_eq_false (by omega)) ?_
  · have : (1000 : Int) ≤ (2 ^ 63 - 1) / i := Int.le_ediv_of_mul_le (by omega) (by omega)
    omega
  · rw [if_neg n1, n2, if_neg Bool.false_ne_true]
    refine ⟨?_, ⟨.str (repS z i.toNat), H, I.tok _, ⟨_, rfl⟩, q⟩⟩
    show (repS z i.toNat).length ≤ sizeLine
    rw [repS_len, Nat.mul_comm]; exact big
theorem o_mulA {X : Cx} : OpR X (binaryOp .Mult) (fun x y H Q => rMulD X.K x y H Q ∨ rMulS x y H Q) := OpR.or o_mul op_mulS
theorem s_mulA {G : Gx} : OpS2 G (fun x y H Q => rMulD G.K x y H Q ∨ rMulS x y H Q) gMulA := by
  intro W σ ι s H v w x y Q sm rv rw f
  have old : gMulA x y s = gMul x y s → rMulD G.K v w H Q ∨ rMulS v w H Q := fun e => by rw [e] at f; exact .inl (s_mul W σ ι s H v w x y Q sm rv rw f)
  cases rv with
  | str z => cases rw with
    | int i =>
      simp only [gMulA] at f
      by_cases h : 2 ≤ i ∧ i ≤ 1000 ∧ 1 ≤ z.length ∧ z.length ≤ 1000
      · rw [if_pos h] at f; exact .inr ⟨z, i, rfl, rfl, h.1, h.2.1, h.2.2.1, h.2.2.2, f.here sm (.str _)⟩
      · rw [if_neg h] at f; exact f.elim
    | _ => exact old (by rfl)
  | _ => exact old (by cases rw <;> rfl)

/-! ### classes of fields, kinds of errors -/
theorem fld_nil {G : Gx} {f : Str} : FldOk G [] f := fun c h => absurd h List.not_mem_nil
theorem fld_cons {G : Gx} {f c : Str} {cs : List Str} (h1 : Cls G.K (G.cls c)) (h2 : NoAttr G.K (G.cls c) f) (h : FldOk G cs f) : FldOk G (c :: cs) f := fun d q => by
  rcases List.mem_cons.mp q with rfl | q
  · exact ⟨h1, h2⟩
  · exact h d q
theorem exm_nil {G : Gx} {cl : Str} {sub : Str → Bool} : ∀ c ∈ ([] : List Str), PySem.W.exmOne G.K (.ref (G.cls c)) (.ref (G.cls cl)) = some (sub c) := fun c h => absurd h List.not_mem_nil
theorem exm_cons {G : Gx} {cl e : Str} {es : List Str} {sub : Str → Bool} {b : Bool} (h1 : PySem.W.exmOne G.K (.ref (G.cls e)) (.ref (G.cls cl)) = some b) (hb : b = sub e) (h : ∀ c ∈ es, PySem.W.exmOne G.K (.ref (G.cls c)) (.ref (G.cls cl)) = some (sub c)) :
    ∀ c ∈ e :: es, PySem.W.exmOne G.K (.ref (G.cls c)) (.ref (G.cls cl)) = some (sub c) := fun d q => by
  rcases List.mem_cons.mp q with rfl | q
  · rw [h1, hb]
  · exact h d q

/-! ### except X as n: return isinstance(n, A) and isinstance(n, B) -/
def mTryAs (i : Nat) (errs : List Str) (sub : Str → Bool) (mb : SM) (ms : Str → SM) : SM := fun l s => match mb l s with
      | .err c l1 s1 => if c ∈ errs ∧ i < l1.length then if sub c = true then (match ms c (l1.set i none) s1 with
          | .nx l2 s2 => .nx (l2.set i none) s2
          | .bk l2 s2 => .bk (l2.set i none) s2
          | .ct l2 s2 => .ct (l2.set i none) s2
          | .rt d s2 => .rt d s2
          | _ => .no) else .err c l1 s1 else .no
      | x => x
/-- what a class of errors must say, so that both questions are answered yes -/
structure Asked (K : PySem.W.Frag) (c y1 : Addr) (y2 : String) : Prop where
  exc : ExcC K c
  one : PySem.W.kitOne K (.ref c) (.ref y1) = some true
  two : PySem.W.kitOne K (.ref c) (.type y2) = some true
section
variable {G : Gx} {W : WX} {X : Cx}
theorem sm_tryAs2 {x n y1 y2 : Str} {y2s : String} {i : Nat} {body : List Stmt} {np pos' p pr pa q1 q2 q3 q4 q5 q6 q7 q8 : Pos} {errs : List Str} {sub : Str → Bool} {cl : Str} {mb : SM} (hK : X.K = G.K) (hs : X.stack = X.env :: X.outer) (hf : X.env.frame = some X.env.locals) (hN : X.N.Nodup) (hi : X.N[i]? = some n) (hln : X.env.kindOf n = some .local) (hc : Names X x (.ref (G.cls cl))) (tk : Takes X W)
    (hx : ∀ c ∈ errs, PySem.W.exmOne G.K (.ref (G.cls c)) (.ref (G.cls cl)) = some (sub c))
    (hb : ∀ (W : WX) (pn : List (Addr × Obj)) (xe : Value → Shared → Prop), Takes (X.tr pn xe) W → PassesOwn (model X.prog X.w) X.A X.env xe → PSs (X.tr pn xe) body (dS G W mb))
    (m0 : X.mg "isinstance" = none) (m1 : X.mg y1 = some (.ref (G.cls y1))) (m2 : X.mg y2 = none) (b2 : bootBuiltins y2 = some (.type y2s)) (hA : ∀ c ∈ errs, sub c = true → Asked G.K (G.cls c) (G.cls y1) y2s)
    (g0 : ∀ a pn, Gl (X.suite a pn) "isinstance") (g1 : ∀ a pn, Gl (X.suite a pn) y1) (g2 : ∀ a pn, Gl (X.suite a pn) y2) (hv : ∀ a pn p, PE (X.suite a pn) (.Name n p) (tVar i))
    (d1 : (y1 == ("__debug__" : Str)) = false := by decide) (d2 : (y2 == ("__debug__" : Str)) = false := by decide) (nn : y2 ≠ "__name__" := by decide) :
    PS X (.Try body [.ExceptHandler (some (.Name x np)) (some n) [.Return (some (.BoolOp .And [.Call (.Name "isinstance" q1) [.Name n q2, .Name y1 q3] [] q4, .Call (.Name "isinstance" q5) [.Name n q6, .Name y2 q7] [] q8] pa)) pr] pos'] [] [] p)
      (dS G W (mTryAs i errs sub mb fun c => if sub c = true then mRet (mC (.bl true)) else fun _ _ => .no)) :=
  sm_tryAs hK hs hf hN hi hln hc tk hx hb
    (ts := fun a cls d D σ H => ∃ E, cls = .ref E ∧ d = none ∧ Asked G.K E (G.cls y1) y2s ∧ σ[i]? = some (some (.ref a)) ∧ D.rt (.bl true) H)
    (fun a oe cls d pn hz hfs => ⟨fun pins s σ H D I ⟨E, h1, h2, hA, hsl, hq⟩ => by
      subst h1 h2
      have cI := call_isE (X := X) (a := a) (pn := pn) (by rw [hK]; exact hA.exc) hz hfs
      have A1 : PE (X.suite a ((a, oe) :: pn)) (.Call (.Name "isinstance" q1) [.Name n q2, .Name y1 q3] [] q4) _ := pe_callB cI (g0 _ _) m0 boot_isinstance (pa_cons (hv _ _ _) (pa_cons (pe_glob (v := .ref (G.cls y1)) (g1 _ _) m1 rfl d1) pa_nil rfl) rfl) (by decide) (by decide) rfl rfl
      have A2 : PE (X.suite a ((a, oe) :: pn)) (.Call (.Name "isinstance" q5) [.Name n q6, .Name y2 q7] [] q8) _ := pe_callB cI (g0 _ _) m0 boot_isinstance (pa_cons (hv _ _ _) (pa_cons (pe_bltn (v := .ty y2s) (g2 _ _) m2 b2 rfl nn d2) pa_nil rfl) rfl) (by decide) (by decide) rfl rfl
      have big := pss_one (ps_ret (pos := pr) (pe_and (pos := pa) A1 (pe_one A2)))
      refine big.run pins s σ H D I ?_
      have o1 : PySem.W.kitOne X.K (.ref E) (.ref (G.cls y1)) = some true := by rw [hK]; exact hA.one
      have o2 : PySem.W.kitOne X.K (.ref E) (.type y2s) = some true := by rw [hK]; exact hA.two
      refine ⟨.ref a, hsl, ⟨.ref (G.cls y1), .ref (G.cls y1), true, rfl, fun u e => e, o1, ⟨true, rfl, ?_⟩⟩⟩
      rw [if_pos rfl]
      exact ⟨.ref a, hsl, ⟨.ty y2s, .type y2s, true, rfl, fun u e => e, o2, hq⟩⟩⟩)
    (fun a c D σ H ι l s hce ha sm sl hl f => by
      by_cases h : sub c = true
      · rw [if_pos h] at f
        exact ⟨_, rfl, rfl, hA c hce h, List.getElem?_set_self hl, f ι (.bl true) H .refl sm (.bl true)⟩
      · rw [if_neg h] at f; exact f.elim)
end

theorem gs_of {env : Env} {scope : Scope} {x : Str} (h1 : scope.kind = .function) (h2 : scope.isCoroutine = false) (h3 : ∀ y ∈ scope.names, y.2 ≠ .cell ∧ y.2 ≠ .free) (h4 : scope.names.lookup (".0" : Str) = some NameKind.local) (h5 : scope.names.lookup x = some .local) : GxR.GenS env scope x :=
  ⟨h1, h2, fun y h => (h3 y h).1, h4, h5, fun y h e => absurd e (h3 y h).2⟩
theorem code_of {K : PySem.W.Frag} {f : Addr} {fd : FuncData} {cdv : Value} {qual : Str} {p : Str × Option Str} (hf : f = He.fAd K p) (h : ∃ oc od osl, K.lookup f = some ⟨oc, od, .func fd, osl⟩ ∧ fd.code = cdv ∧ PySem.W.codeIn K cdv qual = true) : cdv = .ref (He.cT K p).1 := by
  obtain ⟨oc, od, osl, h1, h2, h3⟩ := h
  obtain ⟨c, rfl⟩ := He.codeIn_ref h3
  subst hf
  show Value.ref c = .ref (He.codeOf K p)
  rw [He.codeOf_eq h1 h2]
def isBu (o : Option (Option Value)) (s : String) : Bool := match o with
  | some (some (.builtin t)) => decide (t = s)
  | _ => false
theorem isBu_ok {o : Option (Option Value)} {s : String} (h : isBu o s = true) : o = some (some (.builtin s)) := by
  unfold isBu at h
  split at h
  · rw [of_decide_eq_true h]
  · cases h
def isNn (o : Option (Option Value)) : Bool := match o with
  | some none => true
  | _ => false
theorem isNn_ok {o : Option (Option Value)} (h : isNn o = true) : o = some none := by
  unfold isNn at h
  split at h
  · rfl
  · cases h
def isTr (o : Option Bool) : Bool := match o with
  | some true => true
  | _ => false
theorem isTr_ok {o : Option Bool} (h : isTr o = true) : o = some true := by
  unfold isTr at h
  split at h
  · rfl
  · cases h
abbrev Ask := Str × Str × String
def askB (K : PySem.W.Frag) (q : Ask) : Bool :=
  let D := He.ga K q.1
  isBu (PySem.W.findIn K (.ref D) "__getattribute__") "BaseException.__getattribute__" && (isNn (PySem.W.findIn K (.ref D) "__getattr__") && (isTr (PySem.W.subIn K (.ref D) (.type "BaseException")) && (PySem.W.hasDictIn K D &&
  (isBu (PySem.W.findIn K (.ref D) "__class__") "object.__class__" && (isBu (PySem.W.specialIn K (.builtin "object.__class__") "__get__") "getset_descriptor.__get__" && (isTr (PySem.W.takesIn K (.builtin "object.__class__")) && (isTr (PySem.W.mroIn K D (.type "object")) &&
  (isTr (PySem.W.kitOne K (.ref D) (.ref (He.ga K q.2.1))) && isTr (PySem.W.kitOne K (.ref D) (.type q.2.2))))))))))
theorem askB_ok {K : PySem.W.Frag} {q : Ask} (h : askB K q = true) : Asked K (He.ga K q.1) (He.ga K q.2.1) q.2.2 := by
  unfold askB at h
  simp only [Bool.and_eq_true] at h
  obtain ⟨h1, h2, h3, h4, h5, h6, h7, h8, h9, h10⟩ := h
  exact ⟨⟨isBu_ok h1, isNn_ok h2, isTr_ok h3, h4, isBu_ok h5, isBu_ok h6, isTr_ok h7, isTr_ok h8⟩, isTr_ok h9, isTr_ok h10⟩
theorem ask_nil {G : Gx} {sub : Str → Bool} {y1 : Str} {y2 : String} : ∀ c ∈ ([] : List Str), sub c = true → Asked G.K (G.cls c) (G.cls y1) y2 := fun c h => absurd h List.not_mem_nil
theorem ask_cons {G : Gx} {sub : Str → Bool} {y1 e : Str} {es : List Str} {y2 : String} (h1 : sub e = true → Asked G.K (G.cls e) (G.cls y1) y2) (h : ∀ c ∈ es, sub c = true → Asked G.K (G.cls c) (G.cls y1) y2) : ∀ c ∈ e :: es, sub c = true → Asked G.K (G.cls c) (G.cls y1) y2 := fun d q => by
  rcases List.mem_cons.mp q with rfl | q
  · exact h1
  · exact h d q
end Core

set_option Elab.async false
set_option linter.all false
set_option maxRecDepth 100000
set_option maxHeartbeats 4000000
/-! Core: the end: from what the law's def does on a store of its script alone -/
namespace Core
open PySem PySem.Spec PyProof.Rows L2
theorem intsD_reps {K : PySem.W.Frag} {ι : List Addr} {H : Hp} : ∀ ns : List Int, Reps K ι H (ns.map V.int) (ns.map D.int)
  | [] => .nil
  | n :: r => .cons (.int n) (intsD_reps r)
theorem cx_end {P : Program} {w : World} {H : Hp} {s : Shared} {e : Value} {s' : Shared} (h : L2.CX P w [] H s (fun _ _ _ => False) e s') : False := by
  obtain ⟨_, _, _, _, _, _, _, _, _, _, _, _, _, _, _, _, z⟩ := h
/-- the promise of the law, over a store that holds the script alone -/
theorem sp_end {G : Gx} {c : List D → Mem → R D} {n : Nat} {H : Hp} {a : Addr} {ns : List Int} (hl : ns.length ≤ n) (ht : ∀ P ∈ G.tabs, H P = some (.tbl #[])) (hS : SqL G.K H a (ns.map V.int))
    (pureL : ∀ o : Ob, (o = .lst (ns.map D.int) ∨ o = .frz (ns.map D.int)) → ∃ s', c [.ref 0] [o] = .ok (.bl true) s') : spOf G 1 c [.ref a] H (fun v _ => v = .bl true) fun _ _ _ => False := by
  have main : ∀ o : Ob, (o = .lst (ns.map D.int) ∨ o = .frz (ns.map D.int)) → ObR G [a] H a o → spOf G 1 c [.ref a] H (fun v _ => v = .bl true) fun _ _ _ => False := fun o ho ob => by
    obtain ⟨s', e⟩ := pureL o ho
    refine ⟨[a], [o], [.ref 0], ⟨rfl, fun m b o' h1 h2 => ?_, fun m k b o1 o2 h1 h2 h3 h4 h5 h6 => ?_, fun P hP => ⟨#[], ht P hP, trivial⟩⟩, .cons (.ref rfl) .nil, rfl, ?_⟩
    · cases m with
      | zero => cases h1; cases h2; exact ob
      | succ m => cases h2
    · cases m with
      | zero => cases k with
        | zero => rfl
        | succ k => cases h4
      | succ m => cases h3
    · rw [e]
      intro ι' v H' st sm r
      cases r
      rfl
  rcases hS with (hS | ⟨o, hS⟩) | hS
  · exact main _ (.inl rfl) ⟨_, hS, intsD_reps ns⟩
  · exact main _ (.inr rfl) ⟨_, .inl ⟨o, hS⟩, intsD_reps ns⟩
  · exact main _ (.inr rfl) ⟨_, .inr hS, intsD_reps ns⟩
end Core

set_option Elab.async false
set_option linter.all false
set_option maxRecDepth 100000
set_option maxHeartbeats 4000000
/-! Core: reckoning with the actions -/
namespace Core
open PySem PySem.Spec PyProof.Rows L2
theorem bind_ok {α β : Type} (a : α) (s : Mem) (f : α → Mem → Core.R β) : (Core.R.ok a s).bind f = f a s := rfl
theorem bind_err {α β : Type} (c : Str) (s : Mem) (f : α → Mem → Core.R β) : (Core.R.err c s).bind f = .err c s := rfl
theorem bind_no {α β : Type} (f : α → Mem → Core.R β) : (Core.R.no : Core.R α).bind f = .no := rfl
theorem toS_ok {α : Type} (a : α) (s : Mem) (l : Core.Loc) (f : α → Mem → RS) : (Core.R.ok a s).toS l f = f a s := rfl
theorem toS_err {α : Type} (c : Str) (s : Mem) (l : Core.Loc) (f : α → Mem → RS) : (Core.R.err c s).toS l f = .err c l s := rfl
theorem nox_ok {α β : Type} (a : α) (s : Mem) (f : α → Mem → Core.R β) : (Core.R.ok a s).nox f = f a s := rfl
theorem fin_nx (l : Core.Loc) (s : Mem) : Core.fin (.nx l s) = .ok .non s := rfl
theorem fin_rt (d : D) (s : Mem) : Core.fin (.rt d s) = .ok d s := rfl
theorem fin_err (c : Str) (l : Core.Loc) (s : Mem) : Core.fin (.err c l s) = .err c s := rfl
theorem gIsT_at {T : String} {d : D} {s : Mem} {a : String} (h : tyN s d = some a) : gIsT T d s = .ok (.bl (isT a T)) s := by unfold gIsT; rw [h]
end Core

set_option Elab.async false
set_option linter.all false
set_option maxRecDepth 100000
set_option maxHeartbeats 4000000
/-! Core: dicts by key -/
namespace Core
open PySem PySem.Spec PyProof.Rows L2
def keyD : D → Option Key
  | .int i => some (.inl i)
  | .str z => some (.inr z)
  | _ => none
def getK (kvs : List (Key × D)) (k : Key) : Option D := (kvs.find? fun p => decide (p.1 = k)).map (·.2)
theorem RepK.get {K : PySem.W.Frag} {ι : List Addr} {H : Hp} {ws : List (Key × V)} {kvs : List (Key × D)} (h : RepK K ι H ws kvs) {k : Key} {d : D} (e : getK kvs k = some d) : ∃ v, valV ws k = some v ∧ Rep K ι H v d := by
  induction h with
  | nil => cases e
  | @cons x v vs d' ds r t ih =>
    by_cases hx : x = k
    · have e1 : getK ((x, d') :: ds) k = some d' := by unfold getK; rw [List.find?_cons, decide_eq_true hx]; rfl
      rw [e1] at e
      cases e
      exact ⟨v, valV_pos hx, r⟩
    · have e2 : getK ((x, d') :: ds) k = getK ds k := by unfold getK; rw [List.find?_cons, decide_eq_false hx]
      rw [e2] at e
      obtain ⟨u, h1, h2⟩ := ih e
      exact ⟨u, by rw [valV_neg (p := (x, v)) hx]; exact h1, h2⟩
theorem key_rep {K : PySem.W.Frag} {ι : List Addr} {H : Hp} {v : V} {y : D} {k : Key} (r : Rep K ι H v y) (h : keyD y = some k) : v = kV k := by
  cases r <;> first | (cases h; rfl) | cases h
def rIxDk : R2 := fun x y H Q => ∃ a v, x = .ref a ∧ DGet H a y (some v) ∧ Q v H
theorem ix_dk {X : Cx} (hu : X.A.units + 1 < cLine) : IxR X rIxDk := by
  intro value slice pins s σ H x y v u Q I rx ry h hs
  obtain ⟨a, w, rfl, g, q⟩ := h
  obtain rfl : v = Value.ref a := rx
  have hT := dict_typeIs I g
  unfold subscriptTail
  refine wpAny_bind ?_
  rw [getitemInPython_of_ne hT.not_modules]
  refine wpAny_bind (wpAny_specialOf hT PySem.F.slot_dict_getitem.lookup ?_)
  have fin : wpAny (model X.prog X.w) X.A (subscripted slice false (.ref a) u) (fun r s3 => wpAny (model X.prog X.w) X.A (letTemporaryGo value (.ref a) r >>= fun _ => pure r) (EP X pins σ Q) X.xe s3) X.xe s := by
    rw [hs]
    exact wpAny_operating (wpAny_mono (d_getItem hu I g ry (Q := EP X pins σ Q) fun w' s3 I3 rw' => ⟨w, H, I3, rw', q⟩) (fun r s3 h3 => wpAny_bind (wpAny_letTemporaryGo (wpAny_pure h3))) fun _ _ x => x)
  first
    | exact wpAny_pure (wpAny_bind fin)
    | exact wpAny_bind (wpAny_pure (wpAny_bind fin))
    | exact wpAny_bind fin
/-- x[y]: of a dict by its key, else of a sequence or a text -/
def gIxA : D → D → Mem → R D := fun x y s => match x with
  | .ref n => match s[n]? with
    | some (.dK kvs) => match keyD y with
      | some k => match getK kvs k with
        | some d => .ok d s
        | none => .no
      | none => .no
    | some (.lkK kvs) => match keyD y with
      | some k => match getK kvs k with
        | some d => .ok d s
        | none => .no
      | none => .no
    | _ => gIx x y s
  | _ => gIx x y s
theorem ix_all {X : Cx} (hu : X.A.units + 1 < cLine) : IxR X (fun x y H Q => rIx X.K x y H Q ∨ rIxDk x y H Q) := ix_seq.or (ix_dk hu)
theorem s_ixA {G : Gx} : OpS2 G (fun x y H Q => rIx G.K x y H Q ∨ rIxDk x y H Q) gIxA := by
  intro W σ ι s H v w x y Q sm rv rw f
  have old : gIxA x y s = gIx x y s → rIx G.K v w H Q ∨ rIxDk v w H Q := fun e => by rw [e] at f; exact .inl (s_ix W σ ι s H v w x y Q sm rv rw f)
  cases rv with
  | @ref a n h1 =>
    have dk : ∀ kvs ws, (Rd H a (.dK ws)) → RepK G.K ι H ws kvs → Fin G W ι H σ (Rep G.K) (match keyD y with
      | some k => match getK kvs k with
        | some d => (Core.R.ok d s : R D)
        | none => .no
      | none => .no) Q → rIx G.K (.ref a) w H Q ∨ rIxDk (.ref a) w H Q := fun kvs ws hd hr f => by
      cases q : keyD y with
      | none => rw [q] at f; exact f.elim
      | some k =>
        rw [q] at f
        dsimp only at f
        cases q2 : getK kvs k with
        | none => rw [q2] at f; exact f.elim
        | some d =>
          rw [q2] at f
          obtain ⟨u, h2, h3⟩ := hr.get q2
          exact .inr ⟨a, u, rfl, .inl ⟨ws, k, hd, key_rep rw q, h2.symm⟩, f.here sm h3⟩
    cases q : s[n]? with
    | none => exact old (by unfold gIxA; simp only [q])
    | some o =>
      cases o with
      | dK kvs =>
        obtain ⟨ws, k1, k2⟩ := sm.ob n a _ h1 q
        exact dk kvs ws (.inl k1) k2 (by unfold gIxA at f; simp only [q] at f; exact f)
      | lkK kvs =>
        obtain ⟨o, ws, k1, k2⟩ := sm.ob n a _ h1 q
        exact dk kvs ws (.inr ⟨o, k1⟩) k2 (by unfold gIxA at f; simp only [q] at f; exact f)
      | _ => exact old (by unfold gIxA; simp only [q])
  | _ => exact old rfl
/-! ### d[k] = v -/
def putKD (kvs : List (Key × D)) (k : Key) (v : D) : List (Key × D) := if (kvs.any fun kv => decide (kv.1 = k)) = true then kvs.map (fun kv => if kv.1 = k then (kv.1, v) else kv) else kvs ++ [(k, v)]
theorem RepK.length {K : PySem.W.Frag} {ι : List Addr} {H : Hp} {ws : List (Key × V)} {kvs : List (Key × D)} (h : RepK K ι H ws kvs) : ws.length = kvs.length := by
  induction h with
  | nil => rfl
  | cons _ _ ih => rw [List.length_cons, List.length_cons, ih]
theorem RepK.any {K : PySem.W.Frag} {ι : List Addr} {H : Hp} {ws : List (Key × V)} {kvs : List (Key × D)} (h : RepK K ι H ws kvs) (k : Key) : (ws.any fun kv => decide (kv.1 = k)) = kvs.any fun kv => decide (kv.1 = k) := by
  induction h with
  | nil => rfl
  | cons _ _ ih => rw [List.any_cons, List.any_cons, ih]
theorem RepK.put {K : PySem.W.Frag} {ι : List Addr} {H : Hp} {ws : List (Key × V)} {kvs : List (Key × D)} (h : RepK K ι H ws kvs) (k : Key) {v : V} {d : D} (r : Rep K ι H v d) : RepK K ι H (putK ws k v) (putKD kvs k d) := by
  have map : RepK K ι H (ws.map fun kv => if kv.1 = k then (kv.1, v) else kv) (kvs.map fun kv => if kv.1 = k then (kv.1, d) else kv) := by
    induction h with
    | nil => exact .nil
    | @cons x v0 vs d0 ds r0 t ih =>
      rw [List.map_cons, List.map_cons]
      by_cases hx : x = k
      · rw [if_pos hx, if_pos hx]; exact .cons r ih
      · rw [if_neg hx, if_neg hx]; exact .cons r0 ih
  have app : RepK K ι H (ws ++ [(k, v)]) (kvs ++ [(k, d)]) := by
    clear map
    induction h with
    | nil => exact .cons r .nil
    | cons r0 t ih => exact .cons r0 ih
  unfold putK putKD
  rw [h.any k]
  split
  · exact map
  · exact app
/-- xs[i] = v of a list, d[k] = v of a dict -/
def mSubA (mv mo mi : EM) : SM := fun l s => (mv l s).toS l fun d s1 => (mo l s1).toS l fun x s2 => (mi l s2).toS l fun y s3 => match x with
  | .ref n => match s3[n]? with
    | some (.lst xs) => match y with
      | .int i => match ixN xs.length i with
        | some j => .nx l (s3.set n (.lst (xs.set j d)))
        | none => .no
      | _ => .no
    | some (.dK kvs) => match keyD y with
      | some k => if kvs.length < 100000 then .nx l (s3.set n (.dK (putKD kvs k d))) else .no
      | none => .no
    | _ => .no
  | _ => .no
theorem PSet.or {X : Cx} {t t' : TSet} (h : PSet X t) (h' : PSet X t') : PSet X (fun o i v H Q => t o i v H Q ∨ t' o i v H Q) := by
  intro pins s σ H o i v ov iv u Q I ro ri rv q
  rcases q with q | q
  · exact h pins s σ H o i v ov iv u Q I ro ri rv q
  · exact h' pins s σ H o i v ov iv u Q I ro ri rv q
section
variable {G : Gx} {W : WX} {X : Cx} {o i value : Expr} {tpos pos : Pos} {mv mo mi : EM}
theorem sm_subA (hu : X.A.units + 1 < cLine) (hs : swapsWithSole [.Subscript o i tpos] value pos.line X.env = pure false := by rfl) (hw : swappedStores [.Subscript o i tpos] value X.env = pure none := by rfl)
    (h1 : (assignEach [.Subscript o i tpos] X.env).map (·.2) = [assign (.Subscript o i tpos) X.env] := by rfl)
    (ha : ∀ v, assign (.Subscript o i tpos) X.env v = (do
      let ov ← holding [v] (eval o X.env)
      let iv ← holding [v, ov] (eval i X.env)
      standAt tpos
      holding [v, ov, iv] (setItem ov iv v)
      release [v, ov, iv] []) := by intro _; rfl)
    (hv : PE X value (dE G W mv)) (ho : PE X o (dE G W mo)) (hi : PE X i (dE G W mi)) : PS X (.Assign [.Subscript o i tpos] value pos) (dS G W (mSubA mv mo mi)) :=
  PS.imp (ps_asg hv (pg_sub ho hi (PSet.or set_list (set_dict hu)) ha) hs hw h1) fun D σ H ⟨ι, l, s, sm, sl, f0⟩ => ⟨ι, l, s, sm, sl, f0.toS sl fun d s1 ι1 v H1 st1 sm1 r1 f1 => ⟨ι1, l, s1, sm1, sl.mono st1, f1.toS (sl.mono st1) fun x s2 ι2 w H2 st2 sm2 r2 f2 =>
    ⟨ι2, l, s2, sm2, (sl.mono st1).mono st2, f2.toS ((sl.mono st1).mono st2) fun y s3 ι3 u H3 st3 sm3 r3 f3 => by
    cases r2 with
    | @ref a n h1 =>
      dsimp only at f3
      have h1' := st3.pre _ _ h1
      cases q : s3[n]? with
      | none => simp only [q] at f3; exact f3.elim
      | some ob =>
        cases ob with
        | lst xs =>
          simp only [q] at f3
          obtain ⟨vs, k1, k2⟩ := sm3.lst q h1'
          cases r3 with
          | int k =>
            dsimp only at f3
            cases q2 : ixN xs.length k with
            | none => simp only [q2] at f3; exact f3.elim
            | some j =>
              simp only [q2] at f3
              refine .inl ⟨a, vs, k, j, rfl, rfl, k1, by rw [k2.length]; exact q2, ?_⟩
              have nt : NoTup (upd H3 a (.lst (vs.set j v))) a := NoTup.of upd_same (fun _ e => by cases e) (fun _ _ e => by cases e)
              obtain ⟨w1, w2⟩ := sm3.write (o' := .lst (xs.set j d)) (u := .lst (vs.set j v)) h1' q rfl rfl (fun _ => ⟨_, upd_same, (k2.set j ((r1.mono st2).mono st3)).mono (Stp.mut (NoTup.of k1 (fun _ e => by cases e) (fun _ _ e => by cases e)))⟩) nt
              exact f3 ι3 σ _ w2 w1 ((((sl.mono st1).mono st2).mono st3).mono w2)
          | _ => exact f3.elim
        | dK kvs =>
          simp only [q] at f3
          obtain ⟨ws, k1, k2⟩ := sm3.ob n a _ h1' q
          cases q2 : keyD y with
          | none => simp only [q2] at f3; exact f3.elim
          | some k =>
            simp only [q2] at f3
            by_cases hl : kvs.length < 100000
            · rw [if_pos hl] at f3
              have hl' : ws.length < sizeLine := by rw [k2.length]; exact Nat.lt_of_lt_of_le hl (lim_le (Nat.le_refl _))
              refine .inr ⟨a, _, rfl, .inl ⟨ws, k, k1, key_rep r3 q2, hl', rfl⟩, ?_⟩
              have nt : NoTup (upd H3 a (.dK (putK ws k v))) a := NoTup.of upd_same (fun _ e => by cases e) (fun _ _ e => by cases e)
              obtain ⟨w1, w2⟩ := sm3.write (o' := .dK (putKD kvs k d)) (u := .dK (putK ws k v)) h1' q rfl rfl (fun _ => ⟨_, upd_same, (k2.put k ((r1.mono st2).mono st3)).mono (Stp.mut (NoTup.of k1 (fun _ e => by cases e) (fun _ _ e => by cases e)))⟩) nt
              exact f3 ι3 σ _ w2 w1 ((((sl.mono st1).mono st2).mono st3).mono w2)
            · rw [if_neg hl] at f3; exact f3.elim
        | _ => simp only [q] at f3; exact f3.elim
    | _ => exact f3.elim⟩⟩⟩
end
/-! ### displays -/
theorem newK {G : Gx} {W : WX} {ι1 : List Addr} {s1 : Mem} {H1 : Hp} {Q : VK} {σ : L2.St} (sm1 : SimH G ι1 s1 H1) (f1 : Fin G W ι1 H1 σ (Rep G.K) (.ok (.ref s1.length) (s1 ++ [.dK []])) Q) (p : Addr) (hp : H1 p = none) : Q (.ref p) (upd H1 p (.dK [])) := by
  have st2 : Stp G.K ι1 H1 (ι1 ++ [p]) (upd H1 p (.dK [])) := Stp.new hp (pre_snoc p)
  exact f1.there st2 (sm1.push hp rfl ⟨[], upd_same, .nil⟩) (.ref (by rw [← sm1.len]; simp))
def mDNew : EM := fun _ s => .ok (.ref s.length) (s ++ [.dK []])
theorem em_dnew {G : Gx} {W : WX} {X : Cx} {pos : Pos} : PE X (.Dict [] [] pos) (dE G W mDNew) :=
  PE.imp pe_dnewK fun σ H Q ⟨ι, l, s, sm, sl, f⟩ => newK sm f
def mPairs : List (EM × EM) → Core.Loc → Mem → R (List (D × D))
  | [], _, s => .ok [] s
  | (mk, mv) :: r, l, s => (mk l s).bind fun x s1 => (mv l s1).bind fun y s2 => (mPairs r l s2).bind fun ps s3 => .ok ((x, y) :: ps) s3
inductive RepP (K : PySem.W.Frag) (ι : List Addr) (H : Hp) : List (V × V) → List (D × D) → Prop
  | nil : RepP K ι H [] []
  | cons {x y : V} {a b : D} {ps : List (V × V)} {qs : List (D × D)} : Rep K ι H x a → Rep K ι H y b → RepP K ι H ps qs → RepP K ι H ((x, y) :: ps) ((a, b) :: qs)
theorem pairs_d {G : Gx} {W : WX} {σ : L2.St} : ∀ (ms : List (EM × EM)) {ι : List Addr} {l : Core.Loc} {s : Mem} {H : Hp} {Q : List (V × V) → Hp → Prop}, SimH G ι s H → Slots G.K ι H l σ → Fin G W ι H σ (RepP G.K) (mPairs ms l s) Q → tPairs (ms.map fun p => (dE G W p.1, dE G W p.2)) σ H Q
  | [], ι, l, s, H, Q, sm, sl, f => f.here sm .nil
  | (mk, mv) :: r, ι, l, s, H, Q, sm, sl, f => by
    unfold mPairs at f
    exact ⟨ι, l, s, sm, sl, f.bind fun x s1 ι1 v H1 st1 sm1 r1 f1 => ⟨ι1, l, s1, sm1, sl.mono st1, f1.bind fun y s2 ι2 w H2 st2 sm2 r2 f2 => pairs_d r sm2 ((sl.mono st1).mono st2) (f2.bind fun ps s3 ι3 us H3 st3 sm3 r3 f3 => f3.here sm3 (.cons ((r1.mono st2).mono st3) (r2.mono st3) r3))⟩⟩
def keysD : List (D × D) → Option (List (Key × D))
  | [] => some []
  | (a, b) :: r => match keyD a, keysD r with
    | some k, some ks => some ((k, b) :: ks)
    | _, _ => none
theorem keys_rep {K : PySem.W.Frag} {ι : List Addr} {H : Hp} {ps : List (V × V)} {qs : List (D × D)} (h : RepP K ι H ps qs) : ∀ {ks : List (Key × D)}, keysD qs = some ks → ∃ ws : List (Key × V), ps = ws.map (fun kv => (kV kv.1, kv.2)) ∧ RepK K ι H ws ks := by
  induction h with
  | nil => intro ks e; cases e; exact ⟨[], rfl, .nil⟩
  | @cons x y a b ps qs r1 r2 t ih =>
    intro ks e
    unfold keysD at e
    cases q : keyD a with
    | none => rw [q] at e; cases e
    | some k =>
      cases q2 : keysD qs with
      | none => rw [q, q2] at e; cases e
      | some ks2 =>
        rw [q, q2] at e
        cases e
        obtain ⟨ws, h1, h2⟩ := ih q2
        exact ⟨(k, y) :: ws, by rw [List.map_cons, ← h1, key_rep r1 q], .cons r2 h2⟩
def mergeKD (kvs more : List (Key × D)) : List (Key × D) := more.foldl (fun acc kv => putKD acc kv.1 kv.2) kvs
theorem RepK.merge {K : PySem.W.Frag} {ι : List Addr} {H : Hp} {ws : List (Key × V)} {kvs : List (Key × D)} (h : RepK K ι H ws kvs) : ∀ {a : List (Key × V)} {b : List (Key × D)}, RepK K ι H a b → RepK K ι H (mergeK a ws) (mergeKD b kvs) := by
  induction h with
  | nil => exact fun h => h
  | cons r t ih => exact fun h => ih (h.put _ r)
/-- {k: v, ..}: the new dict first, empty, then the pairs -/
def mDisp (ms : List (EM × EM)) : EM := fun l s => (mPairs ms l (s ++ [.dK []])).bind fun qs s2 => match s2[s.length]?, keysD qs with
  | some (.dK []), some ks => if ks.length ≤ 15 then .ok (.ref s.length) (s2.set s.length (.dK (mergeKD [] ks))) else .no
  | _, _ => .no
theorem pps_d {X : Cx} {G : Gx} {W : WX} {pos : Pos} {k v : Expr} {ks : List (Option Expr)} {vs : List Expr} {mk mv : EM} {ms : List (EM × EM)} (hk : PE X k (dE G W mk)) (hv : PE X v (dE G W mv)) (hr : PPs X pos ks vs (ms.map fun p => (dE G W p.1, dE G W p.2))) :
    PPs X pos (some k :: ks) (v :: vs) (((mk, mv) :: ms).map fun p => (dE G W p.1, dE G W p.2)) := pps_cons hk hv hr
theorem em_disp {X : Cx} {G : Gx} {W : WX} {pos : Pos} {keys : List (Option Expr)} {values : List Expr} {ms : List (EM × EM)} (h : PPs X pos keys values (ms.map fun p => (dE G W p.1, dE G W p.2))) (hall : keys.all (·.isSome) = true) (hl : keys.length = values.length) (h0 : keys ≠ []) (h15 : keys.length ≤ 15) :
    PE X (.Dict keys values pos) (dE G W (mDisp ms)) :=
  PE.imp (pe_disp h hall hl h0 h15) fun σ H Q ⟨ι, l, s, sm, sl, f⟩ p hp => by
    have st1 : Stp G.K ι H (ι ++ [p]) (upd H p (.dK [])) := Stp.new hp (pre_snoc p)
    have sm1 : SimH G (ι ++ [p]) (s ++ [.dK []]) (upd H p (.dK [])) := sm.push hp rfl ⟨[], upd_same, .nil⟩
    have hp1 : (ι ++ [p])[s.length]? = some p := by rw [← sm.len]; simp
    refine pairs_d ms sm1 (sl.mono st1) ?_
    unfold mDisp at f
    refine (f.step st1).bind fun qs s2 ι2 us H2 st2 sm2 r2 f2 => ?_
    have hp2 := st2.pre _ _ hp1
    cases q : s2[s.length]? with
    | none => simp only [q] at f2; exact f2.elim
    | some ob =>
      cases ob with
      | dK kv0 =>
        cases kv0 with
        | nil =>
          cases q2 : keysD qs with
          | none => simp only [q, q2] at f2; exact f2.elim
          | some ks =>
            simp only [q, q2] at f2
            by_cases hz : ks.length ≤ 15
            · rw [if_pos hz] at f2
              obtain ⟨ws0, k1, k2⟩ := sm2.ob _ p _ hp2 q
              cases k2
              obtain ⟨ws, w1, w2⟩ := keys_rep r2 q2
              refine ⟨k1, ws, w1, by rw [w2.length]; exact hz, ?_⟩
              have nt : NoTup (upd H2 p (.dK (mergeK [] ws))) p := NoTup.of upd_same (fun _ e => by cases e) (fun _ _ e => by cases e)
              have mg : RepK G.K ι2 H2 (mergeK [] ws) (mergeKD [] ks) := w2.merge .nil
              obtain ⟨x1, x2⟩ := sm2.write (o' := .dK (mergeKD [] ks)) (u := .dK (mergeK [] ws)) hp2 q rfl rfl (fun _ => ⟨_, upd_same, mg.mono (Stp.mut (NoTup.of k1 (fun _ e => by cases e) (fun _ _ e => by cases e)))⟩) nt
              exact f2.there x2 x1 (.ref hp2)
            · rw [if_neg hz] at f2; exact f2.elim
        | cons _ _ => simp only [q] at f2; exact f2.elim
      | _ => simp only [q] at f2; exact f2.elim
theorem u1 {k : Nat} {A : Around} (r : Room k A) : A.units + 1 < cLine := by have := r.units; omega
end Core

set_option Elab.async false
set_option linter.all false
set_option maxRecDepth 100000
set_option maxHeartbeats 4000000
/-! Core: dict comprehensions -/
namespace Core
open PySem PySem.Spec PyProof.Rows L2
def loopDc (ok : Mem → Bool) (g : TGm) (vs : List Nat) (l : Core.Loc) (tt : TM) (mk mv : EM) (n : Nat) : List D → Mem → R D
  | [], s => if ok s = true then .ok (.ref n) s else .no
  | d :: r, s => if ok s = true then match g d (wipeL l vs) with
      | some l1 => (tt l1 s).nox fun b s2 => if b = true then (mk l1 s2).nox fun y s3 => (mv l1 s3).nox fun z s4 => match s4[n]?, keyD y with
          | some (.dK kvs), some k => if kvs.length < 100000 then loopDc ok g vs l tt mk mv n r (s4.set n (.dK (putKD kvs k z))) else .no
          | _, _ => .no
        else loopDc ok g vs l tt mk mv n r s2
      | none => .no
    else .no
def mDc (mi : IM) (g : TGm) (vs : List Nat) (tt : TM) (mk mv : EM) : EM := fun l s => (mi l s).bind fun it s1 => loopDc it.ok g vs l tt mk mv s1.length it.ds (s1 ++ [.dK []])
theorem loopDc_ok {G : Gx} {W : WX} {ι : List Addr} {H : Hp} {σ : L2.St} {Q : VK} {ok : Mem → Bool} {g : TGm} {vs : List Nat} {l : Core.Loc} {tt : TM} {mk mv : EM} {n : Nat} {ds : List D} {s : Mem} (f : Fin G W ι H σ (Rep G.K) (loopDc ok g vs l tt mk mv n ds s) Q) : ok s = true := by
  cases ds with
  | nil =>
    unfold loopDc at f
    by_cases h : ok s = true
    · exact h
    · rw [if_neg h] at f; exact f.elim
  | cons d r =>
    unfold loopDc at f
    by_cases h : ok s = true
    · exact h
    · rw [if_neg h] at f; exact f.elim
section
variable {J : It} {n : Nat} {Gd : Hp → Prop} {Y : Nat → Hp → V → Hp → Prop}
theorem dc_walk (w : Walk J n Gd Y) {g : TG} {tt : TT} {tk tv : TE} {vs : List Nat} {σ : L2.St} {H1 : Hp} {Da : Addr} {Qd : Hp → Prop} (Pv : Nat → Hp → Prop) (h0 : Pv 0 (upd H1 Da (.dK []))) (hG : ∀ i H, i ≤ n → Pv i H → Gd H)
    (hs : ∀ i x H H', i < n → Pv i H → Y i H x H' → g x (wipe σ vs) H' fun σ2 H2 => wipe σ2 vs = wipe σ vs ∧ tt σ2 H2 fun b H3 =>
      if b = true then tk σ2 H3 fun y H4 => tv σ2 H4 fun z H5 => ∃ kvs k, y = kV k ∧ H5 Da = some (.dK kvs) ∧ kvs.length < sizeLine ∧ Pv (i + 1) (upd H5 Da (.dK (putK kvs k z))) else Pv (i + 1) H3) (hd : ∀ H, Pv n H → Qd H) :
    ∃ W : Nat → Nat → Hp → Prop, (∃ m, W 0 m (upd H1 Da (.dK []))) ∧ ∀ i m H, W i m H →
      (J.stop i H ∧ Qd H) ∨ (J.go i H ∧ ∃ Nx : Hp → Prop, (∀ H', Nx H' → ∃ m', m' < m ∧ W (i + 1) m' H') ∧ ∀ x H', J.yld i H x H' → g x (wipe σ vs) H' fun σ2 H2 => wipe σ2 vs = wipe σ vs ∧ tt σ2 H2 fun b H3 =>
        if b = true then tk σ2 H3 fun y H4 => tv σ2 H4 fun z H5 => ∃ kvs k, y = kV k ∧ H5 Da = some (.dK kvs) ∧ kvs.length < sizeLine ∧ Nx (upd H5 Da (.dK (putK kvs k z))) else Nx H3) := by
  refine ⟨fun i m H => m = n - i ∧ i ≤ n ∧ Pv i H, ⟨n, by simp, Nat.zero_le _, h0⟩, fun i m H ⟨e, hi, p⟩ => ?_⟩
  subst e
  have q := hG i H hi p
  by_cases hlt : i < n
  · exact .inr ⟨w.goes i H hlt q, Pv (i + 1), fun H' p' => ⟨n - (i + 1), by omega, rfl, hlt, p'⟩, fun x H' y => hs i x H H' hlt p (w.yields i H x H' hlt q y)⟩
  · have e : i = n := by omega
    subst e
    exact .inl ⟨w.stops H q, hd H p⟩
end
theorem dc_imp {G : Gx} {W : WX} {mi : IM} {g : TGm} {vs : List Nat} {tt : TM} {mk mv : EM} {σ : L2.St} {H : Hp} {Q : VK} (h : dE G W (mDc mi g vs tt mk mv) σ H Q) : tDc (dI G W mi) (dG G vs g) (dT G W0 tt) (dE G W0 mk) (dE G W0 mv) vs σ H Q := by
  obtain ⟨ι, l, s, sm, sl, f⟩ := h
  refine ⟨ι, l, s, sm, sl, f.bind fun it s1 ι1 J H1 st1 sm1 r1 f1 => fun Da hD => ?_⟩
  obtain ⟨Gd, Y, wk, hG, hY⟩ := r1
  have stD : Stp G.K ι1 H1 (ι1 ++ [Da]) (upd H1 Da (.dK [])) := Stp.new hD (pre_snoc Da)
  have smD : SimH G (ι1 ++ [Da]) (s1 ++ [.dK []]) (upd H1 Da (.dK [])) := sm1.push hD rfl ⟨[], upd_same, .nil⟩
  have hDn : (ι1 ++ [Da])[s1.length]? = some Da := by rw [← sm1.len]; simp
  refine dc_walk wk (fun i H' => ∃ ι' s', Stp G.K ι1 H1 ι' H' ∧ SimH G ι' s' H' ∧ Slots G.K ι' H' l σ ∧ ι'[s1.length]? = some Da ∧ Fin G W ι' H' σ (Rep G.K) (loopDc it.ok g vs l tt mk mv s1.length (it.ds.drop i) s') Q)
    ⟨ι1 ++ [Da], s1 ++ [.dK []], stD, smD, (sl.mono st1).mono stD, hDn, by rw [List.drop_zero]; exact f1.step stD⟩ (fun i H' _ ⟨ι', s', st', sm', sl', hn, f'⟩ => hG ι' s' H' st' sm' (loopDc_ok f')) ?_ ?_
  · rintro i x H' H2 hi ⟨ι', s', st', sm', sl', hn, f'⟩ hy
    have hd : it.ds[i]? = some it.ds[i] := List.getElem?_eq_getElem hi
    rw [List.drop_eq_getElem_cons hi] at f'
    have hok := loopDc_ok f'
    obtain ⟨sm2, st2, r2⟩ := hY i ι' s' H' x H2 _ hd st' sm' hok hy
    unfold loopDc at f'
    rw [if_pos hok] at f'
    refine ⟨ι', wipeL l vs, s', it.ds[i], sm2, (sl'.mono st2).wipe vs, r2, ?_⟩
    cases q : g it.ds[i] (wipeL l vs) with
    | none => rw [q] at f'; exact f'.elim
    | some l1 =>
      rw [q] at f'
      dsimp only at f' ⊢
      intro σ2 sl2 hw
      refine ⟨hw.trans (wipe_wipe σ vs), ι', l1, s', sm2, sl2, (f'.step st2).nox fun b s2 ι2 b' H3 st3 sm3 r3 f3 => ?_⟩
      cases r3
      cases b with
      | false =>
        rw [if_neg Bool.false_ne_true] at f3 ⊢
        exact ⟨ι2, s2, (st'.trans st2).trans st3, sm3, (sl'.mono st2).mono st3, st3.pre _ _ (st2.pre _ _ hn), f3⟩
      | true =>
        rw [if_pos rfl] at f3 ⊢
        refine ⟨ι2, l1, s2, sm3, sl2.mono st3, f3.nox fun y s3 ι3 v H4 st4 sm4 r4 f4 => ⟨ι3, l1, s3, sm4, (sl2.mono st3).mono st4, f4.nox fun z s4 ι4 u H5 st5 sm5 r5 f5 => ?_⟩⟩
        have hn5 := st5.pre _ _ (st4.pre _ _ (st3.pre _ _ (st2.pre _ _ hn)))
        cases q2 : s4[s1.length]? with
        | none => simp only [q2] at f5; exact f5.elim
        | some ob =>
          cases ob with
          | dK kvs =>
            cases q3 : keyD y with
            | none => simp only [q2, q3] at f5; exact f5.elim
            | some kk =>
              simp only [q2, q3] at f5
              by_cases hz : kvs.length < 100000
              · rw [if_pos hz] at f5
                obtain ⟨ws, k1, k2⟩ := sm5.ob _ Da _ hn5 q2
                have ntD : NoTup H5 Da := NoTup.of k1 (fun _ e => by cases e) (fun _ _ e => by cases e)
                have nt : NoTup (upd H5 Da (.dK (putK ws kk u))) Da := NoTup.of upd_same (fun _ e => by cases e) (fun _ _ e => by cases e)
                obtain ⟨w1, w2⟩ := sm5.write (o' := .dK (putKD kvs kk z)) (u := .dK (putK ws kk u)) hn5 q2 rfl rfl (fun _ => ⟨_, upd_same, (k2.put kk r5).mono (Stp.mut ntD)⟩) nt
                exact ⟨ws, kk, key_rep r4 q3, k1, by rw [k2.length]; exact lim_lt hz, ι4, _, ((((st'.trans st2).trans st3).trans st4).trans st5).trans w2, w1, ((((sl'.mono st2).mono st3).mono st4).mono st5).mono w2, hn5, f5.step w2⟩
              · rw [if_neg hz] at f5; exact f5.elim
          | _ => simp only [q2] at f5; exact f5.elim
  · rintro H' ⟨ι', s', st', sm', sl', hn, f'⟩
    rw [List.drop_length] at f'
    have hok := loopDc_ok f'
    unfold loopDc at f'
    rw [if_pos hok] at f'
    exact f'.here sm' (.ref hn)
section
variable {G : Gx} {W : WX} {X : Cx} {kx vx tg iter : Expr} {ifs : List Expr} {scope : Scope} {own : List (Str × Nat)} {pos : Pos} {mi : IM} {g : TGm} {tt : TM} {mk mv : EM}
theorem em_dc (hc : X.calm = true) (hN : X.N.Nodup) (hi : PI X tg iter (dI G W mi)) (ok : BlkOk X.N X.env.scope scope own)
    (hg : ∀ (s : Shared) (H : Hp) (C : Addr) (cl : List (Str × Addr)) (fp : List Addr), PG (X.blk s H scope (compEnvC scope cl C X.env) fp) tg (dG G (own.map (·.2)) g)) (ht : ∀ (s : Shared) (H : Hp) (C : Addr) (cl : List (Str × Addr)) (fp : List Addr), PTs (X.blk s H scope (compEnvC scope cl C X.env) fp) ifs (dT G W0 tt))
    (hk : ∀ (s : Shared) (H : Hp) (C : Addr) (cl : List (Str × Addr)) (fp : List Addr), PE (X.blk s H scope (compEnvC scope cl C X.env) fp) kx (dE G W0 mk))
    (he : ∀ (s : Shared) (H : Hp) (C : Addr) (cl : List (Str × Addr)) (fp : List Addr), PE (X.blk s H scope (compEnvC scope cl C X.env) fp) vx (dE G W0 mv)) (hs : ∀ x, foldedSetIterable iter X.env x = pure x := by intro _; rfl) :
    PE X (.DictComp kx vx [⟨tg, iter, ifs, 0⟩] scope pos) (dE G W (mDc mi g (own.map (·.2)) tt mk mv)) :=
  PE.imp (pe_dc hc hN hi ok hg ht hk he hs) fun σ H Q h => dc_imp h
end
/-! ### zip of two tuples -/
def zipD (a b : List D) : List D := List.zipWith (fun x y => .tup [x, y]) a b
def iZip (mA : AM) : IM := fun l s => (mA l s).bind fun xs s1 => match xs with
  | [.tup a, .tup b] => .ok ⟨zipD a b, fun _ => true⟩ s1
  | _ => .no
theorem walk_zip {K : PySem.W.Frag} {a b : Addr} {xs ys : List V} {n : Nat} (hn : n = min xs.length ys.length) : Walk (RZ.ItzT K a b) n (fun H => SqT K H a xs ∧ SqT K H b ys) (fun i H v H' => ∃ T x y, v = .ref T ∧ H T = none ∧ H' = upd H T (.tup [x, y]) ∧ xs[i]? = some x ∧ ys[i]? = some y) :=
  ⟨fun i H hi ⟨p, q⟩ => ⟨xs, ys, xs[i]'(by omega), ys[i]'(by omega), p, q, by simp, by simp⟩, fun H ⟨p, q⟩ => ⟨xs, ys, p, q, by omega⟩, fun i H v H' hi ⟨p, q⟩ ⟨T, x, y, h1, h2, h3, h4, h5⟩ => ⟨T, x, y, h1, h2, h3, h4 xs p, h5 ys q⟩⟩
section
variable {G : Gx} {W : WX} {X : Cx} {e e2 : Expr} {p pos tpos : Pos} {elts : List Expr} {kk : Nat} {mA : AM}
theorem im_zip (hK : X.K = G.K) (hg : Gl X "zip") (hm : X.mg "zip" = none) (ha : PA X [e, e2] (dA G W mA))
    (hs : starEach [e, e2] X.env = (false, eval e X.env) :: starEach [e2] X.env := by rfl) (hpl : (backTo pos (starEach [e2] X.env)).any (·.1) = false := by rfl) :
    PI X (.Tuple elts kk tpos) (.Call (.Name "zip" p) [e, e2] [] pos) (dI G W (iZip mA)) :=
  PI.imp (RZ.pi_zipA hg hm ha hs hpl) fun σ H Q ⟨ι, l, s, sm, sl, f⟩ => ⟨ι, l, s, sm, sl, f.bind fun xs s1 ι1 vs H1 st1 sm1 r1 f1 => by
    split at f1
    · rename_i as bs
      cases r1 with
      | cons ra r => cases r with
        | cons rb r =>
          cases r
          cases ra with
          | @tup a ws _ h1 h2 => cases rb with
            | @tup b us _ h3 h4 =>
              refine ⟨a, b, ws, us, rfl, .inr ⟨SqT.of h1, SqT.of h3, f1.here sm1 ⟨fun H => SqT X.K H a ws ∧ SqT X.K H b us, _, walk_zip (by show (zipD as bs).length = _; unfold zipD; rw [List.length_zipWith, h2.length, h4.length]), fun ι2 s2 H2 st2 sm2 _ => ⟨SqT.of (st2.tup _ _ h1), SqT.of (st2.tup _ _ h3)⟩, fun i ι2 s2 H2 x H3 d hd st2 sm2 _ hy => ?_⟩⟩⟩
              obtain ⟨T, y, z, rfl, hT, rfl, hx, hz⟩ := hy
              obtain ⟨d1, q1, q2⟩ := h2.getV hx
              obtain ⟨d2, q3, q4⟩ := h4.getV hz
              have e4 : (zipD as bs)[i]? = some d := hd
              unfold zipD at e4
              rw [List.getElem?_zipWith, q1, q3] at e4
              cases e4
              have st : Stp G.K ι2 H2 ι2 (upd H2 T (.tup [y, z])) := Stp.new hT fun _ _ z => z
              exact ⟨sm2.laid hT, st, .tup (upd_same) (.cons ((q2.mono st2).mono st) (.cons ((q4.mono st2).mono st) .nil))⟩
    · exact f1.elim⟩
end
end Core

set_option Elab.async false
set_option linter.all false
set_option maxRecDepth 100000
set_option maxHeartbeats 4000000
/-! Core: stores, loops, draws: what is said of no program -/
namespace Core
open PySem PySem.Spec PyProof.Rows L2
section
variable {s s1 s2 : Mem} {dr at_ nm r k sc R : Nat} {names : List Str} {ns : List Int}
theorem seq_nx {a b : SM} {l l1 : Core.Loc} {s s1 : Mem} (h : a l s = .nx l1 s1) : mSeq a b l s = b l1 s1 := by unfold mSeq; rw [h]
theorem seq_err {a b : SM} {c : Str} {l l1 : Core.Loc} {s s1 : Mem} (h : a l s = .err c l1 s1) : mSeq a b l s = .err c l1 s1 := by unfold mSeq; rw [h]
theorem seq_rt {a b : SM} {d : D} {l : Core.Loc} {s s1 : Mem} (h : a l s = .rt d s1) : mSeq a b l s = .rt d s1 := by unfold mSeq; rw [h]
theorem for_ref {me : EM} {g : TGm} {body : SM} {l : Core.Loc} {s s1 : Mem} {m : Nat} {ds : List D} (h : me l s = .ok (.ref m) s1) (hr : rdL s1 m = some ds) : mFor (iSeq me) g body l s = loopS (okL m ds) g body ds l s1 := by
  unfold mFor iSeq; rw [h]; simp only [bind_ok, hr, toS_ok]
theorem for_tup {me : EM} {g : TGm} {body : SM} {l : Core.Loc} {s s1 : Mem} {ds : List D} (h : me l s = .ok (.tup ds) s1) : mFor (iSeq me) g body l s = loopS (fun _ => true) g body ds l s1 := by
  unfold mFor iSeq; rw [h]; rfl
theorem app_app {s t u : Mem} : s ++ t ++ u = s ++ (t ++ u) := List.append_assoc s t u
theorem lc_map {ok : Mem → Bool} {g : TGm} {vs : List Nat} {l : Core.Loc} {me : EM} {F : D → D} : ∀ (ds : List D) (acc : List D), (∀ u, ok (s ++ [u]) = true) → (∀ d ∈ ds, ∃ l1, g d (wipeL l vs) = some l1 ∧ ∀ u, me l1 (s ++ [u]) = .ok (F d) (s ++ [u])) → acc.length + ds.length ≤ 100000 →
    loopC ok g vs l tYes' me s.length ds (s ++ [.lst acc]) = .ok (.ref s.length) (s ++ [.lst (acc ++ ds.map F)])
  | [], acc, hok, hg, hlen => by
    unfold loopC
    rw [if_pos (hok _), List.map_nil, List.append_nil]
  | d :: ds, acc, hok, hg, hlen => by
    obtain ⟨l1, h1, h2⟩ := hg d List.mem_cons_self
    unfold loopC
    rw [if_pos (hok _), h1]
    have e1 : (s ++ [Ob.lst acc])[s.length]? = some (Ob.lst acc) := by simp
    have e2 : acc.length < 100000 := by simp only [List.length_cons] at hlen; omega
    simp only [tYes', nox_ok, if_true, h2, e1, e2]
    have e3 : (s ++ [Ob.lst acc]).set s.length (Ob.lst (acc ++ [F d])) = s ++ [Ob.lst (acc ++ [F d])] := by simp
    rw [e3, lc_map ds (acc ++ [F d]) hok (fun d hd => hg d (List.mem_cons_of_mem _ hd)) (by simp only [List.length_cons, List.length_append, List.length_nil] at hlen ⊢; omega)]
    simp
theorem lc_tup {me el : EM} {g : TGm} {vs : List Nat} {l : Core.Loc} {s s1 : Mem} {tt : TM} {ds : List D} (h : me l s = .ok (.tup ds) s1) : mLc (iSeq me) g vs tt el l s = loopC (fun _ => true) g vs l tt el s1.length ds (s1 ++ [.lst []]) := by
  unfold mLc iSeq; rw [h]; rfl
theorem last_at {u : Ob} : (s ++ [u])[s.length]? = some u := by simp
theorem lc_filt {ok : Mem → Bool} {g : TGm} {vs : List Nat} {l : Core.Loc} {tt : TM} {me : EM} {T : D → Bool} {F : D → D} : ∀ (ds : List D) (acc : List D), (∀ u, ok (s ++ [u]) = true) →
    (∀ d ∈ ds, ∃ l1, g d (wipeL l vs) = some l1 ∧ (∀ u, tt l1 (s ++ [u]) = .ok (T d) (s ++ [u])) ∧ ∀ u, me l1 (s ++ [u]) = .ok (F d) (s ++ [u])) → acc.length + ds.length ≤ 100000 →
    loopC ok g vs l tt me s.length ds (s ++ [.lst acc]) = .ok (.ref s.length) (s ++ [.lst (acc ++ (ds.filter T).map F)])
  | [], acc, hok, hg, hlen => by
    unfold loopC
    rw [if_pos (hok _), List.filter_nil, List.map_nil, List.append_nil]
  | d :: ds, acc, hok, hg, hlen => by
    obtain ⟨l1, h1, h2, h3⟩ := hg d List.mem_cons_self
    unfold loopC
    rw [if_pos (hok _), h1]
    dsimp only
    rw [h2, nox_ok]
    cases ht : T d with
    | true =>
      have e1 : (s ++ [Ob.lst acc])[s.length]? = some (Ob.lst acc) := by simp
      have e2 : acc.length < 100000 := by simp only [List.length_cons] at hlen; omega
      rw [if_pos rfl, h3, nox_ok, e1]
      dsimp only
      rw [if_pos e2]
      have e3 : (s ++ [Ob.lst acc]).set s.length (Ob.lst (acc ++ [F d])) = s ++ [Ob.lst (acc ++ [F d])] := by simp
      rw [e3, lc_filt ds (acc ++ [F d]) hok (fun d hd => hg d (List.mem_cons_of_mem _ hd)) (by simp only [List.length_cons, List.length_append, List.length_nil] at hlen ⊢; omega)]
      rw [List.filter_cons, if_pos ht]
      simp
    | false =>
      rw [if_neg Bool.false_ne_true, lc_filt ds acc hok (fun d hd => hg d (List.mem_cons_of_mem _ hd)) (by simp only [List.length_cons] at hlen; omega)]
      rw [List.filter_cons, if_neg (by rw [ht]; exact Bool.false_ne_true)]
theorem app_keep {s t : Mem} {n : Nat} {o : Ob} (h : s[n]? = some o) : (s ++ t)[n]? = some o := by rw [List.getElem?_append_left (List.getElem?_eq_some_iff.mp h).1]; exact h
def tyI (d : D) (lo hi : Int) : Bool := match d with
  | .int i => decide (lo ≤ i) && decide (i ≤ hi)
  | _ => false
def ops1 : List Str := ["arg", "now", "self"]
def ops2 : List Str := ["div", "mod"]
def ops3 : List Str := ["add", "sub", "mul", "min", "max", "less", "same", "both", "either"]
theorem at_nat {α : Type} {xs : List α} {i : Nat} {x : α} (h : xs[i]? = some x) : atI xs (i : Int) = some x := by
  have hi := (List.getElem?_eq_some_iff.mp h).1
  unfold atI ixN
  rw [if_pos (by omega), if_pos (by omega), Option.bind_some, Int.toNat_natCast]
  exact h
theorem ix_nat {xs : List D} {i : Nat} {x : D} (h : xs[i]? = some x) : gIx (.tup xs) (.int i) s = .ok x s := by
  unfold gIx
  dsimp only [seqD]
  rw [at_nat h]
theorem ix0 {a : D} {r : List D} : gIx (.tup (a :: r)) (.int 0) s = .ok a s := ix_nat (i := 0) rfl
theorem ix1 {a b : D} {r : List D} : gIx (.tup (a :: b :: r)) (.int 1) s = .ok b s := ix_nat (i := 1) rfl
theorem ix2 {a b c : D} {r : List D} : gIx (.tup (a :: b :: c :: r)) (.int 2) s = .ok c s := ix_nat (i := 2) rfl
structure Gs (dr at_ : Nat) (s : Mem) : Prop where
  hd : ∃ xs : List Int, s[dr]? = some (.lst (xs.map D.int))
  ha : ∃ i : Nat, s[at_]? = some (.lst [.int i])
  ne : dr ≠ at_
structure Gt (at_ : Nat) (s s' : Mem) : Prop where
  len : s.length ≤ s'.length
  old : ∀ (n : Nat) (o : Ob), n ≠ at_ → s[n]? = some o → s'[n]? = some o
theorem Gt.refl {at_ : Nat} {s : Mem} : Gt at_ s s := ⟨Nat.le_refl _, fun _ _ _ h => h⟩
theorem Gt.trans {at_ : Nat} {s s1 s2 : Mem} (a : Gt at_ s s1) (b : Gt at_ s1 s2) : Gt at_ s s2 := ⟨Nat.le_trans a.len b.len, fun n o h e => b.old n o h (a.old n o h e)⟩
theorem Gt.app {at_ : Nat} {s t : Mem} : Gt at_ s (s ++ t) := ⟨by simp, fun n o _ e => by rw [List.getElem?_append_left (List.getElem?_eq_some_iff.mp e).1]; exact e⟩
def Dr (dr at_ : Nat) (s : Mem) (P : D → Prop) (res : Core.R D) : Prop := ∃ d s', res = .ok d s' ∧ P d ∧ Gs dr at_ s' ∧ Gt at_ s s'
theorem Gs.app {t : Mem} (g : Gs dr at_ s) : Gs dr at_ (s ++ t) := by
  obtain ⟨⟨xs, h1⟩, ⟨i, h2⟩, h3⟩ := g
  exact ⟨⟨xs, by rw [List.getElem?_append_left (List.getElem?_eq_some_iff.mp h1).1]; exact h1⟩, ⟨i, by rw [List.getElem?_append_left (List.getElem?_eq_some_iff.mp h2).1]; exact h2⟩, h3⟩
theorem rd_lst {s : Mem} {n : Nat} {xs : List D} (h : s[n]? = some (.lst xs)) : rdL s n = some xs := by unfold rdL; rw [h]
theorem sq_lst {s : Mem} {n : Nat} {xs : List D} (h : s[n]? = some (.lst xs)) : seqD s (.ref n) = some xs := rd_lst h
theorem ix_lst {s : Mem} {n i : Nat} {xs : List D} {x : D} (h : s[n]? = some (.lst xs)) (hx : xs[i]? = some x) : gIx (.ref n) (.int i) s = .ok x s := by
  unfold gIx
  dsimp only
  rw [sq_lst h]
  dsimp only
  rw [at_nat hx]
def inR (lo hi : Int) (d : D) : Prop := ∃ v : Int, d = .int v ∧ lo ≤ v ∧ v < hi
theorem pickL {r : Nat} {xs : List D} {v : Int} (h : s[r]? = some (.lst xs)) (h0 : 0 ≤ v) (h1 : v < xs.length) : ∃ j, ∃ hj : j < xs.length, v = (j : Int) ∧ gIx (.ref r) (.int v) s = .ok xs[j] s := by
  obtain ⟨j, rfl⟩ : ∃ j : Nat, v = j := ⟨v.toNat, by omega⟩
  have hj : j < xs.length := by omega
  exact ⟨j, hj, rfl, ix_lst h (List.getElem?_eq_getElem hj)⟩
theorem pickN {r : Nat} {xs : List Str} {v : Int} (h : s[r]? = some (.lst (xs.map D.str))) (h0 : 0 ≤ v) (h1 : v < xs.length) : ∃ x ∈ xs, gIx (.ref r) (.int v) s = .ok (.str x) s := by
  obtain ⟨j, hj, rfl, e⟩ := pickL h h0 (by rw [List.length_map]; exact h1)
  rw [List.getElem_map] at e
  exact ⟨_, List.getElem_mem _, e⟩
theorem add_lst {a b : Nat} {xs ys : List D} (h : s[a]? = some (.lst xs)) (h' : s[b]? = some (.lst ys)) (hl : xs.length + ys.length ≤ 100000) : Core.gAdd (.ref a) (.ref b) s = .ok (.ref s.length) (s ++ [.lst (xs ++ ys)]) := by
  unfold Core.gAdd
  dsimp only
  rw [h, h']
  dsimp only
  rw [if_pos hl]
theorem Gt.fresh {s s1 s2 : Mem} {u : Ob} (t : Gt at_ (s ++ [u]) s2) (h : at_ < s.length) : s2[s.length]? = some u := t.old s.length u (Nat.ne_of_gt h) last_at
theorem Gs.lt (g : Gs dr at_ s) : at_ < s.length := let ⟨_, h⟩ := g.ha; (List.getElem?_eq_some_iff.mp h).1
def pl : Nat → D → Bool
  | 0, _ => false
  | n + 1, .tup xs => xs.all (pl n)
  | _ + 1, .str z => PyData.strOk z && decide (z.length ≤ 100000)
  | _ + 1, .ref _ => false
  | _ + 1, _ => true
theorem pl_up : ∀ {n m : Nat} {d : D}, n ≤ m → pl n d = true → pl m d = true
  | 0, m, d, h, e => by cases e
  | n + 1, 0, d, h, e => by omega
  | n + 1, m + 1, .tup xs, h, e => by
    have e : xs.all (pl n) = true := e
    show xs.all (pl m) = true
    exact List.all_eq_true.mpr fun x hx => pl_up (by omega) (List.all_eq_true.mp e x hx)
  | n + 1, m + 1, .str z, h, e => e
  | n + 1, m + 1, .ref z, h, e => by cases e
  | n + 1, m + 1, .non, h, e => rfl
  | n + 1, m + 1, .bl _, h, e => rfl
  | n + 1, m + 1, .int _, h, e => rfl
theorem pl_tup {n : Nat} {xs : List D} (h : ∀ x ∈ xs, pl n x = true) : pl (n + 1) (.tup xs) = true := List.all_eq_true.mpr h
theorem pl_t1 {n : Nat} {a : D} (h1 : pl n a = true) : pl (n + 1) (.tup [a]) = true := by show List.all [a] (pl n) = true; simp only [List.all_cons, List.all_nil, h1]; rfl
theorem pl_t2 {n : Nat} {a b : D} (h1 : pl n a = true) (h2 : pl n b = true) : pl (n + 1) (.tup [a, b]) = true := by show List.all [a, b] (pl n) = true; simp only [List.all_cons, List.all_nil, h1, h2]; rfl
theorem pl_t3 {n : Nat} {a b c : D} (h1 : pl n a = true) (h2 : pl n b = true) (h3 : pl n c = true) : pl (n + 1) (.tup [a, b, c]) = true := by show List.all [a, b, c] (pl n) = true; simp only [List.all_cons, List.all_nil, h1, h2, h3]; rfl
theorem pl_t4 {n : Nat} {a b c d : D} (h1 : pl n a = true) (h2 : pl n b = true) (h3 : pl n c = true) (h4 : pl n d = true) : pl (n + 1) (.tup [a, b, c, d]) = true := by show List.all [a, b, c, d] (pl n) = true; simp only [List.all_cons, List.all_nil, h1, h2, h3, h4]; rfl
theorem pl_t5 {n : Nat} {a b c d e : D} (h1 : pl n a = true) (h2 : pl n b = true) (h3 : pl n c = true) (h4 : pl n d = true) (h5 : pl n e = true) : pl (n + 1) (.tup [a, b, c, d, e]) = true := by show List.all [a, b, c, d, e] (pl n) = true; simp only [List.all_cons, List.all_nil, h1, h2, h3, h4, h5]; rfl
def opsW : List Str := ["int", "field", "not", "set", "send", "if", "skip", "go", "tell", "ask", "none", "n", "m", "k", "box", "lamp"]
theorem pl_ops : ∀ z ∈ ops1 ++ ops2 ++ ops3 ++ opsW, pl 1 (.str z) = true := by decide +kernel
theorem pl_s {n : Nat} {z : Str} (h : pl 1 (.str z) = true) : pl (n + 1) (.str z) = true := h
theorem pl_i {n : Nat} {z : Int} : pl (n + 1) (.int z) = true := rfl
theorem pl_w {n : Nat} {z : Str} (h : z ∈ ops1 ++ ops2 ++ ops3 ++ opsW) : pl (n + 1) (.str z) = true := pl_ops z h
structure Gt2 (at_ r : Nat) (s s' : Mem) : Prop where
  len : s.length ≤ s'.length
  old : ∀ (n : Nat) (o : Ob), n ≠ at_ → n ≠ r → s[n]? = some o → s'[n]? = some o
theorem Gt.two (t : Gt at_ s s1) : Gt2 at_ r s s1 := ⟨t.len, fun n o h _ e => t.old n o h e⟩
theorem Gt2.refl : Gt2 at_ r s s := ⟨Nat.le_refl _, fun _ _ _ _ h => h⟩
theorem Gt2.trans (a : Gt2 at_ r s s1) (b : Gt2 at_ r s1 s2) : Gt2 at_ r s s2 := ⟨Nat.le_trans a.len b.len, fun n o h h' e => b.old n o h h' (a.old n o h h' e)⟩
theorem Gt2.set {u : Ob} : Gt2 at_ r s (s.set r u) := ⟨by simp, fun n o _ h e => by rw [List.getElem?_set_ne (Ne.symm h)]; exact e⟩
theorem Gt2.close {u : Ob} (t : Gt2 at_ s.length (s ++ [u]) s1) : Gt at_ s s1 := ⟨Nat.le_trans (by simp) t.len, fun n o h e => t.old n o h (Nat.ne_of_lt (List.getElem?_eq_some_iff.mp e).1) (Gt.app.old n o h e)⟩
theorem Gs.set {u : Ob} (g : Gs dr at_ s) (h1 : r ≠ dr) (h2 : r ≠ at_) : Gs dr at_ (s.set r u) := by
  obtain ⟨⟨xs, a⟩, ⟨i, b⟩, c⟩ := g
  exact ⟨⟨xs, by rw [List.getElem?_set_ne h1]; exact a⟩, ⟨i, by rw [List.getElem?_set_ne h2]; exact b⟩, c⟩
theorem app_at {y : D} {rs : List D} (h : s[r]? = some (.lst rs)) (hl : rs.length < 100000) : gAppend (.ref r) [y] s = .ok .non (s.set r (.lst (rs ++ [y]))) := by
  unfold gAppend
  dsimp only
  rw [h]
  dsimp only
  rw [if_pos hl]
theorem set_at {u v : Ob} (h : s[r]? = some v) : (s.set r u)[r]? = some u := List.getElem?_set_self (List.getElem?_eq_some_iff.mp h).1
theorem loop_app {ok : Mem → Bool} {i : Nat} {body : SM} {Lk : Core.Loc → Prop} {P : D → Prop} {Kp : Mem → Prop} (hok : ∀ s, Kp s → ok s = true) (hkp : ∀ s s', Gt2 at_ r s s' → Kp s → Kp s') : ∀ (ds : List D) (l : Core.Loc) (s : Mem) (rs : List D),
    (∀ d ∈ ds, ∀ l s rs, Lk l → Gs dr at_ s → Kp s → s[r]? = some (.lst rs) → rs.length < 100000 → ∃ l' s' y, body (l.set i (some d)) s = .nx l' s' ∧ Lk l' ∧ P y ∧ Gs dr at_ s' ∧ Gt2 at_ r s s' ∧ s'[r]? = some (.lst (rs ++ [y]))) →
    Lk l → Gs dr at_ s → Kp s → s[r]? = some (.lst rs) → rs.length + ds.length ≤ 100000 →
    ∃ l' s' ys, loopS ok (gmName i) body ds l s = .nx l' s' ∧ Lk l' ∧ s'[r]? = some (.lst (rs ++ ys)) ∧ ys.length = ds.length ∧ (∀ y ∈ ys, P y) ∧ Gs dr at_ s' ∧ Gt2 at_ r s s'
  | [], l, s, rs, hb, hl, g, kp, hr, hlen => by
    unfold loopS
    rw [if_pos (hok s kp)]
    exact ⟨l, s, [], rfl, hl, by rw [List.append_nil]; exact hr, rfl, fun y h => absurd h List.not_mem_nil, g, .refl⟩
  | d :: ds, l, s, rs, hb, hl, g, kp, hr, hlen => by
    obtain ⟨l1, s1, y, h1, h2, h3, h4, h5, h6⟩ := hb d List.mem_cons_self l s rs hl g kp hr (by rw [List.length_cons] at hlen; omega)
    obtain ⟨l2, s2, ys, k1, k2, k3, k4, k5, k6, k7⟩ := loop_app hok hkp ds l1 s1 (rs ++ [y]) (fun d hd => hb d (List.mem_cons_of_mem _ hd)) h2 h4 (hkp _ _ h5 kp) h6 (by rw [List.length_cons] at hlen; rw [List.length_append, List.length_singleton]; omega)
    unfold loopS
    rw [if_pos (hok s kp)]
    dsimp only [gmName]
    rw [h1]
    dsimp only
    refine ⟨l2, s2, y :: ys, k1, k2, by rw [k3, List.append_assoc]; rfl, by rw [List.length_cons, List.length_cons, k4], fun z hz => ?_, k6, h5.trans k7⟩
    rcases List.mem_cons.mp hz with rfl | hz
    · exact h3
    · exact k5 z hz
theorem lc_draw {ok : Mem → Bool} {g : TGm} {vs : List Nat} {l : Core.Loc} {me : EM} {P : D → Prop} {Kp : Mem → Prop} (hok : ∀ s, Kp s → ok s = true) (hkp : ∀ s s', Gt2 at_ r s s' → Kp s → Kp s') (h1 : r ≠ dr) (h2 : r ≠ at_) : ∀ (ds : List D) (s : Mem) (rs : List D),
    (∀ d ∈ ds, ∃ l1, g d (wipeL l vs) = some l1 ∧ ∀ s, Gs dr at_ s → Kp s → Dr dr at_ s P (me l1 s)) → Gs dr at_ s → Kp s → s[r]? = some (.lst rs) → rs.length + ds.length ≤ 100000 →
    ∃ s' ys, loopC ok g vs l tYes' me r ds s = .ok (.ref r) s' ∧ s'[r]? = some (.lst (rs ++ ys)) ∧ ys.length = ds.length ∧ (∀ y ∈ ys, P y) ∧ Gs dr at_ s' ∧ Gt2 at_ r s s'
  | [], s, rs, hb, g, kp, hr, hlen => by
    unfold loopC
    rw [if_pos (hok s kp)]
    exact ⟨s, [], rfl, by rw [List.append_nil]; exact hr, rfl, fun y h => absurd h List.not_mem_nil, g, .refl⟩
  | d :: ds, s, rs, hb, g, kp, hr, hlen => by
    obtain ⟨l1, e1, f⟩ := hb d List.mem_cons_self
    obtain ⟨y, s1, e2, py, g1, t1⟩ := f s g kp
    have r1 := t1.old r _ h2 hr
    have g2 := g1.set (u := .lst (rs ++ [y])) h1 h2
    have t2 : Gt2 at_ r s (s1.set r (.lst (rs ++ [y]))) := t1.two.trans .set
    obtain ⟨s2, ys, k1, k2, k3, k4, k5, k6⟩ := lc_draw hok hkp h1 h2 ds _ (rs ++ [y]) (fun d hd => hb d (List.mem_cons_of_mem _ hd)) g2 (hkp _ _ t2 kp) (set_at r1) (by rw [List.length_cons] at hlen; rw [List.length_append, List.length_singleton]; omega)
    unfold loopC
    have e3 : rs.length < 100000 := by rw [List.length_cons] at hlen; omega
    rw [if_pos (hok s kp), e1]
    simp only [tYes', nox_ok, if_true, e2, r1, e3]
    refine ⟨s2, y :: ys, k1, by rw [k2, List.append_assoc]; rfl, by rw [List.length_cons, List.length_cons, k3], fun z hz => ?_, k5, t2.trans k6⟩
    rcases List.mem_cons.mp hz with rfl | hz
    · exact py
    · exact k4 z hz
theorem rng1 {ma : AM} {l : Core.Loc} {s s1 : Mem} {j : Int} (h : ma l s = .ok [.int j] s1) (h1 : j < 100000) (h2 : -100000 < j) {g : TGm} {body : SM} : mFor (iRange1 ma) g body l s = loopS (fun _ => true) g body ((List.range j.toNat).map fun (i : Nat) => D.int (0 + (i : Int))) l s1 := by
  unfold mFor iRange1; rw [h, bind_ok]; dsimp only; rw [if_pos ⟨h1, h2⟩, toS_ok]
theorem lrng1 {ma : AM} {l : Core.Loc} {s s1 : Mem} {j : Int} (h : ma l s = .ok [.int j] s1) (h1 : j < 100000) (h2 : -100000 < j) {g : TGm} {vs : List Nat} {tt : TM} {el : EM} : mLc (iRange1 ma) g vs tt el l s = loopC (fun _ => true) g vs l tt el s1.length ((List.range j.toNat).map fun (i : Nat) => D.int (0 + (i : Int))) (s1 ++ [.lst []]) := by
  unfold mLc iRange1; rw [h, bind_ok]; dsimp only; rw [if_pos ⟨h1, h2⟩, bind_ok]
theorem rng_len {n : Nat} : ((List.range n).map fun (i : Nat) => D.int (0 + (i : Int))).length = n := by simp
theorem tup_lst {r : Nat} {xs : List D} (h : s[r]? = some (.lst xs)) : gTuple [.ref r] s = .ok (.tup xs) s := by unfold gTuple; dsimp only; rw [sq_lst h]
theorem rev_lst {r : Nat} {xs : List D} (h : s[r]? = some (.lst xs)) : gRevL (.ref r) s = .ok (.ref s.length) (s ++ [.lst xs.reverse]) := by unfold gRevL; dsimp only; rw [rd_lst h]
theorem add_tup {a b : List D} (h : a.length + b.length ≤ 100000) : Core.gAdd (.tup a) (.tup b) s = .ok (.tup (a ++ b)) s := by unfold Core.gAdd; dsimp only; rw [if_pos h]
inductive Two (P : D → D → Prop) : List D → List D → Prop
  | nil : Two P [] []
  | cons {d y : D} {ds ys : List D} : P d y → Two P ds ys → Two P (d :: ds) (y :: ys)
theorem Two.len {P : D → D → Prop} {ds ys : List D} (t : Two P ds ys) : ys.length = ds.length := by
  induction t with
  | nil => rfl
  | cons _ _ ih => rw [List.length_cons, List.length_cons, ih]
theorem Two.hd {P : D → D → Prop} {ds ys : List D} (t : Two P ds ys) (h : ∀ d y, P d y → hdD y = d) : ys.map hdD = ds := by
  induction t with
  | nil => rfl
  | cons a _ ih => rw [List.map_cons, ih, h _ _ a]
theorem Two.all {P : D → D → Prop} {Q : D → Prop} {ds ys : List D} (t : Two P ds ys) (h : ∀ d y, P d y → Q y) : ∀ y ∈ ys, Q y := by
  induction t with
  | nil => exact fun y hy => absurd hy List.not_mem_nil
  | cons a _ ih =>
    intro y hy
    rcases List.mem_cons.mp hy with rfl | hy
    · exact h _ _ a
    · exact ih y hy
theorem loop_app2 {ok : Mem → Bool} {i : Nat} {body : SM} {Lk : Core.Loc → Prop} {P : D → D → Prop} {Kp : Mem → Prop} (hok : ∀ s, Kp s → ok s = true) (hkp : ∀ s s', Gt2 at_ r s s' → Kp s → Kp s') : ∀ (ds : List D) (l : Core.Loc) (s : Mem) (rs : List D),
    (∀ d ∈ ds, ∀ l s rs, Lk l → Gs dr at_ s → Kp s → s[r]? = some (.lst rs) → rs.length < 100000 → ∃ l' s' y, body (l.set i (some d)) s = .nx l' s' ∧ Lk l' ∧ P d y ∧ Gs dr at_ s' ∧ Gt2 at_ r s s' ∧ s'[r]? = some (.lst (rs ++ [y]))) →
    Lk l → Gs dr at_ s → Kp s → s[r]? = some (.lst rs) → rs.length + ds.length ≤ 100000 →
    ∃ l' s' ys, loopS ok (gmName i) body ds l s = .nx l' s' ∧ Lk l' ∧ s'[r]? = some (.lst (rs ++ ys)) ∧ Two P ds ys ∧ Gs dr at_ s' ∧ Gt2 at_ r s s'
  | [], l, s, rs, hb, hl, g, kp, hr, hlen => by
    unfold loopS
    rw [if_pos (hok s kp)]
    exact ⟨l, s, [], rfl, hl, by rw [List.append_nil]; exact hr, .nil, g, .refl⟩
  | d :: ds, l, s, rs, hb, hl, g, kp, hr, hlen => by
    obtain ⟨l1, s1, y, h1, h2, h3, h4, h5, h6⟩ := hb d List.mem_cons_self l s rs hl g kp hr (by rw [List.length_cons] at hlen; omega)
    obtain ⟨l2, s2, ys, k1, k2, k3, k4, k6, k7⟩ := loop_app2 hok hkp ds l1 s1 (rs ++ [y]) (fun d hd => hb d (List.mem_cons_of_mem _ hd)) h2 h4 (hkp _ _ h5 kp) h6 (by rw [List.length_cons] at hlen; rw [List.length_append, List.length_singleton]; omega)
    unfold loopS
    rw [if_pos (hok s kp)]
    dsimp only [gmName]
    rw [h1]
    dsimp only
    exact ⟨l2, s2, y :: ys, k1, k2, by rw [k3, List.append_assoc]; rfl, .cons h3 k4, k6, h5.trans k7⟩
theorem lc_draw2 {ok : Mem → Bool} {g : TGm} {vs : List Nat} {l : Core.Loc} {me : EM} {P : D → D → Prop} {Kp : Mem → Prop} (hok : ∀ s, Kp s → ok s = true) (hkp : ∀ s s', Gt2 at_ r s s' → Kp s → Kp s') (h1 : r ≠ dr) (h2 : r ≠ at_) : ∀ (ds : List D) (s : Mem) (rs : List D),
    (∀ d ∈ ds, ∃ l1, g d (wipeL l vs) = some l1 ∧ ∀ s, Gs dr at_ s → Kp s → Dr dr at_ s (P d) (me l1 s)) → Gs dr at_ s → Kp s → s[r]? = some (.lst rs) → rs.length + ds.length ≤ 100000 →
    ∃ s' ys, loopC ok g vs l tYes' me r ds s = .ok (.ref r) s' ∧ s'[r]? = some (.lst (rs ++ ys)) ∧ Two P ds ys ∧ Gs dr at_ s' ∧ Gt2 at_ r s s'
  | [], s, rs, hb, g, kp, hr, hlen => by
    unfold loopC
    rw [if_pos (hok s kp)]
    exact ⟨s, [], rfl, by rw [List.append_nil]; exact hr, .nil, g, .refl⟩
  | d :: ds, s, rs, hb, g, kp, hr, hlen => by
    obtain ⟨l1, e1, f⟩ := hb d List.mem_cons_self
    obtain ⟨y, s1, e2, py, g1, t1⟩ := f s g kp
    have r1 := t1.old r _ h2 hr
    have g2 := g1.set (u := .lst (rs ++ [y])) h1 h2
    have t2 : Gt2 at_ r s (s1.set r (.lst (rs ++ [y]))) := t1.two.trans .set
    obtain ⟨s2, ys, k1, k2, k3, k5, k6⟩ := lc_draw2 hok hkp h1 h2 ds _ (rs ++ [y]) (fun d hd => hb d (List.mem_cons_of_mem _ hd)) g2 (hkp _ _ t2 kp) (set_at r1) (by rw [List.length_cons] at hlen; rw [List.length_append, List.length_singleton]; omega)
    unfold loopC
    have e3 : rs.length < 100000 := by rw [List.length_cons] at hlen; omega
    rw [if_pos (hok s kp), e1]
    simp only [tYes', nox_ok, if_true, e2, r1, e3]
    exact ⟨s2, y :: ys, k1, by rw [k2, List.append_assoc]; rfl, .cons py k3, k5, t2.trans k6⟩
theorem sl_lst {r : Nat} {xs : List D} {j : Nat} (h : s[r]? = some (.lst xs)) (hj : j ≤ xs.length) : gSl none (some (j : Int)) (.ref r) s = .ok (.ref s.length) (s ++ [.lst (xs.take j)]) := by
  unfold gSl
  dsimp only
  rw [rd_lst h]
  dsimp only
  have e : Core.cutD xs none (some (j : Int)) = xs.take j := by
    unfold Core.cutD
    rw [HT.sIx_none, HT.sIx_nat, Nat.sub_zero, List.drop_zero, Nat.min_eq_left hj]
  rw [e]
theorem loop_inv {i : Nat} {body : SM} {I : Nat → Core.Loc → Mem → Prop} : ∀ (ds : List D) (n T : Nat) (l : Core.Loc) (s : Mem), n + ds.length ≤ T → (∀ n l s d, n < T → d ∈ ds → I n l s → ∃ l' s', body (l.set i (some d)) s = .nx l' s' ∧ I (n + 1) l' s') → I n l s →
    ∃ l' s', loopS (fun _ => true) (gmName i) body ds l s = .nx l' s' ∧ I (n + ds.length) l' s'
  | [], n, T, l, s, hT, hb, h => ⟨l, s, rfl, h⟩
  | d :: ds, n, T, l, s, hT, hb, h => by
    rw [List.length_cons] at hT
    obtain ⟨l1, s1, e1, h1⟩ := hb n l s d (by omega) List.mem_cons_self h
    obtain ⟨l2, s2, e2, h2⟩ := loop_inv ds (n + 1) T l1 s1 (by omega) (fun n l s d hn hd => hb n l s d hn (List.mem_cons_of_mem _ hd)) h1
    refine ⟨l2, s2, ?_, by rw [List.length_cons, show n + (ds.length + 1) = n + 1 + ds.length by omega]; exact h2⟩
    unfold loopS
    rw [if_pos rfl]
    dsimp only [gmName]
    rw [e1]
    exact e2
def Dw (sc R : Nat) (ns : List Int) (b : Nat) (s : Mem) : Prop := ∃ is : List Int, s[R]? = some (.lst (is.map D.int)) ∧ is.length ≤ b ∧ rdL s sc = some (ns.map D.int)
theorem Dw.put (h : Dw sc R ns b s) (hn : R ≠ sc) (hb : b < 100000) (v : Int) : ∃ s', gAppend (.ref R) [.int v] s = .ok .non s' ∧ Dw sc R ns (b + 1) s' := by
  obtain ⟨is, h1, h2, h3⟩ := h
  refine ⟨s.set R (.lst (is.map D.int ++ [.int v])), app_at h1 (by rw [List.length_map]; omega), is ++ [v], ?_, by rw [List.length_append, List.length_singleton]; omega, ?_⟩
  · rw [set_at h1, List.map_append]; rfl
  · unfold rdL at h3 ⊢
    rw [List.getElem?_set_ne hn]; exact h3
theorem Dw.is (h : Dw sc R ns b s) : ∃ xs, s[R]? = some (.lst xs) := let ⟨is, h1, _⟩ := h; ⟨_, h1⟩
theorem ix_rd {n i : Nat} {xs : List D} {x : D} (h : rdL s n = some xs) (hx : xs[i]? = some x) : gIx (.ref n) (.int i) s = .ok x s := by
  unfold gIx
  dsimp only
  rw [show seqD s (.ref n) = some xs from h]
  dsimp only
  rw [at_nat hx]
theorem mulR {i j : Int} {s : Mem} (h : -(2 ^ 64) < j ∧ j < 2 ^ 64) : gMulA (.int i) (.int j) s = .ok (.int (i * j)) s := by
  show (if (-(2 ^ 64) < i ∧ i < 2 ^ 64) ∨ (-(2 ^ 64) < j ∧ j < 2 ^ 64) then Core.R.ok (D.int (i * j)) s else .no) = _
  rw [if_pos (.inr h)]
theorem mulL {i j : Int} {s : Mem} (h : -(2 ^ 64) < i ∧ i < 2 ^ 64) : gMulA (.int i) (.int j) s = .ok (.int (i * j)) s := by
  show (if (-(2 ^ 64) < i ∧ i < 2 ^ 64) ∨ (-(2 ^ 64) < j ∧ j < 2 ^ 64) then Core.R.ok (D.int (i * j)) s else .no) = _
  rw [if_pos (.inl h)]
theorem loop_inv2 {ok : Mem → Bool} {i : Nat} {body : SM} {I : Core.Loc → Mem → Prop} (hok : ∀ l s, I l s → ok s = true) : ∀ (ds : List D) (l : Core.Loc) (s : Mem), (∀ l s d, d ∈ ds → I l s → ∃ l' s', body (l.set i (some d)) s = .nx l' s' ∧ I l' s') → I l s →
    ∃ l' s', loopS ok (gmName i) body ds l s = .nx l' s' ∧ I l' s'
  | [], l, s, hb, h => ⟨l, s, by unfold loopS; rw [if_pos (hok l s h)], h⟩
  | d :: ds, l, s, hb, h => by
    obtain ⟨l1, s1, e1, h1⟩ := hb l s d List.mem_cons_self h
    obtain ⟨l2, s2, e2, h2⟩ := loop_inv2 hok ds l1 s1 (fun l s d hd => hb l s d (List.mem_cons_of_mem _ hd)) h1
    refine ⟨l2, s2, ?_, h2⟩
    unfold loopS
    rw [if_pos (hok l s h)]
    dsimp only [gmName]
    rw [e1]
    exact e2
theorem two_mem {P : D → D → Prop} {ds ys : List D} (t : Two P ds ys) : ∀ y ∈ ys, ∃ d ∈ ds, P d y := by
  induction t with
  | nil => exact fun y hy => absurd hy List.not_mem_nil
  | cons a _ ih =>
    intro y hy
    rcases List.mem_cons.mp hy with rfl | hy
    · exact ⟨_, List.mem_cons_self, a⟩
    · obtain ⟨d, hd, p⟩ := ih y hy; exact ⟨d, List.mem_cons_of_mem _ hd, p⟩
theorem mapM_some {s : Mem} {n : Nat} : ∀ {xs : List D}, (∀ x ∈ xs, ∃ p, py s n x = some p ∧ p.plain = true) → ∃ ps, xs.mapM (py s n) = some ps ∧ PyData.plainAll ps = true
  | [], _ => ⟨[], rfl, rfl⟩
  | x :: r, h => by
    obtain ⟨p, e, hp⟩ := h x List.mem_cons_self
    obtain ⟨ps, e', hps⟩ := mapM_some (xs := r) fun y hy => h y (List.mem_cons_of_mem _ hy)
    exact ⟨p :: ps, by rw [List.mapM_cons, e, e']; rfl, by simp [PyData.plainAll, hp, hps]⟩
theorem py_pl {s : Mem} : ∀ (n : Nat) (d : D), pl n d = true → ∃ p, py s n d = some p ∧ p.plain = true
  | 0, d, h => by cases h
  | n + 1, .tup xs, h => by
    have h : xs.all (pl n) = true := h
    obtain ⟨ps, e, hp⟩ := mapM_some (s := s) (n := n) fun x hx => py_pl n x (List.all_eq_true.mp h x hx)
    exact ⟨.tuple ps, by unfold py; rw [e]; rfl, by simpa [PyData.plain] using hp⟩
  | n + 1, .str z, h => by
    have h : (PyData.strOk z && decide (z.length ≤ 100000)) = true := h
    rw [Bool.and_eq_true] at h
    exact ⟨.str z, by unfold py; rw [if_pos h.1], by simp [PyData.plain]⟩
  | n + 1, .ref z, h => by cases h
  | n + 1, .non, h => ⟨.none, rfl, by simp [PyData.plain]⟩
  | n + 1, .bl b, h => ⟨.bool b, rfl, by simp [PyData.plain]⟩
  | n + 1, .int i, h => ⟨.int i, rfl, by simp [PyData.plain]⟩
theorem ne_self {s : Mem} {xs : List D} {n : Nat} (h : pl n (.tup xs) = true) (hn : n ≤ 40) : gNe (.tup xs) (.tup xs) s = .ok (.bl false) s := by
  obtain ⟨p, e, hp⟩ := py_pl (s := s) pyL (.tup xs) (pl_up hn h)
  have e2 : gEqB s (.tup xs) (.tup xs) = some (PyData.eqv p p) := by
    show (match py s pyL (.tup xs), py s pyL (.tup xs) with
      | some p, some q => some (PyData.eqv p q)
      | _, _ => none) = _
    rw [e]
  unfold gNe
  rw [e2, PySem.SeqAt.eqv_refl_plain p hp]
  rfl
theorem ne_refs {s : Mem} {a b n : Nat} {xs : List D} (h : s[a]? = some (.lst xs)) (h' : s[b]? = some (.lst xs)) (hp : ∀ x ∈ xs, pl n x = true) (hn : n ≤ 39) : gNe (.ref a) (.ref b) s = .ok (.bl false) s := by
  obtain ⟨ps, e, hps⟩ := mapM_some (s := s) (n := 39) fun x hx => py_pl (s := s) 39 x (pl_up hn (hp x hx))
  have e1 : ∀ r, s[r]? = some (.lst xs) → py s pyL (.ref r) = some (.list ps) := fun r hr => by
    show (match rdL s r with
      | some xs => (xs.mapM (py s 39)).map PyData.list
      | none => none) = _
    rw [rd_lst hr]
    dsimp only
    rw [e]; rfl
  have e2 : gEqB s (.ref a) (.ref b) = some (PyData.eqv (.list ps) (.list ps)) := by
    show (match py s pyL (.ref a), py s pyL (.ref b) with
      | some p, some q => some (PyData.eqv p q)
      | _, _ => none) = _
    rw [e1 a h, e1 b h']
  unfold gNe
  rw [e2, PySem.SeqAt.eqv_refl_plain (.list ps) (by simpa [PyData.plain] using hps)]
  rfl
end
end Core

set_option Elab.async false
set_option linter.all false
set_option maxRecDepth 100000
set_option maxHeartbeats 4000000
/-! Core: literal texts, steps, loops by invariants -/
namespace Core
open PySem PySem.Spec PyProof.Rows L2
theorem ofs_inj {a b : String} : (Str.ofString a = Str.ofString b) ↔ a = b := by
  constructor
  · intro h
    rw [Str.ofString_eq_toList, Str.ofString_eq_toList] at h
    have h := congrArg (fun x : Str => x.cps.toList) h
    simp only at h
    have inj : ∀ (x y : List Char), x.map Char.toNat = y.map Char.toNat → x = y := by
      intro x
      induction x with
      | nil => intro y e; cases y with
        | nil => rfl
        | cons c r => simp at e
      | cons c r ih => intro y e; cases y with
        | nil => simp at e
        | cons c' r' =>
          simp only [List.map_cons, List.cons.injEq] at e
          rw [ih r' e.2, Char.ext (UInt32.toNat_inj.mp e.1)]
    exact String.toList_inj.mp (inj _ _ h)
  · intro h; rw [h]
theorem ofs_beq {a b : String} : (Str.ofString a == Str.ofString b) = (a == b) := by
  by_cases h : a = b
  · subst h; simp
  · rw [beq_eq_false_iff_ne.mpr h]
    exact beq_eq_false_iff_ne.mpr fun e => h (ofs_inj.mp e)
/-! ### steps -/
/-- the def ends well -/
def Fi (r : RS) (P : D → Mem → Prop) : Prop := ∃ d s', Core.fin r = .ok d s' ∧ P d s'
/-- the block goes on -/
def Nx (r : RS) (P : Core.Loc → Mem → Prop) : Prop := ∃ l s', r = .nx l s' ∧ P l s'
/-- the block goes on, or the def ends -/
def Nr (r : RS) (P : Core.Loc → Mem → Prop) (T : D → Mem → Prop) : Prop := (∃ l s', r = .nx l s' ∧ P l s') ∨ ∃ d s', r = .rt d s' ∧ T d s'
section
variable {a b m : SM} {l l1 : Core.Loc} {s s1 : Mem} {d : D} {P : D → Mem → Prop} {N : Core.Loc → Mem → Prop} {T : D → Mem → Prop} {r : RS}
theorem fi_nx (h : a l s = .nx l1 s1) (k : Fi (b l1 s1) P) : Fi (mSeq a b l s) P := by rw [seq_nx h]; exact k
theorem fi_rt (h : a l s = .rt d s1) (k : P d s1) : Fi (mSeq a b l s) P := by rw [seq_rt h]; exact ⟨d, s1, rfl, k⟩
theorem fi_Nx (h : Nx (a l s) N) (k : ∀ l1 s1, N l1 s1 → Fi (b l1 s1) P) : Fi (mSeq a b l s) P := let ⟨_, _, e, n⟩ := h; fi_nx e (k _ _ n)
theorem fi_end (h : r = .rt d s1) (k : P d s1) : Fi r P := by rw [h]; exact ⟨d, s1, rfl, k⟩
theorem fi_non (h : r = .nx l1 s1) (k : P .non s1) : Fi r P := by rw [h]; exact ⟨.non, s1, rfl, k⟩
theorem nx_nx (h : a l s = .nx l1 s1) (k : Nx (b l1 s1) N) : Nx (mSeq a b l s) N := by rw [seq_nx h]; exact k
theorem nx_Nx {N' : Core.Loc → Mem → Prop} (h : Nx (a l s) N') (k : ∀ l1 s1, N' l1 s1 → Nx (b l1 s1) N) : Nx (mSeq a b l s) N := let ⟨_, _, e, n⟩ := h; nx_nx e (k _ _ n)
theorem nx_end (h : r = .nx l1 s1) (k : N l1 s1) : Nx r N := ⟨l1, s1, h, k⟩
theorem nr_nx (h : a l s = .nx l1 s1) (k : Nr (b l1 s1) N T) : Nr (mSeq a b l s) N T := by rw [seq_nx h]; exact k
theorem nr_rt (h : a l s = .rt d s1) (k : T d s1) : Nr (mSeq a b l s) N T := by rw [seq_rt h]; exact .inr ⟨d, s1, rfl, k⟩
theorem nr_Nr {N' : Core.Loc → Mem → Prop} (h : Nr (a l s) N' T) (k : ∀ l1 s1, N' l1 s1 → Nr (b l1 s1) N T) : Nr (mSeq a b l s) N T := by
  rcases h with ⟨_, _, e, n⟩ | ⟨_, _, e, n⟩
  · exact nr_nx e (k _ _ n)
  · exact nr_rt e n
theorem nr_end (h : r = .nx l1 s1) (k : N l1 s1) : Nr r N T := .inl ⟨l1, s1, h, k⟩
theorem nr_ret (h : r = .rt d s1) (k : T d s1) : Nr r N T := .inr ⟨d, s1, h, k⟩
theorem fi_Nr (h : Nr (a l s) N P) (k : ∀ l1 s1, N l1 s1 → Fi (b l1 s1) P) : Fi (mSeq a b l s) P := by
  rcases h with ⟨_, _, e, n⟩ | ⟨_, _, e, n⟩
  · exact fi_nx e (k _ _ n)
  · exact fi_rt e n
end
/-! ### loops -/
theorem loopN {ok : Mem → Bool} {g : TGm} {body : SM} {I : Nat → Core.Loc → Mem → Prop} {T : D → Mem → Prop} : ∀ (ds es : List D) (l : Core.Loc) (s : Mem), (∀ n l s, I n l s → ok s = true) →
    (∀ n d l s, (es ++ ds)[n]? = some d → I n l s → ∃ l1, g d l = some l1 ∧ Nr (body l1 s) (I (n + 1)) T) → I es.length l s → Nr (loopS ok g body ds l s) (I (es ++ ds).length) T
  | [], es, l, s, hok, hb, h => by
    unfold loopS
    rw [if_pos (hok _ _ _ h), List.append_nil]
    exact .inl ⟨l, s, rfl, h⟩
  | d :: ds, es, l, s, hok, hb, h => by
    unfold loopS
    rw [if_pos (hok _ _ _ h)]
    obtain ⟨l1, e1, h1⟩ := hb es.length d l s (by simp) h
    rw [e1]
    dsimp only
    rcases h1 with ⟨l2, s2, e2, h2⟩ | ⟨x, s2, e2, h2⟩
    · rw [e2]
      dsimp only
      have e : es ++ d :: ds = (es ++ [d]) ++ ds := by simp
      rw [e]
      exact loopN ds (es ++ [d]) l2 s2 hok (by rw [← e]; exact hb) (by rw [List.length_append]; exact h2)
    · rw [e2]
      exact .inr ⟨x, s2, rfl, h2⟩
/-- a loop by its invariant -/
theorem loop_nr {ok : Mem → Bool} {g : TGm} {body : SM} {ds : List D} {l : Core.Loc} {s : Mem} (I : Nat → Core.Loc → Mem → Prop) {T : D → Mem → Prop} (hok : ∀ n l s, I n l s → ok s = true)
    (hb : ∀ n d l s, ds[n]? = some d → I n l s → ∃ l1, g d l = some l1 ∧ Nr (body l1 s) (I (n + 1)) T) (h : I 0 l s) : Nr (loopS ok g body ds l s) (I ds.length) T := loopN ds [] l s hok hb h
theorem loop_nx {ok : Mem → Bool} {g : TGm} {body : SM} {ds : List D} {l : Core.Loc} {s : Mem} (I : Nat → Core.Loc → Mem → Prop) (hok : ∀ n l s, I n l s → ok s = true)
    (hb : ∀ n d l s, ds[n]? = some d → I n l s → ∃ l1, g d l = some l1 ∧ Nx (body l1 s) (I (n + 1))) (h : I 0 l s) : Nx (loopS ok g body ds l s) (I ds.length) := by
  rcases loop_nr (T := fun _ _ => False) I hok (fun n d l s a b => let ⟨l1, e, z⟩ := hb n d l s a b; ⟨l1, e, .inl z⟩) h with z | ⟨_, _, _, z⟩
  · exact z
  · exact z.elim
/-- the list stands where its comprehension put it -/
theorem lc_new {ok : Mem → Bool} {g : TGm} {vs : List Nat} {l : Core.Loc} {tt : TM} {me : EM} {r : Nat} {I : Nat → Mem → List D → Prop} : ∀ (ds es : List D) (s : Mem) (acc : List D), (∀ n s acc, I n s acc → ok s = true ∧ s[r]? = some (.lst acc) ∧ acc.length ≤ n) → (es ++ ds).length ≤ 100000 →
    (∀ n d s acc, (es ++ ds)[n]? = some d → I n s acc → ∃ l1, g d (wipeL l vs) = some l1 ∧ ∃ b s2, tt l1 s = .ok b s2 ∧ (b = true → ∃ y s3, me l1 s2 = .ok y s3 ∧ s3[r]? = some (.lst acc) ∧ I (n + 1) (s3.set r (.lst (acc ++ [y]))) (acc ++ [y])) ∧ (b = false → I (n + 1) s2 acc)) →
    I es.length s acc → ∃ s' acc', loopC ok g vs l tt me r ds s = .ok (.ref r) s' ∧ I (es ++ ds).length s' acc'
  | [], es, s, acc, hok, hl, hb, h => by
    unfold loopC
    rw [if_pos (hok _ _ _ h).1, List.append_nil]
    exact ⟨s, acc, rfl, h⟩
  | d :: ds, es, s, acc, hok, hl, hb, h => by
    unfold loopC
    rw [if_pos (hok _ _ _ h).1]
    obtain ⟨l1, e1, b, s2, e2, h1, h2⟩ := hb es.length d s acc (by simp) h
    have e : es ++ d :: ds = (es ++ [d]) ++ ds := by simp
    rw [e1]
    dsimp only
    rw [e2, nox_ok]
    cases b with
    | false =>
      rw [if_neg Bool.false_ne_true, e]
      exact lc_new ds (es ++ [d]) s2 acc hok (by rw [← e]; exact hl) (by rw [← e]; exact hb) (by rw [List.length_append]; exact h2 rfl)
    | true =>
      rw [if_pos rfl]
      obtain ⟨y, s3, e3, r3, h3⟩ := h1 rfl
      have al := (hok _ _ _ h).2.2
      have la : acc.length < 100000 := by simp only [List.length_append, List.length_cons] at hl; omega
      rw [e3, nox_ok, r3]
      dsimp only
      rw [if_pos la, e]
      exact lc_new ds (es ++ [d]) _ _ hok (by rw [← e]; exact hl) (by rw [← e]; exact hb) (by rw [List.length_append]; exact h3)
/-- a dict comprehension whose keys and values are reckoned without the store -/
theorem dc_map {ok : Mem → Bool} {g : TGm} {vs : List Nat} {l : Core.Loc} {mk mv : EM} {s : Mem} {K : D → Key} {F : D → D} : ∀ (ds : List D) (acc : List (Key × D)), (∀ u, ok (s ++ [u]) = true) →
    (∀ d ∈ ds, ∃ l1 kd, g d (wipeL l vs) = some l1 ∧ keyD kd = some (K d) ∧ (∀ u, mk l1 (s ++ [u]) = .ok kd (s ++ [u])) ∧ ∀ u, mv l1 (s ++ [u]) = .ok (F d) (s ++ [u])) → acc.length + ds.length ≤ 100000 →
    loopDc ok g vs l tYes' mk mv s.length ds (s ++ [.dK acc]) = .ok (.ref s.length) (s ++ [.dK (mergeKD acc (ds.map fun d => (K d, F d)))])
  | [], acc, hok, hg, hlen => by
    unfold loopDc
    rw [if_pos (hok _)]; rfl
  | d :: ds, acc, hok, hg, hlen => by
    obtain ⟨l1, kd, h1, hk, h2, h3⟩ := hg d List.mem_cons_self
    unfold loopDc
    rw [if_pos (hok _), h1]
    have e1 : (s ++ [Ob.dK acc])[s.length]? = some (Ob.dK acc) := by simp
    have e2 : acc.length < 100000 := by simp only [List.length_cons] at hlen; omega
    simp only [tYes', nox_ok, if_true, h2, h3, e1, hk, e2]
    have e3 : (s ++ [Ob.dK acc]).set s.length (Ob.dK (putKD acc (K d) (F d))) = s ++ [Ob.dK (putKD acc (K d) (F d))] := by simp
    have le : (putKD acc (K d) (F d)).length ≤ acc.length + 1 := by
      unfold putKD
      split
      · rw [List.length_map]; omega
      · rw [List.length_append, List.length_singleton]; omega
    rw [e3, dc_map ds _ hok (fun d hd => hg d (List.mem_cons_of_mem _ hd)) (by simp only [List.length_cons] at hlen; omega)]
    rfl
end Core

set_option Elab.async false
set_option linter.all false
set_option maxRecDepth 100000
set_option maxHeartbeats 4000000
/-! Core: a dict walked under a lock -/
namespace Core
open PySem PySem.Spec PyProof.Rows L2
def keyOf : Key → D
  | .inl i => .int i
  | .inr z => .str z
/-- an expression while a dict is locked -/
def mLock (pick : Core.Loc → Mem → Option Nat) (me : EM) : EM := fun l s => match pick l s with
  | some n => match s[n]? with
    | some (.dK kvs) => match me l (s.set n (.lkK kvs)) with
      | .ok v s' => (match s'[n]? with
        | some (.lkK _) => .ok v (s'.set n (.dK kvs))
        | _ => .no)
      | _ => .no
    | _ => .no
  | none => .no
theorem em_lock {G : Gx} {W : WX} {X : Cx} {e : Expr} {me : EM} {pick : Core.Loc → Mem → Option Nat} (he : PE X e (dE G W0 me)) : PE X e (dE G W (mLock pick me)) :=
  PE.imp (pe_lock he) fun σ H Q ⟨ι, l, s, sm, sl, f⟩ => by
    unfold mLock at f
    cases q : pick l s with
    | none => rw [q] at f; exact f.elim
    | some n =>
      simp only [q] at f
      cases q2 : s[n]? with
      | none => simp only [q2] at f; exact f.elim
      | some ob =>
        cases ob with
        | dK kvs =>
          simp only [q2] at f
          obtain ⟨a, ha, ws, h1, h2⟩ := sm.at q2
          refine ⟨a, .dK ws, h1, trivial, fun od => ?_⟩
          have nt : NoTup H a := NoTup.of h1 (fun _ e => by cases e) (fun _ _ e => by cases e)
          have st : Stp G.K ι H ι (upd H a (.frz od (.dK ws))) := Stp.mut nt
          have sm1 : SimH G ι (s.set n (.lkK kvs)) (upd H a (.frz od (.dK ws))) := by
            have hn : n < s.length := (List.getElem?_eq_some_iff.mp q2).1
            have sg : ∀ {k : Nat} {ob : Ob}, (s.set n (Ob.lkK kvs))[k]? = some ob → (k = n ∧ ob = .lkK kvs) ∨ (k ≠ n ∧ s[k]? = some ob) := fun {k ob} e => by
              by_cases hk : k = n
              · subst hk; rw [List.getElem?_set_self hn] at e; exact .inl ⟨rfl, (Option.some.inj e).symm⟩
              · rw [List.getElem?_set_ne (Ne.symm hk)] at e; exact .inr ⟨hk, e⟩
            refine ⟨by simp [sm.len], fun k b ob g1 g2 => ?_, fun m k b o1 o2 g1 g2 g3 g4 m1 m2 => ?_, fun P hP => ?_⟩
            · rcases sg g2 with ⟨rfl, rfl⟩ | ⟨hk, g2⟩
              · rw [ha] at g1; cases g1; exact ⟨od, ws, upd_same, h2.mono st⟩
              · have qo := sm.ob k b ob g1 g2
                have nb : ob.own = true → b ≠ a := fun mm e => hk (sm.inj k n a ob _ (e ▸ g1) ha g2 q2 mm rfl)
                cases ob with
                | lst xs => obtain ⟨vs, q1, q2⟩ := qo; exact ⟨vs, by rw [upd_ne (nb rfl)]; exact q1, q2.mono st⟩
                | frz xs =>
                  obtain ⟨vs, q1, q2⟩ := qo
                  rcases q1 with ⟨ob', q1⟩ | q1
                  · have : b ≠ a := fun e => by rw [e, h1] at q1; cases q1
                    exact ⟨vs, .inl ⟨ob', by rw [upd_ne this]; exact q1⟩, q2.mono st⟩
                  · exact ⟨vs, .inr q1, q2.mono st⟩
                | ins c fs => obtain ⟨dx, ws', q1, q2⟩ := qo; exact ⟨dx, ws', by rw [upd_ne (nb rfl)]; exact q1, q2.mono st⟩
                | dK kvs' => obtain ⟨ws', q1, q2⟩ := qo; exact ⟨ws', by rw [upd_ne (nb rfl)]; exact q1, q2.mono st⟩
                | dT kvs' => obtain ⟨ws', q1, q2⟩ := qo; exact ⟨ws', by rw [upd_ne (nb rfl)]; exact q1, q2.mono st⟩
                | lkK kvs' => obtain ⟨ob', ws', q1, q2⟩ := qo; exact ⟨ob', ws', by rw [upd_ne (nb rfl)]; exact q1, q2.mono st⟩
            · rcases sg g3 with ⟨e3, _⟩ | ⟨hm3, h3'⟩ <;> rcases sg g4 with ⟨e4, _⟩ | ⟨hm4, h4'⟩
              · rw [e3, e4]
              · exact sm.inj m k b _ o2 g1 g2 (by rw [e3]; exact q2) h4' rfl m2
              · exact sm.inj m k b o1 _ g1 g2 h3' (by rw [e4]; exact q2) m1 rfl
              · exact sm.inj m k b o1 o2 g1 g2 h3' h4' m1 m2
            · obtain ⟨ps, q1, q2⟩ := sm.tabs P hP
              have : P ≠ a := fun e => by rw [e, h1] at q1; cases q1
              exact ⟨ps, by rw [upd_ne this]; exact q1, q2⟩
          refine ⟨ι, l, _, sm1, sl.mono st, ?_⟩
          cases q3 : me l (s.set n (.lkK kvs)) with
          | no => simp only [q3] at f; exact f.elim
          | err c s' => simp only [q3] at f; exact f.elim
          | ok v s' =>
            simp only [q3] at f
            intro ι' b H' st' sm' r'
            cases q4 : s'[n]? with
            | none => simp only [q4] at f; exact f.elim
            | some ob =>
              cases ob with
              | lkK kv0 =>
                simp only [q4] at f
                have hd : H' a = some (.frz od (.dK ws)) := st'.frz _ _ _ upd_same
                have ha' := st'.pre _ _ ha
                have hp : ∀ (n : Nat) (b : Addr), ι'[n]? = some b → ι'[n]? = some b := fun _ _ z => z
                have ht : ∀ b vs, H' b = some (.tup vs) → (upd H' a (.dK ws)) b = some (.tup vs) := fun b vs q => by
                  rw [upd_ne (fun e => by rw [e, hd] at q; cases q)]; exact q
                have sm2 : SimH G ι' (s'.set n (.dK kvs)) (upd H' a (.dK ws)) := sm'.unlock ha' q4 hd (fun _ e => by cases e) (fun _ e => by cases e) ((h2.mono st).mono st')
                have st2 : Stp G.K ι H ι' (upd H' a (.dK ws)) := ⟨st'.pre, fun b vs q => ht b vs (st'.tup b vs (st.tup b vs q)), fun b o u q => by
                  have : b ≠ a := fun e => by rw [e, h1] at q; cases q
                  rw [upd_ne this]; exact st'.frz b o u (st.frz b o u q)⟩
                exact ⟨hd, f ι' b _ st2 sm2 (r'.monoT hp ht)⟩
              | _ => simp only [q4] at f; exact f.elim
        | _ => simp only [q2] at f; exact f.elim
/-- the keys of a locked dict -/
def iKeysD (me : EM) : IM := fun l s => (me l s).bind fun x s1 => match x with
  | .ref n => match s1[n]? with
    | some (.lkK kvs) => .ok ⟨kvs.map fun kv => keyOf kv.1, fun _ => true⟩ s1
    | _ => .no
  | _ => .no
theorem RepK.at {K : PySem.W.Frag} {ι : List Addr} {H : Hp} {ws : List (Key × V)} {kvs : List (Key × D)} (h : RepK K ι H ws kvs) {i : Nat} {k : Key} {v : V} (e : ws[i]? = some (k, v)) : ∃ d, kvs[i]? = some (k, d) ∧ Rep K ι H v d := by
  induction h generalizing i with
  | nil => simp at e
  | cons r t ih =>
    cases i with
    | zero => simp at e; obtain ⟨rfl, rfl⟩ := e; exact ⟨_, rfl, r⟩
    | succ i => obtain ⟨d, h1, h2⟩ := ih (i := i) (by simpa using e); exact ⟨d, by simpa using h1, h2⟩
theorem im_keys {G : Gx} {W : WX} {X : Cx} {tg e : Expr} {me : EM} (he : PE X e (dE G W me)) : PI X tg e (dI G W (iKeysD me)) :=
  PI.imp (pi_keys he) fun σ H Q ⟨ι, l, s, sm, sl, f⟩ => ⟨ι, l, s, sm, sl, f.bind fun x s1 ι1 v H1 st1 sm1 r1 f1 => by
    cases r1 with
    | @ref a n h1 =>
      dsimp only at f1
      cases q : s1[n]? with
      | none => simp only [q] at f1; exact f1.elim
      | some ob =>
        cases ob with
        | lkK kvs =>
          simp only [q] at f1
          obtain ⟨od, ws, h2, h3⟩ := sm1.ob n a _ h1 q
          refine ⟨a, od, rfl, .inl ⟨ws, h2, f1.here sm1 ⟨fun H2 => H2 a = some (.frz od (.dK ws)), fun i H x H' => H' = H ∧ ∃ k v, ws[i]? = some (k, v) ∧ x = kV k, ?_, fun ι2 s2 H2 st2 sm2 _ => st2.frz _ _ _ h2, fun i ι2 s2 H2 x H3 d hd st2 sm2 _ hy => ?_⟩⟩⟩
          · show Walk (Itk a od ws) (kvs.map fun kv => keyOf kv.1).length _ _
            rw [List.length_map, ← h3.length]; exact walk_keys
          · obtain ⟨e3, k, v, hk, hx⟩ := hy
            subst e3; subst hx
            obtain ⟨d', g1, g2⟩ := h3.at hk
            have e4 : (kvs.map fun kv => keyOf kv.1)[i]? = some d := hd
            rw [List.getElem?_map, g1] at e4
            cases e4
            refine ⟨sm2, .refl, ?_⟩
            cases k with
            | inl i => exact .int i
            | inr z => exact .str z
        | _ => simp only [q] at f1; exact f1.elim
    | _ => exact f1.elim⟩
/-- what is locked: a name, a field of a name -/
def pkV (i : Nat) : Core.Loc → Mem → Option Nat := fun l _ => match l[i]? with
  | some (some (.ref n)) => some n
  | _ => none
def pkF (i : Nat) (f : Str) : Core.Loc → Mem → Option Nat := fun l s => match l[i]? with
  | some (some (.ref n)) => (match s[n]? with
    | some (.ins _ fs) => (match fs.lookup f with
      | some (.ref m) => some m
      | _ => none)
    | _ => none)
  | _ => none
end Core

set_option Elab.async false
set_option linter.all false
set_option maxRecDepth 100000
set_option maxHeartbeats 4000000
/-! the program and the law, def by def, printed by gen.py -/
namespace Pr
open PySem PySem.Spec PyProof.Rows L2 Core
def top (i : Nat) : Stmt := PySem.Challenge.pw_vancourier_k02_handlers.main.body.getD i (.Pass ⟨0, 0, 0, 0⟩)
inductive Fn where
  | kind_of
  | nearest
  | run_handler
  | find_program
  | operate
  | Run_init
  | Run_state
  | Run_program
  | Run_statement
  | Run_send
  | Run_value
  | law_draws
  | law_next
  | law_big
  | law_expression
  | law_send
  | law_program
  | law_kind
  | law_model
  | law_clamp
  | law_pair
  | law_value
  | law_run
  | law_kind_of
  | law_happen
  | law_first
  | law_state
  | law_numbers
  | law
  deriving DecidableEq
def Fn.ar : Fn → Nat
  | .kind_of => 2
  | .nearest => 3
  | .run_handler => 6
  | .find_program => 2
  | .operate => 3
  | .Run_init => 7
  | .Run_state => 1
  | .Run_program => 2
  | .Run_statement => 2
  | .Run_send => 5
  | .Run_value => 2
  | .law_draws => 1
  | .law_next => 3
  | .law_big => 3
  | .law_expression => 4
  | .law_send => 3
  | .law_program => 3
  | .law_kind => 3
  | .law_model => 2
  | .law_clamp => 3
  | .law_pair => 3
  | .law_value => 2
  | .law_run => 3
  | .law_kind_of => 2
  | .law_happen => 6
  | .law_first => 2
  | .law_state => 4
  | .law_numbers => 1
  | .law => 1
def Fn.ps : Fn → List Str
  | .kind_of => ["model", "number"]
  | .nearest => ["value", "low", "high"]
  | .run_handler => ["model", "number", "state", "time", "name", "arg"]
  | .find_program => ["kind", "name"]
  | .operate => ["word", "a", "b"]
  | .Run_init => ["self", "fields", "objects", "number", "state", "time", "arg"]
  | .Run_state => ["self"]
  | .Run_program => ["self", "program"]
  | .Run_statement => ["self", "statement"]
  | .Run_send => ["self", "target", "delay", "name", "arg"]
  | .Run_value => ["self", "e"]
  | .law_draws => ["script"]
  | .law_next => ["draws", "at", "many"]
  | .law_big => ["draws", "at", "many"]
  | .law_expression => ["draws", "at", "names", "depth"]
  | .law_send => ["draws", "at", "names"]
  | .law_program => ["draws", "at", "names"]
  | .law_kind => ["draws", "at", "name"]
  | .law_model => ["draws", "at"]
  | .law_clamp => ["value", "low", "high"]
  | .law_pair => ["head", "a", "b"]
  | .law_value => ["e", "facts"]
  | .law_run => ["program", "facts", "ranges"]
  | .law_kind_of => ["model", "number"]
  | .law_happen => ["model", "number", "state", "time", "name", "arg"]
  | .law_first => ["model", "number"]
  | .law_state => ["model", "number", "draws", "at"]
  | .law_numbers => ["row"]
  | .law => ["script"]
def Fn.at_ : Fn → Str × Option Str
  | .kind_of => ("kind_of", none)
  | .nearest => ("nearest", none)
  | .run_handler => ("run_handler", none)
  | .find_program => ("find_program", none)
  | .operate => ("operate", none)
  | .Run_init => ("Run", some "__init__")
  | .Run_state => ("Run", some "state")
  | .Run_program => ("Run", some "program")
  | .Run_statement => ("Run", some "statement")
  | .Run_send => ("Run", some "send")
  | .Run_value => ("Run", some "value")
  | .law_draws => ("_law_draws", none)
  | .law_next => ("_law_next", none)
  | .law_big => ("_law_big", none)
  | .law_expression => ("_law_expression", none)
  | .law_send => ("_law_send", none)
  | .law_program => ("_law_program", none)
  | .law_kind => ("_law_kind", none)
  | .law_model => ("_law_model", none)
  | .law_clamp => ("_law_clamp", none)
  | .law_pair => ("_law_pair", none)
  | .law_value => ("_law_value", none)
  | .law_run => ("_law_run", none)
  | .law_kind_of => ("_law_kind_of", none)
  | .law_happen => ("_law_happen", none)
  | .law_first => ("_law_first", none)
  | .law_state => ("_law_state", none)
  | .law_numbers => ("_law_numbers", none)
  | .law => ("law", none)
abbrev st_kind_of : Stmt := top 4
/-- kind_of -/
def m_kind_of (c : Fn → List D → Mem → R D) : SM :=
  (mSeq (mSet 2 (mOp gIx (mOp gIx (mVar 0) (mC (.int 1))) (mVar 1)))
  (mRet (mOp gIx (mLc (iSeq (mOp gIx (mVar 0) (mC (.int 0)))) (gmName 3) [3] (tstB (mOp gEq (mOp gIx (mVar 3) (mC (.int 0))) (mVar 2))) (mVar 3)) (mC (.int 0)))))
abbrev st_nearest : Stmt := top 5
/-- nearest -/
def m_nearest (c : Fn → List D → Mem → R D) : SM :=
  (mRet (mApp (gM2 fun i j => if j > i then j else i) (mCons (mVar 1) (mCons (mApp (gM2 fun i j => if j < i then j else i) (mCons (mVar 2) (mCons (mVar 0) mNil))) mNil))))
abbrev st_run_handler : Stmt := top 7
/-- run_handler -/
def m_run_handler (c : Fn → List D → Mem → R D) : SM :=
  (mSeq (mSet 6 (mCall 2 (c .kind_of) (mCons (mVar 0) (mCons (mVar 1) mNil))))
  (mSeq (mSet 7 (mCall 2 (c .find_program) (mCons (mVar 6) (mCons (mVar 4) mNil))))
  (mSeq (mIfS (tstB (mOp gIsN (mVar 7) (mC .non)))
    (mRet (mTup (mCons (mVar 2) (mCons (mLst mNil) mNil))))
    mNx)
  (mSeq (mSet 8 (mMake "Run" 7 (c .Run_init) (mCons (mOp gIx (mVar 6) (mC (.int 1))) (mCons (mApp gLen (mCons (mOp gIx (mVar 0) (mC (.int 1))) mNil)) (mCons (mVar 1) (mCons (mVar 2) (mCons (mVar 3) (mCons (mVar 5) mNil))))))))
  (mSeq (mExpr (mMethC "Run" "program" 2 (c .Run_program) (mVar 8) (mCons (mVar 7) mNil)))
  (mRet (mTup (mCons (mMethC "Run" "state" 1 (c .Run_state) (mVar 8) mNil) (mCons (mUn (gFld ["Run"] "sends") (mVar 8)) mNil)))))))))
abbrev st_find_program : Stmt := top 8
/-- find_program -/
def m_find_program (c : Fn → List D → Mem → R D) : SM :=
  (mSeq (mFor (iSeq (mOp gIx (mVar 0) (mC (.int 2)))) (gmTup 2 (gmCons (gmName 2) (gmCons (gmName 3) gmNil)))
    (mIfS (tstB (mOp gEq (mVar 2) (mVar 1)))
      (mRet (mVar 3))
      mNx))
  (mRet (mC .non)))
abbrev st_operate : Stmt := top 9
/-- operate -/
def m_operate (c : Fn → List D → Mem → R D) : SM :=
  (mMatch (mVar 0)
  (((mpLit "add"), (mRet (mOp gAdd (mVar 1) (mVar 2)))) ::
  (((mpLit "sub"), (mRet (mOp gSub (mVar 1) (mVar 2)))) ::
  (((mpLit "mul"), (mRet (mOp gMulA (mVar 1) (mVar 2)))) ::
  (((mpLit "min"), (mRet (mApp (gM2 fun i j => if j < i then j else i) (mCons (mVar 1) (mCons (mVar 2) mNil))))) ::
  (((mpLit "max"), (mRet (mApp (gM2 fun i j => if j > i then j else i) (mCons (mVar 1) (mCons (mVar 2) mNil))))) ::
  (((mpLit "div"), (mRet (mOp gFdiv (mVar 1) (mVar 2)))) ::
  (((mpLit "mod"), (mRet (mOp gMod (mVar 1) (mVar 2)))) ::
  (((mpLit "less"), (mRet (mIf (tstB (mOp gLt (mVar 1) (mVar 2))) (mC (.int 1)) (mC (.int 0))))) ::
  (((mpLit "same"), (mRet (mIf (tstB (mOp gEq (mVar 1) (mVar 2))) (mC (.int 1)) (mC (.int 0))))) ::
  (((mpLit "both"), (mRet (mIf (tstAnd (tstB (mOp gNe (mVar 1) (mC (.int 0)))) (tstB (mOp gNe (mVar 2) (mC (.int 0))))) (mC (.int 1)) (mC (.int 0))))) ::
  (((mpLit "either"), (mRet (mIf (tstOr (tstB (mOp gNe (mVar 1) (mC (.int 0)))) (tstB (mOp gNe (mVar 2) (mC (.int 0))))) (mC (.int 1)) (mC (.int 0))))) ::
  []))))))))))))
abbrev st_Run_init : Stmt := inClass (top 10) 0
/-- Run.__init__ -/
def m_Run_init (c : Fn → List D → Mem → R D) : SM :=
  (mSeq (mSetF ["Run"] "ranges" (mVar 0) (mDc (iSeq (mVar 1)) (gmTup 3 (gmCons (gmName 7) (gmCons (gmName 8) (gmCons (gmName 9) gmNil)))) [7, 8, 9] tYes' (mVar 7) (mTup (mCons (mVar 8) (mCons (mVar 9) mNil)))))
  (mSeq (mSetF ["Run"] "held" (mVar 0) (mDc (iZip (mCons (mVar 1) (mCons (mVar 4) mNil))) (gmTup 2 (gmCons (gmName 10) (gmCons (gmName 11) gmNil))) [10, 11] tYes' (mOp gIx (mVar 10) (mC (.int 0))) (mVar 11)))
  (mSeq (mSetF ["Run"] "objects" (mVar 0) (mVar 2))
  (mSeq (mSetF ["Run"] "number" (mVar 0) (mVar 3))
  (mSeq (mSetF ["Run"] "time" (mVar 0) (mVar 5))
  (mSeq (mSetF ["Run"] "arg" (mVar 0) (mVar 6))
  (mSetF ["Run"] "sends" (mVar 0) (mLst mNil))))))))
abbrev st_Run_state : Stmt := inClass (top 10) 1
/-- Run.state -/
def m_Run_state (c : Fn → List D → Mem → R D) : SM :=
  (mRet (mApp gTuple (mCons (mLock (pkF 0 "ranges") (mLc (iKeysD (mUn (gFld ["Run"] "ranges") (mVar 0))) (gmName 1) [1] tYes' (mOp gIxA (mUn (gFld ["Run"] "held") (mVar 0)) (mVar 1)))) mNil)))
abbrev st_Run_program : Stmt := inClass (top 10) 2
/-- Run.program -/
def m_Run_program (c : Fn → List D → Mem → R D) : SM :=
  (mFor (iSeq (mVar 1)) (gmName 2)
    (mExpr (mMethC "Run" "statement" 2 (c .Run_statement) (mVar 0) (mCons (mVar 2) mNil))))
abbrev st_Run_statement : Stmt := inClass (top 10) 3
/-- Run.statement -/
def m_Run_statement (c : Fn → List D → Mem → R D) : SM :=
  (mMatch (mVar 1)
  (((mpSeq 3 (mpCons (mpLit "set") (mpCons (mpCap 2) (mpCons (mpCap 3) mpNil)))), (mSeq (mAsg (mOp gIxA (mUn (gFld ["Run"] "ranges") (mVar 0)) (mVar 2)) (gmTup 2 (gmCons (gmName 4) (gmCons (gmName 5) gmNil))))
    (mSubA (mCall 3 (c .nearest) (mCons (mMethC "Run" "value" 2 (c .Run_value) (mVar 0) (mCons (mVar 3) mNil)) (mCons (mVar 4) (mCons (mVar 5) mNil)))) (mUn (gFld ["Run"] "held") (mVar 0)) (mVar 2)))) ::
  (((mpSeq 5 (mpCons (mpLit "send") (mpCons (mpCap 6) (mpCons (mpCap 7) (mpCons (mpCap 2) (mpCons (mpCap 8) mpNil)))))), (mExpr (mMethC "Run" "send" 5 (c .Run_send) (mVar 0) (mCons (mVar 6) (mCons (mVar 7) (mCons (mVar 2) (mCons (mVar 8) mNil))))))) ::
  (((mpSeq 4 (mpCons (mpLit "if") (mpCons (mpCap 3) (mpCons (mpCap 9) (mpCons (mpCap 10) mpNil))))), (mExpr (mMethC "Run" "program" 2 (c .Run_program) (mVar 0) (mCons (mIf (tstB (mOp gEq (mMethC "Run" "value" 2 (c .Run_value) (mVar 0) (mCons (mVar 3) mNil)) (mC (.int 0)))) (mVar 10) (mVar 9)) mNil)))) ::
  []))))
abbrev st_Run_send : Stmt := inClass (top 10) 4
/-- Run.send -/
def m_Run_send (c : Fn → List D → Mem → R D) : SM :=
  (mSeq (mSet 5 (mOp gAdd (mUn (gFld ["Run"] "time") (mVar 0)) (mCall 3 (c .nearest) (mCons (mMethC "Run" "value" 2 (c .Run_value) (mVar 0) (mCons (mVar 2) mNil)) (mCons (mC (.int 1)) (mCons (mC (.int 20)) mNil))))))
  (mSeq (mSet 6 (mOp gMod (mMethC "Run" "value" 2 (c .Run_value) (mVar 0) (mCons (mVar 1) mNil)) (mUn (gFld ["Run"] "objects") (mVar 0))))
  (mSeq (mSet 7 (mCall 3 (c .nearest) (mCons (mMethC "Run" "value" 2 (c .Run_value) (mVar 0) (mCons (mVar 4) mNil)) (mCons (mUn gNeg (mC (.int 999))) (mCons (mC (.int 999)) mNil)))))
  (mExpr (mLm gAppend (mUn (gFld ["Run"] "sends") (mVar 0)) (mCons (mTup (mCons (mVar 5) (mCons (mVar 6) (mCons (mVar 3) (mCons (mVar 7) mNil))))) mNil))))))
abbrev st_Run_value : Stmt := inClass (top 10) 5
/-- Run.value -/
def m_Run_value (c : Fn → List D → Mem → R D) : SM :=
  (mMatch (mVar 1)
  (((mpSeq 2 (mpCons (mpLit "int") (mpCons (mpCap 2) mpNil))), (mRet (mVar 2))) ::
  (((mpSeq 2 (mpCons (mpLit "field") (mpCons (mpCap 3) mpNil))), (mRet (mOp gIxA (mUn (gFld ["Run"] "held") (mVar 0)) (mVar 3)))) ::
  (((mpSeq 1 (mpCons (mpLit "arg") mpNil)), (mRet (mUn (gFld ["Run"] "arg") (mVar 0)))) ::
  (((mpSeq 1 (mpCons (mpLit "now") mpNil)), (mRet (mUn (gFld ["Run"] "time") (mVar 0)))) ::
  (((mpSeq 1 (mpCons (mpLit "self") mpNil)), (mRet (mUn (gFld ["Run"] "number") (mVar 0)))) ::
  (((mpSeq 2 (mpCons (mpLit "not") (mpCons (mpCap 4) mpNil))), (mRet (mIf (tstB (mOp gEq (mMethC "Run" "value" 2 (c .Run_value) (mVar 0) (mCons (mVar 4) mNil)) (mC (.int 0)))) (mC (.int 1)) (mC (.int 0))))) ::
  (((mpSeq 3 (mpCons (mpOr ["div", "mod"]) (mpCons (mpCap 4) (mpCons (mpCap 2) mpNil)))), (mRet (mCall 3 (c .nearest) (mCons (mCall 3 (c .operate) (mCons (mOp gIx (mVar 1) (mC (.int 0))) (mCons (mMethC "Run" "value" 2 (c .Run_value) (mVar 0) (mCons (mVar 4) mNil)) (mCons (mVar 2) mNil)))) (mCons (mUn gNeg (mC (.int 1000000000))) (mCons (mC (.int 1000000000)) mNil)))))) ::
  (((mpSeq 3 (mpCons (mpCap 5) (mpCons (mpCap 4) (mpCons (mpCap 6) mpNil)))), (mRet (mCall 3 (c .nearest) (mCons (mCall 3 (c .operate) (mCons (mVar 5) (mCons (mMethC "Run" "value" 2 (c .Run_value) (mVar 0) (mCons (mVar 4) mNil)) (mCons (mMethC "Run" "value" 2 (c .Run_value) (mVar 0) (mCons (mVar 6) mNil)) mNil)))) (mCons (mUn gNeg (mC (.int 1000000000))) (mCons (mC (.int 1000000000)) mNil)))))) ::
  [])))))))))
abbrev st_law_draws : Stmt := top 12
/-- _law_draws -/
def m_law_draws (c : Fn → List D → Mem → R D) : SM :=
  (mSeq (mSet 1 (mLst mNil))
  (mSeq (mFor (iRange1 (mCons (mApp gLen (mCons (mVar 0) mNil)) mNil)) (gmName 2)
    (mSeq (mSet 3 (mApp gAbs (mCons (mOp gIx (mVar 0) (mVar 2)) mNil)))
    (mIfS (tstB (mOp gGe (mVar 3) (mOp gPow (mC (.int 10)) (mC (.int 18)))))
      (mFor (iRange1 (mCons (mC (.int 40)) mNil)) (gmName 4)
        (mSeq (mExpr (mLm gAppend (mVar 1) (mCons (mOp gMod (mApp gInt1 (mCons (mVar 3) mNil)) (mC (.int 1000))) mNil)))
        (mSet 3 (mOp gFdiv (mVar 3) (mC (.int 1000))))))
      (mSeq (mSet 5 (mOp gAdd (mVar 3) (mC (.int 1))))
      (mFor (iRange1 (mCons (mC (.int 8)) mNil)) (gmName 4)
        (mSeq (mSet 5 (mOp gMod (mApp gInt1 (mCons (mOp gAdd (mOp gAdd (mOp gMulA (mVar 5) (mC (.int 48271))) (mOp gMulA (mC (.int 7919)) (mOp gAdd (mVar 2) (mVar 4)))) (mC (.int 11))) mNil)) (mC (.int 2147483647))))
        (mSeq (mSet 5 (mOp gMod (mApp gInt1 (mCons (mOp gAdd (mOp gMulA (mVar 5) (mC (.int 69621))) (mC (.int 13))) mNil)) (mC (.int 2147483629))))
        (mExpr (mLm gAppend (mVar 1) (mCons (mOp gMod (mApp gInt1 (mCons (mOp gFdiv (mVar 5) (mC (.int 5))) mNil)) (mC (.int 1000))) mNil))))))))))
  (mRet (mVar 1))))
abbrev st_law_next : Stmt := top 13
/-- _law_next -/
def m_law_next (c : Fn → List D → Mem → R D) : SM :=
  (mSeq (mSet 3 (mOp gIx (mVar 1) (mC (.int 0))))
  (mSeq (mSub (mOp gAdd (mVar 3) (mC (.int 1))) (mVar 1) (mC (.int 0)))
  (mSeq (mIfS (tstB (mOp gLt (mVar 3) (mApp gLen (mCons (mVar 0) mNil))))
    (mRet (mOp gMod (mApp gInt1 (mCons (mOp gIx (mVar 0) (mVar 3)) mNil)) (mVar 2)))
    mNx)
  (mRet (mC (.int 0))))))
abbrev st_law_big : Stmt := top 14
/-- _law_big -/
def m_law_big (c : Fn → List D → Mem → R D) : SM :=
  (mSeq (mSet 3 (mC (.int 0)))
  (mSeq (mFor (iRange1 (mCons (mC (.int 21)) mNil)) (gmName 4)
    (mSet 3 (mOp gAdd (mOp gMulA (mC (.int 1000)) (mVar 3)) (mCall 3 (c .law_next) (mCons (mVar 0) (mCons (mVar 1) (mCons (mC (.int 1000)) mNil)))))))
  (mRet (mOp gMod (mApp gInt1 (mCons (mVar 3) mNil)) (mVar 2)))))
abbrev st_law_expression : Stmt := top 15
/-- _law_expression -/
def m_law_expression (c : Fn → List D → Mem → R D) : SM :=
  (mSeq (mSet 4 (mCall 3 (c .law_next) (mCons (mVar 0) (mCons (mVar 1) (mCons (mC (.int 16)) mNil)))))
  (mSeq (mIfS (tstOr (tstB (mOp gEq (mVar 3) (mC (.int 0)))) (tstB (mOp gLt (mVar 4) (mC (.int 4)))))
    (mSeq (mSet 5 (mLst (mCons (mTup (mCons (mC (.str "int")) (mCons (mOp gSub (mCall 3 (c .law_next) (mCons (mVar 0) (mCons (mVar 1) (mCons (mC (.int 19)) mNil)))) (mC (.int 9))) mNil))) (mCons (mTup (mCons (mC (.str "field")) (mCons (mOp gIx (mVar 2) (mCall 3 (c .law_next) (mCons (mVar 0) (mCons (mVar 1) (mCons (mApp gLen (mCons (mVar 2) mNil)) mNil))))) mNil))) (mCons (mTup (mCons (mC (.str "arg")) mNil)) (mCons (mTup (mCons (mC (.str "now")) mNil)) mNil))))))
    (mSeq (mSet 5 (mOp gAdd (mVar 5) (mLst (mCons (mTup (mCons (mC (.str "self")) mNil)) (mCons (mTup (mCons (mC (.str "int")) (mCons (mOp gMulA (mCall 3 (c .law_next) (mCons (mVar 0) (mCons (mVar 1) (mCons (mC (.int 999)) mNil)))) (mOp gIx (mLst (mCons (mC (.int 1)) (mCons (mUn gNeg (mC (.int 1))) mNil))) (mCall 3 (c .law_next) (mCons (mVar 0) (mCons (mVar 1) (mCons (mC (.int 2)) mNil)))))) mNil))) mNil)))))
    (mRet (mOp gIx (mVar 5) (mCall 3 (c .law_next) (mCons (mVar 0) (mCons (mVar 1) (mCons (mC (.int 6)) mNil))))))))
    mNx)
  (mSeq (mIfS (tstB (mOp gLt (mVar 4) (mC (.int 6))))
    (mSeq (mSet 6 (mOp gIx (mLst (mCons (mC (.str "div")) (mCons (mC (.str "mod")) mNil))) (mOp gSub (mVar 4) (mC (.int 4)))))
    (mRet (mTup (mCons (mVar 6) (mCons (mCall 4 (c .law_expression) (mCons (mVar 0) (mCons (mVar 1) (mCons (mVar 2) (mCons (mOp gSub (mVar 3) (mC (.int 1))) mNil))))) (mCons (mOp gAdd (mC (.int 1)) (mCall 3 (c .law_next) (mCons (mVar 0) (mCons (mVar 1) (mCons (mC (.int 9)) mNil))))) mNil))))))
    mNx)
  (mSeq (mIfS (tstB (mOp gEq (mVar 4) (mC (.int 6))))
    (mRet (mTup (mCons (mC (.str "not")) (mCons (mCall 4 (c .law_expression) (mCons (mVar 0) (mCons (mVar 1) (mCons (mVar 2) (mCons (mOp gSub (mVar 3) (mC (.int 1))) mNil))))) mNil))))
    mNx)
  (mSeq (mSet 6 (mOp gIx (mLst (mCons (mC (.str "add")) (mCons (mC (.str "sub")) (mCons (mC (.str "mul")) (mCons (mC (.str "min")) (mCons (mC (.str "max")) (mCons (mC (.str "less")) (mCons (mC (.str "same")) (mCons (mC (.str "both")) (mCons (mC (.str "either")) mNil)))))))))) (mOp gSub (mVar 4) (mC (.int 7)))))
  (mSeq (mSet 7 (mCall 4 (c .law_expression) (mCons (mVar 0) (mCons (mVar 1) (mCons (mVar 2) (mCons (mOp gSub (mVar 3) (mC (.int 1))) mNil))))))
  (mRet (mTup (mCons (mVar 6) (mCons (mVar 7) (mCons (mCall 4 (c .law_expression) (mCons (mVar 0) (mCons (mVar 1) (mCons (mVar 2) (mCons (mOp gSub (mVar 3) (mC (.int 1))) mNil))))) mNil)))))))))))
abbrev st_law_send : Stmt := top 16
/-- _law_send -/
def m_law_send (c : Fn → List D → Mem → R D) : SM :=
  (mSeq (mSet 3 (mCall 4 (c .law_expression) (mCons (mVar 0) (mCons (mVar 1) (mCons (mVar 2) (mCons (mC (.int 1)) mNil))))))
  (mSeq (mSet 4 (mTup (mCons (mC (.str "int")) (mCons (mOp gAdd (mC (.int 1)) (mCall 3 (c .law_next) (mCons (mVar 0) (mCons (mVar 1) (mCons (mC (.int 4)) mNil))))) mNil))))
  (mSeq (mIfS (tstB (mOp gEq (mCall 3 (c .law_next) (mCons (mVar 0) (mCons (mVar 1) (mCons (mC (.int 4)) mNil)))) (mC (.int 0))))
    (mSet 4 (mCall 4 (c .law_expression) (mCons (mVar 0) (mCons (mVar 1) (mCons (mVar 2) (mCons (mC (.int 1)) mNil))))))
    mNx)
  (mSeq (mSet 5 (mOp gIx (mLst (mCons (mC (.str "go")) (mCons (mC (.str "tell")) (mCons (mC (.str "ask")) (mCons (mC (.str "none")) mNil))))) (mCall 3 (c .law_next) (mCons (mVar 0) (mCons (mVar 1) (mCons (mC (.int 4)) mNil))))))
  (mRet (mTup (mCons (mC (.str "send")) (mCons (mVar 3) (mCons (mVar 4) (mCons (mVar 5) (mCons (mTup (mCons (mC (.str "sub")) (mCons (mTup (mCons (mC (.str "arg")) mNil)) (mCons (mTup (mCons (mC (.str "int")) (mCons (mC (.int 1)) mNil))) mNil)))) mNil)))))))))))
abbrev st_law_program : Stmt := top 17
/-- _law_program -/
def m_law_program (c : Fn → List D → Mem → R D) : SM :=
  (mSeq (mSet 3 (mLst mNil))
  (mSeq (mFor (iRange1 (mCons (mOp gAdd (mC (.int 1)) (mCall 3 (c .law_next) (mCons (mVar 0) (mCons (mVar 1) (mCons (mC (.int 2)) mNil))))) mNil)) (gmName 4)
    (mExpr (mLm gAppend (mVar 3) (mCons (mTup (mCons (mC (.str "set")) (mCons (mOp gIx (mVar 2) (mCall 3 (c .law_next) (mCons (mVar 0) (mCons (mVar 1) (mCons (mApp gLen (mCons (mVar 2) mNil)) mNil))))) (mCons (mCall 4 (c .law_expression) (mCons (mVar 0) (mCons (mVar 1) (mCons (mVar 2) (mCons (mC (.int 2)) mNil))))) mNil)))) mNil))))
  (mSeq (mSet 5 (mLc (iRange1 (mCons (mCall 3 (c .law_next) (mCons (mVar 0) (mCons (mVar 1) (mCons (mC (.int 3)) mNil)))) mNil)) (gmName 4) [4] tYes' (mCall 3 (c .law_send) (mCons (mVar 0) (mCons (mVar 1) (mCons (mVar 2) mNil))))))
  (mSeq (mSet 6 (mCall 3 (c .law_next) (mCons (mVar 0) (mCons (mVar 1) (mCons (mC (.int 4)) mNil)))))
  (mSeq (mIfS (tstB (mOp gEq (mVar 6) (mC (.int 0))))
    (mSet 5 (mLst (mCons (mTup (mCons (mC (.str "if")) (mCons (mCall 4 (c .law_expression) (mCons (mVar 0) (mCons (mVar 1) (mCons (mVar 2) (mCons (mC (.int 1)) mNil))))) (mCons (mOp gAdd (mApp gTuple (mCons (mVar 5) mNil)) (mTup (mCons (mTup (mCons (mC (.str "skip")) mNil)) mNil))) (mCons (mTup (mCons (mCall 3 (c .law_send) (mCons (mVar 0) (mCons (mVar 1) (mCons (mVar 2) mNil)))) mNil)) mNil))))) mNil)))
    mNx)
  (mSeq (mExpr (mLm gAppend (mVar 3) (mCons (mTup (mCons (mC (.str "if")) (mCons (mTup (mCons (mC (.str "less")) (mCons (mTup (mCons (mC (.str "int")) (mCons (mC (.int 0)) mNil))) (mCons (mTup (mCons (mC (.str "arg")) mNil)) mNil)))) (mCons (mOp gAdd (mApp gTuple (mCons (mVar 5) mNil)) (mTup (mCons (mTup (mCons (mC (.str "skip")) mNil)) mNil))) (mCons (mTup (mCons (mTup (mCons (mC (.str "skip")) mNil)) mNil)) mNil))))) mNil)))
  (mSeq (mIfS (tstB (mOp gEq (mVar 6) (mC (.int 1))))
    (mSet 3 (mUn gRevL (mVar 3)))
    mNx)
  (mRet (mApp gTuple (mCons (mVar 3) mNil))))))))))
abbrev st_law_kind : Stmt := top 18
/-- _law_kind -/
def m_law_kind (c : Fn → List D → Mem → R D) : SM :=
  (mSeq (mSet 3 (mSl (mLst (mCons (mC (.str "n")) (mCons (mC (.str "m")) (mCons (mC (.str "k")) mNil)))) oNone (oSome (mOp gAdd (mC (.int 1)) (mCall 3 (c .law_next) (mCons (mVar 0) (mCons (mVar 1) (mCons (mC (.int 3)) mNil))))))))
  (mSeq (mSet 4 (mLst mNil))
  (mSeq (mFor (iSeq (mVar 3)) (gmName 5)
    (mSeq (mSet 6 (mOp gSub (mCall 3 (c .law_next) (mCons (mVar 0) (mCons (mVar 1) (mCons (mC (.int 60)) mNil)))) (mC (.int 50))))
    (mExpr (mLm gAppend (mVar 4) (mCons (mTup (mCons (mVar 5) (mCons (mVar 6) (mCons (mOp gAdd (mVar 6) (mCall 3 (c .law_next) (mCons (mVar 0) (mCons (mVar 1) (mCons (mC (.int 200)) mNil))))) mNil)))) mNil)))))
  (mSeq (mSet 7 (mLc (iSeq (mSl (mLst (mCons (mC (.str "go")) (mCons (mC (.str "tell")) (mCons (mC (.str "ask")) mNil)))) oNone (oSome (mOp gAdd (mC (.int 1)) (mCall 3 (c .law_next) (mCons (mVar 0) (mCons (mVar 1) (mCons (mC (.int 3)) mNil)))))))) (gmName 5) [5] tYes' (mTup (mCons (mVar 5) (mCons (mCall 3 (c .law_program) (mCons (mVar 0) (mCons (mVar 1) (mCons (mVar 3) mNil)))) mNil)))))
  (mRet (mTup (mCons (mVar 2) (mCons (mApp gTuple (mCons (mVar 4) mNil)) (mCons (mApp gTuple (mCons (mVar 7) mNil)) mNil)))))))))
abbrev st_law_model : Stmt := top 19
/-- _law_model -/
def m_law_model (c : Fn → List D → Mem → R D) : SM :=
  (mSeq (mSet 2 (mLc (iRange1 (mCons (mOp gAdd (mC (.int 1)) (mCall 3 (c .law_next) (mCons (mVar 0) (mCons (mVar 1) (mCons (mC (.int 2)) mNil))))) mNil)) (gmName 8) [8] tYes' (mCall 3 (c .law_kind) (mCons (mVar 0) (mCons (mVar 1) (mCons (mOp gIx (mLst (mCons (mC (.str "box")) (mCons (mC (.str "lamp")) mNil))) (mVar 8)) mNil))))))
  (mSeq (mAsg (mOp gIx (mLst (mCons (mTup (mCons (mC (.int 5)) (mCons (mC (.int 5)) mNil))) (mCons (mTup (mCons (mC (.int 8)) (mCons (mC (.int 4)) mNil))) mNil))) (mCall 3 (c .law_next) (mCons (mVar 0) (mCons (mVar 1) (mCons (mC (.int 2)) mNil))))) (gmTup 2 (gmCons (gmName 3) (gmCons (gmName 4) gmNil))))
  (mSeq (mSet 5 (mApp gTuple (mCons (mLc (iRange1 (mCons (mOp gAdd (mC (.int 1)) (mCall 3 (c .law_next) (mCons (mVar 0) (mCons (mVar 1) (mCons (mVar 3) mNil))))) mNil)) (gmName 8) [8] tYes' (mOp gIx (mLst (mCons (mC (.str "box")) (mCons (mC (.str "lamp")) mNil))) (mCall 3 (c .law_next) (mCons (mVar 0) (mCons (mVar 1) (mCons (mApp gLen (mCons (mVar 2) mNil)) mNil)))))) mNil)))
  (mSeq (mSet 6 (mOp gIx (mLst (mCons (mC (.int 12)) (mCons (mC (.int 7)) (mCons (mC (.int 3)) (mCons (mC (.int 30)) (mCons (mC (.int 0)) mNil)))))) (mCall 3 (c .law_next) (mCons (mVar 0) (mCons (mVar 1) (mCons (mC (.int 5)) mNil))))))
  (mSeq (mSet 7 (mLst mNil))
  (mSeq (mFor (iRange1 (mCons (mCall 3 (c .law_next) (mCons (mVar 0) (mCons (mVar 1) (mCons (mOp gIx (mLst (mCons (mC (.int 5)) (mCons (mC (.int 9)) mNil))) (mApp gInt1 (mCons (mOp gEq (mVar 3) (mC (.int 8))) mNil))) mNil)))) mNil)) (gmName 8)
    (mSeq (mSet 9 (mOp gIx (mLst (mCons (mC (.str "go")) (mCons (mC (.str "tell")) (mCons (mC (.str "ask")) mNil)))) (mCall 3 (c .law_next) (mCons (mVar 0) (mCons (mVar 1) (mCons (mC (.int 3)) mNil))))))
    (mExpr (mLm gAppend (mVar 7) (mCons (mTup (mCons (mCall 3 (c .law_next) (mCons (mVar 0) (mCons (mVar 1) (mCons (mOp gAdd (mVar 6) (mC (.int 1))) mNil)))) (mCons (mCall 3 (c .law_next) (mCons (mVar 0) (mCons (mVar 1) (mCons (mApp gLen (mCons (mVar 5) mNil)) mNil)))) (mCons (mVar 9) (mCons (mCall 3 (c .law_next) (mCons (mVar 0) (mCons (mVar 1) (mCons (mVar 4) mNil)))) mNil))))) mNil)))))
  (mRet (mTup (mCons (mApp gTuple (mCons (mVar 2) mNil)) (mCons (mVar 5) (mCons (mApp gTuple (mCons (mVar 7) mNil)) (mCons (mVar 6) mNil))))))))))))
abbrev st_law_clamp : Stmt := top 20
/-- _law_clamp -/
def m_law_clamp (c : Fn → List D → Mem → R D) : SM :=
  (mSeq (mIfS (tstB (mOp gLt (mVar 0) (mVar 1)))
    (mRet (mVar 1))
    mNx)
  (mSeq (mIfS (tstB (mOp gGt (mVar 0) (mVar 2)))
    (mRet (mVar 2))
    mNx)
  (mRet (mVar 0))))
abbrev st_law_pair : Stmt := top 21
/-- _law_pair -/
def m_law_pair (c : Fn → List D → Mem → R D) : SM :=
  (mSeq (mIfS (tstB (mOp gEq (mVar 0) (mC (.str "add"))))
    (mRet (mCall 3 (c .law_clamp) (mCons (mOp gAdd (mVar 1) (mVar 2)) (mCons (mUn gNeg (mOp gPow (mC (.int 10)) (mC (.int 9)))) (mCons (mOp gPow (mC (.int 10)) (mC (.int 9))) mNil)))))
    mNx)
  (mSeq (mIfS (tstB (mOp gEq (mVar 0) (mC (.str "sub"))))
    (mRet (mCall 3 (c .law_clamp) (mCons (mOp gSub (mVar 1) (mVar 2)) (mCons (mUn gNeg (mOp gPow (mC (.int 10)) (mC (.int 9)))) (mCons (mOp gPow (mC (.int 10)) (mC (.int 9))) mNil)))))
    mNx)
  (mSeq (mIfS (tstB (mOp gEq (mVar 0) (mC (.str "mul"))))
    (mRet (mCall 3 (c .law_clamp) (mCons (mOp gMulA (mVar 1) (mVar 2)) (mCons (mUn gNeg (mOp gPow (mC (.int 10)) (mC (.int 9)))) (mCons (mOp gPow (mC (.int 10)) (mC (.int 9))) mNil)))))
    mNx)
  (mSeq (mIfS (tstB (mOp gEq (mVar 0) (mC (.str "min"))))
    (mRet (mApp (gM2 fun i j => if j < i then j else i) (mCons (mVar 1) (mCons (mVar 2) mNil))))
    mNx)
  (mSeq (mIfS (tstB (mOp gEq (mVar 0) (mC (.str "max"))))
    (mRet (mApp (gM2 fun i j => if j > i then j else i) (mCons (mVar 1) (mCons (mVar 2) mNil))))
    mNx)
  (mSeq (mIfS (tstB (mOp gEq (mVar 0) (mC (.str "less"))))
    (mRet (mApp gInt1 (mCons (mOp gLt (mVar 1) (mVar 2)) mNil)))
    mNx)
  (mSeq (mIfS (tstB (mOp gEq (mVar 0) (mC (.str "same"))))
    (mRet (mApp gInt1 (mCons (mOp gEq (mVar 1) (mVar 2)) mNil)))
    mNx)
  (mSeq (mIfS (tstB (mOp gEq (mVar 0) (mC (.str "both"))))
    (mRet (mApp gInt1 (mCons (mAnd (mOp gNe (mVar 1) (mC (.int 0))) (mOp gNe (mVar 2) (mC (.int 0)))) mNil)))
    mNx)
  (mRet (mApp gInt1 (mCons (mOr (mOp gNe (mVar 1) (mC (.int 0))) (mOp gNe (mVar 2) (mC (.int 0)))) mNil)))))))))))
abbrev st_law_value : Stmt := top 22
/-- _law_value -/
def m_law_value (c : Fn → List D → Mem → R D) : SM :=
  (mSeq (mIfS (tstB (mOp gEq (mOp gIx (mVar 0) (mC (.int 0))) (mC (.str "int"))))
    (mRet (mOp gIx (mVar 0) (mC (.int 1))))
    mNx)
  (mSeq (mIfS (tstB (mOp gEq (mOp gIx (mVar 0) (mC (.int 0))) (mC (.str "field"))))
    (mRet (mOp gIxA (mOp gIxA (mVar 1) (mC (.str "fields"))) (mOp gIx (mVar 0) (mC (.int 1)))))
    mNx)
  (mSeq (mIfS (tstB (mOp gIn (mOp gIx (mVar 0) (mC (.int 0))) (mLst (mCons (mC (.str "arg")) (mCons (mC (.str "now")) (mCons (mC (.str "self")) mNil))))))
    (mRet (mOp gIxA (mVar 1) (mOp gIx (mVar 0) (mC (.int 0)))))
    mNx)
  (mSeq (mSet 2 (mCall 2 (c .law_value) (mCons (mOp gIx (mVar 0) (mC (.int 1))) (mCons (mVar 1) mNil))))
  (mSeq (mIfS (tstB (mOp gEq (mOp gIx (mVar 0) (mC (.int 0))) (mC (.str "div"))))
    (mRet (mOp gFdiv (mApp gInt1 (mCons (mVar 2) mNil)) (mOp gIx (mVar 0) (mC (.int 2)))))
    mNx)
  (mSeq (mIfS (tstB (mOp gEq (mOp gIx (mVar 0) (mC (.int 0))) (mC (.str "mod"))))
    (mRet (mOp gMod (mApp gInt1 (mCons (mVar 2) mNil)) (mOp gIx (mVar 0) (mC (.int 2)))))
    mNx)
  (mSeq (mIfS (tstB (mOp gEq (mOp gIx (mVar 0) (mC (.int 0))) (mC (.str "not"))))
    (mRet (mApp gInt1 (mCons (mOp gEq (mVar 2) (mC (.int 0))) mNil)))
    mNx)
  (mRet (mCall 3 (c .law_pair) (mCons (mOp gIx (mVar 0) (mC (.int 0))) (mCons (mVar 2) (mCons (mCall 2 (c .law_value) (mCons (mOp gIx (mVar 0) (mC (.int 2))) (mCons (mVar 1) mNil))) mNil))))))))))))
abbrev st_law_run : Stmt := top 23
/-- _law_run -/
def m_law_run (c : Fn → List D → Mem → R D) : SM :=
  (mFor (iSeq (mVar 0)) (gmName 3)
    (mIfS (tstB (mOp gEq (mOp gIx (mVar 3) (mC (.int 0))) (mC (.str "set"))))
      (mSeq (mSet 4 (mOp gIxA (mVar 1) (mC (.str "fields"))))
      (mSubA (mCall 3 (c .law_clamp) (mCons (mCall 2 (c .law_value) (mCons (mOp gIx (mVar 3) (mC (.int 2))) (mCons (mVar 1) mNil))) (mCons (mOp gIx (mOp gIxA (mVar 2) (mOp gIx (mVar 3) (mC (.int 1)))) (mC (.int 0))) (mCons (mOp gIx (mOp gIxA (mVar 2) (mOp gIx (mVar 3) (mC (.int 1)))) (mC (.int 1))) mNil)))) (mVar 4) (mOp gIx (mVar 3) (mC (.int 1)))))
      (mIfS (tstB (mOp gEq (mOp gIx (mVar 3) (mC (.int 0))) (mC (.str "send"))))
        (mSeq (mSet 5 (mOp gAdd (mOp gIxA (mVar 1) (mC (.str "now"))) (mCall 3 (c .law_clamp) (mCons (mCall 2 (c .law_value) (mCons (mOp gIx (mVar 3) (mC (.int 2))) (mCons (mVar 1) mNil))) (mCons (mC (.int 1)) (mCons (mC (.int 20)) mNil))))))
        (mSeq (mSet 6 (mOp gMod (mApp gInt1 (mCons (mCall 2 (c .law_value) (mCons (mOp gIx (mVar 3) (mC (.int 1))) (mCons (mVar 1) mNil))) mNil)) (mOp gIxA (mVar 1) (mC (.str "many")))))
        (mExpr (mLm gAppend (mOp gIxA (mVar 1) (mC (.str "sends"))) (mCons (mTup (mCons (mVar 5) (mCons (mVar 6) (mCons (mOp gIx (mVar 3) (mC (.int 3))) (mCons (mCall 3 (c .law_clamp) (mCons (mCall 2 (c .law_value) (mCons (mOp gIx (mVar 3) (mC (.int 4))) (mCons (mVar 1) mNil))) (mCons (mUn gNeg (mC (.int 999))) (mCons (mC (.int 999)) mNil)))) mNil))))) mNil)))))
        (mIfS (tstB (mOp gEq (mOp gIx (mVar 3) (mC (.int 0))) (mC (.str "if"))))
          (mExpr (mCall 3 (c .law_run) (mCons (mOp gIx (mVar 3) (mOp gAdd (mC (.int 2)) (mApp gInt1 (mCons (mOp gEq (mCall 2 (c .law_value) (mCons (mOp gIx (mVar 3) (mC (.int 1))) (mCons (mVar 1) mNil))) (mC (.int 0))) mNil)))) (mCons (mVar 1) (mCons (mVar 2) mNil)))))
          mNx))))
abbrev st_law_kind_of : Stmt := top 24
/-- _law_kind_of -/
def m_law_kind_of (c : Fn → List D → Mem → R D) : SM :=
  (mRet (mOp gIx (mLc (iSeq (mOp gIx (mVar 0) (mC (.int 0)))) (gmName 2) [2] (tstB (mOp gEq (mOp gIx (mVar 2) (mC (.int 0))) (mOp gIx (mOp gIx (mVar 0) (mC (.int 1))) (mVar 1)))) (mVar 2)) (mC (.int 0))))
abbrev st_law_happen : Stmt := top 25
/-- _law_happen -/
def m_law_happen (c : Fn → List D → Mem → R D) : SM :=
  (mSeq (mSet 6 (mCall 2 (c .law_kind_of) (mCons (mVar 0) (mCons (mVar 1) mNil))))
  (mSeq (mSet 7 mDNew)
  (mSeq (mSet 8 mDNew)
  (mSeq (mFor (iRange1 (mCons (mApp gLen (mCons (mOp gIx (mVar 6) (mC (.int 1))) mNil)) mNil)) (gmName 9)
    (mSeq (mSubA (mOp gIx (mVar 2) (mVar 9)) (mVar 7) (mOp gIx (mOp gIx (mOp gIx (mVar 6) (mC (.int 1))) (mVar 9)) (mC (.int 0))))
    (mSubA (mTup (mCons (mOp gIx (mOp gIx (mOp gIx (mVar 6) (mC (.int 1))) (mVar 9)) (mC (.int 1))) (mCons (mOp gIx (mOp gIx (mOp gIx (mVar 6) (mC (.int 1))) (mVar 9)) (mC (.int 2))) mNil))) (mVar 8) (mOp gIx (mOp gIx (mOp gIx (mVar 6) (mC (.int 1))) (mVar 9)) (mC (.int 0))))))
  (mSeq (mSet 10 (mDisp [((mC (.str "fields")), (mVar 7)), ((mC (.str "now")), (mVar 3)), ((mC (.str "arg")), (mVar 5)), ((mC (.str "self")), (mVar 1)), ((mC (.str "many")), (mApp gLen (mCons (mOp gIx (mVar 0) (mC (.int 1))) mNil))), ((mC (.str "sends")), (mLst mNil))]))
  (mSeq (mFor (iSeq (mOp gIx (mVar 6) (mC (.int 2)))) (gmName 11)
    (mIfS (tstB (mOp gEq (mOp gIx (mVar 11) (mC (.int 0))) (mVar 4)))
      (mExpr (mCall 3 (c .law_run) (mCons (mOp gIx (mVar 11) (mC (.int 1))) (mCons (mVar 10) (mCons (mVar 8) mNil)))))
      mNx))
  (mRet (mTup (mCons (mApp gTuple (mCons (mLc (iSeq (mOp gIx (mVar 6) (mC (.int 1)))) (gmName 12) [12] tYes' (mOp gIxA (mVar 7) (mOp gIx (mVar 12) (mC (.int 0))))) mNil)) (mCons (mOp gIxA (mVar 10) (mC (.str "sends"))) mNil))))))))))
abbrev st_law_first : Stmt := top 26
/-- _law_first -/
def m_law_first (c : Fn → List D → Mem → R D) : SM :=
  (mRet (mApp gTuple (mCons (mLc (iSeq (mOp gIx (mCall 2 (c .law_kind_of) (mCons (mVar 0) (mCons (mVar 1) mNil))) (mC (.int 1)))) (gmName 2) [2] tYes' (mCall 3 (c .law_clamp) (mCons (mC (.int 0)) (mCons (mOp gIx (mVar 2) (mC (.int 1))) (mCons (mOp gIx (mVar 2) (mC (.int 2))) mNil))))) mNil)))
abbrev st_law_state : Stmt := top 27
/-- _law_state -/
def m_law_state (c : Fn → List D → Mem → R D) : SM :=
  (mSeq (mSet 4 (mLst mNil))
  (mSeq (mFor (iSeq (mOp gIx (mCall 2 (c .law_kind_of) (mCons (mVar 0) (mCons (mVar 1) mNil))) (mC (.int 1)))) (gmName 5)
    (mExpr (mLm gAppend (mVar 4) (mCons (mOp gAdd (mOp gIx (mVar 5) (mC (.int 1))) (mCall 3 (c .law_next) (mCons (mVar 2) (mCons (mVar 3) (mCons (mOp gAdd (mOp gSub (mOp gIx (mVar 5) (mC (.int 2))) (mOp gIx (mVar 5) (mC (.int 1)))) (mC (.int 1))) mNil))))) mNil))))
  (mRet (mApp gTuple (mCons (mVar 4) mNil)))))
abbrev st_law_numbers : Stmt := top 28
/-- _law_numbers -/
def m_law_numbers (c : Fn → List D → Mem → R D) : SM :=
  (mSeq (mFor (iSeq (mVar 0)) (gmName 1)
    (mIfS (tstOr (tstB (mUn (gIsT "bool") (mVar 1))) (tstNot (tstB (mUn (gIsT "int") (mVar 1)))))
      (mRet (mC (.bl false)))
      mNx))
  (mRet (mC (.bl true))))
abbrev st_law : Stmt := top 29
/-- law -/
def m_law (c : Fn → List D → Mem → R D) : SM :=
  (mSeq (mSet 1 (mCall 1 (c .law_draws) (mCons (mVar 0) mNil)))
  (mSeq (mSet 2 (mLst (mCons (mC (.int 0)) mNil)))
  (mSeq (mFor (iRange1 (mCons (mC (.int 3)) mNil)) (gmName 3)
    (mSeq (mSet 4 (mCall 2 (c .law_model) (mCons (mVar 1) (mCons (mVar 2) mNil))))
    (mFor (iRange1 (mCons (mC (.int 5)) mNil)) (gmName 5)
      (mSeq (mSet 6 (mCall 3 (c .law_next) (mCons (mVar 1) (mCons (mVar 2) (mCons (mApp gLen (mCons (mOp gIx (mVar 4) (mC (.int 1))) mNil)) mNil)))))
      (mSeq (mSet 7 (mCall 4 (c .law_state) (mCons (mVar 4) (mCons (mVar 6) (mCons (mVar 1) (mCons (mVar 2) mNil))))))
      (mSeq (mSet 8 (mOp gIx (mLst (mCons (mC (.str "go")) (mCons (mC (.str "tell")) (mCons (mC (.str "ask")) (mCons (mC (.str "none")) mNil))))) (mCall 3 (c .law_next) (mCons (mVar 1) (mCons (mVar 2) (mCons (mC (.int 4)) mNil))))))
      (mSeq (mSet 9 (mCall 3 (c .law_next) (mCons (mVar 1) (mCons (mVar 2) (mCons (mC (.int 1001)) mNil)))))
      (mSeq (mSet 10 (mOp gSub (mCall 3 (c .law_next) (mCons (mVar 1) (mCons (mVar 2) (mCons (mC (.int 12)) mNil)))) (mC (.int 3))))
      (mSeq (mIfS (tstB (mOp gEq (mCall 3 (c .law_next) (mCons (mVar 1) (mCons (mVar 2) (mCons (mC (.int 3)) mNil)))) (mC (.int 1))))
        (mSet 10 (mOp gMulA (mCall 3 (c .law_next) (mCons (mVar 1) (mCons (mVar 2) (mCons (mC (.int 1000)) mNil)))) (mOp gIx (mLst (mCons (mC (.int 1)) (mCons (mUn gNeg (mC (.int 1))) mNil))) (mCall 3 (c .law_next) (mCons (mVar 1) (mCons (mVar 2) (mCons (mC (.int 2)) mNil)))))))
        mNx)
      (mSeq (mSet 11 (mCall 6 (c .law_happen) (mCons (mVar 4) (mCons (mVar 6) (mCons (mVar 7) (mCons (mVar 9) (mCons (mVar 8) (mCons (mVar 10) mNil))))))))
      (mSeq (mSet 12 (mCall 6 (c .run_handler) (mCons (mVar 4) (mCons (mVar 6) (mCons (mVar 7) (mCons (mVar 9) (mCons (mVar 8) (mCons (mVar 10) mNil))))))))
      (mSeq (mIfS (tstOr (tstNot (tstB (mUn (gIsT "tuple") (mVar 12)))) (tstOr (tstB (mOp gNe (mApp gLen (mCons (mVar 12) mNil)) (mC (.int 2)))) (tstB (mOp gNe (mVar 12) (mVar 11)))))
        (mRet (mC (.bl false)))
        mNx)
      (mSeq (mIfS (tstOr (tstNot (tstB (mUn (gIsT "tuple") (mOp gIx (mVar 12) (mC (.int 0)))))) (tstOr (tstNot (tstB (mUn (gIsT "list") (mOp gIx (mVar 12) (mC (.int 1)))))) (tstNot (tstB (mCall 1 (c .law_numbers) (mCons (mOp gIx (mVar 12) (mC (.int 0))) mNil))))))
        (mRet (mC (.bl false)))
        mNx)
      (mSeq (mFor (iSeq (mOp gIx (mVar 12) (mC (.int 1)))) (gmName 13)
        (mIfS (tstOr (tstNot (tstB (mUn (gIsT "tuple") (mVar 13)))) (tstNot (tstB (mCall 1 (c .law_numbers) (mCons (mTup (mCons (mOp gIx (mVar 13) (mC (.int 0))) (mCons (mOp gIx (mVar 13) (mC (.int 1))) (mCons (mOp gIx (mVar 13) (mC (.int 3))) mNil)))) mNil)))))
          (mRet (mC (.bl false)))
          mNx))
      (mIfS (tstB (mOp gNe (mCall 6 (c .run_handler) (mCons (mVar 4) (mCons (mVar 6) (mCons (mVar 7) (mCons (mVar 9) (mCons (mVar 8) (mCons (mVar 10) mNil))))))) (mVar 11)))
        (mRet (mC (.bl false)))
        mNx)))))))))))))))
  (mRet (mC (.bl true))))))
def Fn.sl : Fn → Nat
  | .kind_of => 4
  | .nearest => 3
  | .run_handler => 9
  | .find_program => 4
  | .operate => 3
  | .Run_init => 12
  | .Run_state => 2
  | .Run_program => 3
  | .Run_statement => 11
  | .Run_send => 8
  | .Run_value => 7
  | .law_draws => 6
  | .law_next => 4
  | .law_big => 5
  | .law_expression => 8
  | .law_send => 6
  | .law_program => 7
  | .law_kind => 8
  | .law_model => 10
  | .law_clamp => 3
  | .law_pair => 3
  | .law_value => 3
  | .law_run => 7
  | .law_kind_of => 3
  | .law_happen => 13
  | .law_first => 3
  | .law_state => 6
  | .law_numbers => 2
  | .law => 14
def Fn.body (c : Fn → List D → Mem → R D) : Fn → SM
  | .kind_of => m_kind_of c
  | .nearest => m_nearest c
  | .run_handler => m_run_handler c
  | .find_program => m_find_program c
  | .operate => m_operate c
  | .Run_init => m_Run_init c
  | .Run_state => m_Run_state c
  | .Run_program => m_Run_program c
  | .Run_statement => m_Run_statement c
  | .Run_send => m_Run_send c
  | .Run_value => m_Run_value c
  | .law_draws => m_law_draws c
  | .law_next => m_law_next c
  | .law_big => m_law_big c
  | .law_expression => m_law_expression c
  | .law_send => m_law_send c
  | .law_program => m_law_program c
  | .law_kind => m_law_kind c
  | .law_model => m_law_model c
  | .law_clamp => m_law_clamp c
  | .law_pair => m_law_pair c
  | .law_value => m_law_value c
  | .law_run => m_law_run c
  | .law_kind_of => m_law_kind_of c
  | .law_happen => m_law_happen c
  | .law_first => m_law_first c
  | .law_state => m_law_state c
  | .law_numbers => m_law_numbers c
  | .law => m_law c
/-- the meaning of each def, so many calls deep -/
def call : Nat → Fn → List D → Mem → R D
  | 0, _ => fun _ _ => .no
  | k + 1, f => defM f.ar f.sl (f.body (call k))
def fa : List He.Fa := [
  .free "min",
  .free "max",
  .cls "Run",
  .noat "Run" "sends",
  .meth "Run" "state",
  .meth "Run" "program",
  .free "len",
  .mkr "Run",
  .glo "Run",
  .glo "find_program",
  .glo "kind_of",
  .noat "Run" "arg",
  .noat "Run" "time",
  .noat "Run" "number",
  .noat "Run" "objects",
  .free "zip",
  .noat "Run" "held",
  .noat "Run" "ranges",
  .free "tuple",
  .meth "Run" "statement",
  .meth "Run" "value",
  .meth "Run" "send",
  .glo "nearest",
  .int "MOST_NUMBER" 999,
  .int "MOST_DELAY" 20,
  .int "LIMIT" 1000000000,
  .glo "operate",
  .free "range",
  .free "int",
  .free "abs",
  .glo "_law_next",
  .glo "_law_expression",
  .glo "_law_send",
  .glo "_law_program",
  .glo "_law_kind",
  .glo "_law_clamp",
  .glo "_law_value",
  .glo "_law_pair",
  .glo "_law_run",
  .glo "_law_kind_of",
  .free "isinstance",
  .free "bool",
  .glo "run_handler",
  .glo "_law_numbers",
  .free "list",
  .glo "_law_happen",
  .glo "_law_state",
  .glo "_law_model",
  .glo "_law_draws",
  .glo "law"]
def fnD : Fn → He.DefD
  | .kind_of => ⟨("kind_of", none), "kind_of", "kind_of", defArgs (top 4), defBody (top 4), defScope (top 4), [], []⟩
  | .nearest => ⟨("nearest", none), "nearest", "nearest", defArgs (top 5), defBody (top 5), defScope (top 5), [], []⟩
  | .run_handler => ⟨("run_handler", none), "run_handler", "run_handler", defArgs (top 7), defBody (top 7), defScope (top 7), [], []⟩
  | .find_program => ⟨("find_program", none), "find_program", "find_program", defArgs (top 8), defBody (top 8), defScope (top 8), [], []⟩
  | .operate => ⟨("operate", none), "operate", "operate", defArgs (top 9), defBody (top 9), defScope (top 9), [], []⟩
  | .Run_init => ⟨("Run", some "__init__"), "__init__", "Run.__init__", defArgs (inClass (top 10) 0), defBody (inClass (top 10) 0), defScope (inClass (top 10) 0), [], []⟩
  | .Run_state => ⟨("Run", some "state"), "state", "Run.state", defArgs (inClass (top 10) 1), defBody (inClass (top 10) 1), defScope (inClass (top 10) 1), [], []⟩
  | .Run_program => ⟨("Run", some "program"), "program", "Run.program", defArgs (inClass (top 10) 2), defBody (inClass (top 10) 2), defScope (inClass (top 10) 2), [], []⟩
  | .Run_statement => ⟨("Run", some "statement"), "statement", "Run.statement", defArgs (inClass (top 10) 3), defBody (inClass (top 10) 3), defScope (inClass (top 10) 3), [], []⟩
  | .Run_send => ⟨("Run", some "send"), "send", "Run.send", defArgs (inClass (top 10) 4), defBody (inClass (top 10) 4), defScope (inClass (top 10) 4), [], []⟩
  | .Run_value => ⟨("Run", some "value"), "value", "Run.value", defArgs (inClass (top 10) 5), defBody (inClass (top 10) 5), defScope (inClass (top 10) 5), [], []⟩
  | .law_draws => ⟨("_law_draws", none), "_law_draws", "_law_draws", defArgs (top 12), defBody (top 12), defScope (top 12), [], []⟩
  | .law_next => ⟨("_law_next", none), "_law_next", "_law_next", defArgs (top 13), defBody (top 13), defScope (top 13), [], []⟩
  | .law_big => ⟨("_law_big", none), "_law_big", "_law_big", defArgs (top 14), defBody (top 14), defScope (top 14), [], []⟩
  | .law_expression => ⟨("_law_expression", none), "_law_expression", "_law_expression", defArgs (top 15), defBody (top 15), defScope (top 15), [], []⟩
  | .law_send => ⟨("_law_send", none), "_law_send", "_law_send", defArgs (top 16), defBody (top 16), defScope (top 16), [], []⟩
  | .law_program => ⟨("_law_program", none), "_law_program", "_law_program", defArgs (top 17), defBody (top 17), defScope (top 17), [], []⟩
  | .law_kind => ⟨("_law_kind", none), "_law_kind", "_law_kind", defArgs (top 18), defBody (top 18), defScope (top 18), [], []⟩
  | .law_model => ⟨("_law_model", none), "_law_model", "_law_model", defArgs (top 19), defBody (top 19), defScope (top 19), [], []⟩
  | .law_clamp => ⟨("_law_clamp", none), "_law_clamp", "_law_clamp", defArgs (top 20), defBody (top 20), defScope (top 20), [], []⟩
  | .law_pair => ⟨("_law_pair", none), "_law_pair", "_law_pair", defArgs (top 21), defBody (top 21), defScope (top 21), [], []⟩
  | .law_value => ⟨("_law_value", none), "_law_value", "_law_value", defArgs (top 22), defBody (top 22), defScope (top 22), [], []⟩
  | .law_run => ⟨("_law_run", none), "_law_run", "_law_run", defArgs (top 23), defBody (top 23), defScope (top 23), [], []⟩
  | .law_kind_of => ⟨("_law_kind_of", none), "_law_kind_of", "_law_kind_of", defArgs (top 24), defBody (top 24), defScope (top 24), [], []⟩
  | .law_happen => ⟨("_law_happen", none), "_law_happen", "_law_happen", defArgs (top 25), defBody (top 25), defScope (top 25), [], []⟩
  | .law_first => ⟨("_law_first", none), "_law_first", "_law_first", defArgs (top 26), defBody (top 26), defScope (top 26), [], []⟩
  | .law_state => ⟨("_law_state", none), "_law_state", "_law_state", defArgs (top 27), defBody (top 27), defScope (top 27), [], []⟩
  | .law_numbers => ⟨("_law_numbers", none), "_law_numbers", "_law_numbers", defArgs (top 28), defBody (top 28), defScope (top 28), [], []⟩
  | .law => ⟨("law", none), "law", "law", defArgs (top 29), defBody (top 29), defScope (top 29), [], []⟩
def allFn : List Fn := [.kind_of, .nearest, .run_handler, .find_program, .operate, .Run_init, .Run_state, .Run_program, .Run_statement, .Run_send, .Run_value, .law_draws, .law_next, .law_big, .law_expression, .law_send, .law_program, .law_kind, .law_model, .law_clamp, .law_pair, .law_value, .law_run, .law_kind_of, .law_happen, .law_first, .law_state, .law_numbers, .law]
def fn : List He.DefD := allFn.map fnD
def tf : List (Str × Option Str) := []
def asks : List Ask := []
abbrev gx (K : PySem.W.Frag) : Gx := ⟨K, He.ga K, tf.map fun p => (He.cT K p).2⟩
structure Env (P : Program) (w : World) (K : PySem.W.Frag) (mg : Str → Option Value) (base : Heap) (k : Nat) (c : Fn → List D → Mem → R D) : Prop where
  top : Top K mg fa fn
  fn : ∀ f : Fn, CallOk P w K mg base (gx K) (2 * k) (He.fAd K f.at_) f.ps f.ar (c f)
  tab : ∀ (i : Nat) {p : Str × Option Str}, tf[i]? = some p → GxR.TabB base mg (He.cT K p).1 (He.cT K p).2
  ask : ∀ (i : Nat) {q : Ask}, asks[i]? = some q → Asked K (He.ga K q.1) (He.ga K q.2.1) q.2.2
theorem tab_mem {K : PySem.W.Frag} (i : Nat) {p : Str × Option Str} (h : tf[i]? = some p) : (He.cT K p).2 ∈ (gx K).tabs := List.mem_map_of_mem (List.mem_of_getElem? h)
section
variable {P : Program} {w : World} {K : PySem.W.Frag} {mg : Str → Option Value} {base : Heap} {k : Nat} {c : Fn → List D → Mem → R D}
theorem sc_kind_of : FnScope ["model", "number", "name", "kind"] ["model", "number"] (defScope st_kind_of) := ⟨rfl, rfl, rfl, by decide +kernel, rfl, by decide +kernel, by decide +kernel⟩
theorem ok_kind_of (E : Env P w K mg base k c) {f : Addr} {fd : FuncData} (F : FunD K "kind_of" "kind_of" (defArgs st_kind_of) (defBody st_kind_of) (defScope st_kind_of) [] [] f fd) : FnOk P w K mg base (L2.CX P w) (2 * k + 2) f fd ["model", "number"] (spOf (gx K) 2 (defM 2 4 (m_kind_of c))) := by
  have T := E.top
  have hl : (["model", "number"] : List Str).length = 2 := rfl
  have S := sc_kind_of
  have key := def_ok (G := gx K) (m := m_kind_of c) (k := 2 * k + 1) (w := w) (P := P) (mg := mg) (base := base) F S hl
  refine key fun cdv A outer s H El hcd hr tk hp => ?_
  exact (smm_cons (sm_set (j := 2) sc_kind_of.nd rfl (by first | exact Or.inl rfl | exact Or.inr rfl) (em_ix ix_seq s_ix (em_ix ix_seq s_ix (em_var (pv 0)) em_int (fun _ _ => rfl)) (em_var (pv 1)) (fun _ _ => rfl)))
  (smm_one (sm_ret (em_ix ix_seq s_ix (em_lc (own := [("kind", 3)]) rfl sc_kind_of.nd (im_seq rfl (em_ix ix_seq s_ix (em_var (pv 0)) em_int (fun _ _ => rfl))) (blkOk_by (by kernel_rfl)) (fun _ _ _ _ _ => (gm_name (i := 3) (by decide) sc_kind_of.nd rfl (by first | exact Or.inl rfl | exact Or.inr rfl))) (fun _ _ _ _ _ => (pts_if (tm_cmp (o_eq hr.units) s_eq (em_ix ix_seq s_ix (em_var (pv 3)) em_int (fun _ _ => rfl)) (em_var (pv 2)) (nomark _)))) (fun _ _ _ _ _ => (em_var (pv 3)))) em_int (fun _ _ => rfl)))))
theorem sc_nearest : FnScope ["value", "low", "high"] ["value", "low", "high"] (defScope st_nearest) := ⟨rfl, rfl, rfl, by decide +kernel, rfl, by decide +kernel, by decide +kernel⟩
theorem ok_nearest (E : Env P w K mg base k c) {f : Addr} {fd : FuncData} (F : FunD K "nearest" "nearest" (defArgs st_nearest) (defBody st_nearest) (defScope st_nearest) [] [] f fd) : FnOk P w K mg base (L2.CX P w) (2 * k + 2) f fd ["value", "low", "high"] (spOf (gx K) 3 (defM 3 3 (m_nearest c))) := by
  have T := E.top
  have hl : (["value", "low", "high"] : List Str).length = 3 := rfl
  have S := sc_nearest
  have key := def_ok (G := gx K) (m := m_nearest c) (k := 2 * k + 1) (w := w) (P := P) (mg := mg) (base := base) F S hl
  refine key fun cdv A outer s H El hcd hr tk hp => ?_
  exact (smm_one (sm_ret (em_callB (call_max2 rfl) s_m2 rfl (T.free 1 rfl) (by decide +kernel) (am_cons (em_var (pv 1)) (am_cons (em_callB (call_min2 rfl) s_m2 rfl (T.free 0 rfl) (by decide +kernel) (am_cons (em_var (pv 2)) (am_cons (em_var (pv 0)) am_nil))) am_nil)))))
theorem sc_run_handler : FnScope ["model", "number", "state", "time", "name", "arg", "kind", "program", "run"] ["model", "number", "state", "time", "name", "arg"] (defScope st_run_handler) := ⟨rfl, rfl, rfl, by decide +kernel, rfl, by decide +kernel, by decide +kernel⟩
theorem ok_run_handler (E : Env P w K mg base k c) {f : Addr} {fd : FuncData} (F : FunD K "run_handler" "run_handler" (defArgs st_run_handler) (defBody st_run_handler) (defScope st_run_handler) [] [] f fd) : FnOk P w K mg base (L2.CX P w) (2 * k + 2) f fd ["model", "number", "state", "time", "name", "arg"] (spOf (gx K) 6 (defM 6 9 (m_run_handler c))) := by
  have T := E.top
  have hl : (["model", "number", "state", "time", "name", "arg"] : List Str).length = 6 := rfl
  have S := sc_run_handler
  have key := def_ok (G := gx K) (m := m_run_handler c) (k := 2 * k + 1) (w := w) (P := P) (mg := mg) (base := base) F S hl
  refine key fun cdv A outer s H El hcd hr tk hp => ?_
  exact (smm_cons (sm_set (j := 6) sc_run_handler.nd rfl (Or.inl rfl) (em_callE (E.fn .kind_of) (hr.mono (Nat.le_succ _)) tk rfl (T.glo 10 rfl) (am_cons (em_var (pv 0)) (am_cons (em_var (pv 1)) am_nil))))
  (smm_cons (sm_set (j := 7) sc_run_handler.nd rfl (Or.inl rfl) (em_callE (E.fn .find_program) (hr.mono (Nat.le_succ _)) tk rfl (T.glo 9 rfl) (am_cons (em_var (pv 6)) (am_cons (em_var (pv 4)) am_nil))))
  (smm_cons (sm_if (tm_cmp op_isN s_isN (em_var (pv 7)) em_non (nomark _))
    (smm_one (sm_ret (em_tup (am_cons (em_var (pv 2)) (am_cons (em_lst am_nil) am_nil)))))
    smm_nil)
  (smm_cons (sm_set (j := 8) sc_run_handler.nd rfl (Or.inl rfl) (em_makeE (cl := "Run") (E.fn .Run_init) rfl (T.mkr 7 rfl) hr tk rfl (T.glo 8 rfl) (am_cons (em_ix ix_seq s_ix (em_var (pv 6)) em_int (fun _ _ => rfl)) (am_cons (em_callB c_len s_len rfl (T.free 6 rfl) (by decide +kernel) (am_cons (em_ix ix_seq s_ix (em_var (pv 0)) em_int (fun _ _ => rfl)) am_nil)) (am_cons (em_var (pv 1)) (am_cons (em_var (pv 2)) (am_cons (em_var (pv 3)) (am_cons (em_var (pv 5)) am_nil))))))))
  (smm_cons (sm_expr (em_methE (cl := "Run") (E.fn .Run_program) rfl (em_var (pv 8)) (T.cls 2 rfl) (T.meth 5 rfl) (hr.mono (Nat.le_succ _)) tk (am_cons (em_var (pv 7)) am_nil)))
  (smm_one (sm_ret (em_tup (am_cons (em_meth0E (cl := "Run") (E.fn .Run_state) rfl (em_var (pv 8)) (T.cls 2 rfl) (T.meth 4 rfl) (hr.mono (Nat.le_succ _)) tk rfl) (am_cons (em_fld rfl (fld_cons (T.cls 2 rfl) (T.noat 3 rfl) fld_nil) (em_var (pv 8)) rfl) am_nil))))))))))
theorem sc_find_program : FnScope ["kind", "name", "word", "program"] ["kind", "name"] (defScope st_find_program) := ⟨rfl, rfl, rfl, by decide +kernel, rfl, by decide +kernel, by decide +kernel⟩
theorem ok_find_program (E : Env P w K mg base k c) {f : Addr} {fd : FuncData} (F : FunD K "find_program" "find_program" (defArgs st_find_program) (defBody st_find_program) (defScope st_find_program) [] [] f fd) : FnOk P w K mg base (L2.CX P w) (2 * k + 2) f fd ["kind", "name"] (spOf (gx K) 2 (defM 2 4 (m_find_program c))) := by
  have T := E.top
  have hl : (["kind", "name"] : List Str).length = 2 := rfl
  have S := sc_find_program
  have key := def_ok (G := gx K) (m := m_find_program c) (k := 2 * k + 1) (w := w) (P := P) (mg := mg) (base := base) F S hl
  refine key fun cdv A outer s H El hcd hr tk hp => ?_
  exact (smm_cons (sm_for (vs := [2, 3]) hp rfl (im_seq rfl (em_ix ix_seq s_ix (em_var (pv 0)) em_int (fun _ _ => rfl))) (gm_tup rfl rfl (gms_cons (gm_name (i := 2) (by decide) sc_find_program.nd rfl (by first | exact Or.inl rfl | exact Or.inr rfl)) (gms_cons (gm_name (i := 3) (by decide) sc_find_program.nd rfl (by first | exact Or.inl rfl | exact Or.inr rfl)) gms_nil)))
    (smm_one (sm_if (tm_cmp (o_eq hr.units) s_eq (em_var (pv 2)) (em_var (pv 1)) (nomark _))
      (smm_one (sm_ret (em_var (pv 3))))
      smm_nil)))
  (smm_one (sm_ret em_non)))
theorem sc_operate : FnScope ["word", "a", "b"] ["word", "a", "b"] (defScope st_operate) := ⟨rfl, rfl, rfl, by decide +kernel, rfl, by decide +kernel, by decide +kernel⟩
theorem ok_operate (E : Env P w K mg base k c) {f : Addr} {fd : FuncData} (F : FunD K "operate" "operate" (defArgs st_operate) (defBody st_operate) (defScope st_operate) [] [] f fd) : FnOk P w K mg base (L2.CX P w) (2 * k + 2) f fd ["word", "a", "b"] (spOf (gx K) 3 (defM 3 3 (m_operate c))) := by
  have T := E.top
  have hl : (["word", "a", "b"] : List Str).length = 3 := rfl
  have S := sc_operate
  have key := def_ok (G := gx K) (m := m_operate c) (k := 2 * k + 1) (w := w) (P := P) (mg := mg) (base := base) F S hl
  refine key fun cdv A outer s H El hcd hr tk hp => ?_
  exact (smm_one (sm_match (em_var (pv 0))
  (mcs_cons sc_operate.nd (mp_lit rfl hr.units) (smm_one (sm_ret (em_op o_add s_add (em_var (pv 1)) (em_var (pv 2)))))
  (mcs_cons sc_operate.nd (mp_lit rfl hr.units) (smm_one (sm_ret (em_op op_sub s_sub (em_var (pv 1)) (em_var (pv 2)))))
  (mcs_cons sc_operate.nd (mp_lit rfl hr.units) (smm_one (sm_ret (em_op o_mulA s_mulA (em_var (pv 1)) (em_var (pv 2)))))
  (mcs_cons sc_operate.nd (mp_lit rfl hr.units) (smm_one (sm_ret (em_callB (call_min2 rfl) s_m2 rfl (T.free 0 rfl) (by decide +kernel) (am_cons (em_var (pv 1)) (am_cons (em_var (pv 2)) am_nil)))))
  (mcs_cons sc_operate.nd (mp_lit rfl hr.units) (smm_one (sm_ret (em_callB (call_max2 rfl) s_m2 rfl (T.free 1 rfl) (by decide +kernel) (am_cons (em_var (pv 1)) (am_cons (em_var (pv 2)) am_nil)))))
  (mcs_cons sc_operate.nd (mp_lit rfl hr.units) (smm_one (sm_ret (em_op op_fdiv s_fdiv (em_var (pv 1)) (em_var (pv 2)))))
  (mcs_cons sc_operate.nd (mp_lit rfl hr.units) (smm_one (sm_ret (em_op op_mod s_mod (em_var (pv 1)) (em_var (pv 2)))))
  (mcs_cons sc_operate.nd (mp_lit rfl hr.units) (smm_one (sm_ret (em_if (tm_cmp o_lt s_ord (em_var (pv 1)) (em_var (pv 2)) (nomark _)) em_int em_int)))
  (mcs_cons sc_operate.nd (mp_lit rfl hr.units) (smm_one (sm_ret (em_if (tm_cmp (o_eq hr.units) s_eq (em_var (pv 1)) (em_var (pv 2)) (nomark _)) em_int em_int)))
  (mcs_cons sc_operate.nd (mp_lit rfl hr.units) (smm_one (sm_ret (em_if (TW.pt (tw_and (tm_cmp (o_ne hr.units) s_ne (em_var (pv 1)) em_int (nomark _)) (tw_and1 (tm_cmp (o_ne hr.units) s_ne (em_var (pv 2)) em_int (nomark _))))) em_int em_int)))
  (mcs_cons sc_operate.nd (mp_lit rfl hr.units) (smm_one (sm_ret (em_if (TW.pt (tw_or (tm_cmp (o_ne hr.units) s_ne (em_var (pv 1)) em_int (nomark _)) (tw_or1 (tm_cmp (o_ne hr.units) s_ne (em_var (pv 2)) em_int (nomark _))))) em_int em_int)))
  mcs_nil)))))))))))))
theorem sc_Run_init : FnScope ["self", "fields", "objects", "number", "state", "time", "arg", "name", "low", "high", "field", "value"] ["self", "fields", "objects", "number", "state", "time", "arg"] (defScope st_Run_init) := ⟨rfl, rfl, rfl, by decide +kernel, rfl, by decide +kernel, by decide +kernel⟩
theorem ok_Run_init (E : Env P w K mg base k c) {f : Addr} {fd : FuncData} (F : FunD K "__init__" "Run.__init__" (defArgs st_Run_init) (defBody st_Run_init) (defScope st_Run_init) [] [] f fd) : FnOk P w K mg base (L2.CX P w) (2 * k + 2) f fd ["self", "fields", "objects", "number", "state", "time", "arg"] (spOf (gx K) 7 (defM 7 12 (m_Run_init c))) := by
  have T := E.top
  have hl : (["self", "fields", "objects", "number", "state", "time", "arg"] : List Str).length = 7 := rfl
  have S := sc_Run_init
  have key := def_ok (G := gx K) (m := m_Run_init c) (k := 2 * k + 1) (w := w) (P := P) (mg := mg) (base := base) F S hl
  refine key fun cdv A outer s H El hcd hr tk hp => ?_
  exact (smm_cons (sm_fld rfl (fld_cons (T.cls 2 rfl) (T.noat 17 rfl) fld_nil) (em_var (pv 0)) (em_dc (own := [("name", 7), ("low", 8), ("high", 9)]) rfl sc_Run_init.nd (im_seq rfl (em_var (pv 1))) (blkOk_by (by kernel_rfl)) (fun _ _ _ _ _ => (gm_tup rfl rfl (gms_cons (gm_name (i := 7) (by decide) sc_Run_init.nd rfl (by first | exact Or.inl rfl | exact Or.inr rfl)) (gms_cons (gm_name (i := 8) (by decide) sc_Run_init.nd rfl (by first | exact Or.inl rfl | exact Or.inr rfl)) (gms_cons (gm_name (i := 9) (by decide) sc_Run_init.nd rfl (by first | exact Or.inl rfl | exact Or.inr rfl)) gms_nil))))) (fun _ _ _ _ _ => pts_yes) (fun _ _ _ _ _ => (em_var (pv 7))) (fun _ _ _ _ _ => (em_tup (am_cons (em_var (pv 8)) (am_cons (em_var (pv 9)) am_nil))))) rfl)
  (smm_cons (sm_fld rfl (fld_cons (T.cls 2 rfl) (T.noat 16 rfl) fld_nil) (em_var (pv 0)) (em_dc (own := [("field", 10), ("value", 11)]) rfl sc_Run_init.nd (im_zip rfl rfl (T.free 15 rfl) (am_cons (em_var (pv 1)) (am_cons (em_var (pv 4)) am_nil))) (blkOk_by (by kernel_rfl)) (fun _ _ _ _ _ => (gm_tup rfl rfl (gms_cons (gm_name (i := 10) (by decide) sc_Run_init.nd rfl (by first | exact Or.inl rfl | exact Or.inr rfl)) (gms_cons (gm_name (i := 11) (by decide) sc_Run_init.nd rfl (by first | exact Or.inl rfl | exact Or.inr rfl)) gms_nil)))) (fun _ _ _ _ _ => pts_yes) (fun _ _ _ _ _ => (em_ix ix_seq s_ix (em_var (pv 10)) em_int (fun _ _ => rfl))) (fun _ _ _ _ _ => (em_var (pv 11)))) rfl)
  (smm_cons (sm_fld rfl (fld_cons (T.cls 2 rfl) (T.noat 14 rfl) fld_nil) (em_var (pv 0)) (em_var (pv 2)) rfl)
  (smm_cons (sm_fld rfl (fld_cons (T.cls 2 rfl) (T.noat 13 rfl) fld_nil) (em_var (pv 0)) (em_var (pv 3)) rfl)
  (smm_cons (sm_fld rfl (fld_cons (T.cls 2 rfl) (T.noat 12 rfl) fld_nil) (em_var (pv 0)) (em_var (pv 5)) rfl)
  (smm_cons (sm_fld rfl (fld_cons (T.cls 2 rfl) (T.noat 11 rfl) fld_nil) (em_var (pv 0)) (em_var (pv 6)) rfl)
  (smm_one (sm_fld rfl (fld_cons (T.cls 2 rfl) (T.noat 3 rfl) fld_nil) (em_var (pv 0)) (em_lst am_nil) rfl))))))))
theorem sc_Run_state : FnScope ["self", "name"] ["self"] (defScope st_Run_state) := ⟨rfl, rfl, rfl, by decide +kernel, rfl, by decide +kernel, by decide +kernel⟩
theorem ok_Run_state (E : Env P w K mg base k c) {f : Addr} {fd : FuncData} (F : FunD K "state" "Run.state" (defArgs st_Run_state) (defBody st_Run_state) (defScope st_Run_state) [] [] f fd) : FnOk P w K mg base (L2.CX P w) (2 * k + 2) f fd ["self"] (spOf (gx K) 1 (defM 1 2 (m_Run_state c))) := by
  have T := E.top
  have hl : (["self"] : List Str).length = 1 := rfl
  have S := sc_Run_state
  have key := def_ok (G := gx K) (m := m_Run_state c) (k := 2 * k + 1) (w := w) (P := P) (mg := mg) (base := base) F S hl
  refine key fun cdv A outer s H El hcd hr tk hp => ?_
  exact (smm_one (sm_ret (em_callTy call_tuple_of s_tuple rfl (T.free 18 rfl) (by decide +kernel) (am_cons (em_lock (pick := (pkF 0 "ranges")) (em_lc (own := [("name", 1)]) rfl sc_Run_state.nd (im_keys (em_fld rfl (fld_cons (T.cls 2 rfl) (T.noat 17 rfl) fld_nil) (em_var (pv 0)) rfl)) (blkOk_by (by kernel_rfl)) (fun _ _ _ _ _ => (gm_name (i := 1) (by decide) sc_Run_state.nd rfl (by first | exact Or.inl rfl | exact Or.inr rfl))) (fun _ _ _ _ _ => pts_yes) (fun _ _ _ _ _ => (em_ix (ix_all (u1 hr)) s_ixA (em_fld rfl (fld_cons (T.cls 2 rfl) (T.noat 16 rfl) fld_nil) (em_var (pv 0)) rfl) (em_var (pv 1)) (fun _ _ => rfl))))) am_nil))))
theorem sc_Run_program : FnScope ["self", "program", "statement"] ["self", "program"] (defScope st_Run_program) := ⟨rfl, rfl, rfl, by decide +kernel, rfl, by decide +kernel, by decide +kernel⟩
theorem ok_Run_program (E : Env P w K mg base k c) {f : Addr} {fd : FuncData} (F : FunD K "program" "Run.program" (defArgs st_Run_program) (defBody st_Run_program) (defScope st_Run_program) [] [] f fd) : FnOk P w K mg base (L2.CX P w) (2 * k + 2) f fd ["self", "program"] (spOf (gx K) 2 (defM 2 3 (m_Run_program c))) := by
  have T := E.top
  have hl : (["self", "program"] : List Str).length = 2 := rfl
  have S := sc_Run_program
  have key := def_ok (G := gx K) (m := m_Run_program c) (k := 2 * k + 1) (w := w) (P := P) (mg := mg) (base := base) F S hl
  refine key fun cdv A outer s H El hcd hr tk hp => ?_
  exact (smm_one (sm_for (vs := [2]) hp rfl (im_seq rfl (em_var (pv 1))) (gm_name (i := 2) (by decide) sc_Run_program.nd rfl (by first | exact Or.inl rfl | exact Or.inr rfl))
    (smm_one (sm_expr (em_methE (cl := "Run") (E.fn .Run_statement) rfl (em_var (pv 0)) (T.cls 2 rfl) (T.meth 19 rfl) (hr.mono (Nat.le_succ _)) tk (am_cons (em_var (pv 2)) am_nil))))))
theorem sc_Run_statement : FnScope ["self", "statement", "name", "e", "low", "high", "target", "delay", "arg", "first", "second"] ["self", "statement"] (defScope st_Run_statement) := ⟨rfl, rfl, rfl, by decide +kernel, rfl, by decide +kernel, by decide +kernel⟩
theorem ok_Run_statement (E : Env P w K mg base k c) {f : Addr} {fd : FuncData} (F : FunD K "statement" "Run.statement" (defArgs st_Run_statement) (defBody st_Run_statement) (defScope st_Run_statement) [] [] f fd) : FnOk P w K mg base (L2.CX P w) (2 * k + 2) f fd ["self", "statement"] (spOf (gx K) 2 (defM 2 11 (m_Run_statement c))) := by
  have T := E.top
  have hl : (["self", "statement"] : List Str).length = 2 := rfl
  have S := sc_Run_statement
  have key := def_ok (G := gx K) (m := m_Run_statement c) (k := 2 * k + 1) (w := w) (P := P) (mg := mg) (base := base) F S hl
  refine key fun cdv A outer s H El hcd hr tk hp => ?_
  exact (smm_one (sm_match (em_var (pv 1))
  (mcs_cons sc_Run_statement.nd (mp_seq rfl rfl (mps_cons rfl (mp_lit rfl hr.units) (mps_cons rfl (mp_cap (i := 2) rfl (Or.inl rfl)) (mps_cons rfl (mp_cap (i := 3) rfl (Or.inl rfl)) mps_nil)))) (smm_cons (sm_asg (vs := [4, 5]) (em_ix (ix_all (u1 hr)) s_ixA (em_fld rfl (fld_cons (T.cls 2 rfl) (T.noat 17 rfl) fld_nil) (em_var (pv 0)) rfl) (em_var (pv 2)) (fun _ _ => rfl)) (gm_tup rfl rfl (gms_cons (gm_name (i := 4) (by decide) sc_Run_statement.nd rfl (by first | exact Or.inl rfl | exact Or.inr rfl)) (gms_cons (gm_name (i := 5) (by decide) sc_Run_statement.nd rfl (by first | exact Or.inl rfl | exact Or.inr rfl)) gms_nil))))
    (smm_one (sm_subA (u1 hr) rfl rfl rfl (by intro _; rfl) (em_callE (E.fn .nearest) (hr.mono (Nat.le_succ _)) tk rfl (T.glo 22 rfl) (am_cons (em_methE (cl := "Run") (E.fn .Run_value) rfl (em_var (pv 0)) (T.cls 2 rfl) (T.meth 20 rfl) (hr.mono (Nat.le_succ _)) tk (am_cons (em_var (pv 3)) am_nil)) (am_cons (em_var (pv 4)) (am_cons (em_var (pv 5)) am_nil)))) (em_fld rfl (fld_cons (T.cls 2 rfl) (T.noat 16 rfl) fld_nil) (em_var (pv 0)) rfl) (em_var (pv 2)))))
  (mcs_cons sc_Run_statement.nd (mp_seq rfl rfl (mps_cons rfl (mp_lit rfl hr.units) (mps_cons rfl (mp_cap (i := 6) rfl (Or.inl rfl)) (mps_cons rfl (mp_cap (i := 7) rfl (Or.inl rfl)) (mps_cons rfl (mp_cap (i := 2) rfl (Or.inl rfl)) (mps_cons rfl (mp_cap (i := 8) rfl (Or.inl rfl)) mps_nil)))))) (smm_one (sm_expr (em_methE (cl := "Run") (E.fn .Run_send) rfl (em_var (pv 0)) (T.cls 2 rfl) (T.meth 21 rfl) (hr.mono (Nat.le_succ _)) tk (am_cons (em_var (pv 6)) (am_cons (em_var (pv 7)) (am_cons (em_var (pv 2)) (am_cons (em_var (pv 8)) am_nil)))))))
  (mcs_cons sc_Run_statement.nd (mp_seq rfl rfl (mps_cons rfl (mp_lit rfl hr.units) (mps_cons rfl (mp_cap (i := 3) rfl (Or.inl rfl)) (mps_cons rfl (mp_cap (i := 9) rfl (Or.inl rfl)) (mps_cons rfl (mp_cap (i := 10) rfl (Or.inl rfl)) mps_nil))))) (smm_one (sm_expr (em_methE (cl := "Run") (E.fn .Run_program) rfl (em_var (pv 0)) (T.cls 2 rfl) (T.meth 5 rfl) (hr.mono (Nat.le_succ _)) tk (am_cons (em_if (tm_cmp (o_eq hr.units) s_eq (em_methE (cl := "Run") (E.fn .Run_value) rfl (em_var (pv 0)) (T.cls 2 rfl) (T.meth 20 rfl) (hr.mono (Nat.le_succ _)) tk (am_cons (em_var (pv 3)) am_nil)) em_int (nomark _)) (em_var (pv 10)) (em_var (pv 9))) am_nil))))
  mcs_nil)))))
theorem sc_Run_send : FnScope ["self", "target", "delay", "name", "arg", "time", "receiver", "worth"] ["self", "target", "delay", "name", "arg"] (defScope st_Run_send) := ⟨rfl, rfl, rfl, by decide +kernel, rfl, by decide +kernel, by decide +kernel⟩
theorem ok_Run_send (E : Env P w K mg base k c) {f : Addr} {fd : FuncData} (F : FunD K "send" "Run.send" (defArgs st_Run_send) (defBody st_Run_send) (defScope st_Run_send) [] [] f fd) : FnOk P w K mg base (L2.CX P w) (2 * k + 2) f fd ["self", "target", "delay", "name", "arg"] (spOf (gx K) 5 (defM 5 8 (m_Run_send c))) := by
  have T := E.top
  have hl : (["self", "target", "delay", "name", "arg"] : List Str).length = 5 := rfl
  have S := sc_Run_send
  have key := def_ok (G := gx K) (m := m_Run_send c) (k := 2 * k + 1) (w := w) (P := P) (mg := mg) (base := base) F S hl
  refine key fun cdv A outer s H El hcd hr tk hp => ?_
  exact (smm_cons (sm_set (j := 5) sc_Run_send.nd rfl (Or.inl rfl) (em_op o_add s_add (em_fld rfl (fld_cons (T.cls 2 rfl) (T.noat 12 rfl) fld_nil) (em_var (pv 0)) rfl) (em_callE (E.fn .nearest) (hr.mono (Nat.le_succ _)) tk rfl (T.glo 22 rfl) (am_cons (em_methE (cl := "Run") (E.fn .Run_value) rfl (em_var (pv 0)) (T.cls 2 rfl) (T.meth 20 rfl) (hr.mono (Nat.le_succ _)) tk (am_cons (em_var (pv 2)) am_nil)) (am_cons em_int (am_cons (let ⟨_, z⟩ := T.int 24 (x := "MOST_DELAY") (z := 20) rfl; em_glob rfl z) am_nil))))))
  (smm_cons (sm_set (j := 6) sc_Run_send.nd rfl (Or.inl rfl) (em_op op_mod s_mod (em_methE (cl := "Run") (E.fn .Run_value) rfl (em_var (pv 0)) (T.cls 2 rfl) (T.meth 20 rfl) (hr.mono (Nat.le_succ _)) tk (am_cons (em_var (pv 1)) am_nil)) (em_fld rfl (fld_cons (T.cls 2 rfl) (T.noat 14 rfl) fld_nil) (em_var (pv 0)) rfl)))
  (smm_cons (sm_set (j := 7) sc_Run_send.nd rfl (Or.inl rfl) (em_callE (E.fn .nearest) (hr.mono (Nat.le_succ _)) tk rfl (T.glo 22 rfl) (am_cons (em_methE (cl := "Run") (E.fn .Run_value) rfl (em_var (pv 0)) (T.cls 2 rfl) (T.meth 20 rfl) (hr.mono (Nat.le_succ _)) tk (am_cons (em_var (pv 4)) am_nil)) (am_cons (em_un un_neg s_neg (let ⟨_, z⟩ := T.int 23 (x := "MOST_NUMBER") (z := 999) rfl; em_glob rfl z)) (am_cons (let ⟨_, z⟩ := T.int 23 (x := "MOST_NUMBER") (z := 999) rfl; em_glob rfl z) am_nil)))))
  (smm_one (sm_expr (em_lm rfl PySem.F.slot_list_append PySem.F.type_list_append mt_append s_append (em_fld rfl (fld_cons (T.cls 2 rfl) (T.noat 3 rfl) fld_nil) (em_var (pv 0)) rfl) (am_cons (em_tup (am_cons (em_var (pv 5)) (am_cons (em_var (pv 6)) (am_cons (em_var (pv 3)) (am_cons (em_var (pv 7)) am_nil))))) am_nil)))))))
theorem sc_Run_value : FnScope ["self", "e", "n", "name", "a", "word", "b"] ["self", "e"] (defScope st_Run_value) := ⟨rfl, rfl, rfl, by decide +kernel, rfl, by decide +kernel, by decide +kernel⟩
theorem ok_Run_value (E : Env P w K mg base k c) {f : Addr} {fd : FuncData} (F : FunD K "value" "Run.value" (defArgs st_Run_value) (defBody st_Run_value) (defScope st_Run_value) [] [] f fd) : FnOk P w K mg base (L2.CX P w) (2 * k + 2) f fd ["self", "e"] (spOf (gx K) 2 (defM 2 7 (m_Run_value c))) := by
  have T := E.top
  have hl : (["self", "e"] : List Str).length = 2 := rfl
  have S := sc_Run_value
  have key := def_ok (G := gx K) (m := m_Run_value c) (k := 2 * k + 1) (w := w) (P := P) (mg := mg) (base := base) F S hl
  refine key fun cdv A outer s H El hcd hr tk hp => ?_
  exact (smm_one (sm_match (em_var (pv 1))
  (mcs_cons sc_Run_value.nd (mp_seq rfl rfl (mps_cons rfl (mp_lit rfl hr.units) (mps_cons rfl (mp_cap (i := 2) rfl (Or.inl rfl)) mps_nil))) (smm_one (sm_ret (em_var (pv 2))))
  (mcs_cons sc_Run_value.nd (mp_seq rfl rfl (mps_cons rfl (mp_lit rfl hr.units) (mps_cons rfl (mp_cap (i := 3) rfl (Or.inl rfl)) mps_nil))) (smm_one (sm_ret (em_ix (ix_all (u1 hr)) s_ixA (em_fld rfl (fld_cons (T.cls 2 rfl) (T.noat 16 rfl) fld_nil) (em_var (pv 0)) rfl) (em_var (pv 3)) (fun _ _ => rfl))))
  (mcs_cons sc_Run_value.nd (mp_seq rfl rfl (mps_cons rfl (mp_lit rfl hr.units) mps_nil)) (smm_one (sm_ret (em_fld rfl (fld_cons (T.cls 2 rfl) (T.noat 11 rfl) fld_nil) (em_var (pv 0)) rfl)))
  (mcs_cons sc_Run_value.nd (mp_seq rfl rfl (mps_cons rfl (mp_lit rfl hr.units) mps_nil)) (smm_one (sm_ret (em_fld rfl (fld_cons (T.cls 2 rfl) (T.noat 12 rfl) fld_nil) (em_var (pv 0)) rfl)))
  (mcs_cons sc_Run_value.nd (mp_seq rfl rfl (mps_cons rfl (mp_lit rfl hr.units) mps_nil)) (smm_one (sm_ret (em_fld rfl (fld_cons (T.cls 2 rfl) (T.noat 13 rfl) fld_nil) (em_var (pv 0)) rfl)))
  (mcs_cons sc_Run_value.nd (mp_seq rfl rfl (mps_cons rfl (mp_lit rfl hr.units) (mps_cons rfl (mp_cap (i := 4) rfl (Or.inl rfl)) mps_nil))) (smm_one (sm_ret (em_if (tm_cmp (o_eq hr.units) s_eq (em_methE (cl := "Run") (E.fn .Run_value) rfl (em_var (pv 0)) (T.cls 2 rfl) (T.meth 20 rfl) (hr.mono (Nat.le_succ _)) tk (am_cons (em_var (pv 4)) am_nil)) em_int (nomark _)) em_int em_int)))
  (mcs_cons sc_Run_value.nd (mp_seq rfl rfl (mps_cons rfl (mp_or (mf_cons rfl hr.units (mf_cons rfl hr.units mf_nil))) (mps_cons rfl (mp_cap (i := 4) rfl (Or.inl rfl)) (mps_cons rfl (mp_cap (i := 2) rfl (Or.inl rfl)) mps_nil)))) (smm_one (sm_ret (em_callE (E.fn .nearest) (hr.mono (Nat.le_succ _)) tk rfl (T.glo 22 rfl) (am_cons (em_callE (E.fn .operate) (hr.mono (Nat.le_succ _)) tk rfl (T.glo 26 rfl) (am_cons (em_ix ix_seq s_ix (em_var (pv 1)) em_int (fun _ _ => rfl)) (am_cons (em_methE (cl := "Run") (E.fn .Run_value) rfl (em_var (pv 0)) (T.cls 2 rfl) (T.meth 20 rfl) (hr.mono (Nat.le_succ _)) tk (am_cons (em_var (pv 4)) am_nil)) (am_cons (em_var (pv 2)) am_nil)))) (am_cons (em_un un_neg s_neg (let ⟨_, z⟩ := T.int 25 (x := "LIMIT") (z := 1000000000) rfl; em_glob rfl z)) (am_cons (let ⟨_, z⟩ := T.int 25 (x := "LIMIT") (z := 1000000000) rfl; em_glob rfl z) am_nil))))))
  (mcs_cons sc_Run_value.nd (mp_seq rfl rfl (mps_cons rfl (mp_cap (i := 5) rfl (Or.inl rfl)) (mps_cons rfl (mp_cap (i := 4) rfl (Or.inl rfl)) (mps_cons rfl (mp_cap (i := 6) rfl (Or.inl rfl)) mps_nil)))) (smm_one (sm_ret (em_callE (E.fn .nearest) (hr.mono (Nat.le_succ _)) tk rfl (T.glo 22 rfl) (am_cons (em_callE (E.fn .operate) (hr.mono (Nat.le_succ _)) tk rfl (T.glo 26 rfl) (am_cons (em_var (pv 5)) (am_cons (em_methE (cl := "Run") (E.fn .Run_value) rfl (em_var (pv 0)) (T.cls 2 rfl) (T.meth 20 rfl) (hr.mono (Nat.le_succ _)) tk (am_cons (em_var (pv 4)) am_nil)) (am_cons (em_methE (cl := "Run") (E.fn .Run_value) rfl (em_var (pv 0)) (T.cls 2 rfl) (T.meth 20 rfl) (hr.mono (Nat.le_succ _)) tk (am_cons (em_var (pv 6)) am_nil)) am_nil)))) (am_cons (em_un un_neg s_neg (let ⟨_, z⟩ := T.int 25 (x := "LIMIT") (z := 1000000000) rfl; em_glob rfl z)) (am_cons (let ⟨_, z⟩ := T.int 25 (x := "LIMIT") (z := 1000000000) rfl; em_glob rfl z) am_nil))))))
  mcs_nil))))))))))
theorem sc_law_draws : FnScope ["script", "draws", "k", "cell", "step", "mixed"] ["script"] (defScope st_law_draws) := ⟨rfl, rfl, rfl, by decide +kernel, rfl, by decide +kernel, by decide +kernel⟩
theorem ok_law_draws (E : Env P w K mg base k c) {f : Addr} {fd : FuncData} (F : FunD K "_law_draws" "_law_draws" (defArgs st_law_draws) (defBody st_law_draws) (defScope st_law_draws) [] [] f fd) : FnOk P w K mg base (L2.CX P w) (2 * k + 2) f fd ["script"] (spOf (gx K) 1 (defM 1 6 (m_law_draws c))) := by
  have T := E.top
  have hl : (["script"] : List Str).length = 1 := rfl
  have S := sc_law_draws
  have key := def_ok (G := gx K) (m := m_law_draws c) (k := 2 * k + 1) (w := w) (P := P) (mg := mg) (base := base) F S hl
  refine key fun cdv A outer s H El hcd hr tk hp => ?_
  exact (smm_cons (sm_set (j := 1) sc_law_draws.nd rfl (Or.inl rfl) (em_lst am_nil))
  (smm_cons (sm_for (vs := [2]) hp rfl (im_range1 rfl (T.free 27 rfl) (am_cons (em_callB c_len s_len rfl (T.free 6 rfl) (by decide +kernel) (am_cons (em_var (pv 0)) am_nil)) am_nil)) (gm_name (i := 2) (by decide) sc_law_draws.nd rfl (by first | exact Or.inl rfl | exact Or.inr rfl))
    (smm_cons (sm_set (j := 3) sc_law_draws.nd rfl (Or.inl rfl) (em_callB call_abs s_abs rfl (T.free 29 rfl) (by decide +kernel) (am_cons (em_ix ix_seq s_ix (em_var (pv 0)) (em_var (pv 2)) (fun _ _ => rfl)) am_nil)))
    (smm_one (sm_if (tm_cmp o_ge s_ord (em_var (pv 3)) (em_op op_pow s_pow em_int em_int) (nomark _))
      (smm_one (sm_for (vs := [4]) hp rfl (im_range1 rfl (T.free 27 rfl) (am_cons em_int am_nil)) (gm_name (i := 4) (by decide) sc_law_draws.nd rfl (by first | exact Or.inl rfl | exact Or.inr rfl))
        (smm_cons (sm_expr (em_lm rfl PySem.F.slot_list_append PySem.F.type_list_append mt_append s_append (em_var (pv 1)) (am_cons (em_op op_mod s_mod (em_callTy call_int1 s_int1 rfl (T.free 28 rfl) (by decide +kernel) (am_cons (em_var (pv 3)) am_nil)) em_int) am_nil)))
        (smm_one (sm_set (j := 3) sc_law_draws.nd rfl (Or.inl rfl) (em_op op_fdiv s_fdiv (em_var (pv 3)) em_int))))))
      (smm_cons (sm_set (j := 5) sc_law_draws.nd rfl (Or.inl rfl) (em_op o_add s_add (em_var (pv 3)) em_int))
      (smm_one (sm_for (vs := [4]) hp rfl (im_range1 rfl (T.free 27 rfl) (am_cons em_int am_nil)) (gm_name (i := 4) (by decide) sc_law_draws.nd rfl (by first | exact Or.inl rfl | exact Or.inr rfl))
        (smm_cons (sm_set (j := 5) sc_law_draws.nd rfl (Or.inl rfl) (em_op op_mod s_mod (em_callTy call_int1 s_int1 rfl (T.free 28 rfl) (by decide +kernel) (am_cons (em_op o_add s_add (em_op o_add s_add (em_op o_mulA s_mulA (em_var (pv 5)) em_int) (em_op o_mulA s_mulA em_int (em_op o_add s_add (em_var (pv 2)) (em_var (pv 4))))) em_int) am_nil)) em_int))
        (smm_cons (sm_set (j := 5) sc_law_draws.nd rfl (Or.inl rfl) (em_op op_mod s_mod (em_callTy call_int1 s_int1 rfl (T.free 28 rfl) (by decide +kernel) (am_cons (em_op o_add s_add (em_op o_mulA s_mulA (em_var (pv 5)) em_int) em_int) am_nil)) em_int))
        (smm_one (sm_expr (em_lm rfl PySem.F.slot_list_append PySem.F.type_list_append mt_append s_append (em_var (pv 1)) (am_cons (em_op op_mod s_mod (em_callTy call_int1 s_int1 rfl (T.free 28 rfl) (by decide +kernel) (am_cons (em_op op_fdiv s_fdiv (em_var (pv 5)) em_int) am_nil)) em_int) am_nil)))))))))))))
  (smm_one (sm_ret (em_var (pv 1))))))
theorem sc_law_next : FnScope ["draws", "at", "many", "index"] ["draws", "at", "many"] (defScope st_law_next) := ⟨rfl, rfl, rfl, by decide +kernel, rfl, by decide +kernel, by decide +kernel⟩
theorem ok_law_next (E : Env P w K mg base k c) {f : Addr} {fd : FuncData} (F : FunD K "_law_next" "_law_next" (defArgs st_law_next) (defBody st_law_next) (defScope st_law_next) [] [] f fd) : FnOk P w K mg base (L2.CX P w) (2 * k + 2) f fd ["draws", "at", "many"] (spOf (gx K) 3 (defM 3 4 (m_law_next c))) := by
  have T := E.top
  have hl : (["draws", "at", "many"] : List Str).length = 3 := rfl
  have S := sc_law_next
  have key := def_ok (G := gx K) (m := m_law_next c) (k := 2 * k + 1) (w := w) (P := P) (mg := mg) (base := base) F S hl
  refine key fun cdv A outer s H El hcd hr tk hp => ?_
  exact (smm_cons (sm_set (j := 3) sc_law_next.nd rfl (Or.inl rfl) (em_ix ix_seq s_ix (em_var (pv 1)) em_int (fun _ _ => rfl)))
  (smm_cons (sm_sub rfl rfl rfl (by intro _; rfl) (em_op o_add s_add (em_var (pv 3)) em_int) (em_var (pv 1)) em_int)
  (smm_cons (sm_if (tm_cmp o_lt s_ord (em_var (pv 3)) (em_callB c_len s_len rfl (T.free 6 rfl) (by decide +kernel) (am_cons (em_var (pv 0)) am_nil)) (nomark _))
    (smm_one (sm_ret (em_op op_mod s_mod (em_callTy call_int1 s_int1 rfl (T.free 28 rfl) (by decide +kernel) (am_cons (em_ix ix_seq s_ix (em_var (pv 0)) (em_var (pv 3)) (fun _ _ => rfl)) am_nil)) (em_var (pv 2)))))
    smm_nil)
  (smm_one (sm_ret em_int)))))
theorem sc_law_big : FnScope ["draws", "at", "many", "number", "k"] ["draws", "at", "many"] (defScope st_law_big) := ⟨rfl, rfl, rfl, by decide +kernel, rfl, by decide +kernel, by decide +kernel⟩
theorem ok_law_big (E : Env P w K mg base k c) {f : Addr} {fd : FuncData} (F : FunD K "_law_big" "_law_big" (defArgs st_law_big) (defBody st_law_big) (defScope st_law_big) [] [] f fd) : FnOk P w K mg base (L2.CX P w) (2 * k + 2) f fd ["draws", "at", "many"] (spOf (gx K) 3 (defM 3 5 (m_law_big c))) := by
  have T := E.top
  have hl : (["draws", "at", "many"] : List Str).length = 3 := rfl
  have S := sc_law_big
  have key := def_ok (G := gx K) (m := m_law_big c) (k := 2 * k + 1) (w := w) (P := P) (mg := mg) (base := base) F S hl
  refine key fun cdv A outer s H El hcd hr tk hp => ?_
  exact (smm_cons (sm_set (j := 3) sc_law_big.nd rfl (Or.inl rfl) em_int)
  (smm_cons (sm_for (vs := [4]) hp rfl (im_range1 rfl (T.free 27 rfl) (am_cons em_int am_nil)) (gm_name (i := 4) (by decide) sc_law_big.nd rfl (by first | exact Or.inl rfl | exact Or.inr rfl))
    (smm_one (sm_set (j := 3) sc_law_big.nd rfl (Or.inl rfl) (em_op o_add s_add (em_op o_mulA s_mulA em_int (em_var (pv 3))) (em_callE (E.fn .law_next) (hr.mono (Nat.le_succ _)) tk rfl (T.glo 30 rfl) (am_cons (em_var (pv 0)) (am_cons (em_var (pv 1)) (am_cons em_int am_nil))))))))
  (smm_one (sm_ret (em_op op_mod s_mod (em_callTy call_int1 s_int1 rfl (T.free 28 rfl) (by decide +kernel) (am_cons (em_var (pv 3)) am_nil)) (em_var (pv 2)))))))
theorem sc_law_expression : FnScope ["draws", "at", "names", "depth", "choice", "leaves", "sign", "first"] ["draws", "at", "names", "depth"] (defScope st_law_expression) := ⟨rfl, rfl, rfl, by decide +kernel, rfl, by decide +kernel, by decide +kernel⟩
theorem ok_law_expression (E : Env P w K mg base k c) {f : Addr} {fd : FuncData} (F : FunD K "_law_expression" "_law_expression" (defArgs st_law_expression) (defBody st_law_expression) (defScope st_law_expression) [] [] f fd) : FnOk P w K mg base (L2.CX P w) (2 * k + 2) f fd ["draws", "at", "names", "depth"] (spOf (gx K) 4 (defM 4 8 (m_law_expression c))) := by
  have T := E.top
  have hl : (["draws", "at", "names", "depth"] : List Str).length = 4 := rfl
  have S := sc_law_expression
  have key := def_ok (G := gx K) (m := m_law_expression c) (k := 2 * k + 1) (w := w) (P := P) (mg := mg) (base := base) F S hl
  refine key fun cdv A outer s H El hcd hr tk hp => ?_
  exact (smm_cons (sm_set (j := 4) sc_law_expression.nd rfl (Or.inl rfl) (em_callE (E.fn .law_next) (hr.mono (Nat.le_succ _)) tk rfl (T.glo 30 rfl) (am_cons (em_var (pv 0)) (am_cons (em_var (pv 1)) (am_cons em_int am_nil)))))
  (smm_cons (sm_if (TW.pt (tw_or (tm_cmp (o_eq hr.units) s_eq (em_var (pv 3)) em_int (nomark _)) (tw_or1 (tm_cmp o_lt s_ord (em_var (pv 4)) em_int (nomark _)))))
    (smm_cons (sm_set (j := 5) sc_law_expression.nd rfl (Or.inl rfl) (em_lst (am_cons (em_tup (am_cons em_str (am_cons (em_op op_sub s_sub (em_callE (E.fn .law_next) (hr.mono (Nat.le_succ _)) tk rfl (T.glo 30 rfl) (am_cons (em_var (pv 0)) (am_cons (em_var (pv 1)) (am_cons em_int am_nil)))) em_int) am_nil))) (am_cons (em_tup (am_cons em_str (am_cons (em_ix ix_seq s_ix (em_var (pv 2)) (em_callE (E.fn .law_next) (hr.mono (Nat.le_succ _)) tk rfl (T.glo 30 rfl) (am_cons (em_var (pv 0)) (am_cons (em_var (pv 1)) (am_cons (em_callB c_len s_len rfl (T.free 6 rfl) (by decide +kernel) (am_cons (em_var (pv 2)) am_nil)) am_nil)))) (fun _ _ => rfl)) am_nil))) (am_cons (em_tup (am_cons em_str am_nil)) (am_cons (em_tup (am_cons em_str am_nil)) am_nil))))))
    (smm_cons (sm_set (j := 5) sc_law_expression.nd rfl (Or.inl rfl) (em_op o_add s_add (em_var (pv 5)) (em_lst (am_cons (em_tup (am_cons em_str am_nil)) (am_cons (em_tup (am_cons em_str (am_cons (em_op o_mulA s_mulA (em_callE (E.fn .law_next) (hr.mono (Nat.le_succ _)) tk rfl (T.glo 30 rfl) (am_cons (em_var (pv 0)) (am_cons (em_var (pv 1)) (am_cons em_int am_nil)))) (em_ix ix_seq s_ix (em_lst (am_cons em_int (am_cons (em_un un_neg s_neg em_int) am_nil))) (em_callE (E.fn .law_next) (hr.mono (Nat.le_succ _)) tk rfl (T.glo 30 rfl) (am_cons (em_var (pv 0)) (am_cons (em_var (pv 1)) (am_cons em_int am_nil)))) (fun _ _ => rfl))) am_nil))) am_nil)))))
    (smm_one (sm_ret (em_ix ix_seq s_ix (em_var (pv 5)) (em_callE (E.fn .law_next) (hr.mono (Nat.le_succ _)) tk rfl (T.glo 30 rfl) (am_cons (em_var (pv 0)) (am_cons (em_var (pv 1)) (am_cons em_int am_nil)))) (fun _ _ => rfl))))))
    smm_nil)
  (smm_cons (sm_if (tm_cmp o_lt s_ord (em_var (pv 4)) em_int (nomark _))
    (smm_cons (sm_set (j := 6) sc_law_expression.nd rfl (Or.inl rfl) (em_ix ix_seq s_ix (em_lst (am_cons em_str (am_cons em_str am_nil))) (em_op op_sub s_sub (em_var (pv 4)) em_int) (fun _ _ => rfl)))
    (smm_one (sm_ret (em_tup (am_cons (em_var (pv 6)) (am_cons (em_callE (E.fn .law_expression) (hr.mono (Nat.le_succ _)) tk rfl (T.glo 31 rfl) (am_cons (em_var (pv 0)) (am_cons (em_var (pv 1)) (am_cons (em_var (pv 2)) (am_cons (em_op op_sub s_sub (em_var (pv 3)) em_int) am_nil))))) (am_cons (em_op o_add s_add em_int (em_callE (E.fn .law_next) (hr.mono (Nat.le_succ _)) tk rfl (T.glo 30 rfl) (am_cons (em_var (pv 0)) (am_cons (em_var (pv 1)) (am_cons em_int am_nil))))) am_nil)))))))
    smm_nil)
  (smm_cons (sm_if (tm_cmp (o_eq hr.units) s_eq (em_var (pv 4)) em_int (nomark _))
    (smm_one (sm_ret (em_tup (am_cons em_str (am_cons (em_callE (E.fn .law_expression) (hr.mono (Nat.le_succ _)) tk rfl (T.glo 31 rfl) (am_cons (em_var (pv 0)) (am_cons (em_var (pv 1)) (am_cons (em_var (pv 2)) (am_cons (em_op op_sub s_sub (em_var (pv 3)) em_int) am_nil))))) am_nil)))))
    smm_nil)
  (smm_cons (sm_set (j := 6) sc_law_expression.nd rfl (Or.inl rfl) (em_ix ix_seq s_ix (em_lst (am_cons em_str (am_cons em_str (am_cons em_str (am_cons em_str (am_cons em_str (am_cons em_str (am_cons em_str (am_cons em_str (am_cons em_str am_nil)))))))))) (em_op op_sub s_sub (em_var (pv 4)) em_int) (fun _ _ => rfl)))
  (smm_cons (sm_set (j := 7) sc_law_expression.nd rfl (Or.inl rfl) (em_callE (E.fn .law_expression) (hr.mono (Nat.le_succ _)) tk rfl (T.glo 31 rfl) (am_cons (em_var (pv 0)) (am_cons (em_var (pv 1)) (am_cons (em_var (pv 2)) (am_cons (em_op op_sub s_sub (em_var (pv 3)) em_int) am_nil))))))
  (smm_one (sm_ret (em_tup (am_cons (em_var (pv 6)) (am_cons (em_var (pv 7)) (am_cons (em_callE (E.fn .law_expression) (hr.mono (Nat.le_succ _)) tk rfl (T.glo 31 rfl) (am_cons (em_var (pv 0)) (am_cons (em_var (pv 1)) (am_cons (em_var (pv 2)) (am_cons (em_op op_sub s_sub (em_var (pv 3)) em_int) am_nil))))) am_nil))))))))))))
theorem sc_law_send : FnScope ["draws", "at", "names", "target", "delay", "name"] ["draws", "at", "names"] (defScope st_law_send) := ⟨rfl, rfl, rfl, by decide +kernel, rfl, by decide +kernel, by decide +kernel⟩
theorem ok_law_send (E : Env P w K mg base k c) {f : Addr} {fd : FuncData} (F : FunD K "_law_send" "_law_send" (defArgs st_law_send) (defBody st_law_send) (defScope st_law_send) [] [] f fd) : FnOk P w K mg base (L2.CX P w) (2 * k + 2) f fd ["draws", "at", "names"] (spOf (gx K) 3 (defM 3 6 (m_law_send c))) := by
  have T := E.top
  have hl : (["draws", "at", "names"] : List Str).length = 3 := rfl
  have S := sc_law_send
  have key := def_ok (G := gx K) (m := m_law_send c) (k := 2 * k + 1) (w := w) (P := P) (mg := mg) (base := base) F S hl
  refine key fun cdv A outer s H El hcd hr tk hp => ?_
  exact (smm_cons (sm_set (j := 3) sc_law_send.nd rfl (Or.inl rfl) (em_callE (E.fn .law_expression) (hr.mono (Nat.le_succ _)) tk rfl (T.glo 31 rfl) (am_cons (em_var (pv 0)) (am_cons (em_var (pv 1)) (am_cons (em_var (pv 2)) (am_cons em_int am_nil))))))
  (smm_cons (sm_set (j := 4) sc_law_send.nd rfl (Or.inl rfl) (em_tup (am_cons em_str (am_cons (em_op o_add s_add em_int (em_callE (E.fn .law_next) (hr.mono (Nat.le_succ _)) tk rfl (T.glo 30 rfl) (am_cons (em_var (pv 0)) (am_cons (em_var (pv 1)) (am_cons em_int am_nil))))) am_nil))))
  (smm_cons (sm_if (tm_cmp (o_eq hr.units) s_eq (em_callE (E.fn .law_next) (hr.mono (Nat.le_succ _)) tk rfl (T.glo 30 rfl) (am_cons (em_var (pv 0)) (am_cons (em_var (pv 1)) (am_cons em_int am_nil)))) em_int (nomark _))
    (smm_one (sm_set (j := 4) sc_law_send.nd rfl (Or.inl rfl) (em_callE (E.fn .law_expression) (hr.mono (Nat.le_succ _)) tk rfl (T.glo 31 rfl) (am_cons (em_var (pv 0)) (am_cons (em_var (pv 1)) (am_cons (em_var (pv 2)) (am_cons em_int am_nil)))))))
    smm_nil)
  (smm_cons (sm_set (j := 5) sc_law_send.nd rfl (Or.inl rfl) (em_ix ix_seq s_ix (em_lst (am_cons em_str (am_cons em_str (am_cons em_str (am_cons em_str am_nil))))) (em_callE (E.fn .law_next) (hr.mono (Nat.le_succ _)) tk rfl (T.glo 30 rfl) (am_cons (em_var (pv 0)) (am_cons (em_var (pv 1)) (am_cons em_int am_nil)))) (fun _ _ => rfl)))
  (smm_one (sm_ret (em_tup (am_cons em_str (am_cons (em_var (pv 3)) (am_cons (em_var (pv 4)) (am_cons (em_var (pv 5)) (am_cons (em_tup (am_cons em_str (am_cons (em_tup (am_cons em_str am_nil)) (am_cons (em_tup (am_cons em_str (am_cons em_int am_nil))) am_nil)))) am_nil))))))))))))
theorem sc_law_program : FnScope ["draws", "at", "names", "rows", "k", "sends", "choice"] ["draws", "at", "names"] (defScope st_law_program) := ⟨rfl, rfl, rfl, by decide +kernel, rfl, by decide +kernel, by decide +kernel⟩
theorem ok_law_program (E : Env P w K mg base k c) {f : Addr} {fd : FuncData} (F : FunD K "_law_program" "_law_program" (defArgs st_law_program) (defBody st_law_program) (defScope st_law_program) [] [] f fd) : FnOk P w K mg base (L2.CX P w) (2 * k + 2) f fd ["draws", "at", "names"] (spOf (gx K) 3 (defM 3 7 (m_law_program c))) := by
  have T := E.top
  have hl : (["draws", "at", "names"] : List Str).length = 3 := rfl
  have S := sc_law_program
  have key := def_ok (G := gx K) (m := m_law_program c) (k := 2 * k + 1) (w := w) (P := P) (mg := mg) (base := base) F S hl
  refine key fun cdv A outer s H El hcd hr tk hp => ?_
  exact (smm_cons (sm_set (j := 3) sc_law_program.nd rfl (Or.inl rfl) (em_lst am_nil))
  (smm_cons (sm_for (vs := [4]) hp rfl (im_range1 rfl (T.free 27 rfl) (am_cons (em_op o_add s_add em_int (em_callE (E.fn .law_next) (hr.mono (Nat.le_succ _)) tk rfl (T.glo 30 rfl) (am_cons (em_var (pv 0)) (am_cons (em_var (pv 1)) (am_cons em_int am_nil))))) am_nil)) (gm_name (i := 4) (by decide) sc_law_program.nd rfl (by first | exact Or.inl rfl | exact Or.inr rfl))
    (smm_one (sm_expr (em_lm rfl PySem.F.slot_list_append PySem.F.type_list_append mt_append s_append (em_var (pv 3)) (am_cons (em_tup (am_cons em_str (am_cons (em_ix ix_seq s_ix (em_var (pv 2)) (em_callE (E.fn .law_next) (hr.mono (Nat.le_succ _)) tk rfl (T.glo 30 rfl) (am_cons (em_var (pv 0)) (am_cons (em_var (pv 1)) (am_cons (em_callB c_len s_len rfl (T.free 6 rfl) (by decide +kernel) (am_cons (em_var (pv 2)) am_nil)) am_nil)))) (fun _ _ => rfl)) (am_cons (em_callE (E.fn .law_expression) (hr.mono (Nat.le_succ _)) tk rfl (T.glo 31 rfl) (am_cons (em_var (pv 0)) (am_cons (em_var (pv 1)) (am_cons (em_var (pv 2)) (am_cons em_int am_nil))))) am_nil)))) am_nil)))))
  (smm_cons (sm_setLc (i := 5) (own := [("k", 4)]) rfl sc_law_program.nd rfl rfl (sw_true rfl rfl rfl (by decide +kernel)) (im_range1 rfl (T.free 27 rfl) (am_cons (em_callE (E.fn .law_next) (hr.mono (Nat.le_succ _)) tk rfl (T.glo 30 rfl) (am_cons (em_var (pv 0)) (am_cons (em_var (pv 1)) (am_cons em_int am_nil)))) am_nil)) (blkOk_by (by kernel_rfl)) (fun _ _ _ _ _ => (gm_name (i := 4) (by decide) sc_law_program.nd rfl (by first | exact Or.inl rfl | exact Or.inr rfl))) (fun _ _ _ _ _ => pts_yes) (fun _ _ _ _ _ => (em_callE (E.fn .law_send) (hr.mono (Nat.le_succ _)) takesW0 rfl (T.glo 32 rfl) (am_cons (em_var (pv 0)) (am_cons (em_var (pv 1)) (am_cons (em_var (pv 2)) am_nil))))))
  (smm_cons (sm_set (j := 6) sc_law_program.nd rfl (Or.inl rfl) (em_callE (E.fn .law_next) (hr.mono (Nat.le_succ _)) tk rfl (T.glo 30 rfl) (am_cons (em_var (pv 0)) (am_cons (em_var (pv 1)) (am_cons em_int am_nil)))))
  (smm_cons (sm_if (tm_cmp (o_eq hr.units) s_eq (em_var (pv 6)) em_int (nomark _))
    (smm_one (sm_set (j := 5) sc_law_program.nd rfl (Or.inl rfl) (em_lst (am_cons (em_tup (am_cons em_str (am_cons (em_callE (E.fn .law_expression) (hr.mono (Nat.le_succ _)) tk rfl (T.glo 31 rfl) (am_cons (em_var (pv 0)) (am_cons (em_var (pv 1)) (am_cons (em_var (pv 2)) (am_cons em_int am_nil))))) (am_cons (em_op o_add s_add (em_callTy call_tuple_of s_tuple rfl (T.free 18 rfl) (by decide +kernel) (am_cons (em_var (pv 5)) am_nil)) (em_tup (am_cons (em_tup (am_cons em_str am_nil)) am_nil))) (am_cons (em_tup (am_cons (em_callE (E.fn .law_send) (hr.mono (Nat.le_succ _)) tk rfl (T.glo 32 rfl) (am_cons (em_var (pv 0)) (am_cons (em_var (pv 1)) (am_cons (em_var (pv 2)) am_nil)))) am_nil)) am_nil))))) am_nil))))
    smm_nil)
  (smm_cons (sm_expr (em_lm rfl PySem.F.slot_list_append PySem.F.type_list_append mt_append s_append (em_var (pv 3)) (am_cons (em_tup (am_cons em_str (am_cons (em_tup (am_cons em_str (am_cons (em_tup (am_cons em_str (am_cons em_int am_nil))) (am_cons (em_tup (am_cons em_str am_nil)) am_nil)))) (am_cons (em_op o_add s_add (em_callTy call_tuple_of s_tuple rfl (T.free 18 rfl) (by decide +kernel) (am_cons (em_var (pv 5)) am_nil)) (em_tup (am_cons (em_tup (am_cons em_str am_nil)) am_nil))) (am_cons (em_tup (am_cons (em_tup (am_cons em_str am_nil)) am_nil)) am_nil))))) am_nil)))
  (smm_cons (sm_if (tm_cmp (o_eq hr.units) s_eq (em_var (pv 6)) em_int (nomark _))
    (smm_one (sm_set (j := 3) sc_law_program.nd rfl (Or.inl rfl) (em_revL rfl (em_var (pv 3)))))
    smm_nil)
  (smm_one (sm_ret (em_callTy call_tuple_of s_tuple rfl (T.free 18 rfl) (by decide +kernel) (am_cons (em_var (pv 3)) am_nil)))))))))))
theorem sc_law_kind : FnScope ["draws", "at", "name", "names", "fields", "one", "low", "handlers"] ["draws", "at", "name"] (defScope st_law_kind) := ⟨rfl, rfl, rfl, by decide +kernel, rfl, by decide +kernel, by decide +kernel⟩
theorem ok_law_kind (E : Env P w K mg base k c) {f : Addr} {fd : FuncData} (F : FunD K "_law_kind" "_law_kind" (defArgs st_law_kind) (defBody st_law_kind) (defScope st_law_kind) [] [] f fd) : FnOk P w K mg base (L2.CX P w) (2 * k + 2) f fd ["draws", "at", "name"] (spOf (gx K) 3 (defM 3 8 (m_law_kind c))) := by
  have T := E.top
  have hl : (["draws", "at", "name"] : List Str).length = 3 := rfl
  have S := sc_law_kind
  have key := def_ok (G := gx K) (m := m_law_kind c) (k := 2 * k + 1) (w := w) (P := P) (mg := mg) (base := base) F S hl
  refine key fun cdv A outer s H El hcd hr tk hp => ?_
  exact (smm_cons (sm_set (j := 3) sc_law_kind.nd rfl (by first | exact Or.inl rfl | exact Or.inr rfl) (em_slice rfl (em_lst (am_cons em_str (am_cons em_str (am_cons em_str am_nil)))) om_none (om_some (em_op o_add s_add em_int (em_callE (E.fn .law_next) (hr.mono (Nat.le_succ _)) tk rfl (T.glo 30 rfl) (am_cons (em_var (pv 0)) (am_cons (em_var (pv 1)) (am_cons em_int am_nil))))))))
  (smm_cons (sm_set (j := 4) sc_law_kind.nd rfl (Or.inl rfl) (em_lst am_nil))
  (smm_cons (sm_for (vs := [5]) hp rfl (im_seq rfl (em_var (pv 3))) (gm_name (i := 5) (by decide) sc_law_kind.nd rfl (by first | exact Or.inl rfl | exact Or.inr rfl))
    (smm_cons (sm_set (j := 6) sc_law_kind.nd rfl (Or.inl rfl) (em_op op_sub s_sub (em_callE (E.fn .law_next) (hr.mono (Nat.le_succ _)) tk rfl (T.glo 30 rfl) (am_cons (em_var (pv 0)) (am_cons (em_var (pv 1)) (am_cons em_int am_nil)))) em_int))
    (smm_one (sm_expr (em_lm rfl PySem.F.slot_list_append PySem.F.type_list_append mt_append s_append (em_var (pv 4)) (am_cons (em_tup (am_cons (em_var (pv 5)) (am_cons (em_var (pv 6)) (am_cons (em_op o_add s_add (em_var (pv 6)) (em_callE (E.fn .law_next) (hr.mono (Nat.le_succ _)) tk rfl (T.glo 30 rfl) (am_cons (em_var (pv 0)) (am_cons (em_var (pv 1)) (am_cons em_int am_nil))))) am_nil)))) am_nil))))))
  (smm_cons (sm_setLc (i := 7) (own := [("one", 5)]) rfl sc_law_kind.nd rfl rfl (sw_true rfl rfl rfl (by decide +kernel)) (im_seq rfl (em_slice rfl (em_lst (am_cons em_str (am_cons em_str (am_cons em_str am_nil)))) om_none (om_some (em_op o_add s_add em_int (em_callE (E.fn .law_next) (hr.mono (Nat.le_succ _)) tk rfl (T.glo 30 rfl) (am_cons (em_var (pv 0)) (am_cons (em_var (pv 1)) (am_cons em_int am_nil)))))))) (blkOk_by (by kernel_rfl)) (fun _ _ _ _ _ => (gm_name (i := 5) (by decide) sc_law_kind.nd rfl (by first | exact Or.inl rfl | exact Or.inr rfl))) (fun _ _ _ _ _ => pts_yes) (fun _ _ _ _ _ => (em_tup (am_cons (em_var (pv 5)) (am_cons (em_callE (E.fn .law_program) (hr.mono (Nat.le_succ _)) takesW0 rfl (T.glo 33 rfl) (am_cons (em_var (pv 0)) (am_cons (em_var (pv 1)) (am_cons (em_var (pv 3)) am_nil)))) am_nil)))))
  (smm_one (sm_ret (em_tup (am_cons (em_var (pv 2)) (am_cons (em_callTy call_tuple_of s_tuple rfl (T.free 18 rfl) (by decide +kernel) (am_cons (em_var (pv 4)) am_nil)) (am_cons (em_callTy call_tuple_of s_tuple rfl (T.free 18 rfl) (by decide +kernel) (am_cons (em_var (pv 7)) am_nil)) am_nil))))))))))
theorem sc_law_model : FnScope ["draws", "at", "kinds", "many", "most", "objects", "end", "start", "k", "name"] ["draws", "at"] (defScope st_law_model) := ⟨rfl, rfl, rfl, by decide +kernel, rfl, by decide +kernel, by decide +kernel⟩
theorem ok_law_model (E : Env P w K mg base k c) {f : Addr} {fd : FuncData} (F : FunD K "_law_model" "_law_model" (defArgs st_law_model) (defBody st_law_model) (defScope st_law_model) [] [] f fd) : FnOk P w K mg base (L2.CX P w) (2 * k + 2) f fd ["draws", "at"] (spOf (gx K) 2 (defM 2 10 (m_law_model c))) := by
  have T := E.top
  have hl : (["draws", "at"] : List Str).length = 2 := rfl
  have S := sc_law_model
  have key := def_ok (G := gx K) (m := m_law_model c) (k := 2 * k + 1) (w := w) (P := P) (mg := mg) (base := base) F S hl
  refine key fun cdv A outer s H El hcd hr tk hp => ?_
  exact (smm_cons (sm_set (j := 2) sc_law_model.nd rfl (by first | exact Or.inl rfl | exact Or.inr rfl) (em_lc (own := [("k", 8)]) rfl sc_law_model.nd (im_range1 rfl (T.free 27 rfl) (am_cons (em_op o_add s_add em_int (em_callE (E.fn .law_next) (hr.mono (Nat.le_succ _)) tk rfl (T.glo 30 rfl) (am_cons (em_var (pv 0)) (am_cons (em_var (pv 1)) (am_cons em_int am_nil))))) am_nil)) (blkOk_by (by kernel_rfl)) (fun _ _ _ _ _ => (gm_name (i := 8) (by decide) sc_law_model.nd rfl (by first | exact Or.inl rfl | exact Or.inr rfl))) (fun _ _ _ _ _ => pts_yes) (fun _ _ _ _ _ => (em_callE (E.fn .law_kind) (hr.mono (Nat.le_succ _)) takesW0 rfl (T.glo 34 rfl) (am_cons (em_var (pv 0)) (am_cons (em_var (pv 1)) (am_cons (em_ix ix_seq s_ix (em_lst (am_cons em_str (am_cons em_str am_nil))) (em_var (pv 8)) (fun _ _ => rfl)) am_nil)))))))
  (smm_cons (sm_asg (vs := [3, 4]) (em_ix ix_seq s_ix (em_lst (am_cons (em_tup (am_cons em_int (am_cons em_int am_nil))) (am_cons (em_tup (am_cons em_int (am_cons em_int am_nil))) am_nil))) (em_callE (E.fn .law_next) (hr.mono (Nat.le_succ _)) tk rfl (T.glo 30 rfl) (am_cons (em_var (pv 0)) (am_cons (em_var (pv 1)) (am_cons em_int am_nil)))) (fun _ _ => rfl)) (gm_tup rfl rfl (gms_cons (gm_name (i := 3) (by decide) sc_law_model.nd rfl (by first | exact Or.inl rfl | exact Or.inr rfl)) (gms_cons (gm_name (i := 4) (by decide) sc_law_model.nd rfl (by first | exact Or.inl rfl | exact Or.inr rfl)) gms_nil))))
  (smm_cons (sm_set (j := 5) sc_law_model.nd rfl (Or.inl rfl) (em_callTy call_tuple_of s_tuple rfl (T.free 18 rfl) (by decide +kernel) (am_cons (em_lc (own := [("k", 8)]) rfl sc_law_model.nd (im_range1 rfl (T.free 27 rfl) (am_cons (em_op o_add s_add em_int (em_callE (E.fn .law_next) (hr.mono (Nat.le_succ _)) tk rfl (T.glo 30 rfl) (am_cons (em_var (pv 0)) (am_cons (em_var (pv 1)) (am_cons (em_var (pv 3)) am_nil))))) am_nil)) (blkOk_by (by kernel_rfl)) (fun _ _ _ _ _ => (gm_name (i := 8) (by decide) sc_law_model.nd rfl (by first | exact Or.inl rfl | exact Or.inr rfl))) (fun _ _ _ _ _ => pts_yes) (fun _ _ _ _ _ => (em_ix ix_seq s_ix (em_lst (am_cons em_str (am_cons em_str am_nil))) (em_callE (E.fn .law_next) (hr.mono (Nat.le_succ _)) takesW0 rfl (T.glo 30 rfl) (am_cons (em_var (pv 0)) (am_cons (em_var (pv 1)) (am_cons (em_callB c_len s_len rfl (T.free 6 rfl) (by decide +kernel) (am_cons (em_var (pv 2)) am_nil)) am_nil)))) (fun _ _ => rfl)))) am_nil)))
  (smm_cons (sm_set (j := 6) sc_law_model.nd rfl (Or.inl rfl) (em_ix ix_seq s_ix (em_lst (am_cons em_int (am_cons em_int (am_cons em_int (am_cons em_int (am_cons em_int am_nil)))))) (em_callE (E.fn .law_next) (hr.mono (Nat.le_succ _)) tk rfl (T.glo 30 rfl) (am_cons (em_var (pv 0)) (am_cons (em_var (pv 1)) (am_cons em_int am_nil)))) (fun _ _ => rfl)))
  (smm_cons (sm_set (j := 7) sc_law_model.nd rfl (Or.inl rfl) (em_lst am_nil))
  (smm_cons (sm_for (vs := [8]) hp rfl (im_range1 rfl (T.free 27 rfl) (am_cons (em_callE (E.fn .law_next) (hr.mono (Nat.le_succ _)) tk rfl (T.glo 30 rfl) (am_cons (em_var (pv 0)) (am_cons (em_var (pv 1)) (am_cons (em_ix ix_seq s_ix (em_lst (am_cons em_int (am_cons em_int am_nil))) (em_callTy call_int1 s_int1 rfl (T.free 28 rfl) (by decide +kernel) (am_cons (em_cmp (o_eq hr.units) s_eq (em_var (pv 3)) em_int (nomark _)) am_nil)) (fun _ _ => rfl)) am_nil)))) am_nil)) (gm_name (i := 8) (by decide) sc_law_model.nd rfl (by first | exact Or.inl rfl | exact Or.inr rfl))
    (smm_cons (sm_set (j := 9) sc_law_model.nd rfl (Or.inl rfl) (em_ix ix_seq s_ix (em_lst (am_cons em_str (am_cons em_str (am_cons em_str am_nil)))) (em_callE (E.fn .law_next) (hr.mono (Nat.le_succ _)) tk rfl (T.glo 30 rfl) (am_cons (em_var (pv 0)) (am_cons (em_var (pv 1)) (am_cons em_int am_nil)))) (fun _ _ => rfl)))
    (smm_one (sm_expr (em_lm rfl PySem.F.slot_list_append PySem.F.type_list_append mt_append s_append (em_var (pv 7)) (am_cons (em_tup (am_cons (em_callE (E.fn .law_next) (hr.mono (Nat.le_succ _)) tk rfl (T.glo 30 rfl) (am_cons (em_var (pv 0)) (am_cons (em_var (pv 1)) (am_cons (em_op o_add s_add (em_var (pv 6)) em_int) am_nil)))) (am_cons (em_callE (E.fn .law_next) (hr.mono (Nat.le_succ _)) tk rfl (T.glo 30 rfl) (am_cons (em_var (pv 0)) (am_cons (em_var (pv 1)) (am_cons (em_callB c_len s_len rfl (T.free 6 rfl) (by decide +kernel) (am_cons (em_var (pv 5)) am_nil)) am_nil)))) (am_cons (em_var (pv 9)) (am_cons (em_callE (E.fn .law_next) (hr.mono (Nat.le_succ _)) tk rfl (T.glo 30 rfl) (am_cons (em_var (pv 0)) (am_cons (em_var (pv 1)) (am_cons (em_var (pv 4)) am_nil)))) am_nil))))) am_nil))))))
  (smm_one (sm_ret (em_tup (am_cons (em_callTy call_tuple_of s_tuple rfl (T.free 18 rfl) (by decide +kernel) (am_cons (em_var (pv 2)) am_nil)) (am_cons (em_var (pv 5)) (am_cons (em_callTy call_tuple_of s_tuple rfl (T.free 18 rfl) (by decide +kernel) (am_cons (em_var (pv 7)) am_nil)) (am_cons (em_var (pv 6)) am_nil)))))))))))))
theorem sc_law_clamp : FnScope ["value", "low", "high"] ["value", "low", "high"] (defScope st_law_clamp) := ⟨rfl, rfl, rfl, by decide +kernel, rfl, by decide +kernel, by decide +kernel⟩
theorem ok_law_clamp (E : Env P w K mg base k c) {f : Addr} {fd : FuncData} (F : FunD K "_law_clamp" "_law_clamp" (defArgs st_law_clamp) (defBody st_law_clamp) (defScope st_law_clamp) [] [] f fd) : FnOk P w K mg base (L2.CX P w) (2 * k + 2) f fd ["value", "low", "high"] (spOf (gx K) 3 (defM 3 3 (m_law_clamp c))) := by
  have T := E.top
  have hl : (["value", "low", "high"] : List Str).length = 3 := rfl
  have S := sc_law_clamp
  have key := def_ok (G := gx K) (m := m_law_clamp c) (k := 2 * k + 1) (w := w) (P := P) (mg := mg) (base := base) F S hl
  refine key fun cdv A outer s H El hcd hr tk hp => ?_
  exact (smm_cons (sm_if (tm_cmp o_lt s_ord (em_var (pv 0)) (em_var (pv 1)) (nomark _))
    (smm_one (sm_ret (em_var (pv 1))))
    smm_nil)
  (smm_cons (sm_if (tm_cmp o_gt s_ord (em_var (pv 0)) (em_var (pv 2)) (nomark _))
    (smm_one (sm_ret (em_var (pv 2))))
    smm_nil)
  (smm_one (sm_ret (em_var (pv 0))))))
theorem sc_law_pair : FnScope ["head", "a", "b"] ["head", "a", "b"] (defScope st_law_pair) := ⟨rfl, rfl, rfl, by decide +kernel, rfl, by decide +kernel, by decide +kernel⟩
theorem ok_law_pair (E : Env P w K mg base k c) {f : Addr} {fd : FuncData} (F : FunD K "_law_pair" "_law_pair" (defArgs st_law_pair) (defBody st_law_pair) (defScope st_law_pair) [] [] f fd) : FnOk P w K mg base (L2.CX P w) (2 * k + 2) f fd ["head", "a", "b"] (spOf (gx K) 3 (defM 3 3 (m_law_pair c))) := by
  have T := E.top
  have hl : (["head", "a", "b"] : List Str).length = 3 := rfl
  have S := sc_law_pair
  have key := def_ok (G := gx K) (m := m_law_pair c) (k := 2 * k + 1) (w := w) (P := P) (mg := mg) (base := base) F S hl
  refine key fun cdv A outer s H El hcd hr tk hp => ?_
  exact (smm_cons (sm_if (tm_cmp (o_eq hr.units) s_eq (em_var (pv 0)) em_str (nomark _))
    (smm_one (sm_ret (em_callE (E.fn .law_clamp) (hr.mono (Nat.le_succ _)) tk rfl (T.glo 35 rfl) (am_cons (em_op o_add s_add (em_var (pv 1)) (em_var (pv 2))) (am_cons (em_un un_neg s_neg (em_op op_pow s_pow em_int em_int)) (am_cons (em_op op_pow s_pow em_int em_int) am_nil))))))
    smm_nil)
  (smm_cons (sm_if (tm_cmp (o_eq hr.units) s_eq (em_var (pv 0)) em_str (nomark _))
    (smm_one (sm_ret (em_callE (E.fn .law_clamp) (hr.mono (Nat.le_succ _)) tk rfl (T.glo 35 rfl) (am_cons (em_op op_sub s_sub (em_var (pv 1)) (em_var (pv 2))) (am_cons (em_un un_neg s_neg (em_op op_pow s_pow em_int em_int)) (am_cons (em_op op_pow s_pow em_int em_int) am_nil))))))
    smm_nil)
  (smm_cons (sm_if (tm_cmp (o_eq hr.units) s_eq (em_var (pv 0)) em_str (nomark _))
    (smm_one (sm_ret (em_callE (E.fn .law_clamp) (hr.mono (Nat.le_succ _)) tk rfl (T.glo 35 rfl) (am_cons (em_op o_mulA s_mulA (em_var (pv 1)) (em_var (pv 2))) (am_cons (em_un un_neg s_neg (em_op op_pow s_pow em_int em_int)) (am_cons (em_op op_pow s_pow em_int em_int) am_nil))))))
    smm_nil)
  (smm_cons (sm_if (tm_cmp (o_eq hr.units) s_eq (em_var (pv 0)) em_str (nomark _))
    (smm_one (sm_ret (em_callB (call_min2 rfl) s_m2 rfl (T.free 0 rfl) (by decide +kernel) (am_cons (em_var (pv 1)) (am_cons (em_var (pv 2)) am_nil)))))
    smm_nil)
  (smm_cons (sm_if (tm_cmp (o_eq hr.units) s_eq (em_var (pv 0)) em_str (nomark _))
    (smm_one (sm_ret (em_callB (call_max2 rfl) s_m2 rfl (T.free 1 rfl) (by decide +kernel) (am_cons (em_var (pv 1)) (am_cons (em_var (pv 2)) am_nil)))))
    smm_nil)
  (smm_cons (sm_if (tm_cmp (o_eq hr.units) s_eq (em_var (pv 0)) em_str (nomark _))
    (smm_one (sm_ret (em_callTy call_int1 s_int1 rfl (T.free 28 rfl) (by decide +kernel) (am_cons (em_cmp o_lt s_ord (em_var (pv 1)) (em_var (pv 2)) (nomark _)) am_nil))))
    smm_nil)
  (smm_cons (sm_if (tm_cmp (o_eq hr.units) s_eq (em_var (pv 0)) em_str (nomark _))
    (smm_one (sm_ret (em_callTy call_int1 s_int1 rfl (T.free 28 rfl) (by decide +kernel) (am_cons (em_cmp (o_eq hr.units) s_eq (em_var (pv 1)) (em_var (pv 2)) (nomark _)) am_nil))))
    smm_nil)
  (smm_cons (sm_if (tm_cmp (o_eq hr.units) s_eq (em_var (pv 0)) em_str (nomark _))
    (smm_one (sm_ret (em_callTy call_int1 s_int1 rfl (T.free 28 rfl) (by decide +kernel) (am_cons (em_and (em_cmp (o_ne hr.units) s_ne (em_var (pv 1)) em_int (nomark _)) (em_one (em_cmp (o_ne hr.units) s_ne (em_var (pv 2)) em_int (nomark _)))) am_nil))))
    smm_nil)
  (smm_one (sm_ret (em_callTy call_int1 s_int1 rfl (T.free 28 rfl) (by decide +kernel) (am_cons (em_or (em_cmp (o_ne hr.units) s_ne (em_var (pv 1)) em_int (nomark _)) (em_one (em_cmp (o_ne hr.units) s_ne (em_var (pv 2)) em_int (nomark _)))) am_nil))))))))))))
theorem sc_law_value : FnScope ["e", "facts", "a"] ["e", "facts"] (defScope st_law_value) := ⟨rfl, rfl, rfl, by decide +kernel, rfl, by decide +kernel, by decide +kernel⟩
theorem ok_law_value (E : Env P w K mg base k c) {f : Addr} {fd : FuncData} (F : FunD K "_law_value" "_law_value" (defArgs st_law_value) (defBody st_law_value) (defScope st_law_value) [] [] f fd) : FnOk P w K mg base (L2.CX P w) (2 * k + 2) f fd ["e", "facts"] (spOf (gx K) 2 (defM 2 3 (m_law_value c))) := by
  have T := E.top
  have hl : (["e", "facts"] : List Str).length = 2 := rfl
  have S := sc_law_value
  have key := def_ok (G := gx K) (m := m_law_value c) (k := 2 * k + 1) (w := w) (P := P) (mg := mg) (base := base) F S hl
  refine key fun cdv A outer s H El hcd hr tk hp => ?_
  exact (smm_cons (sm_if (tm_cmp (o_eq hr.units) s_eq (em_ix ix_seq s_ix (em_var (pv 0)) em_int (fun _ _ => rfl)) em_str (nomark _))
    (smm_one (sm_ret (em_ix ix_seq s_ix (em_var (pv 0)) em_int (fun _ _ => rfl))))
    smm_nil)
  (smm_cons (sm_if (tm_cmp (o_eq hr.units) s_eq (em_ix ix_seq s_ix (em_var (pv 0)) em_int (fun _ _ => rfl)) em_str (nomark _))
    (smm_one (sm_ret (em_ix (ix_all (u1 hr)) s_ixA (em_ix (ix_all (u1 hr)) s_ixA (em_var (pv 1)) em_str (fun _ _ => rfl)) (em_ix ix_seq s_ix (em_var (pv 0)) em_int (fun _ _ => rfl)) (fun _ _ => rfl))))
    smm_nil)
  (smm_cons (sm_if (tm_cmp op_in_seq s_in (em_ix ix_seq s_ix (em_var (pv 0)) em_int (fun _ _ => rfl)) (em_lst (am_cons em_str (am_cons em_str (am_cons em_str am_nil)))) (by rfl))
    (smm_one (sm_ret (em_ix (ix_all (u1 hr)) s_ixA (em_var (pv 1)) (em_ix ix_seq s_ix (em_var (pv 0)) em_int (fun _ _ => rfl)) (fun _ _ => rfl))))
    smm_nil)
  (smm_cons (sm_set (j := 2) sc_law_value.nd rfl (Or.inl rfl) (em_callE (E.fn .law_value) (hr.mono (Nat.le_succ _)) tk rfl (T.glo 36 rfl) (am_cons (em_ix ix_seq s_ix (em_var (pv 0)) em_int (fun _ _ => rfl)) (am_cons (em_var (pv 1)) am_nil))))
  (smm_cons (sm_if (tm_cmp (o_eq hr.units) s_eq (em_ix ix_seq s_ix (em_var (pv 0)) em_int (fun _ _ => rfl)) em_str (nomark _))
    (smm_one (sm_ret (em_op op_fdiv s_fdiv (em_callTy call_int1 s_int1 rfl (T.free 28 rfl) (by decide +kernel) (am_cons (em_var (pv 2)) am_nil)) (em_ix ix_seq s_ix (em_var (pv 0)) em_int (fun _ _ => rfl)))))
    smm_nil)
  (smm_cons (sm_if (tm_cmp (o_eq hr.units) s_eq (em_ix ix_seq s_ix (em_var (pv 0)) em_int (fun _ _ => rfl)) em_str (nomark _))
    (smm_one (sm_ret (em_op op_mod s_mod (em_callTy call_int1 s_int1 rfl (T.free 28 rfl) (by decide +kernel) (am_cons (em_var (pv 2)) am_nil)) (em_ix ix_seq s_ix (em_var (pv 0)) em_int (fun _ _ => rfl)))))
    smm_nil)
  (smm_cons (sm_if (tm_cmp (o_eq hr.units) s_eq (em_ix ix_seq s_ix (em_var (pv 0)) em_int (fun _ _ => rfl)) em_str (nomark _))
    (smm_one (sm_ret (em_callTy call_int1 s_int1 rfl (T.free 28 rfl) (by decide +kernel) (am_cons (em_cmp (o_eq hr.units) s_eq (em_var (pv 2)) em_int (nomark _)) am_nil))))
    smm_nil)
  (smm_one (sm_ret (em_callE (E.fn .law_pair) (hr.mono (Nat.le_succ _)) tk rfl (T.glo 37 rfl) (am_cons (em_ix ix_seq s_ix (em_var (pv 0)) em_int (fun _ _ => rfl)) (am_cons (em_var (pv 2)) (am_cons (em_callE (E.fn .law_value) (hr.mono (Nat.le_succ _)) tk rfl (T.glo 36 rfl) (am_cons (em_ix ix_seq s_ix (em_var (pv 0)) em_int (fun _ _ => rfl)) (am_cons (em_var (pv 1)) am_nil))) am_nil)))))))))))))
theorem sc_law_run : FnScope ["program", "facts", "ranges", "row", "fields", "when", "target"] ["program", "facts", "ranges"] (defScope st_law_run) := ⟨rfl, rfl, rfl, by decide +kernel, rfl, by decide +kernel, by decide +kernel⟩
theorem ok_law_run (E : Env P w K mg base k c) {f : Addr} {fd : FuncData} (F : FunD K "_law_run" "_law_run" (defArgs st_law_run) (defBody st_law_run) (defScope st_law_run) [] [] f fd) : FnOk P w K mg base (L2.CX P w) (2 * k + 2) f fd ["program", "facts", "ranges"] (spOf (gx K) 3 (defM 3 7 (m_law_run c))) := by
  have T := E.top
  have hl : (["program", "facts", "ranges"] : List Str).length = 3 := rfl
  have S := sc_law_run
  have key := def_ok (G := gx K) (m := m_law_run c) (k := 2 * k + 1) (w := w) (P := P) (mg := mg) (base := base) F S hl
  refine key fun cdv A outer s H El hcd hr tk hp => ?_
  exact (smm_one (sm_for (vs := [3]) hp rfl (im_seq rfl (em_var (pv 0))) (gm_name (i := 3) (by decide) sc_law_run.nd rfl (by first | exact Or.inl rfl | exact Or.inr rfl))
    (smm_one (sm_if (tm_cmp (o_eq hr.units) s_eq (em_ix ix_seq s_ix (em_var (pv 3)) em_int (fun _ _ => rfl)) em_str (nomark _))
      (smm_cons (sm_set (j := 4) sc_law_run.nd rfl (Or.inl rfl) (em_ix (ix_all (u1 hr)) s_ixA (em_var (pv 1)) em_str (fun _ _ => rfl)))
      (smm_one (sm_subA (u1 hr) rfl rfl rfl (by intro _; rfl) (em_callE (E.fn .law_clamp) (hr.mono (Nat.le_succ _)) tk rfl (T.glo 35 rfl) (am_cons (em_callE (E.fn .law_value) (hr.mono (Nat.le_succ _)) tk rfl (T.glo 36 rfl) (am_cons (em_ix ix_seq s_ix (em_var (pv 3)) em_int (fun _ _ => rfl)) (am_cons (em_var (pv 1)) am_nil))) (am_cons (em_ix ix_seq s_ix (em_ix (ix_all (u1 hr)) s_ixA (em_var (pv 2)) (em_ix ix_seq s_ix (em_var (pv 3)) em_int (fun _ _ => rfl)) (fun _ _ => rfl)) em_int (fun _ _ => rfl)) (am_cons (em_ix ix_seq s_ix (em_ix (ix_all (u1 hr)) s_ixA (em_var (pv 2)) (em_ix ix_seq s_ix (em_var (pv 3)) em_int (fun _ _ => rfl)) (fun _ _ => rfl)) em_int (fun _ _ => rfl)) am_nil)))) (em_var (pv 4)) (em_ix ix_seq s_ix (em_var (pv 3)) em_int (fun _ _ => rfl)))))
      (smm_one (sm_if (tm_cmp (o_eq hr.units) s_eq (em_ix ix_seq s_ix (em_var (pv 3)) em_int (fun _ _ => rfl)) em_str (nomark _))
        (smm_cons (sm_set (j := 5) sc_law_run.nd rfl (Or.inl rfl) (em_op o_add s_add (em_ix (ix_all (u1 hr)) s_ixA (em_var (pv 1)) em_str (fun _ _ => rfl)) (em_callE (E.fn .law_clamp) (hr.mono (Nat.le_succ _)) tk rfl (T.glo 35 rfl) (am_cons (em_callE (E.fn .law_value) (hr.mono (Nat.le_succ _)) tk rfl (T.glo 36 rfl) (am_cons (em_ix ix_seq s_ix (em_var (pv 3)) em_int (fun _ _ => rfl)) (am_cons (em_var (pv 1)) am_nil))) (am_cons em_int (am_cons em_int am_nil))))))
        (smm_cons (sm_set (j := 6) sc_law_run.nd rfl (Or.inl rfl) (em_op op_mod s_mod (em_callTy call_int1 s_int1 rfl (T.free 28 rfl) (by decide +kernel) (am_cons (em_callE (E.fn .law_value) (hr.mono (Nat.le_succ _)) tk rfl (T.glo 36 rfl) (am_cons (em_ix ix_seq s_ix (em_var (pv 3)) em_int (fun _ _ => rfl)) (am_cons (em_var (pv 1)) am_nil))) am_nil)) (em_ix (ix_all (u1 hr)) s_ixA (em_var (pv 1)) em_str (fun _ _ => rfl))))
        (smm_one (sm_expr (em_lm rfl PySem.F.slot_list_append PySem.F.type_list_append mt_append s_append (em_ix (ix_all (u1 hr)) s_ixA (em_var (pv 1)) em_str (fun _ _ => rfl)) (am_cons (em_tup (am_cons (em_var (pv 5)) (am_cons (em_var (pv 6)) (am_cons (em_ix ix_seq s_ix (em_var (pv 3)) em_int (fun _ _ => rfl)) (am_cons (em_callE (E.fn .law_clamp) (hr.mono (Nat.le_succ _)) tk rfl (T.glo 35 rfl) (am_cons (em_callE (E.fn .law_value) (hr.mono (Nat.le_succ _)) tk rfl (T.glo 36 rfl) (am_cons (em_ix ix_seq s_ix (em_var (pv 3)) em_int (fun _ _ => rfl)) (am_cons (em_var (pv 1)) am_nil))) (am_cons (em_un un_neg s_neg em_int) (am_cons em_int am_nil)))) am_nil))))) am_nil))))))
        (smm_one (sm_if (tm_cmp (o_eq hr.units) s_eq (em_ix ix_seq s_ix (em_var (pv 3)) em_int (fun _ _ => rfl)) em_str (nomark _))
          (smm_one (sm_expr (em_callE (E.fn .law_run) (hr.mono (Nat.le_succ _)) tk rfl (T.glo 38 rfl) (am_cons (em_ix ix_seq s_ix (em_var (pv 3)) (em_op o_add s_add em_int (em_callTy call_int1 s_int1 rfl (T.free 28 rfl) (by decide +kernel) (am_cons (em_cmp (o_eq hr.units) s_eq (em_callE (E.fn .law_value) (hr.mono (Nat.le_succ _)) tk rfl (T.glo 36 rfl) (am_cons (em_ix ix_seq s_ix (em_var (pv 3)) em_int (fun _ _ => rfl)) (am_cons (em_var (pv 1)) am_nil))) em_int (nomark _)) am_nil))) (fun _ _ => rfl)) (am_cons (em_var (pv 1)) (am_cons (em_var (pv 2)) am_nil))))))
          smm_nil))))))))
theorem sc_law_kind_of : FnScope ["model", "number", "kind"] ["model", "number"] (defScope st_law_kind_of) := ⟨rfl, rfl, rfl, by decide +kernel, rfl, by decide +kernel, by decide +kernel⟩
theorem ok_law_kind_of (E : Env P w K mg base k c) {f : Addr} {fd : FuncData} (F : FunD K "_law_kind_of" "_law_kind_of" (defArgs st_law_kind_of) (defBody st_law_kind_of) (defScope st_law_kind_of) [] [] f fd) : FnOk P w K mg base (L2.CX P w) (2 * k + 2) f fd ["model", "number"] (spOf (gx K) 2 (defM 2 3 (m_law_kind_of c))) := by
  have T := E.top
  have hl : (["model", "number"] : List Str).length = 2 := rfl
  have S := sc_law_kind_of
  have key := def_ok (G := gx K) (m := m_law_kind_of c) (k := 2 * k + 1) (w := w) (P := P) (mg := mg) (base := base) F S hl
  refine key fun cdv A outer s H El hcd hr tk hp => ?_
  exact (smm_one (sm_ret (em_ix ix_seq s_ix (em_lc (own := [("kind", 2)]) rfl sc_law_kind_of.nd (im_seq rfl (em_ix ix_seq s_ix (em_var (pv 0)) em_int (fun _ _ => rfl))) (blkOk_by (by kernel_rfl)) (fun _ _ _ _ _ => (gm_name (i := 2) (by decide) sc_law_kind_of.nd rfl (by first | exact Or.inl rfl | exact Or.inr rfl))) (fun _ _ _ _ _ => (pts_if (tm_cmp (o_eq hr.units) s_eq (em_ix ix_seq s_ix (em_var (pv 2)) em_int (fun _ _ => rfl)) (em_ix ix_seq s_ix (em_ix ix_seq s_ix (em_var (pv 0)) em_int (fun _ _ => rfl)) (em_var (pv 1)) (fun _ _ => rfl)) (nomark _)))) (fun _ _ _ _ _ => (em_var (pv 2)))) em_int (fun _ _ => rfl))))
theorem sc_law_happen : FnScope ["model", "number", "state", "time", "name", "arg", "kind", "fields", "ranges", "k", "facts", "handler", "field"] ["model", "number", "state", "time", "name", "arg"] (defScope st_law_happen) := ⟨rfl, rfl, rfl, by decide +kernel, rfl, by decide +kernel, by decide +kernel⟩
theorem ok_law_happen (E : Env P w K mg base k c) {f : Addr} {fd : FuncData} (F : FunD K "_law_happen" "_law_happen" (defArgs st_law_happen) (defBody st_law_happen) (defScope st_law_happen) [] [] f fd) : FnOk P w K mg base (L2.CX P w) (2 * k + 2) f fd ["model", "number", "state", "time", "name", "arg"] (spOf (gx K) 6 (defM 6 13 (m_law_happen c))) := by
  have T := E.top
  have hl : (["model", "number", "state", "time", "name", "arg"] : List Str).length = 6 := rfl
  have S := sc_law_happen
  have key := def_ok (G := gx K) (m := m_law_happen c) (k := 2 * k + 1) (w := w) (P := P) (mg := mg) (base := base) F S hl
  refine key fun cdv A outer s H El hcd hr tk hp => ?_
  exact (smm_cons (sm_set (j := 6) sc_law_happen.nd rfl (Or.inl rfl) (em_callE (E.fn .law_kind_of) (hr.mono (Nat.le_succ _)) tk rfl (T.glo 39 rfl) (am_cons (em_var (pv 0)) (am_cons (em_var (pv 1)) am_nil))))
  (smm_cons (sm_set (j := 7) sc_law_happen.nd rfl (by first | exact Or.inl rfl | exact Or.inr rfl) em_dnew)
  (smm_cons (sm_set (j := 8) sc_law_happen.nd rfl (Or.inl rfl) em_dnew)
  (smm_cons (sm_for (vs := [9]) hp rfl (im_range1 rfl (T.free 27 rfl) (am_cons (em_callB c_len s_len rfl (T.free 6 rfl) (by decide +kernel) (am_cons (em_ix ix_seq s_ix (em_var (pv 6)) em_int (fun _ _ => rfl)) am_nil)) am_nil)) (gm_name (i := 9) (by decide) sc_law_happen.nd rfl (by first | exact Or.inl rfl | exact Or.inr rfl))
    (smm_cons (sm_subA (u1 hr) rfl rfl rfl (by intro _; rfl) (em_ix ix_seq s_ix (em_var (pv 2)) (em_var (pv 9)) (fun _ _ => rfl)) (em_var (pv 7)) (em_ix ix_seq s_ix (em_ix ix_seq s_ix (em_ix ix_seq s_ix (em_var (pv 6)) em_int (fun _ _ => rfl)) (em_var (pv 9)) (fun _ _ => rfl)) em_int (fun _ _ => rfl)))
    (smm_one (sm_subA (u1 hr) rfl rfl rfl (by intro _; rfl) (em_tup (am_cons (em_ix ix_seq s_ix (em_ix ix_seq s_ix (em_ix ix_seq s_ix (em_var (pv 6)) em_int (fun _ _ => rfl)) (em_var (pv 9)) (fun _ _ => rfl)) em_int (fun _ _ => rfl)) (am_cons (em_ix ix_seq s_ix (em_ix ix_seq s_ix (em_ix ix_seq s_ix (em_var (pv 6)) em_int (fun _ _ => rfl)) (em_var (pv 9)) (fun _ _ => rfl)) em_int (fun _ _ => rfl)) am_nil))) (em_var (pv 8)) (em_ix ix_seq s_ix (em_ix ix_seq s_ix (em_ix ix_seq s_ix (em_var (pv 6)) em_int (fun _ _ => rfl)) (em_var (pv 9)) (fun _ _ => rfl)) em_int (fun _ _ => rfl))))))
  (smm_cons (sm_set (j := 10) sc_law_happen.nd rfl (Or.inl rfl) (em_disp (ms := [((mC (.str "fields")), (mVar 7)), ((mC (.str "now")), (mVar 3)), ((mC (.str "arg")), (mVar 5)), ((mC (.str "self")), (mVar 1)), ((mC (.str "many")), (mApp gLen (mCons (mOp gIx (mVar 0) (mC (.int 1))) mNil))), ((mC (.str "sends")), (mLst mNil))]) (pps_d em_str (em_var (pv 7)) (pps_d em_str (em_var (pv 3)) (pps_d em_str (em_var (pv 5)) (pps_d em_str (em_var (pv 1)) (pps_d em_str (em_callB c_len s_len rfl (T.free 6 rfl) (by decide +kernel) (am_cons (em_ix ix_seq s_ix (em_var (pv 0)) em_int (fun _ _ => rfl)) am_nil)) (pps_d em_str (em_lst am_nil) pps_nil)))))) rfl rfl (fun h => nomatch h) (by decide)))
  (smm_cons (sm_for (vs := [11]) hp rfl (im_seq rfl (em_ix ix_seq s_ix (em_var (pv 6)) em_int (fun _ _ => rfl))) (gm_name (i := 11) (by decide) sc_law_happen.nd rfl (by first | exact Or.inl rfl | exact Or.inr rfl))
    (smm_one (sm_if (tm_cmp (o_eq hr.units) s_eq (em_ix ix_seq s_ix (em_var (pv 11)) em_int (fun _ _ => rfl)) (em_var (pv 4)) (nomark _))
      (smm_one (sm_expr (em_callE (E.fn .law_run) (hr.mono (Nat.le_succ _)) tk rfl (T.glo 38 rfl) (am_cons (em_ix ix_seq s_ix (em_var (pv 11)) em_int (fun _ _ => rfl)) (am_cons (em_var (pv 10)) (am_cons (em_var (pv 8)) am_nil))))))
      smm_nil)))
  (smm_one (sm_ret (em_tup (am_cons (em_callTy call_tuple_of s_tuple rfl (T.free 18 rfl) (by decide +kernel) (am_cons (em_lc (own := [("field", 12)]) rfl sc_law_happen.nd (im_seq rfl (em_ix ix_seq s_ix (em_var (pv 6)) em_int (fun _ _ => rfl))) (blkOk_by (by kernel_rfl)) (fun _ _ _ _ _ => (gm_name (i := 12) (by decide) sc_law_happen.nd rfl (by first | exact Or.inl rfl | exact Or.inr rfl))) (fun _ _ _ _ _ => pts_yes) (fun _ _ _ _ _ => (em_ix (ix_all (u1 hr)) s_ixA (em_var (pv 7)) (em_ix ix_seq s_ix (em_var (pv 12)) em_int (fun _ _ => rfl)) (fun _ _ => rfl)))) am_nil)) (am_cons (em_ix (ix_all (u1 hr)) s_ixA (em_var (pv 10)) em_str (fun _ _ => rfl)) am_nil)))))))))))
theorem sc_law_first : FnScope ["model", "number", "field"] ["model", "number"] (defScope st_law_first) := ⟨rfl, rfl, rfl, by decide +kernel, rfl, by decide +kernel, by decide +kernel⟩
theorem ok_law_first (E : Env P w K mg base k c) {f : Addr} {fd : FuncData} (F : FunD K "_law_first" "_law_first" (defArgs st_law_first) (defBody st_law_first) (defScope st_law_first) [] [] f fd) : FnOk P w K mg base (L2.CX P w) (2 * k + 2) f fd ["model", "number"] (spOf (gx K) 2 (defM 2 3 (m_law_first c))) := by
  have T := E.top
  have hl : (["model", "number"] : List Str).length = 2 := rfl
  have S := sc_law_first
  have key := def_ok (G := gx K) (m := m_law_first c) (k := 2 * k + 1) (w := w) (P := P) (mg := mg) (base := base) F S hl
  refine key fun cdv A outer s H El hcd hr tk hp => ?_
  exact (smm_one (sm_ret (em_callTy call_tuple_of s_tuple rfl (T.free 18 rfl) (by decide +kernel) (am_cons (em_lc (own := [("field", 2)]) rfl sc_law_first.nd (im_seq rfl (em_ix ix_seq s_ix (em_callE (E.fn .law_kind_of) (hr.mono (Nat.le_succ _)) tk rfl (T.glo 39 rfl) (am_cons (em_var (pv 0)) (am_cons (em_var (pv 1)) am_nil))) em_int (fun _ _ => rfl))) (blkOk_by (by kernel_rfl)) (fun _ _ _ _ _ => (gm_name (i := 2) (by decide) sc_law_first.nd rfl (by first | exact Or.inl rfl | exact Or.inr rfl))) (fun _ _ _ _ _ => pts_yes) (fun _ _ _ _ _ => (em_callE (E.fn .law_clamp) (hr.mono (Nat.le_succ _)) takesW0 rfl (T.glo 35 rfl) (am_cons em_int (am_cons (em_ix ix_seq s_ix (em_var (pv 2)) em_int (fun _ _ => rfl)) (am_cons (em_ix ix_seq s_ix (em_var (pv 2)) em_int (fun _ _ => rfl)) am_nil)))))) am_nil))))
theorem sc_law_state : FnScope ["model", "number", "draws", "at", "rows", "field"] ["model", "number", "draws", "at"] (defScope st_law_state) := ⟨rfl, rfl, rfl, by decide +kernel, rfl, by decide +kernel, by decide +kernel⟩
theorem ok_law_state (E : Env P w K mg base k c) {f : Addr} {fd : FuncData} (F : FunD K "_law_state" "_law_state" (defArgs st_law_state) (defBody st_law_state) (defScope st_law_state) [] [] f fd) : FnOk P w K mg base (L2.CX P w) (2 * k + 2) f fd ["model", "number", "draws", "at"] (spOf (gx K) 4 (defM 4 6 (m_law_state c))) := by
  have T := E.top
  have hl : (["model", "number", "draws", "at"] : List Str).length = 4 := rfl
  have S := sc_law_state
  have key := def_ok (G := gx K) (m := m_law_state c) (k := 2 * k + 1) (w := w) (P := P) (mg := mg) (base := base) F S hl
  refine key fun cdv A outer s H El hcd hr tk hp => ?_
  exact (smm_cons (sm_set (j := 4) sc_law_state.nd rfl (Or.inl rfl) (em_lst am_nil))
  (smm_cons (sm_for (vs := [5]) hp rfl (im_seq rfl (em_ix ix_seq s_ix (em_callE (E.fn .law_kind_of) (hr.mono (Nat.le_succ _)) tk rfl (T.glo 39 rfl) (am_cons (em_var (pv 0)) (am_cons (em_var (pv 1)) am_nil))) em_int (fun _ _ => rfl))) (gm_name (i := 5) (by decide) sc_law_state.nd rfl (by first | exact Or.inl rfl | exact Or.inr rfl))
    (smm_one (sm_expr (em_lm rfl PySem.F.slot_list_append PySem.F.type_list_append mt_append s_append (em_var (pv 4)) (am_cons (em_op o_add s_add (em_ix ix_seq s_ix (em_var (pv 5)) em_int (fun _ _ => rfl)) (em_callE (E.fn .law_next) (hr.mono (Nat.le_succ _)) tk rfl (T.glo 30 rfl) (am_cons (em_var (pv 2)) (am_cons (em_var (pv 3)) (am_cons (em_op o_add s_add (em_op op_sub s_sub (em_ix ix_seq s_ix (em_var (pv 5)) em_int (fun _ _ => rfl)) (em_ix ix_seq s_ix (em_var (pv 5)) em_int (fun _ _ => rfl))) em_int) am_nil))))) am_nil)))))
  (smm_one (sm_ret (em_callTy call_tuple_of s_tuple rfl (T.free 18 rfl) (by decide +kernel) (am_cons (em_var (pv 4)) am_nil))))))
theorem sc_law_numbers : FnScope ["row", "value"] ["row"] (defScope st_law_numbers) := ⟨rfl, rfl, rfl, by decide +kernel, rfl, by decide +kernel, by decide +kernel⟩
theorem ok_law_numbers (E : Env P w K mg base k c) {f : Addr} {fd : FuncData} (F : FunD K "_law_numbers" "_law_numbers" (defArgs st_law_numbers) (defBody st_law_numbers) (defScope st_law_numbers) [] [] f fd) : FnOk P w K mg base (L2.CX P w) (2 * k + 2) f fd ["row"] (spOf (gx K) 1 (defM 1 2 (m_law_numbers c))) := by
  have T := E.top
  have hl : (["row"] : List Str).length = 1 := rfl
  have S := sc_law_numbers
  have key := def_ok (G := gx K) (m := m_law_numbers c) (k := 2 * k + 1) (w := w) (P := P) (mg := mg) (base := base) F S hl
  refine key fun cdv A outer s H El hcd hr tk hp => ?_
  exact (smm_cons (sm_for (vs := [1]) hp rfl (im_seq rfl (em_var (pv 0))) (gm_name (i := 1) (by decide) sc_law_numbers.nd rfl (by first | exact Or.inl rfl | exact Or.inr rfl))
    (smm_one (sm_if (TW.pt (tw_or (tm_val (em_isT (Ts := "bool") rfl (by decide) rfl (T.free 40 rfl) rfl (T.free 41 rfl) (by decide +kernel) (em_var (pv 1)))) (tw_or1 (tm_not (tm_val (em_isT (Ts := "int") rfl (by decide) rfl (T.free 40 rfl) rfl (T.free 28 rfl) (by decide +kernel) (em_var (pv 1))))))))
      (smm_one (sm_ret em_bl))
      smm_nil)))
  (smm_one (sm_ret em_bl)))
theorem sc_law : FnScope ["script", "draws", "at", "turn", "model", "k", "number", "state", "name", "time", "arg", "due", "actual", "sent"] ["script"] (defScope st_law) := ⟨rfl, rfl, rfl, by decide +kernel, rfl, by decide +kernel, by decide +kernel⟩
theorem ok_law (E : Env P w K mg base k c) {f : Addr} {fd : FuncData} (F : FunD K "law" "law" (defArgs st_law) (defBody st_law) (defScope st_law) [] [] f fd) : FnOk P w K mg base (L2.CX P w) (2 * k + 2) f fd ["script"] (spOf (gx K) 1 (defM 1 14 (m_law c))) := by
  have T := E.top
  have hl : (["script"] : List Str).length = 1 := rfl
  have S := sc_law
  have key := def_ok (G := gx K) (m := m_law c) (k := 2 * k + 1) (w := w) (P := P) (mg := mg) (base := base) F S hl
  refine key fun cdv A outer s H El hcd hr tk hp => ?_
  exact (smm_cons (sm_set (j := 1) sc_law.nd rfl (Or.inl rfl) (em_callE (E.fn .law_draws) (hr.mono (Nat.le_succ _)) tk rfl (T.glo 48 rfl) (am_cons (em_var (pv 0)) am_nil)))
  (smm_cons (sm_set (j := 2) sc_law.nd rfl (Or.inl rfl) (em_lst (am_cons em_int am_nil)))
  (smm_cons (sm_for (vs := [3]) hp rfl (im_range1 rfl (T.free 27 rfl) (am_cons em_int am_nil)) (gm_name (i := 3) (by decide) sc_law.nd rfl (by first | exact Or.inl rfl | exact Or.inr rfl))
    (smm_cons (sm_set (j := 4) sc_law.nd rfl (Or.inl rfl) (em_callE (E.fn .law_model) (hr.mono (Nat.le_succ _)) tk rfl (T.glo 47 rfl) (am_cons (em_var (pv 1)) (am_cons (em_var (pv 2)) am_nil))))
    (smm_one (sm_for (vs := [5]) hp rfl (im_range1 rfl (T.free 27 rfl) (am_cons em_int am_nil)) (gm_name (i := 5) (by decide) sc_law.nd rfl (by first | exact Or.inl rfl | exact Or.inr rfl))
      (smm_cons (sm_set (j := 6) sc_law.nd rfl (Or.inl rfl) (em_callE (E.fn .law_next) (hr.mono (Nat.le_succ _)) tk rfl (T.glo 30 rfl) (am_cons (em_var (pv 1)) (am_cons (em_var (pv 2)) (am_cons (em_callB c_len s_len rfl (T.free 6 rfl) (by decide +kernel) (am_cons (em_ix ix_seq s_ix (em_var (pv 4)) em_int (fun _ _ => rfl)) am_nil)) am_nil)))))
      (smm_cons (sm_set (j := 7) sc_law.nd rfl (Or.inl rfl) (em_callE (E.fn .law_state) (hr.mono (Nat.le_succ _)) tk rfl (T.glo 46 rfl) (am_cons (em_var (pv 4)) (am_cons (em_var (pv 6)) (am_cons (em_var (pv 1)) (am_cons (em_var (pv 2)) am_nil))))))
      (smm_cons (sm_set (j := 8) sc_law.nd rfl (Or.inl rfl) (em_ix ix_seq s_ix (em_lst (am_cons em_str (am_cons em_str (am_cons em_str (am_cons em_str am_nil))))) (em_callE (E.fn .law_next) (hr.mono (Nat.le_succ _)) tk rfl (T.glo 30 rfl) (am_cons (em_var (pv 1)) (am_cons (em_var (pv 2)) (am_cons em_int am_nil)))) (fun _ _ => rfl)))
      (smm_cons (sm_set (j := 9) sc_law.nd rfl (Or.inl rfl) (em_callE (E.fn .law_next) (hr.mono (Nat.le_succ _)) tk rfl (T.glo 30 rfl) (am_cons (em_var (pv 1)) (am_cons (em_var (pv 2)) (am_cons em_int am_nil)))))
      (smm_cons (sm_set (j := 10) sc_law.nd rfl (Or.inl rfl) (em_op op_sub s_sub (em_callE (E.fn .law_next) (hr.mono (Nat.le_succ _)) tk rfl (T.glo 30 rfl) (am_cons (em_var (pv 1)) (am_cons (em_var (pv 2)) (am_cons em_int am_nil)))) em_int))
      (smm_cons (sm_if (tm_cmp (o_eq hr.units) s_eq (em_callE (E.fn .law_next) (hr.mono (Nat.le_succ _)) tk rfl (T.glo 30 rfl) (am_cons (em_var (pv 1)) (am_cons (em_var (pv 2)) (am_cons em_int am_nil)))) em_int (nomark _))
        (smm_one (sm_set (j := 10) sc_law.nd rfl (Or.inl rfl) (em_op o_mulA s_mulA (em_callE (E.fn .law_next) (hr.mono (Nat.le_succ _)) tk rfl (T.glo 30 rfl) (am_cons (em_var (pv 1)) (am_cons (em_var (pv 2)) (am_cons em_int am_nil)))) (em_ix ix_seq s_ix (em_lst (am_cons em_int (am_cons (em_un un_neg s_neg em_int) am_nil))) (em_callE (E.fn .law_next) (hr.mono (Nat.le_succ _)) tk rfl (T.glo 30 rfl) (am_cons (em_var (pv 1)) (am_cons (em_var (pv 2)) (am_cons em_int am_nil)))) (fun _ _ => rfl)))))
        smm_nil)
      (smm_cons (sm_set (j := 11) sc_law.nd rfl (Or.inl rfl) (em_callE (E.fn .law_happen) (hr.mono (Nat.le_succ _)) tk rfl (T.glo 45 rfl) (am_cons (em_var (pv 4)) (am_cons (em_var (pv 6)) (am_cons (em_var (pv 7)) (am_cons (em_var (pv 9)) (am_cons (em_var (pv 8)) (am_cons (em_var (pv 10)) am_nil))))))))
      (smm_cons (sm_set (j := 12) sc_law.nd rfl (Or.inl rfl) (em_callE (E.fn .run_handler) (hr.mono (Nat.le_succ _)) tk rfl (T.glo 42 rfl) (am_cons (em_var (pv 4)) (am_cons (em_var (pv 6)) (am_cons (em_var (pv 7)) (am_cons (em_var (pv 9)) (am_cons (em_var (pv 8)) (am_cons (em_var (pv 10)) am_nil))))))))
      (smm_cons (sm_if (TW.pt (tw_or (tm_not (tm_val (em_isT (Ts := "tuple") rfl (by decide) rfl (T.free 40 rfl) rfl (T.free 18 rfl) (by decide +kernel) (em_var (pv 12))))) (tw_or (tm_cmp (o_ne hr.units) s_ne (em_callB c_len s_len rfl (T.free 6 rfl) (by decide +kernel) (am_cons (em_var (pv 12)) am_nil)) em_int (nomark _)) (tw_or1 (tm_cmp (o_ne hr.units) s_ne (em_var (pv 12)) (em_var (pv 11)) (nomark _))))))
        (smm_one (sm_ret em_bl))
        smm_nil)
      (smm_cons (sm_if (TW.pt (tw_or (tm_not (tm_val (em_isT (Ts := "tuple") rfl (by decide) rfl (T.free 40 rfl) rfl (T.free 18 rfl) (by decide +kernel) (em_ix ix_seq s_ix (em_var (pv 12)) em_int (fun _ _ => rfl))))) (tw_or (tm_not (tm_val (em_isT (Ts := "list") rfl (by decide) rfl (T.free 40 rfl) rfl (T.free 44 rfl) (by decide +kernel) (em_ix ix_seq s_ix (em_var (pv 12)) em_int (fun _ _ => rfl))))) (tw_or1 (tm_not (tm_val (em_callE (E.fn .law_numbers) (hr.mono (Nat.le_succ _)) tk rfl (T.glo 43 rfl) (am_cons (em_ix ix_seq s_ix (em_var (pv 12)) em_int (fun _ _ => rfl)) am_nil))))))))
        (smm_one (sm_ret em_bl))
        smm_nil)
      (smm_cons (sm_for (vs := [13]) hp rfl (im_seq rfl (em_ix ix_seq s_ix (em_var (pv 12)) em_int (fun _ _ => rfl))) (gm_name (i := 13) (by decide) sc_law.nd rfl (by first | exact Or.inl rfl | exact Or.inr rfl))
        (smm_one (sm_if (TW.pt (tw_or (tm_not (tm_val (em_isT (Ts := "tuple") rfl (by decide) rfl (T.free 40 rfl) rfl (T.free 18 rfl) (by decide +kernel) (em_var (pv 13))))) (tw_or1 (tm_not (tm_val (em_callE (E.fn .law_numbers) (hr.mono (Nat.le_succ _)) tk rfl (T.glo 43 rfl) (am_cons (em_tup (am_cons (em_ix ix_seq s_ix (em_var (pv 13)) em_int (fun _ _ => rfl)) (am_cons (em_ix ix_seq s_ix (em_var (pv 13)) em_int (fun _ _ => rfl)) (am_cons (em_ix ix_seq s_ix (em_var (pv 13)) em_int (fun _ _ => rfl)) am_nil)))) am_nil)))))))
          (smm_one (sm_ret em_bl))
          smm_nil)))
      (smm_one (sm_if (tm_cmp (o_ne hr.units) s_ne (em_callE (E.fn .run_handler) (hr.mono (Nat.le_succ _)) tk rfl (T.glo 42 rfl) (am_cons (em_var (pv 4)) (am_cons (em_var (pv 6)) (am_cons (em_var (pv 7)) (am_cons (em_var (pv 9)) (am_cons (em_var (pv 8)) (am_cons (em_var (pv 10)) am_nil))))))) (em_var (pv 11)) (nomark _))
        (smm_one (sm_ret em_bl))
        smm_nil)))))))))))))))))
  (smm_one (sm_ret em_bl)))))
end
theorem has_kind_of {K : PySem.W.Frag} (T : He.SaysD fa fn K) : ∃ fd, FunD K "kind_of" "kind_of" (defArgs st_kind_of) (defBody st_kind_of) (defScope st_kind_of) [] [] (He.fAd K (Fn.kind_of).at_) fd := T.def_ 0 (d := fnD .kind_of) rfl
theorem bd_kind_of {K : PySem.W.Frag} {f : Addr} {fd : FuncData} (F : FunD K "kind_of" "kind_of" (defArgs st_kind_of) (defBody st_kind_of) (defScope st_kind_of) [] [] f fd) : Binds K fd ["model", "number"] [] := F.bindsN fun _ _ _ _ _ _ us hl => match us, hl with | [_, _], _ => rfl
theorem has_nearest {K : PySem.W.Frag} (T : He.SaysD fa fn K) : ∃ fd, FunD K "nearest" "nearest" (defArgs st_nearest) (defBody st_nearest) (defScope st_nearest) [] [] (He.fAd K (Fn.nearest).at_) fd := T.def_ 1 (d := fnD .nearest) rfl
theorem bd_nearest {K : PySem.W.Frag} {f : Addr} {fd : FuncData} (F : FunD K "nearest" "nearest" (defArgs st_nearest) (defBody st_nearest) (defScope st_nearest) [] [] f fd) : Binds K fd ["value", "low", "high"] [] := F.bindsN fun _ _ _ _ _ _ us hl => match us, hl with | [_, _, _], _ => rfl
theorem has_run_handler {K : PySem.W.Frag} (T : He.SaysD fa fn K) : ∃ fd, FunD K "run_handler" "run_handler" (defArgs st_run_handler) (defBody st_run_handler) (defScope st_run_handler) [] [] (He.fAd K (Fn.run_handler).at_) fd := T.def_ 2 (d := fnD .run_handler) rfl
theorem bd_run_handler {K : PySem.W.Frag} {f : Addr} {fd : FuncData} (F : FunD K "run_handler" "run_handler" (defArgs st_run_handler) (defBody st_run_handler) (defScope st_run_handler) [] [] f fd) : Binds K fd ["model", "number", "state", "time", "name", "arg"] [] := F.bindsN fun _ _ _ _ _ _ us hl => match us, hl with | [_, _, _, _, _, _], _ => rfl
theorem has_find_program {K : PySem.W.Frag} (T : He.SaysD fa fn K) : ∃ fd, FunD K "find_program" "find_program" (defArgs st_find_program) (defBody st_find_program) (defScope st_find_program) [] [] (He.fAd K (Fn.find_program).at_) fd := T.def_ 3 (d := fnD .find_program) rfl
theorem bd_find_program {K : PySem.W.Frag} {f : Addr} {fd : FuncData} (F : FunD K "find_program" "find_program" (defArgs st_find_program) (defBody st_find_program) (defScope st_find_program) [] [] f fd) : Binds K fd ["kind", "name"] [] := F.bindsN fun _ _ _ _ _ _ us hl => match us, hl with | [_, _], _ => rfl
theorem has_operate {K : PySem.W.Frag} (T : He.SaysD fa fn K) : ∃ fd, FunD K "operate" "operate" (defArgs st_operate) (defBody st_operate) (defScope st_operate) [] [] (He.fAd K (Fn.operate).at_) fd := T.def_ 4 (d := fnD .operate) rfl
theorem bd_operate {K : PySem.W.Frag} {f : Addr} {fd : FuncData} (F : FunD K "operate" "operate" (defArgs st_operate) (defBody st_operate) (defScope st_operate) [] [] f fd) : Binds K fd ["word", "a", "b"] [] := F.bindsN fun _ _ _ _ _ _ us hl => match us, hl with | [_, _, _], _ => rfl
theorem has_Run_init {K : PySem.W.Frag} (T : He.SaysD fa fn K) : ∃ fd, FunD K "__init__" "Run.__init__" (defArgs st_Run_init) (defBody st_Run_init) (defScope st_Run_init) [] [] (He.fAd K (Fn.Run_init).at_) fd := T.def_ 5 (d := fnD .Run_init) rfl
theorem bd_Run_init {K : PySem.W.Frag} {f : Addr} {fd : FuncData} (F : FunD K "__init__" "Run.__init__" (defArgs st_Run_init) (defBody st_Run_init) (defScope st_Run_init) [] [] f fd) : Binds K fd ["self", "fields", "objects", "number", "state", "time", "arg"] [] := F.bindsN fun _ _ _ _ _ _ us hl => match us, hl with | [_, _, _, _, _, _, _], _ => rfl
theorem has_Run_state {K : PySem.W.Frag} (T : He.SaysD fa fn K) : ∃ fd, FunD K "state" "Run.state" (defArgs st_Run_state) (defBody st_Run_state) (defScope st_Run_state) [] [] (He.fAd K (Fn.Run_state).at_) fd := T.def_ 6 (d := fnD .Run_state) rfl
theorem bd_Run_state {K : PySem.W.Frag} {f : Addr} {fd : FuncData} (F : FunD K "state" "Run.state" (defArgs st_Run_state) (defBody st_Run_state) (defScope st_Run_state) [] [] f fd) : Binds K fd ["self"] [] := F.bindsN fun _ _ _ _ _ _ us hl => match us, hl with | [_], _ => rfl
theorem has_Run_program {K : PySem.W.Frag} (T : He.SaysD fa fn K) : ∃ fd, FunD K "program" "Run.program" (defArgs st_Run_program) (defBody st_Run_program) (defScope st_Run_program) [] [] (He.fAd K (Fn.Run_program).at_) fd := T.def_ 7 (d := fnD .Run_program) rfl
theorem bd_Run_program {K : PySem.W.Frag} {f : Addr} {fd : FuncData} (F : FunD K "program" "Run.program" (defArgs st_Run_program) (defBody st_Run_program) (defScope st_Run_program) [] [] f fd) : Binds K fd ["self", "program"] [] := F.bindsN fun _ _ _ _ _ _ us hl => match us, hl with | [_, _], _ => rfl
theorem has_Run_statement {K : PySem.W.Frag} (T : He.SaysD fa fn K) : ∃ fd, FunD K "statement" "Run.statement" (defArgs st_Run_statement) (defBody st_Run_statement) (defScope st_Run_statement) [] [] (He.fAd K (Fn.Run_statement).at_) fd := T.def_ 8 (d := fnD .Run_statement) rfl
theorem bd_Run_statement {K : PySem.W.Frag} {f : Addr} {fd : FuncData} (F : FunD K "statement" "Run.statement" (defArgs st_Run_statement) (defBody st_Run_statement) (defScope st_Run_statement) [] [] f fd) : Binds K fd ["self", "statement"] [] := F.bindsN fun _ _ _ _ _ _ us hl => match us, hl with | [_, _], _ => rfl
theorem has_Run_send {K : PySem.W.Frag} (T : He.SaysD fa fn K) : ∃ fd, FunD K "send" "Run.send" (defArgs st_Run_send) (defBody st_Run_send) (defScope st_Run_send) [] [] (He.fAd K (Fn.Run_send).at_) fd := T.def_ 9 (d := fnD .Run_send) rfl
theorem bd_Run_send {K : PySem.W.Frag} {f : Addr} {fd : FuncData} (F : FunD K "send" "Run.send" (defArgs st_Run_send) (defBody st_Run_send) (defScope st_Run_send) [] [] f fd) : Binds K fd ["self", "target", "delay", "name", "arg"] [] := F.bindsN fun _ _ _ _ _ _ us hl => match us, hl with | [_, _, _, _, _], _ => rfl
theorem has_Run_value {K : PySem.W.Frag} (T : He.SaysD fa fn K) : ∃ fd, FunD K "value" "Run.value" (defArgs st_Run_value) (defBody st_Run_value) (defScope st_Run_value) [] [] (He.fAd K (Fn.Run_value).at_) fd := T.def_ 10 (d := fnD .Run_value) rfl
theorem bd_Run_value {K : PySem.W.Frag} {f : Addr} {fd : FuncData} (F : FunD K "value" "Run.value" (defArgs st_Run_value) (defBody st_Run_value) (defScope st_Run_value) [] [] f fd) : Binds K fd ["self", "e"] [] := F.bindsN fun _ _ _ _ _ _ us hl => match us, hl with | [_, _], _ => rfl
theorem has_law_draws {K : PySem.W.Frag} (T : He.SaysD fa fn K) : ∃ fd, FunD K "_law_draws" "_law_draws" (defArgs st_law_draws) (defBody st_law_draws) (defScope st_law_draws) [] [] (He.fAd K (Fn.law_draws).at_) fd := T.def_ 11 (d := fnD .law_draws) rfl
theorem bd_law_draws {K : PySem.W.Frag} {f : Addr} {fd : FuncData} (F : FunD K "_law_draws" "_law_draws" (defArgs st_law_draws) (defBody st_law_draws) (defScope st_law_draws) [] [] f fd) : Binds K fd ["script"] [] := F.bindsN fun _ _ _ _ _ _ us hl => match us, hl with | [_], _ => rfl
theorem has_law_next {K : PySem.W.Frag} (T : He.SaysD fa fn K) : ∃ fd, FunD K "_law_next" "_law_next" (defArgs st_law_next) (defBody st_law_next) (defScope st_law_next) [] [] (He.fAd K (Fn.law_next).at_) fd := T.def_ 12 (d := fnD .law_next) rfl
theorem bd_law_next {K : PySem.W.Frag} {f : Addr} {fd : FuncData} (F : FunD K "_law_next" "_law_next" (defArgs st_law_next) (defBody st_law_next) (defScope st_law_next) [] [] f fd) : Binds K fd ["draws", "at", "many"] [] := F.bindsN fun _ _ _ _ _ _ us hl => match us, hl with | [_, _, _], _ => rfl
theorem has_law_big {K : PySem.W.Frag} (T : He.SaysD fa fn K) : ∃ fd, FunD K "_law_big" "_law_big" (defArgs st_law_big) (defBody st_law_big) (defScope st_law_big) [] [] (He.fAd K (Fn.law_big).at_) fd := T.def_ 13 (d := fnD .law_big) rfl
theorem bd_law_big {K : PySem.W.Frag} {f : Addr} {fd : FuncData} (F : FunD K "_law_big" "_law_big" (defArgs st_law_big) (defBody st_law_big) (defScope st_law_big) [] [] f fd) : Binds K fd ["draws", "at", "many"] [] := F.bindsN fun _ _ _ _ _ _ us hl => match us, hl with | [_, _, _], _ => rfl
theorem has_law_expression {K : PySem.W.Frag} (T : He.SaysD fa fn K) : ∃ fd, FunD K "_law_expression" "_law_expression" (defArgs st_law_expression) (defBody st_law_expression) (defScope st_law_expression) [] [] (He.fAd K (Fn.law_expression).at_) fd := T.def_ 14 (d := fnD .law_expression) rfl
theorem bd_law_expression {K : PySem.W.Frag} {f : Addr} {fd : FuncData} (F : FunD K "_law_expression" "_law_expression" (defArgs st_law_expression) (defBody st_law_expression) (defScope st_law_expression) [] [] f fd) : Binds K fd ["draws", "at", "names", "depth"] [] := F.bindsN fun _ _ _ _ _ _ us hl => match us, hl with | [_, _, _, _], _ => rfl
theorem has_law_send {K : PySem.W.Frag} (T : He.SaysD fa fn K) : ∃ fd, FunD K "_law_send" "_law_send" (defArgs st_law_send) (defBody st_law_send) (defScope st_law_send) [] [] (He.fAd K (Fn.law_send).at_) fd := T.def_ 15 (d := fnD .law_send) rfl
theorem bd_law_send {K : PySem.W.Frag} {f : Addr} {fd : FuncData} (F : FunD K "_law_send" "_law_send" (defArgs st_law_send) (defBody st_law_send) (defScope st_law_send) [] [] f fd) : Binds K fd ["draws", "at", "names"] [] := F.bindsN fun _ _ _ _ _ _ us hl => match us, hl with | [_, _, _], _ => rfl
theorem has_law_program {K : PySem.W.Frag} (T : He.SaysD fa fn K) : ∃ fd, FunD K "_law_program" "_law_program" (defArgs st_law_program) (defBody st_law_program) (defScope st_law_program) [] [] (He.fAd K (Fn.law_program).at_) fd := T.def_ 16 (d := fnD .law_program) rfl
theorem bd_law_program {K : PySem.W.Frag} {f : Addr} {fd : FuncData} (F : FunD K "_law_program" "_law_program" (defArgs st_law_program) (defBody st_law_program) (defScope st_law_program) [] [] f fd) : Binds K fd ["draws", "at", "names"] [] := F.bindsN fun _ _ _ _ _ _ us hl => match us, hl with | [_, _, _], _ => rfl
theorem has_law_kind {K : PySem.W.Frag} (T : He.SaysD fa fn K) : ∃ fd, FunD K "_law_kind" "_law_kind" (defArgs st_law_kind) (defBody st_law_kind) (defScope st_law_kind) [] [] (He.fAd K (Fn.law_kind).at_) fd := T.def_ 17 (d := fnD .law_kind) rfl
theorem bd_law_kind {K : PySem.W.Frag} {f : Addr} {fd : FuncData} (F : FunD K "_law_kind" "_law_kind" (defArgs st_law_kind) (defBody st_law_kind) (defScope st_law_kind) [] [] f fd) : Binds K fd ["draws", "at", "name"] [] := F.bindsN fun _ _ _ _ _ _ us hl => match us, hl with | [_, _, _], _ => rfl
theorem has_law_model {K : PySem.W.Frag} (T : He.SaysD fa fn K) : ∃ fd, FunD K "_law_model" "_law_model" (defArgs st_law_model) (defBody st_law_model) (defScope st_law_model) [] [] (He.fAd K (Fn.law_model).at_) fd := T.def_ 18 (d := fnD .law_model) rfl
theorem bd_law_model {K : PySem.W.Frag} {f : Addr} {fd : FuncData} (F : FunD K "_law_model" "_law_model" (defArgs st_law_model) (defBody st_law_model) (defScope st_law_model) [] [] f fd) : Binds K fd ["draws", "at"] [] := F.bindsN fun _ _ _ _ _ _ us hl => match us, hl with | [_, _], _ => rfl
theorem has_law_clamp {K : PySem.W.Frag} (T : He.SaysD fa fn K) : ∃ fd, FunD K "_law_clamp" "_law_clamp" (defArgs st_law_clamp) (defBody st_law_clamp) (defScope st_law_clamp) [] [] (He.fAd K (Fn.law_clamp).at_) fd := T.def_ 19 (d := fnD .law_clamp) rfl
theorem bd_law_clamp {K : PySem.W.Frag} {f : Addr} {fd : FuncData} (F : FunD K "_law_clamp" "_law_clamp" (defArgs st_law_clamp) (defBody st_law_clamp) (defScope st_law_clamp) [] [] f fd) : Binds K fd ["value", "low", "high"] [] := F.bindsN fun _ _ _ _ _ _ us hl => match us, hl with | [_, _, _], _ => rfl
theorem has_law_pair {K : PySem.W.Frag} (T : He.SaysD fa fn K) : ∃ fd, FunD K "_law_pair" "_law_pair" (defArgs st_law_pair) (defBody st_law_pair) (defScope st_law_pair) [] [] (He.fAd K (Fn.law_pair).at_) fd := T.def_ 20 (d := fnD .law_pair) rfl
theorem bd_law_pair {K : PySem.W.Frag} {f : Addr} {fd : FuncData} (F : FunD K "_law_pair" "_law_pair" (defArgs st_law_pair) (defBody st_law_pair) (defScope st_law_pair) [] [] f fd) : Binds K fd ["head", "a", "b"] [] := F.bindsN fun _ _ _ _ _ _ us hl => match us, hl with | [_, _, _], _ => rfl
theorem has_law_value {K : PySem.W.Frag} (T : He.SaysD fa fn K) : ∃ fd, FunD K "_law_value" "_law_value" (defArgs st_law_value) (defBody st_law_value) (defScope st_law_value) [] [] (He.fAd K (Fn.law_value).at_) fd := T.def_ 21 (d := fnD .law_value) rfl
theorem bd_law_value {K : PySem.W.Frag} {f : Addr} {fd : FuncData} (F : FunD K "_law_value" "_law_value" (defArgs st_law_value) (defBody st_law_value) (defScope st_law_value) [] [] f fd) : Binds K fd ["e", "facts"] [] := F.bindsN fun _ _ _ _ _ _ us hl => match us, hl with | [_, _], _ => rfl
theorem has_law_run {K : PySem.W.Frag} (T : He.SaysD fa fn K) : ∃ fd, FunD K "_law_run" "_law_run" (defArgs st_law_run) (defBody st_law_run) (defScope st_law_run) [] [] (He.fAd K (Fn.law_run).at_) fd := T.def_ 22 (d := fnD .law_run) rfl
theorem bd_law_run {K : PySem.W.Frag} {f : Addr} {fd : FuncData} (F : FunD K "_law_run" "_law_run" (defArgs st_law_run) (defBody st_law_run) (defScope st_law_run) [] [] f fd) : Binds K fd ["program", "facts", "ranges"] [] := F.bindsN fun _ _ _ _ _ _ us hl => match us, hl with | [_, _, _], _ => rfl
theorem has_law_kind_of {K : PySem.W.Frag} (T : He.SaysD fa fn K) : ∃ fd, FunD K "_law_kind_of" "_law_kind_of" (defArgs st_law_kind_of) (defBody st_law_kind_of) (defScope st_law_kind_of) [] [] (He.fAd K (Fn.law_kind_of).at_) fd := T.def_ 23 (d := fnD .law_kind_of) rfl
theorem bd_law_kind_of {K : PySem.W.Frag} {f : Addr} {fd : FuncData} (F : FunD K "_law_kind_of" "_law_kind_of" (defArgs st_law_kind_of) (defBody st_law_kind_of) (defScope st_law_kind_of) [] [] f fd) : Binds K fd ["model", "number"] [] := F.bindsN fun _ _ _ _ _ _ us hl => match us, hl with | [_, _], _ => rfl
theorem has_law_happen {K : PySem.W.Frag} (T : He.SaysD fa fn K) : ∃ fd, FunD K "_law_happen" "_law_happen" (defArgs st_law_happen) (defBody st_law_happen) (defScope st_law_happen) [] [] (He.fAd K (Fn.law_happen).at_) fd := T.def_ 24 (d := fnD .law_happen) rfl
theorem bd_law_happen {K : PySem.W.Frag} {f : Addr} {fd : FuncData} (F : FunD K "_law_happen" "_law_happen" (defArgs st_law_happen) (defBody st_law_happen) (defScope st_law_happen) [] [] f fd) : Binds K fd ["model", "number", "state", "time", "name", "arg"] [] := F.bindsN fun _ _ _ _ _ _ us hl => match us, hl with | [_, _, _, _, _, _], _ => rfl
theorem has_law_first {K : PySem.W.Frag} (T : He.SaysD fa fn K) : ∃ fd, FunD K "_law_first" "_law_first" (defArgs st_law_first) (defBody st_law_first) (defScope st_law_first) [] [] (He.fAd K (Fn.law_first).at_) fd := T.def_ 25 (d := fnD .law_first) rfl
theorem bd_law_first {K : PySem.W.Frag} {f : Addr} {fd : FuncData} (F : FunD K "_law_first" "_law_first" (defArgs st_law_first) (defBody st_law_first) (defScope st_law_first) [] [] f fd) : Binds K fd ["model", "number"] [] := F.bindsN fun _ _ _ _ _ _ us hl => match us, hl with | [_, _], _ => rfl
theorem has_law_state {K : PySem.W.Frag} (T : He.SaysD fa fn K) : ∃ fd, FunD K "_law_state" "_law_state" (defArgs st_law_state) (defBody st_law_state) (defScope st_law_state) [] [] (He.fAd K (Fn.law_state).at_) fd := T.def_ 26 (d := fnD .law_state) rfl
theorem bd_law_state {K : PySem.W.Frag} {f : Addr} {fd : FuncData} (F : FunD K "_law_state" "_law_state" (defArgs st_law_state) (defBody st_law_state) (defScope st_law_state) [] [] f fd) : Binds K fd ["model", "number", "draws", "at"] [] := F.bindsN fun _ _ _ _ _ _ us hl => match us, hl with | [_, _, _, _], _ => rfl
theorem has_law_numbers {K : PySem.W.Frag} (T : He.SaysD fa fn K) : ∃ fd, FunD K "_law_numbers" "_law_numbers" (defArgs st_law_numbers) (defBody st_law_numbers) (defScope st_law_numbers) [] [] (He.fAd K (Fn.law_numbers).at_) fd := T.def_ 27 (d := fnD .law_numbers) rfl
theorem bd_law_numbers {K : PySem.W.Frag} {f : Addr} {fd : FuncData} (F : FunD K "_law_numbers" "_law_numbers" (defArgs st_law_numbers) (defBody st_law_numbers) (defScope st_law_numbers) [] [] f fd) : Binds K fd ["row"] [] := F.bindsN fun _ _ _ _ _ _ us hl => match us, hl with | [_], _ => rfl
theorem has_law {K : PySem.W.Frag} (T : He.SaysD fa fn K) : ∃ fd, FunD K "law" "law" (defArgs st_law) (defBody st_law) (defScope st_law) [] [] (He.fAd K (Fn.law).at_) fd := T.def_ 28 (d := fnD .law) rfl
theorem bd_law {K : PySem.W.Frag} {f : Addr} {fd : FuncData} (F : FunD K "law" "law" (defArgs st_law) (defBody st_law) (defScope st_law) [] [] f fd) : Binds K fd ["script"] [] := F.bindsN fun _ _ _ _ _ _ us hl => match us, hl with | [_], _ => rfl
section
variable {P : Program} {w : World} {K : PySem.W.Frag} {mg : Str → Option Value} {base : Heap}
theorem calls0 (T : He.SaysD fa fn K) : ∀ f : Fn, CallOk P w K mg base (gx K) 0 (He.fAd K f.at_) f.ps f.ar (call 0 f)
  | .kind_of => let ⟨fd, F⟩ := has_kind_of T; ⟨fd, no_ok (fun _ _ => rfl) rfl, F.kp, bd_kind_of F⟩
  | .nearest => let ⟨fd, F⟩ := has_nearest T; ⟨fd, no_ok (fun _ _ => rfl) rfl, F.kp, bd_nearest F⟩
  | .run_handler => let ⟨fd, F⟩ := has_run_handler T; ⟨fd, no_ok (fun _ _ => rfl) rfl, F.kp, bd_run_handler F⟩
  | .find_program => let ⟨fd, F⟩ := has_find_program T; ⟨fd, no_ok (fun _ _ => rfl) rfl, F.kp, bd_find_program F⟩
  | .operate => let ⟨fd, F⟩ := has_operate T; ⟨fd, no_ok (fun _ _ => rfl) rfl, F.kp, bd_operate F⟩
  | .Run_init => let ⟨fd, F⟩ := has_Run_init T; ⟨fd, no_ok (fun _ _ => rfl) rfl, F.kp, bd_Run_init F⟩
  | .Run_state => let ⟨fd, F⟩ := has_Run_state T; ⟨fd, no_ok (fun _ _ => rfl) rfl, F.kp, bd_Run_state F⟩
  | .Run_program => let ⟨fd, F⟩ := has_Run_program T; ⟨fd, no_ok (fun _ _ => rfl) rfl, F.kp, bd_Run_program F⟩
  | .Run_statement => let ⟨fd, F⟩ := has_Run_statement T; ⟨fd, no_ok (fun _ _ => rfl) rfl, F.kp, bd_Run_statement F⟩
  | .Run_send => let ⟨fd, F⟩ := has_Run_send T; ⟨fd, no_ok (fun _ _ => rfl) rfl, F.kp, bd_Run_send F⟩
  | .Run_value => let ⟨fd, F⟩ := has_Run_value T; ⟨fd, no_ok (fun _ _ => rfl) rfl, F.kp, bd_Run_value F⟩
  | .law_draws => let ⟨fd, F⟩ := has_law_draws T; ⟨fd, no_ok (fun _ _ => rfl) rfl, F.kp, bd_law_draws F⟩
  | .law_next => let ⟨fd, F⟩ := has_law_next T; ⟨fd, no_ok (fun _ _ => rfl) rfl, F.kp, bd_law_next F⟩
  | .law_big => let ⟨fd, F⟩ := has_law_big T; ⟨fd, no_ok (fun _ _ => rfl) rfl, F.kp, bd_law_big F⟩
  | .law_expression => let ⟨fd, F⟩ := has_law_expression T; ⟨fd, no_ok (fun _ _ => rfl) rfl, F.kp, bd_law_expression F⟩
  | .law_send => let ⟨fd, F⟩ := has_law_send T; ⟨fd, no_ok (fun _ _ => rfl) rfl, F.kp, bd_law_send F⟩
  | .law_program => let ⟨fd, F⟩ := has_law_program T; ⟨fd, no_ok (fun _ _ => rfl) rfl, F.kp, bd_law_program F⟩
  | .law_kind => let ⟨fd, F⟩ := has_law_kind T; ⟨fd, no_ok (fun _ _ => rfl) rfl, F.kp, bd_law_kind F⟩
  | .law_model => let ⟨fd, F⟩ := has_law_model T; ⟨fd, no_ok (fun _ _ => rfl) rfl, F.kp, bd_law_model F⟩
  | .law_clamp => let ⟨fd, F⟩ := has_law_clamp T; ⟨fd, no_ok (fun _ _ => rfl) rfl, F.kp, bd_law_clamp F⟩
  | .law_pair => let ⟨fd, F⟩ := has_law_pair T; ⟨fd, no_ok (fun _ _ => rfl) rfl, F.kp, bd_law_pair F⟩
  | .law_value => let ⟨fd, F⟩ := has_law_value T; ⟨fd, no_ok (fun _ _ => rfl) rfl, F.kp, bd_law_value F⟩
  | .law_run => let ⟨fd, F⟩ := has_law_run T; ⟨fd, no_ok (fun _ _ => rfl) rfl, F.kp, bd_law_run F⟩
  | .law_kind_of => let ⟨fd, F⟩ := has_law_kind_of T; ⟨fd, no_ok (fun _ _ => rfl) rfl, F.kp, bd_law_kind_of F⟩
  | .law_happen => let ⟨fd, F⟩ := has_law_happen T; ⟨fd, no_ok (fun _ _ => rfl) rfl, F.kp, bd_law_happen F⟩
  | .law_first => let ⟨fd, F⟩ := has_law_first T; ⟨fd, no_ok (fun _ _ => rfl) rfl, F.kp, bd_law_first F⟩
  | .law_state => let ⟨fd, F⟩ := has_law_state T; ⟨fd, no_ok (fun _ _ => rfl) rfl, F.kp, bd_law_state F⟩
  | .law_numbers => let ⟨fd, F⟩ := has_law_numbers T; ⟨fd, no_ok (fun _ _ => rfl) rfl, F.kp, bd_law_numbers F⟩
  | .law => let ⟨fd, F⟩ := has_law T; ⟨fd, no_ok (fun _ _ => rfl) rfl, F.kp, bd_law F⟩
theorem callsS (T : He.SaysD fa fn K) {k : Nat} (E : Env P w K mg base k (call k)) : ∀ f : Fn, CallOk P w K mg base (gx K) (2 * k + 2) (He.fAd K f.at_) f.ps f.ar (call (k + 1) f)
  | .kind_of => let ⟨fd, F⟩ := has_kind_of T; ⟨fd, ok_kind_of E F, F.kp, bd_kind_of F⟩
  | .nearest => let ⟨fd, F⟩ := has_nearest T; ⟨fd, ok_nearest E F, F.kp, bd_nearest F⟩
  | .run_handler => let ⟨fd, F⟩ := has_run_handler T; ⟨fd, ok_run_handler E F, F.kp, bd_run_handler F⟩
  | .find_program => let ⟨fd, F⟩ := has_find_program T; ⟨fd, ok_find_program E F, F.kp, bd_find_program F⟩
  | .operate => let ⟨fd, F⟩ := has_operate T; ⟨fd, ok_operate E F, F.kp, bd_operate F⟩
  | .Run_init => let ⟨fd, F⟩ := has_Run_init T; ⟨fd, ok_Run_init E F, F.kp, bd_Run_init F⟩
  | .Run_state => let ⟨fd, F⟩ := has_Run_state T; ⟨fd, ok_Run_state E F, F.kp, bd_Run_state F⟩
  | .Run_program => let ⟨fd, F⟩ := has_Run_program T; ⟨fd, ok_Run_program E F, F.kp, bd_Run_program F⟩
  | .Run_statement => let ⟨fd, F⟩ := has_Run_statement T; ⟨fd, ok_Run_statement E F, F.kp, bd_Run_statement F⟩
  | .Run_send => let ⟨fd, F⟩ := has_Run_send T; ⟨fd, ok_Run_send E F, F.kp, bd_Run_send F⟩
  | .Run_value => let ⟨fd, F⟩ := has_Run_value T; ⟨fd, ok_Run_value E F, F.kp, bd_Run_value F⟩
  | .law_draws => let ⟨fd, F⟩ := has_law_draws T; ⟨fd, ok_law_draws E F, F.kp, bd_law_draws F⟩
  | .law_next => let ⟨fd, F⟩ := has_law_next T; ⟨fd, ok_law_next E F, F.kp, bd_law_next F⟩
  | .law_big => let ⟨fd, F⟩ := has_law_big T; ⟨fd, ok_law_big E F, F.kp, bd_law_big F⟩
  | .law_expression => let ⟨fd, F⟩ := has_law_expression T; ⟨fd, ok_law_expression E F, F.kp, bd_law_expression F⟩
  | .law_send => let ⟨fd, F⟩ := has_law_send T; ⟨fd, ok_law_send E F, F.kp, bd_law_send F⟩
  | .law_program => let ⟨fd, F⟩ := has_law_program T; ⟨fd, ok_law_program E F, F.kp, bd_law_program F⟩
  | .law_kind => let ⟨fd, F⟩ := has_law_kind T; ⟨fd, ok_law_kind E F, F.kp, bd_law_kind F⟩
  | .law_model => let ⟨fd, F⟩ := has_law_model T; ⟨fd, ok_law_model E F, F.kp, bd_law_model F⟩
  | .law_clamp => let ⟨fd, F⟩ := has_law_clamp T; ⟨fd, ok_law_clamp E F, F.kp, bd_law_clamp F⟩
  | .law_pair => let ⟨fd, F⟩ := has_law_pair T; ⟨fd, ok_law_pair E F, F.kp, bd_law_pair F⟩
  | .law_value => let ⟨fd, F⟩ := has_law_value T; ⟨fd, ok_law_value E F, F.kp, bd_law_value F⟩
  | .law_run => let ⟨fd, F⟩ := has_law_run T; ⟨fd, ok_law_run E F, F.kp, bd_law_run F⟩
  | .law_kind_of => let ⟨fd, F⟩ := has_law_kind_of T; ⟨fd, ok_law_kind_of E F, F.kp, bd_law_kind_of F⟩
  | .law_happen => let ⟨fd, F⟩ := has_law_happen T; ⟨fd, ok_law_happen E F, F.kp, bd_law_happen F⟩
  | .law_first => let ⟨fd, F⟩ := has_law_first T; ⟨fd, ok_law_first E F, F.kp, bd_law_first F⟩
  | .law_state => let ⟨fd, F⟩ := has_law_state T; ⟨fd, ok_law_state E F, F.kp, bd_law_state F⟩
  | .law_numbers => let ⟨fd, F⟩ := has_law_numbers T; ⟨fd, ok_law_numbers E F, F.kp, bd_law_numbers F⟩
  | .law => let ⟨fd, F⟩ := has_law T; ⟨fd, ok_law E F, F.kp, bd_law F⟩
theorem env_all (T : Top K mg fa fn) (tb : ∀ (i : Nat) {p : Str × Option Str}, tf[i]? = some p → GxR.TabB base mg (He.cT K p).1 (He.cT K p).2) (ak : ∀ (i : Nat) {q : Ask}, asks[i]? = some q → Asked K (He.ga K q.1) (He.ga K q.2.1) q.2.2) : ∀ k, Env P w K mg base k (call k)
  | 0 => ⟨T, calls0 T.says, tb, ak⟩
  | k + 1 => ⟨T, callsS T.says (env_all T tb ak k), tb, ak⟩
end
def names0 : List Str := ["LIMIT", "MOST_DELAY", "MOST_NUMBER", "kind_of", "nearest", "run_handler", "find_program", "operate", "Run", "_law_draws", "_law_next", "_law_big", "_law_expression", "_law_send", "_law_program", "_law_kind", "_law_model", "_law_clamp", "_law_pair", "_law_value", "_law_run", "_law_kind_of", "_law_happen", "_law_first", "_law_state", "_law_numbers"]
def names : List Str := names0
def exB (K : PySem.W.Frag) : Bool := asks.all (askB K)
abbrev R : PySem.W.OpenRow := PySem.W.OpenLaw.row PySem.Challenge.rw_vancourier_k02_handlers
abbrev hk : PySem.W.Hook := He.hookX 6 fa fn [] tf exB
def ob (s : PySem.W.SharedT) : He.AlX := He.obsX 6 fa fn [] tf exB (HandSHeadRun.getT s)
theorem ob_eq (s : PySem.W.SharedT) : ob s = hk.obs s.abs := He.obsX_eq (HandSHeadRun.getT_eq s)
end Pr

set_option Elab.async false
set_option linter.all false
set_option maxRecDepth 100000
set_option maxHeartbeats 0
/-! the head: what the top leaves; the law from the pure statement -/
namespace Pr
open PySem PySem.Spec PyProof.Rows L2 Core
theorem run (w : World) : HandSHeadRun.RunEq R (PySem.W.view R.prog [29]) hk ob 2000 names w := by
  intro os
  kernel_rfl
end Pr

set_option Elab.async false
set_option linter.all false
set_option maxRecDepth 100000
set_option maxHeartbeats 0
namespace Pr
open PySem PySem.Spec PyProof.Rows L2 Core
/-- what is left: the law's def, so many calls deep, on a store of the script alone -/
def PureLaw (N : Nat) : Prop := ∀ ns : List Int, ns.length ≤ 63 → (∀ z ∈ ns, Builtin.Int.intBits z ≤ 1048576) → ∀ o : Ob, (o = .lst (ns.map D.int) ∨ o = .frz (ns.map D.int)) → ∃ s', call N .law [.ref 0] [o] = .ok (.bl true) s'
theorem law_at {N : Nat} (hp : PureLaw (N + 1)) (w : World) (mg : Str → Option Value) (fA : Addr) (h : Heap) (Y : hk.says w h) (G : h.Ns mainGlobals mg) (hmg : mg "law" = some (.ref fA)) :
    ∃ K : PySem.W.Frag, K.In h ∧ LamX.LawAtS PySem.Challenge.rw_vancourier_k02_handlers w K (L2.CX (PySem.Challenge.rw_vancourier_k02_handlers).prog w) (2 * N + 2) 63 "script" mg fA h := by
  obtain ⟨K, KX, c⟩ := Y
  have T : Top K mg fa fn := ⟨c.t.d, h, KX, G⟩
  have e := hmg.symm.trans (T.glo 49 (x := "law") rfl)
  cases e
  obtain ⟨fd, F⟩ := has_law T.says
  have ak : ∀ (i : Nat) {q : Ask}, asks[i]? = some q → Asked K (He.ga K q.1) (He.ga K q.2.1) q.2.2 := fun i q e => askB_ok (List.all_eq_true.mp c.more q (List.mem_of_getElem? e))
  refine ⟨K, KX, fd, tf.map (He.cT K), spOf (gx K) 1 (call (N + 1) .law), fun p hp => ?_, fun p hp => ?_, fun p hp => ?_, fun s u => F.bindsA (ps := ["script"]) (fun _ _ _ _ _ _ us hl => match us, hl with | [_], _ => rfl) s [u] rfl, fun H a ns hl hb hH hS => ?_, fun base KB NB TB => ?_⟩
  · obtain ⟨q, hq, rfl⟩ := List.mem_map.mp hp
    exact c.empty q hq
  · obtain ⟨q, hq, rfl⟩ := List.mem_map.mp hp
    exact c.out q hq
  · obtain ⟨q, hq, rfl⟩ := List.mem_map.mp hp
    exact PySem.W.codeHd_of_K KX (c.hd q hq)
  · refine sp_end (G := gx K) hl (fun P hP => ?_) hS (hp ns hl hb)
    obtain ⟨q, hq, rfl⟩ := List.mem_map.mp hP
    exact hH _ (List.mem_map_of_mem hq)
  · have E := env_all (P := (PySem.Challenge.rw_vancourier_k02_handlers).prog) (w := w) (base := base) ⟨c.t.d, h, KX, G⟩ (fun i p e => let z := TB _ (List.mem_map_of_mem (List.mem_of_getElem? e)); ⟨z.code, z.bm, z.gP⟩) ak N
    exact ok_law E F
theorem holds {N : Nat} (hN : Room (2 * N + 2) callerA) (hp : PureLaw (N + 1)) : PySem.Challenge.rw_vancourier_k02_handlers.Holds := by
  open PySem PySem.W PySem.Calls PyProof.Rows in
  w_on; o_law
  refine HandSHeadRun.head_any (r := OpenLaw.row PySem.Challenge.rw_vancourier_k02_handlers) (q := view (OpenLaw.row PySem.Challenge.rw_vancourier_k02_handlers).prog [29]) (H := hk) (ob := ob) (M := 2000) (loose := names) (d := HandSHeadRun.topDef (OpenLaw.row PySem.Challenge.rw_vancourier_k02_handlers).prog 29) (kwd := []) ob_eq
    (by kernel_rfl) (fun s => by kernel_rfl) run (by kernel_rfl) (by kernel_rfl) (by kernel_rfl) (by rfl) (by first | assumption | decide +kernel) (by decide +kernel) ⟨rfl, rfl, rfl, rfl, rfl, by decide +kernel⟩ ?hw ?hc
  case hw => w_witness2
  case hc =>
    refine LamX.walk_ofTsE (l := PySem.Challenge.rw_vancourier_k02_handlers) (n := 63) (k := 2 * N + 2) (x := "script") (CX := L2.CX (PySem.Challenge.rw_vancourier_k02_handlers).prog) rfl (by decide) (by kernel_rfl) hN ?F (fun _ _ _ _ _ z => cx_end z)
    intro w mg fA h Y G hmg0
    have hmg : mg ("law" : PySem.Str) = some (.ref fA) := by
      have e : (HandSHeadRun.topDef (OpenLaw.row PySem.Challenge.rw_vancourier_k02_handlers).prog 29).name = ("law" : PySem.Str) := by kernel_rfl
      rw [← e]
      exact hmg0
    exact law_at hp w mg fA h Y G hmg
end Pr

set_option Elab.async false
set_option linter.all false
set_option maxRecDepth 100000
set_option maxHeartbeats 4000000
/-! drawn expressions -/
namespace Pr
open PySem PySem.Spec PyProof.Rows L2 Core
inductive Wx (names : List Str) : Nat → D → Nat → Prop
  | int {h : Nat} {v : Int} : tyI (.int v) (-999) 999 = true → Wx names (h + 1) (.tup [.str "int", .int v]) 1
  | fld {h : Nat} {x : Str} : x ∈ names → Wx names (h + 1) (.tup [.str "field", .str x]) 1
  | leaf {h : Nat} {z : Str} : z ∈ ops1 → Wx names (h + 1) (.tup [.str z]) 1
  | neg {h c : Nat} {a : D} : Wx names h a c → Wx names (h + 1) (.tup [.str "not", a]) (c + 1)
  | div {h c : Nat} {a : D} {z : Str} {v : Int} : z ∈ ops2 → Wx names h a c → tyI (.int v) 1 999 = true → Wx names (h + 1) (.tup [.str z, a, .int v]) (c + 1)
  | bin {h c c' : Nat} {a b : D} {z : Str} : z ∈ ops3 → Wx names h a c → Wx names h b c' → Wx names (h + 1) (.tup [.str z, a, b]) (c + c' + 1)
theorem Wx.le {names : List Str} {h c : Nat} {e : D} (w : Wx names h e c) : c + 1 ≤ 2 ^ h ∧ 1 ≤ h := by
  induction w with
  | int _ => refine ⟨?_, by omega⟩; rename_i h _ _; have := Nat.one_le_two_pow (n := h); rw [Nat.pow_succ]; omega
  | fld _ => refine ⟨?_, by omega⟩; rename_i h _ _; have := Nat.one_le_two_pow (n := h); rw [Nat.pow_succ]; omega
  | leaf _ => refine ⟨?_, by omega⟩; rename_i h _ _; have := Nat.one_le_two_pow (n := h); rw [Nat.pow_succ]; omega
  | neg _ ih => refine ⟨?_, by omega⟩; rw [Nat.pow_succ]; omega
  | div _ _ _ ih => refine ⟨?_, by omega⟩; rw [Nat.pow_succ]; omega
  | bin _ _ _ ih1 ih2 => refine ⟨?_, by omega⟩; rw [Nat.pow_succ]; omega
theorem Wx.up {names : List Str} {h c : Nat} {e : D} (w : Wx names h e c) : ∀ {h' : Nat}, h ≤ h' → Wx names h' e c := by
  induction w with
  | int a => intro h' hh; obtain ⟨m, rfl⟩ : ∃ m, h' = m + 1 := ⟨h' - 1, by omega⟩; exact .int a
  | fld a => intro h' hh; obtain ⟨m, rfl⟩ : ∃ m, h' = m + 1 := ⟨h' - 1, by omega⟩; exact .fld a
  | leaf a => intro h' hh; obtain ⟨m, rfl⟩ : ∃ m, h' = m + 1 := ⟨h' - 1, by omega⟩; exact .leaf a
  | neg _ ih => intro h' hh; obtain ⟨m, rfl⟩ : ∃ m, h' = m + 1 := ⟨h' - 1, by omega⟩; exact .neg (ih (by omega))
  | div a _ b ih => intro h' hh; obtain ⟨m, rfl⟩ : ∃ m, h' = m + 1 := ⟨h' - 1, by omega⟩; exact .div a (ih (by omega)) b
  | bin a _ _ ih ih' => intro h' hh; obtain ⟨m, rfl⟩ : ∃ m, h' = m + 1 := ⟨h' - 1, by omega⟩; exact .bin a (ih (by omega)) (ih' (by omega))
section
variable {s : Mem} {k dr at_ nm : Nat} {names : List Str}
theorem c_law_next (g : Gs dr at_ s) {many : Int} (hm : 1 ≤ many) : Dr dr at_ s (inR 0 many) (call (k + 1) .law_next [.ref dr, .ref at_, .int many] s) := by
  show Dr dr at_ s (inR 0 many) (Core.fin (m_law_next (call k) [some (.ref dr), some (.ref at_), some (.int many), none] s))
  obtain ⟨⟨xs, h1⟩, ⟨i, h2⟩, h3⟩ := g
  have al : at_ < s.length := (List.getElem?_eq_some_iff.mp h2).1
  have i0 : gIx (.ref at_) (.int 0) s = .ok (.int i) s := ix_lst (i := 0) h2 rfl
  have h1' : (s.set at_ (.lst [.int ((i : Int) + 1)]))[dr]? = some (.lst (xs.map D.int)) := by rw [List.getElem?_set_ne (Ne.symm h3)]; exact h1
  have h2' : (s.set at_ (.lst [.int ((i : Int) + 1)]))[at_]? = some (.lst [.int ((i + 1 : Nat) : Int)]) := by rw [List.getElem?_set_self al]; rfl
  have gs : Gs dr at_ (s.set at_ (.lst [.int ((i : Int) + 1)])) := ⟨⟨xs, h1'⟩, ⟨i + 1, h2'⟩, h3⟩
  have gt : Gt at_ s (s.set at_ (.lst [.int ((i : Int) + 1)])) := ⟨by simp, fun n o hn e => by rw [List.getElem?_set_ne (Ne.symm hn)]; exact e⟩
  have ix : ixN (1 : Nat) (0 : Int) = some 0 := by decide
  unfold m_law_next
  simp only [mSeq, mExpr, mRet, mRetN, mIfS, mSet, mAug, mCall, mCons, mNil, mVar, mC, mOp, mUn, mApp, mTup, mLst, mNx, mRaise, mAnd, mOr, mNot, mIf, tstB, tstAnd, tstOr, tstNot, mChain, bind_ok, bind_err, bind_no, toS_ok, toS_err, nox_ok, fin_nx, fin_rt, fin_err, startL, List.map_cons, List.map_nil, List.length_cons, List.length_nil, List.cons_append, List.nil_append, List.getElem?_cons_zero, List.getElem?_cons_succ, List.set_cons_zero, List.set_cons_succ, List.replicate_succ, List.replicate_zero, Nat.zero_add, Nat.reduceAdd, Nat.reduceSub, Nat.add_one_sub_one, Nat.sub_self, if_true, if_false, ite_true, ite_false, Bool.false_eq_true, reduceCtorEq, if_pos, Nat.reduceEqDiff, Nat.reduceLeDiff, decide_true, decide_false, Bool.not_true, Bool.not_false, i0, mSub, gAdd, h2, ix, gLen, sq_lst h1', gOrd]
  by_cases hl : i < xs.length
  · have e1 : decide ((i : Int) < ((xs.map D.int).length : Int)) = true := decide_eq_true (by rw [List.length_map]; omega)
    have e2 : gIx (.ref dr) (.int i) (s.set at_ (.lst [.int ((i : Int) + 1)])) = .ok (.int xs[i]) (s.set at_ (.lst [.int ((i : Int) + 1)])) := ix_lst h1' (by rw [List.getElem?_map, List.getElem?_eq_getElem hl]; rfl)
    simp only [mSeq, mExpr, mRet, mRetN, mIfS, mSet, mAug, mCall, mCons, mNil, mVar, mC, mOp, mUn, mApp, mTup, mLst, mNx, mRaise, mAnd, mOr, mNot, mIf, tstB, tstAnd, tstOr, tstNot, mChain, bind_ok, bind_err, bind_no, toS_ok, toS_err, nox_ok, fin_nx, fin_rt, fin_err, startL, List.map_cons, List.map_nil, List.length_cons, List.length_nil, List.cons_append, List.nil_append, List.getElem?_cons_zero, List.getElem?_cons_succ, List.set_cons_zero, List.set_cons_succ, List.replicate_succ, List.replicate_zero, Nat.zero_add, Nat.reduceAdd, Nat.reduceSub, Nat.add_one_sub_one, Nat.sub_self, if_true, if_false, ite_true, ite_false, Bool.false_eq_true, reduceCtorEq, if_pos, Nat.reduceEqDiff, Nat.reduceLeDiff, decide_true, decide_false, Bool.not_true, Bool.not_false, e1, e2, gInt1, gMod, gI2C, decide_eq_true (show (0 : Int) < many by omega)]
    exact ⟨_, _, rfl, ⟨_, rfl, Int.emod_nonneg _ (by omega), Int.emod_lt_of_pos _ (by omega)⟩, gs, gt⟩
  · have e1 : decide ((i : Int) < ((xs.map D.int).length : Int)) = false := decide_eq_false (by rw [List.length_map]; omega)
    simp only [mSeq, mExpr, mRet, mRetN, mIfS, mSet, mAug, mCall, mCons, mNil, mVar, mC, mOp, mUn, mApp, mTup, mLst, mNx, mRaise, mAnd, mOr, mNot, mIf, tstB, tstAnd, tstOr, tstNot, mChain, bind_ok, bind_err, bind_no, toS_ok, toS_err, nox_ok, fin_nx, fin_rt, fin_err, startL, List.map_cons, List.map_nil, List.length_cons, List.length_nil, List.cons_append, List.nil_append, List.getElem?_cons_zero, List.getElem?_cons_succ, List.set_cons_zero, List.set_cons_succ, List.replicate_succ, List.replicate_zero, Nat.zero_add, Nat.reduceAdd, Nat.reduceSub, Nat.add_one_sub_one, Nat.sub_self, if_true, if_false, ite_true, ite_false, Bool.false_eq_true, reduceCtorEq, if_pos, Nat.reduceEqDiff, Nat.reduceLeDiff, decide_true, decide_false, Bool.not_true, Bool.not_false, e1]
    exact ⟨_, _, rfl, ⟨0, rfl, by omega, by omega⟩, gs, gt⟩
theorem leaf_ok (g : Gs dr at_ s) (hnm : s[nm]? = some (.lst (names.map D.str))) (hne : nm ≠ at_) (h0 : 1 ≤ names.length) (h : Nat) (d v : Int) :
    ∃ e s', (mSeq (mSet 5 (mLst (mCons (mTup (mCons (mC (.str "int")) (mCons (mOp Core.gSub (mCall 3 (call (k + 1) .law_next) (mCons (mVar 0) (mCons (mVar 1) (mCons (mC (.int 19)) mNil)))) (mC (.int 9))) mNil))) (mCons (mTup (mCons (mC (.str "field")) (mCons (mOp gIx (mVar 2) (mCall 3 (call (k + 1) .law_next) (mCons (mVar 0) (mCons (mVar 1) (mCons (mApp gLen (mCons (mVar 2) mNil)) mNil))))) mNil))) (mCons (mTup (mCons (mC (.str "arg")) mNil)) (mCons (mTup (mCons (mC (.str "now")) mNil)) mNil))))))
    (mSeq (mSet 5 (mOp Core.gAdd (mVar 5) (mLst (mCons (mTup (mCons (mC (.str "self")) mNil)) (mCons (mTup (mCons (mC (.str "int")) (mCons (mOp gMulA (mCall 3 (call (k + 1) .law_next) (mCons (mVar 0) (mCons (mVar 1) (mCons (mC (.int 999)) mNil)))) (mOp gIx (mLst (mCons (mC (.int 1)) (mCons (mUn gNeg (mC (.int 1))) mNil))) (mCall 3 (call (k + 1) .law_next) (mCons (mVar 0) (mCons (mVar 1) (mCons (mC (.int 2)) mNil)))))) mNil))) mNil)))))
    (mRet (mOp gIx (mVar 5) (mCall 3 (call (k + 1) .law_next) (mCons (mVar 0) (mCons (mVar 1) (mCons (mC (.int 6)) mNil)))))))) [some (.ref dr), some (.ref at_), some (.ref nm), some (.int d), some (.int v), none, none, none] s = .rt e s' ∧ (∃ c, Wx names (h + 1) e c) ∧ Gs dr at_ s' ∧ Gt at_ s s' := by
  obtain ⟨_, s1, e1, ⟨v1, rfl, a1, b1⟩, g1, t1⟩ := c_law_next (k := k) g (many := 19) (by omega)
  have hn1 := t1.old nm _ hne hnm
  obtain ⟨_, s2, e2, ⟨v2, rfl, a2, b2⟩, g2, t2⟩ := c_law_next (k := k) g1 (many := (names.map D.str).length) (by rw [List.length_map]; omega)
  have hn2 := t2.old nm _ hne hn1
  obtain ⟨x, hx, p2⟩ := pickN hn2 a2 (by rw [List.length_map] at b2; exact b2)
  simp only [mSeq, mExpr, mRet, mRetN, mIfS, mSet, mAug, mCall, mCons, mNil, mVar, mC, mOp, mUn, mApp, mTup, mLst, mNx, mRaise, mAnd, mOr, mNot, mIf, tstB, tstAnd, tstOr, tstNot, mChain, bind_ok, bind_err, bind_no, toS_ok, toS_err, nox_ok, fin_nx, fin_rt, fin_err, startL, List.map_cons, List.map_nil, List.length_cons, List.length_nil, List.cons_append, List.nil_append, List.getElem?_cons_zero, List.getElem?_cons_succ, List.set_cons_zero, List.set_cons_succ, List.replicate_succ, List.replicate_zero, Nat.zero_add, Nat.reduceAdd, Nat.reduceSub, Nat.add_one_sub_one, Nat.sub_self, if_true, if_false, ite_true, ite_false, Bool.false_eq_true, reduceCtorEq, if_pos, Nat.reduceEqDiff, Nat.reduceLeDiff, decide_true, decide_false, Bool.not_true, Bool.not_false, e1, Core.gSub, gI2, gLen, sq_lst hn1, e2, p2]
  obtain ⟨L1, hL1⟩ : ∃ L : List D, L = [.tup [.str "int", .int (v1 - 9)], .tup [.str "field", .str x], .tup [.str "arg"], .tup [.str "now"]] := ⟨_, rfl⟩
  rw [← hL1]
  have g3 : Gs dr at_ (s2 ++ [Ob.lst L1]) := g2.app
  have r1 : (s2 ++ [Ob.lst L1])[s2.length]? = some (Ob.lst L1) := last_at
  obtain ⟨_, s4, e4, ⟨v4, rfl, a4, b4⟩, g4, t4⟩ := c_law_next (k := k) g3 (many := 999) (by omega)
  have r4 := t4.old _ _ (Nat.ne_of_gt g2.lt) r1
  have g5 : Gs dr at_ (s4 ++ [Ob.lst [.int 1, .int (-1)]]) := g4.app
  obtain ⟨_, s6, e6, ⟨v6, rfl, a6, b6⟩, g6, t6⟩ := c_law_next (k := k) g5 (many := 2) (by omega)
  have q6 : s6[s4.length]? = some (Ob.lst [.int 1, .int (-1)]) := t6.fresh (s1 := s6) g4.lt
  have r6 : s6[s2.length]? = some (Ob.lst L1) := t6.old _ _ (Nat.ne_of_gt g2.lt) (Gt.app.old _ _ (Nat.ne_of_gt g2.lt) r4)
  obtain ⟨j6, hj6, rfl, p6⟩ := pickL q6 a6 b6
  obtain ⟨sg, hsg, hs1⟩ : ∃ sg : Int, ([.int 1, .int (-1)] : List D)[j6] = .int sg ∧ (sg = 1 ∨ sg = -1) := by
    match j6, hj6 with
    | 0, _ => exact ⟨1, rfl, .inl rfl⟩
    | 1, _ => exact ⟨-1, rfl, .inr rfl⟩
  rw [hsg] at p6
  have mu : gMulA (.int v4) (.int sg) s6 = .ok (.int (v4 * sg)) s6 := by
    show (if (-(2 ^ 64) < v4 ∧ v4 < 2 ^ 64) ∨ (-(2 ^ 64) < sg ∧ sg < 2 ^ 64) then Core.R.ok (D.int (v4 * sg)) s6 else .no) = _
    rw [if_pos (.inl ⟨by omega, by omega⟩)]
  obtain ⟨L2_, hL2⟩ : ∃ L : List D, L = [.tup [.str "self"], .tup [.str "int", .int (v4 * sg)]] := ⟨_, rfl⟩
  have r7 : (s6 ++ [Ob.lst L2_])[s2.length]? = some (Ob.lst L1) := Gt.app.old _ _ (Nat.ne_of_gt g2.lt) r6
  have ad : Core.gAdd (.ref s2.length) (.ref s6.length) (s6 ++ [Ob.lst L2_]) = .ok (.ref (s6 ++ [Ob.lst L2_]).length) (s6 ++ [Ob.lst L2_] ++ [Ob.lst (L1 ++ L2_)]) := add_lst r7 last_at (by rw [hL1, hL2]; show 4 + 2 ≤ 100000; omega)
  have g8 : Gs dr at_ (s6 ++ [Ob.lst L2_] ++ [Ob.lst (L1 ++ L2_)]) := g6.app.app
  obtain ⟨_, s9, e9, ⟨v9, rfl, a9, b9⟩, g9, t9⟩ := c_law_next (k := k) g8 (many := 6) (by omega)
  have q9 : s9[(s6 ++ [Ob.lst L2_]).length]? = some (Ob.lst (L1 ++ L2_)) := t9.fresh (s1 := s9) g6.app.lt
  obtain ⟨j9, hj9, rfl, p9⟩ := pickL q9 a9 (by rw [hL1, hL2]; exact b9)
  simp only [mSeq, mExpr, mRet, mRetN, mIfS, mSet, mAug, mCall, mCons, mNil, mVar, mC, mOp, mUn, mApp, mTup, mLst, mNx, mRaise, mAnd, mOr, mNot, mIf, tstB, tstAnd, tstOr, tstNot, mChain, bind_ok, bind_err, bind_no, toS_ok, toS_err, nox_ok, fin_nx, fin_rt, fin_err, startL, List.map_cons, List.map_nil, List.length_cons, List.length_nil, List.cons_append, List.nil_append, List.getElem?_cons_zero, List.getElem?_cons_succ, List.set_cons_zero, List.set_cons_succ, List.replicate_succ, List.replicate_zero, Nat.zero_add, Nat.reduceAdd, Nat.reduceSub, Nat.add_one_sub_one, Nat.sub_self, if_true, if_false, ite_true, ite_false, Bool.false_eq_true, reduceCtorEq, if_pos, Nat.reduceEqDiff, Nat.reduceLeDiff, decide_true, decide_false, Bool.not_true, Bool.not_false, e4, gNeg, e6, p6, mu]
  rw [← hL2]
  simp only [mSeq, mExpr, mRet, mRetN, mIfS, mSet, mAug, mCall, mCons, mNil, mVar, mC, mOp, mUn, mApp, mTup, mLst, mNx, mRaise, mAnd, mOr, mNot, mIf, tstB, tstAnd, tstOr, tstNot, mChain, bind_ok, bind_err, bind_no, toS_ok, toS_err, nox_ok, fin_nx, fin_rt, fin_err, startL, List.map_cons, List.map_nil, List.length_cons, List.length_nil, List.cons_append, List.nil_append, List.getElem?_cons_zero, List.getElem?_cons_succ, List.set_cons_zero, List.set_cons_succ, List.replicate_succ, List.replicate_zero, Nat.zero_add, Nat.reduceAdd, Nat.reduceSub, Nat.add_one_sub_one, Nat.sub_self, if_true, if_false, ite_true, ite_false, Bool.false_eq_true, reduceCtorEq, if_pos, Nat.reduceEqDiff, Nat.reduceLeDiff, decide_true, decide_false, Bool.not_true, Bool.not_false, ad, e9, p9]
  refine ⟨_, _, rfl, ?_, g9, (t1.trans t2).trans (Gt.app.trans (t4.trans (Gt.app.trans (t6.trans (Gt.app.trans (Gt.app.trans t9))))))⟩
  subst hL1 hL2
  match j9, hj9 with
  | 0, _ => exact ⟨1, .int (by show (decide ((-999 : Int) ≤ v1 - 9) && decide (v1 - 9 ≤ 999)) = true; rw [decide_eq_true (by omega), decide_eq_true (by omega)]; rfl)⟩
  | 1, _ => exact ⟨1, .fld hx⟩
  | 2, _ => exact ⟨1, .leaf (by decide +kernel)⟩
  | 3, _ => exact ⟨1, .leaf (by decide +kernel)⟩
  | 4, _ => exact ⟨1, .leaf (by decide +kernel)⟩
  | 5, _ =>
    refine ⟨1, .int ?_⟩
    show (decide ((-999 : Int) ≤ v4 * sg) && decide (v4 * sg ≤ 999)) = true
    rcases hs1 with rfl | rfl <;> rw [decide_eq_true (by omega), decide_eq_true (by omega)] <;> rfl
end
section
variable {s0 : Mem} {k0 dr at_ nm : Nat} {names : List Str}
theorem c_law_expression (h0 : 1 ≤ names.length) (hne : nm ≠ at_) : ∀ (d k : Nat) (s : Mem), Gs dr at_ s → s[nm]? = some (.lst (names.map D.str)) →
    Dr dr at_ s (fun e => ∃ c, Wx names (d + 1) e c) (call (k + d + 2) .law_expression [.ref dr, .ref at_, .ref nm, .int d] s)
  | d, k, s, g, hnm => by
    show Dr dr at_ s _ (Core.fin (m_law_expression (call (k + d + 1)) [some (.ref dr), some (.ref at_), some (.ref nm), some (.int d), none, none, none, none] s))
    obtain ⟨_, s1, e1, ⟨v, rfl, a1, b1⟩, g1, t1⟩ := c_law_next (k := k + d) g (many := 16) (by omega)
    have hn1 := t1.old nm _ hne hnm
    unfold m_law_expression
    rw [seq_nx (l1 := [some (.ref dr), some (.ref at_), some (.ref nm), some (.int d), some (.int v), none, none, none]) (s1 := s1) (by simp only [mSeq, mExpr, mRet, mRetN, mIfS, mSet, mAug, mCall, mCons, mNil, mVar, mC, mOp, mUn, mApp, mTup, mLst, mNx, mRaise, mAnd, mOr, mNot, mIf, tstB, tstAnd, tstOr, tstNot, mChain, bind_ok, bind_err, bind_no, toS_ok, toS_err, nox_ok, fin_nx, fin_rt, fin_err, startL, List.map_cons, List.map_nil, List.length_cons, List.length_nil, List.cons_append, List.nil_append, List.getElem?_cons_zero, List.getElem?_cons_succ, List.set_cons_zero, List.set_cons_succ, List.replicate_succ, List.replicate_zero, Nat.zero_add, Nat.reduceAdd, Nat.reduceSub, Nat.add_one_sub_one, Nat.sub_self, if_true, if_false, ite_true, ite_false, Bool.false_eq_true, reduceCtorEq, if_pos, Nat.reduceEqDiff, Nat.reduceLeDiff, decide_true, decide_false, Bool.not_true, Bool.not_false, e1])]
    by_cases hb : d = 0 ∨ v < 4
    · have te : tstOr (tstB (mOp gEq (mVar 3) (mC (.int 0)))) (tstB (mOp gLt (mVar 4) (mC (.int 4)))) [some (.ref dr), some (.ref at_), some (.ref nm), some (.int d), some (.int v), none, none, none] s1 = .ok true s1 := by
        simp only [mSeq, mExpr, mRet, mRetN, mIfS, mSet, mAug, mCall, mCons, mNil, mVar, mC, mOp, mUn, mApp, mTup, mLst, mNx, mRaise, mAnd, mOr, mNot, mIf, tstB, tstAnd, tstOr, tstNot, mChain, bind_ok, bind_err, bind_no, toS_ok, toS_err, nox_ok, fin_nx, fin_rt, fin_err, startL, List.map_cons, List.map_nil, List.length_cons, List.length_nil, List.cons_append, List.nil_append, List.getElem?_cons_zero, List.getElem?_cons_succ, List.set_cons_zero, List.set_cons_succ, List.replicate_succ, List.replicate_zero, Nat.zero_add, Nat.reduceAdd, Nat.reduceSub, Nat.add_one_sub_one, Nat.sub_self, if_true, if_false, ite_true, ite_false, Bool.false_eq_true, reduceCtorEq, if_pos, Nat.reduceEqDiff, Nat.reduceLeDiff, decide_true, decide_false, Bool.not_true, Bool.not_false, gEq, gEqB, gOrd]
        rcases hb with rfl | hb
        · rfl
        · cases ((d : Int) == 0) <;> simp only [mSeq, mExpr, mRet, mRetN, mIfS, mSet, mAug, mCall, mCons, mNil, mVar, mC, mOp, mUn, mApp, mTup, mLst, mNx, mRaise, mAnd, mOr, mNot, mIf, tstB, tstAnd, tstOr, tstNot, mChain, bind_ok, bind_err, bind_no, toS_ok, toS_err, nox_ok, fin_nx, fin_rt, fin_err, startL, List.map_cons, List.map_nil, List.length_cons, List.length_nil, List.cons_append, List.nil_append, List.getElem?_cons_zero, List.getElem?_cons_succ, List.set_cons_zero, List.set_cons_succ, List.replicate_succ, List.replicate_zero, Nat.zero_add, Nat.reduceAdd, Nat.reduceSub, Nat.add_one_sub_one, Nat.sub_self, if_true, if_false, ite_true, ite_false, Bool.false_eq_true, reduceCtorEq, if_pos, Nat.reduceEqDiff, Nat.reduceLeDiff, decide_true, decide_false, Bool.not_true, Bool.not_false, hb]
      obtain ⟨e, s2, h1, h2, g2, t2⟩ := leaf_ok (k := k + d) g1 hn1 hne h0 d d v
      have lf := h1
      rw [seq_rt (d := e) (s1 := s2)]
      · exact ⟨e, s2, rfl, h2, g2, t1.trans t2⟩
      · unfold mIfS
        rw [te, toS_ok, if_pos rfl]
        exact lf
    · have hd : ¬ d = 0 := fun z => hb (.inl z)
      have hv : 4 ≤ v := by have : ¬ v < 4 := fun z => hb (.inr z); omega
      obtain ⟨d, rfl⟩ : ∃ d', d = d' + 1 := ⟨d - 1, by omega⟩
      have c0 : (((d + 1 : Nat) : Int) == 0) = false := beq_eq_false_iff_ne.mpr (by omega)
      have c1 : decide (v < 4) = false := decide_eq_false (by omega)
      have cd : ((d + 1 : Nat) : Int) - 1 = (d : Int) := by omega
      rw [seq_nx (l1 := [some (.ref dr), some (.ref at_), some (.ref nm), some (.int ((d + 1 : Nat) : Int)), some (.int v), none, none, none]) (s1 := s1) (by simp only [mSeq, mExpr, mRet, mRetN, mIfS, mSet, mAug, mCall, mCons, mNil, mVar, mC, mOp, mUn, mApp, mTup, mLst, mNx, mRaise, mAnd, mOr, mNot, mIf, tstB, tstAnd, tstOr, tstNot, mChain, bind_ok, bind_err, bind_no, toS_ok, toS_err, nox_ok, fin_nx, fin_rt, fin_err, startL, List.map_cons, List.map_nil, List.length_cons, List.length_nil, List.cons_append, List.nil_append, List.getElem?_cons_zero, List.getElem?_cons_succ, List.set_cons_zero, List.set_cons_succ, List.replicate_succ, List.replicate_zero, Nat.zero_add, Nat.reduceAdd, Nat.reduceSub, Nat.add_one_sub_one, Nat.sub_self, if_true, if_false, ite_true, ite_false, Bool.false_eq_true, reduceCtorEq, if_pos, Nat.reduceEqDiff, Nat.reduceLeDiff, decide_true, decide_false, Bool.not_true, Bool.not_false, gEq, gEqB, gOrd, c0, c1])]
      by_cases h6 : v < 6
      · -- div, mod
        obtain ⟨j, hj, ej⟩ : ∃ j : Nat, j < 2 ∧ v - 4 = (j : Int) := ⟨(v - 4).toNat, by omega, by omega⟩
        obtain ⟨L, hL⟩ : ∃ L : List D, L = [.str "div", .str "mod"] := ⟨_, rfl⟩
        have g2 : Gs dr at_ (s1 ++ [Ob.lst L]) := g1.app
        obtain ⟨z, hz, p2⟩ : ∃ z, z ∈ ops2 ∧ gIx (.ref s1.length) (.int (v - 4)) (s1 ++ [Ob.lst L]) = .ok (.str z) (s1 ++ [Ob.lst L]) := by
          rw [ej]
          match j, hj with
          | 0, _ => exact ⟨"div", by decide +kernel, ix_lst last_at (by rw [hL]; rfl)⟩
          | 1, _ => exact ⟨"mod", by decide +kernel, ix_lst last_at (by rw [hL]; rfl)⟩
        have hn2 : (s1 ++ [Ob.lst L])[nm]? = _ := Gt.app.old nm _ hne hn1
        obtain ⟨a, s3, e3, ⟨c, wa⟩, g3, t3⟩ := c_law_expression h0 hne d k _ g2 hn2
        obtain ⟨_, s4, e4, ⟨w, rfl, a4, b4⟩, g4, t4⟩ := c_law_next (k := k + (d + 1)) g3 (many := 9) (by omega)
        have e3' : call (k + (d + 1) + 1) .law_expression [.ref dr, .ref at_, .ref nm, .int d] (s1 ++ [Ob.lst L]) = .ok a s3 := by rw [show k + (d + 1) + 1 = k + d + 2 by omega]; exact e3
        have c6 : decide (v < 6) = true := decide_eq_true h6
        rw [seq_rt (d := .tup [.str z, a, .int (1 + w)]) (s1 := s4)]
        · exact ⟨_, s4, rfl, ⟨_, .div hz wa (by show (decide ((1 : Int) ≤ 1 + w) && decide (1 + w ≤ 999)) = true; rw [decide_eq_true (by omega), decide_eq_true (by omega)]; rfl)⟩, g4, t1.trans (Gt.app.trans (t3.trans t4))⟩
        · simp only [mSeq, mExpr, mRet, mRetN, mIfS, mSet, mAug, mCall, mCons, mNil, mVar, mC, mOp, mUn, mApp, mTup, mLst, mNx, mRaise, mAnd, mOr, mNot, mIf, tstB, tstAnd, tstOr, tstNot, mChain, bind_ok, bind_err, bind_no, toS_ok, toS_err, nox_ok, fin_nx, fin_rt, fin_err, startL, List.map_cons, List.map_nil, List.length_cons, List.length_nil, List.cons_append, List.nil_append, List.getElem?_cons_zero, List.getElem?_cons_succ, List.set_cons_zero, List.set_cons_succ, List.replicate_succ, List.replicate_zero, Nat.zero_add, Nat.reduceAdd, Nat.reduceSub, Nat.add_one_sub_one, Nat.sub_self, if_true, if_false, ite_true, ite_false, Bool.false_eq_true, reduceCtorEq, if_pos, Nat.reduceEqDiff, Nat.reduceLeDiff, decide_true, decide_false, Bool.not_true, Bool.not_false, gOrd, c6, Core.gSub, gI2]
          rw [← hL]
          simp only [mSeq, mExpr, mRet, mRetN, mIfS, mSet, mAug, mCall, mCons, mNil, mVar, mC, mOp, mUn, mApp, mTup, mLst, mNx, mRaise, mAnd, mOr, mNot, mIf, tstB, tstAnd, tstOr, tstNot, mChain, bind_ok, bind_err, bind_no, toS_ok, toS_err, nox_ok, fin_nx, fin_rt, fin_err, startL, List.map_cons, List.map_nil, List.length_cons, List.length_nil, List.cons_append, List.nil_append, List.getElem?_cons_zero, List.getElem?_cons_succ, List.set_cons_zero, List.set_cons_succ, List.replicate_succ, List.replicate_zero, Nat.zero_add, Nat.reduceAdd, Nat.reduceSub, Nat.add_one_sub_one, Nat.sub_self, if_true, if_false, ite_true, ite_false, Bool.false_eq_true, reduceCtorEq, if_pos, Nat.reduceEqDiff, Nat.reduceLeDiff, decide_true, decide_false, Bool.not_true, Bool.not_false, p2, cd, e3', e4, Core.gAdd]
      · rw [seq_nx (l1 := [some (.ref dr), some (.ref at_), some (.ref nm), some (.int ((d + 1 : Nat) : Int)), some (.int v), none, none, none]) (s1 := s1) (by simp only [mSeq, mExpr, mRet, mRetN, mIfS, mSet, mAug, mCall, mCons, mNil, mVar, mC, mOp, mUn, mApp, mTup, mLst, mNx, mRaise, mAnd, mOr, mNot, mIf, tstB, tstAnd, tstOr, tstNot, mChain, bind_ok, bind_err, bind_no, toS_ok, toS_err, nox_ok, fin_nx, fin_rt, fin_err, startL, List.map_cons, List.map_nil, List.length_cons, List.length_nil, List.cons_append, List.nil_append, List.getElem?_cons_zero, List.getElem?_cons_succ, List.set_cons_zero, List.set_cons_succ, List.replicate_succ, List.replicate_zero, Nat.zero_add, Nat.reduceAdd, Nat.reduceSub, Nat.add_one_sub_one, Nat.sub_self, if_true, if_false, ite_true, ite_false, Bool.false_eq_true, reduceCtorEq, if_pos, Nat.reduceEqDiff, Nat.reduceLeDiff, decide_true, decide_false, Bool.not_true, Bool.not_false, gOrd, decide_eq_false h6])]
        by_cases h7 : v = 6
        · subst h7
          obtain ⟨a, s3, e3, ⟨c, wa⟩, g3, t3⟩ := c_law_expression h0 hne d k _ g1 hn1
          have e3' : call (k + (d + 1) + 1) .law_expression [.ref dr, .ref at_, .ref nm, .int d] s1 = .ok a s3 := by rw [show k + (d + 1) + 1 = k + d + 2 by omega]; exact e3
          rw [seq_rt (d := .tup [.str "not", a]) (s1 := s3)]
          · exact ⟨_, s3, rfl, ⟨_, .neg wa⟩, g3, t1.trans t3⟩
          · simp only [mSeq, mExpr, mRet, mRetN, mIfS, mSet, mAug, mCall, mCons, mNil, mVar, mC, mOp, mUn, mApp, mTup, mLst, mNx, mRaise, mAnd, mOr, mNot, mIf, tstB, tstAnd, tstOr, tstNot, mChain, bind_ok, bind_err, bind_no, toS_ok, toS_err, nox_ok, fin_nx, fin_rt, fin_err, startL, List.map_cons, List.map_nil, List.length_cons, List.length_nil, List.cons_append, List.nil_append, List.getElem?_cons_zero, List.getElem?_cons_succ, List.set_cons_zero, List.set_cons_succ, List.replicate_succ, List.replicate_zero, Nat.zero_add, Nat.reduceAdd, Nat.reduceSub, Nat.add_one_sub_one, Nat.sub_self, if_true, if_false, ite_true, ite_false, Bool.false_eq_true, reduceCtorEq, if_pos, Nat.reduceEqDiff, Nat.reduceLeDiff, decide_true, decide_false, Bool.not_true, Bool.not_false, gEq, gEqB, show ((6 : Int) == 6) = true from rfl, Core.gSub, gI2, cd, e3']
        · have c7 : (v == 6) = false := beq_eq_false_iff_ne.mpr h7
          rw [seq_nx (l1 := [some (.ref dr), some (.ref at_), some (.ref nm), some (.int ((d + 1 : Nat) : Int)), some (.int v), none, none, none]) (s1 := s1) (by simp only [mSeq, mExpr, mRet, mRetN, mIfS, mSet, mAug, mCall, mCons, mNil, mVar, mC, mOp, mUn, mApp, mTup, mLst, mNx, mRaise, mAnd, mOr, mNot, mIf, tstB, tstAnd, tstOr, tstNot, mChain, bind_ok, bind_err, bind_no, toS_ok, toS_err, nox_ok, fin_nx, fin_rt, fin_err, startL, List.map_cons, List.map_nil, List.length_cons, List.length_nil, List.cons_append, List.nil_append, List.getElem?_cons_zero, List.getElem?_cons_succ, List.set_cons_zero, List.set_cons_succ, List.replicate_succ, List.replicate_zero, Nat.zero_add, Nat.reduceAdd, Nat.reduceSub, Nat.add_one_sub_one, Nat.sub_self, if_true, if_false, ite_true, ite_false, Bool.false_eq_true, reduceCtorEq, if_pos, Nat.reduceEqDiff, Nat.reduceLeDiff, decide_true, decide_false, Bool.not_true, Bool.not_false, gEq, gEqB, c7])]
          obtain ⟨j, hj, ej⟩ : ∃ j : Nat, j < 9 ∧ v - 7 = (j : Int) := ⟨(v - 7).toNat, by omega, by omega⟩
          obtain ⟨L, hL⟩ : ∃ L : List D, L = (["add", "sub", "mul", "min", "max", "less", "same", "both", "either"] : List Str).map D.str := ⟨_, rfl⟩
          have g2 : Gs dr at_ (s1 ++ [Ob.lst L]) := g1.app
          obtain ⟨z, hz, p2⟩ : ∃ z, z ∈ ops3 ∧ gIx (.ref s1.length) (.int (v - 7)) (s1 ++ [Ob.lst L]) = .ok (.str z) (s1 ++ [Ob.lst L]) := by
            rw [ej]
            have hj' : j < ops3.length := hj
            exact ⟨ops3[j], List.getElem_mem hj', ix_lst last_at (by rw [hL]; show (ops3.map D.str)[j]? = _; rw [List.getElem?_map, List.getElem?_eq_getElem hj']; rfl)⟩
          have hn2 : (s1 ++ [Ob.lst L])[nm]? = _ := Gt.app.old nm _ hne hn1
          obtain ⟨a, s3, e3, ⟨c, wa⟩, g3, t3⟩ := c_law_expression h0 hne d k _ g2 hn2
          have hn3 := t3.old nm _ hne hn2
          obtain ⟨b, s4, e4, ⟨c', wb⟩, g4, t4⟩ := c_law_expression h0 hne d k _ g3 hn3
          have e3' : call (k + (d + 1) + 1) .law_expression [.ref dr, .ref at_, .ref nm, .int d] (s1 ++ [Ob.lst L]) = .ok a s3 := by rw [show k + (d + 1) + 1 = k + d + 2 by omega]; exact e3
          have e4' : call (k + (d + 1) + 1) .law_expression [.ref dr, .ref at_, .ref nm, .int d] s3 = .ok b s4 := by rw [show k + (d + 1) + 1 = k + d + 2 by omega]; exact e4
          have hL' : L = [D.str "add", D.str "sub", D.str "mul", D.str "min", D.str "max", D.str "less", D.str "same", D.str "both", D.str "either"] := hL
          refine ⟨.tup [.str z, a, b], s4, ?_, ⟨_, .bin hz wa wb⟩, g4, t1.trans (Gt.app.trans (t3.trans t4))⟩
          simp only [mSeq, mExpr, mRet, mRetN, mIfS, mSet, mAug, mCall, mCons, mNil, mVar, mC, mOp, mUn, mApp, mTup, mLst, mNx, mRaise, mAnd, mOr, mNot, mIf, tstB, tstAnd, tstOr, tstNot, mChain, bind_ok, bind_err, bind_no, toS_ok, toS_err, nox_ok, fin_nx, fin_rt, fin_err, startL, List.map_cons, List.map_nil, List.length_cons, List.length_nil, List.cons_append, List.nil_append, List.getElem?_cons_zero, List.getElem?_cons_succ, List.set_cons_zero, List.set_cons_succ, List.replicate_succ, List.replicate_zero, Nat.zero_add, Nat.reduceAdd, Nat.reduceSub, Nat.add_one_sub_one, Nat.sub_self, if_true, if_false, ite_true, ite_false, Bool.false_eq_true, reduceCtorEq, if_pos, Nat.reduceEqDiff, Nat.reduceLeDiff, decide_true, decide_false, Bool.not_true, Bool.not_false, Core.gSub, gI2]
          rw [← hL']
          simp only [mSeq, mExpr, mRet, mRetN, mIfS, mSet, mAug, mCall, mCons, mNil, mVar, mC, mOp, mUn, mApp, mTup, mLst, mNx, mRaise, mAnd, mOr, mNot, mIf, tstB, tstAnd, tstOr, tstNot, mChain, bind_ok, bind_err, bind_no, toS_ok, toS_err, nox_ok, fin_nx, fin_rt, fin_err, startL, List.map_cons, List.map_nil, List.length_cons, List.length_nil, List.cons_append, List.nil_append, List.getElem?_cons_zero, List.getElem?_cons_succ, List.set_cons_zero, List.set_cons_succ, List.replicate_succ, List.replicate_zero, Nat.zero_add, Nat.reduceAdd, Nat.reduceSub, Nat.add_one_sub_one, Nat.sub_self, if_true, if_false, ite_true, ite_false, Bool.false_eq_true, reduceCtorEq, if_pos, Nat.reduceEqDiff, Nat.reduceLeDiff, decide_true, decide_false, Bool.not_true, Bool.not_false, p2, cd, e3', e4']
end
end Pr

set_option Elab.async false
set_option linter.all false
set_option maxRecDepth 100000
set_option maxHeartbeats 4000000
/-! drawn programs -/
namespace Pr
open PySem PySem.Spec PyProof.Rows L2 Core
theorem all_nil {P : D → Prop} : ∀ d ∈ ([] : List D), P d := fun d h => absurd h List.not_mem_nil
def w4 : List Str := ["go", "tell", "ask", "none"]
/-- rows, each with its number of sends; the sum -/
inductive Sl (P : Nat → D → Prop) : Nat → List D → Prop
  | nil {n : Nat} : Sl P n []
  | cons {n m : Nat} {d : D} {ds : List D} : P n d → Sl P m ds → Sl P (n + m) (d :: ds)
theorem Sl.imp {P Q : Nat → D → Prop} (h : ∀ n d, P n d → Q n d) {n : Nat} {ds : List D} (t : Sl P n ds) : Sl Q n ds := by
  induction t with
  | nil => exact .nil
  | cons a _ ih => exact .cons (h _ _ a) ih
theorem Sl.le {P : Nat → D → Prop} {n m : Nat} {ds : List D} (t : Sl P n ds) (h : n ≤ m) : Sl P m ds := by
  induction t generalizing m with
  | nil => exact .nil
  | @cons a b d ds p _ ih => obtain ⟨c, rfl⟩ : ∃ c, m = a + c := ⟨m - a, by omega⟩; exact .cons p (ih (by omega))
theorem Sl.app {P : Nat → D → Prop} {n m : Nat} {ds es : List D} (t : Sl P n ds) (u : Sl P m es) : Sl P (n + m) (ds ++ es) := by
  induction t with
  | nil => exact u.le (by omega)
  | @cons a b d ds p _ ih => rw [Nat.add_assoc]; exact .cons p ih
theorem Sl.all {P : Nat → D → Prop} {n : Nat} : ∀ {ds : List D}, (∀ d ∈ ds, P n d) → Sl P (n * ds.length) ds
  | [], _ => .nil
  | d :: ds, h => by
    rw [List.length_cons, Nat.mul_succ, Nat.add_comm]
    exact .cons (h d List.mem_cons_self) (Sl.all fun x hx => h x (List.mem_cons_of_mem _ hx))
def skipD : D := .tup [.str "skip"]
def lessD : D := .tup [.str "less", .tup [.str "int", .int 0], .tup [.str "arg"]]
def decD : D := .tup [.str "sub", .tup [.str "arg"], .tup [.str "int", .int 1]]
/-- the form of a drawn statement of at most so many sends -/
def Sx (names : List Str) : Nat → Nat → D → Prop
  | 0, _, _ => False
  | h + 1, n, d => (∃ (x : Str) (e : D) (c : Nat), d = .tup [.str "set", .str x, e] ∧ x ∈ names ∧ Wx names 3 e c) ∨
    (1 ≤ n ∧ ∃ (t dl : D) (z : Str) (c1 c2 : Nat), d = .tup [.str "send", t, dl, .str z, decD] ∧ Wx names 2 t c1 ∧ Wx names 2 dl c2 ∧ z ∈ w4) ∨
    (∃ (e : D) (c n1 n2 : Nat) (as bs : List D), d = .tup [.str "if", e, .tup as, .tup bs] ∧ Wx names 4 e c ∧ Sl (Sx names h) n1 as ∧ Sl (Sx names h) n2 bs ∧ n1 ≤ n ∧ n2 ≤ n) ∨ d = skipD
theorem Sx.up {names : List Str} : ∀ {h n : Nat} {d : D}, Sx names h n d → ∀ {h' n' : Nat}, h ≤ h' → n ≤ n' → Sx names h' n' d
  | 0, n, d, w, _, _, _, _ => w.elim
  | h + 1, n, d, w, h', n', hh, hn => by
    obtain ⟨m, rfl⟩ : ∃ m, h' = m + 1 := ⟨h' - 1, by omega⟩
    rcases w with w | ⟨w1, w⟩ | ⟨e, c, n1, n2, as, bs, w1, w2, w3, w4, w5, w6⟩ | w
    · exact .inl w
    · exact .inr (.inl ⟨by omega, w⟩)
    · exact .inr (.inr (.inl ⟨e, c, n1, n2, as, bs, w1, w2, w3.imp fun a b q => Sx.up q (by omega) (Nat.le_refl _), w4.imp fun a b q => Sx.up q (by omega) (Nat.le_refl _), by omega, by omega⟩))
    · exact .inr (.inr (.inr w))
theorem sx_skip {names : List Str} {h n : Nat} : Sx names (h + 1) n skipD := .inr (.inr (.inr rfl))
theorem sx_set {names : List Str} {h n c : Nat} {x : Str} {e : D} (a : x ∈ names) (b : Wx names 3 e c) : Sx names (h + 1) n (.tup [.str "set", .str x, e]) := .inl ⟨x, e, c, rfl, a, b⟩
theorem sx_send {names : List Str} {h n c1 c2 : Nat} {t dl : D} {z : Str} (a : Wx names 2 t c1) (b : Wx names 2 dl c2) (c : z ∈ w4) : Sx names (h + 1) (n + 1) (.tup [.str "send", t, dl, .str z, decD]) := .inr (.inl ⟨by omega, t, dl, z, c1, c2, rfl, a, b, c⟩)
theorem sx_ite {names : List Str} {h n n1 n2 c : Nat} {e : D} {as bs : List D} (a : Wx names 4 e c) (b : Sl (Sx names h) n1 as) (b' : Sl (Sx names h) n2 bs) (h1 : n1 ≤ n) (h2 : n2 ≤ n) : Sx names (h + 1) n (.tup [.str "if", e, .tup as, .tup bs]) := .inr (.inr (.inl ⟨e, c, n1, n2, as, bs, rfl, a, b, b', h1, h2⟩))
def gateD (sd : List D) : D := .tup [.str "if", lessD, .tup (sd ++ [skipD]), .tup [skipD]]
/-- the form of a drawn program: two sends at most, and only for an arg above 0 -/
def PrgP (names : List Str) (d : D) : Prop := ∃ (pre post sd : List D), d = .tup (pre ++ gateD sd :: post) ∧ pre.length ≤ 2 ∧ post.length ≤ 2 ∧ sd.length ≤ 2 ∧ (∀ x ∈ pre, Sx names 1 0 x) ∧ (∀ x ∈ post, Sx names 1 0 x) ∧ Sl (Sx names 2) 2 sd
section
variable {s : Mem} {k dr at_ nm : Nat} {names : List Str}
theorem c_law_send (h0 : 1 ≤ names.length) (hne : nm ≠ at_) (g : Gs dr at_ s) (hnm : s[nm]? = some (.lst (names.map D.str))) :
    Dr dr at_ s (Sx names 1 1) (call (k + 4) .law_send [.ref dr, .ref at_, .ref nm] s) := by
  show Dr dr at_ s _ (Core.fin (m_law_send (call (k + 3)) [some (.ref dr), some (.ref at_), some (.ref nm), none, none, none] s))
  obtain ⟨e1, s1, q1, ⟨c1, w1⟩, g1, t1⟩ := c_law_expression h0 hne 1 k s g hnm
  have q1 : call (k + 3) .law_expression [.ref dr, .ref at_, .ref nm, .int 1] s = .ok e1 s1 := q1
  have hn1 := t1.old nm _ hne hnm
  obtain ⟨_, s2, q2, ⟨v2, rfl, a2, b2⟩, g2, t2⟩ := c_law_next (k := k + 2) g1 (many := 4) (by omega)
  have hn2 := t2.old nm _ hne hn1
  obtain ⟨_, s3, q3, ⟨v3, rfl, a3, b3⟩, g3, t3⟩ := c_law_next (k := k + 2) g2 (many := 4) (by omega)
  have hn3 := t3.old nm _ hne hn2
  -- the delay
  obtain ⟨dl, s4, c2, hq4, w2, g4, t4⟩ : ∃ dl s4 c2, (mIfS (tstB (mOp gEq (mCall 3 (call (k + 3) .law_next) (mCons (mVar 0) (mCons (mVar 1) (mCons (mC (.int 4)) mNil)))) (mC (.int 0)))) (mSet 4 (mCall 4 (call (k + 3) .law_expression) (mCons (mVar 0) (mCons (mVar 1) (mCons (mVar 2) (mCons (mC (.int 1)) mNil)))))) mNx)
      [some (.ref dr), some (.ref at_), some (.ref nm), some e1, some (.tup [.str "int", .int (1 + v2)]), none] s2 = .nx [some (.ref dr), some (.ref at_), some (.ref nm), some e1, some dl, none] s4 ∧ Wx names 2 dl c2 ∧ Gs dr at_ s4 ∧ Gt at_ s2 s4 := by
    by_cases h : v3 = 0
    · subst h
      obtain ⟨e4, s4, q4, ⟨c4, w4⟩, g4, t4⟩ := c_law_expression h0 hne 1 k s3 g3 hn3
      have q4 : call (k + 3) .law_expression [.ref dr, .ref at_, .ref nm, .int 1] s3 = .ok e4 s4 := q4
      exact ⟨e4, s4, c4, by simp only [mSeq, mExpr, mRet, mRetN, mIfS, mSet, mAug, mCall, mCons, mNil, mVar, mC, mOp, mUn, mApp, mTup, mLst, mNx, mRaise, mAnd, mOr, mNot, mIf, tstB, tstAnd, tstOr, tstNot, mChain, bind_ok, bind_err, bind_no, toS_ok, toS_err, nox_ok, fin_nx, fin_rt, fin_err, startL, List.map_cons, List.map_nil, List.length_cons, List.length_nil, List.cons_append, List.nil_append, List.getElem?_cons_zero, List.getElem?_cons_succ, List.set_cons_zero, List.set_cons_succ, List.replicate_succ, List.replicate_zero, Nat.zero_add, Nat.reduceAdd, Nat.reduceSub, Nat.add_one_sub_one, Nat.sub_self, if_true, if_false, ite_true, ite_false, Bool.false_eq_true, reduceCtorEq, if_pos, Nat.reduceEqDiff, Nat.reduceLeDiff, decide_true, decide_false, Bool.not_true, Bool.not_false, q3, gEq, gEqB, show ((0 : Int) == 0) = true from rfl, q4], w4, g4, t3.trans t4⟩
    · have hb : (v3 == 0) = false := beq_eq_false_iff_ne.mpr h
      exact ⟨.tup [.str "int", .int (1 + v2)], s3, 1, by simp only [mSeq, mExpr, mRet, mRetN, mIfS, mSet, mAug, mCall, mCons, mNil, mVar, mC, mOp, mUn, mApp, mTup, mLst, mNx, mRaise, mAnd, mOr, mNot, mIf, tstB, tstAnd, tstOr, tstNot, mChain, bind_ok, bind_err, bind_no, toS_ok, toS_err, nox_ok, fin_nx, fin_rt, fin_err, startL, List.map_cons, List.map_nil, List.length_cons, List.length_nil, List.cons_append, List.nil_append, List.getElem?_cons_zero, List.getElem?_cons_succ, List.set_cons_zero, List.set_cons_succ, List.replicate_succ, List.replicate_zero, Nat.zero_add, Nat.reduceAdd, Nat.reduceSub, Nat.add_one_sub_one, Nat.sub_self, if_true, if_false, ite_true, ite_false, Bool.false_eq_true, reduceCtorEq, if_pos, Nat.reduceEqDiff, Nat.reduceLeDiff, decide_true, decide_false, Bool.not_true, Bool.not_false, q3, gEq, gEqB, hb], .int (by show (decide ((-999 : Int) ≤ 1 + v2) && decide (1 + v2 ≤ 999)) = true; rw [decide_eq_true (by omega), decide_eq_true (by omega)]; rfl), g3, t3⟩
  obtain ⟨L, hL⟩ : ∃ L : List D, L = w4.map D.str := ⟨_, rfl⟩
  have hL' : L = [D.str "go", D.str "tell", D.str "ask", D.str "none"] := hL
  have g5 : Gs dr at_ (s4 ++ [Ob.lst L]) := g4.app
  obtain ⟨_, s6, q6, ⟨v6, rfl, a6, b6⟩, g6, t6⟩ := c_law_next (k := k + 2) g5 (many := 4) (by omega)
  have r6 : s6[s4.length]? = some (Ob.lst (w4.map D.str)) := by rw [← hL]; exact t6.fresh (s1 := s6) g4.lt
  obtain ⟨z, hz, p6⟩ := pickN r6 a6 (by exact b6)
  unfold m_law_send
  rw [seq_nx (l1 := [some (.ref dr), some (.ref at_), some (.ref nm), some e1, none, none]) (s1 := s1) (by simp only [mSeq, mExpr, mRet, mRetN, mIfS, mSet, mAug, mCall, mCons, mNil, mVar, mC, mOp, mUn, mApp, mTup, mLst, mNx, mRaise, mAnd, mOr, mNot, mIf, tstB, tstAnd, tstOr, tstNot, mChain, bind_ok, bind_err, bind_no, toS_ok, toS_err, nox_ok, fin_nx, fin_rt, fin_err, startL, List.map_cons, List.map_nil, List.length_cons, List.length_nil, List.cons_append, List.nil_append, List.getElem?_cons_zero, List.getElem?_cons_succ, List.set_cons_zero, List.set_cons_succ, List.replicate_succ, List.replicate_zero, Nat.zero_add, Nat.reduceAdd, Nat.reduceSub, Nat.add_one_sub_one, Nat.sub_self, if_true, if_false, ite_true, ite_false, Bool.false_eq_true, reduceCtorEq, if_pos, Nat.reduceEqDiff, Nat.reduceLeDiff, decide_true, decide_false, Bool.not_true, Bool.not_false, q1]),
    seq_nx (l1 := [some (.ref dr), some (.ref at_), some (.ref nm), some e1, some (.tup [.str "int", .int (1 + v2)]), none]) (s1 := s2) (by simp only [mSeq, mExpr, mRet, mRetN, mIfS, mSet, mAug, mCall, mCons, mNil, mVar, mC, mOp, mUn, mApp, mTup, mLst, mNx, mRaise, mAnd, mOr, mNot, mIf, tstB, tstAnd, tstOr, tstNot, mChain, bind_ok, bind_err, bind_no, toS_ok, toS_err, nox_ok, fin_nx, fin_rt, fin_err, startL, List.map_cons, List.map_nil, List.length_cons, List.length_nil, List.cons_append, List.nil_append, List.getElem?_cons_zero, List.getElem?_cons_succ, List.set_cons_zero, List.set_cons_succ, List.replicate_succ, List.replicate_zero, Nat.zero_add, Nat.reduceAdd, Nat.reduceSub, Nat.add_one_sub_one, Nat.sub_self, if_true, if_false, ite_true, ite_false, Bool.false_eq_true, reduceCtorEq, if_pos, Nat.reduceEqDiff, Nat.reduceLeDiff, decide_true, decide_false, Bool.not_true, Bool.not_false, q2, Core.gAdd]), seq_nx hq4]
  rw [seq_nx (l1 := [some (.ref dr), some (.ref at_), some (.ref nm), some e1, some dl, some (.str z)]) (s1 := s6) (by simp only [mSeq, mExpr, mRet, mRetN, mIfS, mSet, mAug, mCall, mCons, mNil, mVar, mC, mOp, mUn, mApp, mTup, mLst, mNx, mRaise, mAnd, mOr, mNot, mIf, tstB, tstAnd, tstOr, tstNot, mChain, bind_ok, bind_err, bind_no, toS_ok, toS_err, nox_ok, fin_nx, fin_rt, fin_err, startL, List.map_cons, List.map_nil, List.length_cons, List.length_nil, List.cons_append, List.nil_append, List.getElem?_cons_zero, List.getElem?_cons_succ, List.set_cons_zero, List.set_cons_succ, List.replicate_succ, List.replicate_zero, Nat.zero_add, Nat.reduceAdd, Nat.reduceSub, Nat.add_one_sub_one, Nat.sub_self, if_true, if_false, ite_true, ite_false, Bool.false_eq_true, reduceCtorEq, if_pos, Nat.reduceEqDiff, Nat.reduceLeDiff, decide_true, decide_false, Bool.not_true, Bool.not_false]; rw [← hL']; simp only [mSeq, mExpr, mRet, mRetN, mIfS, mSet, mAug, mCall, mCons, mNil, mVar, mC, mOp, mUn, mApp, mTup, mLst, mNx, mRaise, mAnd, mOr, mNot, mIf, tstB, tstAnd, tstOr, tstNot, mChain, bind_ok, bind_err, bind_no, toS_ok, toS_err, nox_ok, fin_nx, fin_rt, fin_err, startL, List.map_cons, List.map_nil, List.length_cons, List.length_nil, List.cons_append, List.nil_append, List.getElem?_cons_zero, List.getElem?_cons_succ, List.set_cons_zero, List.set_cons_succ, List.replicate_succ, List.replicate_zero, Nat.zero_add, Nat.reduceAdd, Nat.reduceSub, Nat.add_one_sub_one, Nat.sub_self, if_true, if_false, ite_true, ite_false, Bool.false_eq_true, reduceCtorEq, if_pos, Nat.reduceEqDiff, Nat.reduceLeDiff, decide_true, decide_false, Bool.not_true, Bool.not_false, q6, p6])]
  simp only [mSeq, mExpr, mRet, mRetN, mIfS, mSet, mAug, mCall, mCons, mNil, mVar, mC, mOp, mUn, mApp, mTup, mLst, mNx, mRaise, mAnd, mOr, mNot, mIf, tstB, tstAnd, tstOr, tstNot, mChain, bind_ok, bind_err, bind_no, toS_ok, toS_err, nox_ok, fin_nx, fin_rt, fin_err, startL, List.map_cons, List.map_nil, List.length_cons, List.length_nil, List.cons_append, List.nil_append, List.getElem?_cons_zero, List.getElem?_cons_succ, List.set_cons_zero, List.set_cons_succ, List.replicate_succ, List.replicate_zero, Nat.zero_add, Nat.reduceAdd, Nat.reduceSub, Nat.add_one_sub_one, Nat.sub_self, if_true, if_false, ite_true, ite_false, Bool.false_eq_true, reduceCtorEq, if_pos, Nat.reduceEqDiff, Nat.reduceLeDiff, decide_true, decide_false, Bool.not_true, Bool.not_false]
  --, .tup [.str "arg"], .tup [.str "int", .int 1]]) (1 + 1 + 1) := .bin (by decide +kernel) (.leaf (by decide +kernel)) (.int (by decide +kernel))
  exact ⟨_, _, rfl, sx_send (n := 0) w1 (w2.up (by omega)) hz, g6, (t1.trans t2).trans (t4.trans (Gt.app.trans t6))⟩
abbrev bSet (k : Nat) : SM := mExpr (mLm gAppend (mVar 3) (mCons (mTup (mCons (mC (.str "set")) (mCons (mOp gIx (mVar 2) (mCall 3 (call (k + 4) .law_next) (mCons (mVar 0) (mCons (mVar 1) (mCons (mApp gLen (mCons (mVar 2) mNil)) mNil))))) (mCons (mCall 4 (call (k + 4) .law_expression) (mCons (mVar 0) (mCons (mVar 1) (mCons (mVar 2) (mCons (mC (.int 2)) mNil))))) mNil)))) mNil))
theorem set_row (h0 : 1 ≤ names.length) (hne : nm ≠ at_) {r : Nat} (hr1 : r ≠ dr) (hr2 : r ≠ at_) (hr3 : nm ≠ r) (g : Gs dr at_ s) (hnm : s[nm]? = some (.lst (names.map D.str))) {rs : List D} (hr : s[r]? = some (.lst rs)) (hl : rs.length < 100000) {o4 : Option D} :
    ∃ s' y, bSet k [some (.ref dr), some (.ref at_), some (.ref nm), some (.ref r), o4, none, none] s = .nx [some (.ref dr), some (.ref at_), some (.ref nm), some (.ref r), o4, none, none] s' ∧ Sx names 1 0 y ∧ Gs dr at_ s' ∧ Gt2 at_ r s s' ∧ s'[r]? = some (.lst (rs ++ [y])) := by
  obtain ⟨_, s1, q1, ⟨v1, rfl, a1, b1⟩, g1, t1⟩ := c_law_next (k := k + 3) g (many := (names.map D.str).length) (by rw [List.length_map]; omega)
  have hn1 := t1.old nm _ hne hnm
  obtain ⟨x, hx, p1⟩ := pickN hn1 a1 (by rw [List.length_map] at b1; exact b1)
  obtain ⟨e2, s2, q2, ⟨c2, w2⟩, g2, t2⟩ := c_law_expression h0 hne 2 k s1 g1 hn1
  have q2 : call (k + 4) .law_expression [.ref dr, .ref at_, .ref nm, .int 2] s1 = .ok e2 s2 := q2
  have hr' := t2.old r _ hr2 (t1.old r _ hr2 hr)
  refine ⟨s2.set r (.lst (rs ++ [.tup [.str "set", .str x, e2]])), .tup [.str "set", .str x, e2], ?_, sx_set hx w2, g2.set hr1 hr2, (t1.trans t2).two.trans .set, set_at hr'⟩
  simp only [mSeq, mExpr, mRet, mRetN, mIfS, mSet, mAug, mCall, mCons, mNil, mVar, mC, mOp, mUn, mApp, mTup, mLst, mNx, mRaise, mAnd, mOr, mNot, mIf, tstB, tstAnd, tstOr, tstNot, mChain, bind_ok, bind_err, bind_no, toS_ok, toS_err, nox_ok, fin_nx, fin_rt, fin_err, startL, List.map_cons, List.map_nil, List.length_cons, List.length_nil, List.cons_append, List.nil_append, List.getElem?_cons_zero, List.getElem?_cons_succ, List.set_cons_zero, List.set_cons_succ, List.replicate_succ, List.replicate_zero, Nat.zero_add, Nat.reduceAdd, Nat.reduceSub, Nat.add_one_sub_one, Nat.sub_self, if_true, if_false, ite_true, ite_false, Bool.false_eq_true, reduceCtorEq, if_pos, Nat.reduceEqDiff, Nat.reduceLeDiff, decide_true, decide_false, Bool.not_true, Bool.not_false, mLm, hr, gLen, sq_lst hnm, q1, p1, q2, app_at hr' hl]
theorem c_law_program (h0 : 1 ≤ names.length) (hne : nm ≠ at_) (g : Gs dr at_ s) (hnm : s[nm]? = some (.lst (names.map D.str))) :
    Dr dr at_ s (PrgP names) (call (k + 5) .law_program [.ref dr, .ref at_, .ref nm] s) := by
  show Dr dr at_ s _ (Core.fin (m_law_program (call (k + 4)) [some (.ref dr), some (.ref at_), some (.ref nm), none, none, none, none] s))
  have dl : dr < s.length := let ⟨_, h⟩ := g.hd; (List.getElem?_eq_some_iff.mp h).1
  have nl : nm < s.length := (List.getElem?_eq_some_iff.mp hnm).1
  have al := g.lt
  -- the rows
  have g1 : Gs dr at_ (s ++ [Ob.lst []]) := g.app
  obtain ⟨_, s2, q2, ⟨v2, rfl, a2, b2⟩, g2, t2⟩ := c_law_next (k := k + 3) g1 (many := 2) (by omega)
  have r2 : s2[s.length]? = some (Ob.lst []) := t2.fresh (s1 := s2) al
  have hn2 := t2.old nm _ hne (Gt.app.old nm _ hne hnm)
  obtain ⟨l3, s3, ys, e3, ⟨o3, rfl⟩, r3, n3, p3, g3, t3⟩ := loop_app (dr := dr) (at_ := at_) (r := s.length) (ok := fun _ => true) (i := 4) (body := bSet k) (Lk := fun l => ∃ o, l = [some (.ref dr), some (.ref at_), some (.ref nm), some (.ref s.length), o, none, none]) (P := Sx names 1 0) (Kp := fun s => s[nm]? = some (.lst (names.map D.str)))
    (fun _ _ => rfl) (fun s1 s2 t h => t.old nm _ hne (Nat.ne_of_lt nl) h) ((List.range (1 + v2).toNat).map fun (i : Nat) => D.int (0 + (i : Int))) [some (.ref dr), some (.ref at_), some (.ref nm), some (.ref s.length), none, none, none] s2 []
    (fun d hd l s1 rs ⟨o, hl⟩ gs kp hr hlen => by
      subst hl
      obtain ⟨s', y, h1, h2, h3, h4, h5⟩ := set_row (k := k) (o4 := some d) h0 hne (Nat.ne_of_gt dl) (Nat.ne_of_gt al) (Nat.ne_of_lt nl) gs kp hr hlen
      exact ⟨_, s', y, h1, ⟨_, rfl⟩, h2, h3, h4, h5⟩) ⟨_, rfl⟩ g2 hn2 r2 (by rw [rng_len, List.length_nil]; omega)
  rw [List.nil_append] at r3
  rw [rng_len] at n3
  have ny : ys.length ≤ 2 := by omega
  have hn3 := t3.old nm _ hne (Nat.ne_of_lt nl) hn2
  -- the sends
  obtain ⟨_, s4, q4, ⟨v4, rfl, a4, b4⟩, g4, t4⟩ := c_law_next (k := k + 3) g3 (many := 3) (by omega)
  have hn4 := t4.old nm _ hne hn3
  have r4 := t4.old s.length _ (Nat.ne_of_gt al) r3
  have g5 : Gs dr at_ (s4 ++ [Ob.lst []]) := g4.app
  have nl4 : nm < s4.length := (List.getElem?_eq_some_iff.mp hn4).1
  have dl4 : dr < s4.length := let ⟨_, h⟩ := g4.hd; (List.getElem?_eq_some_iff.mp h).1
  obtain ⟨s6, zs, e6, r6, n6, p6, g6, t6⟩ := lc_draw (dr := dr) (at_ := at_) (r := s4.length) (ok := fun _ => true) (g := gmName 4) (vs := [4]) (l := [some (.ref dr), some (.ref at_), some (.ref nm), some (.ref s.length), o3, none, none]) (me := mCall 3 (call (k + 4) .law_send) (mCons (mVar 0) (mCons (mVar 1) (mCons (mVar 2) mNil)))) (P := Sx names 1 1) (Kp := fun s => s[nm]? = some (.lst (names.map D.str)))
    (fun _ _ => rfl) (fun s1 s2 t h => t.old nm _ hne (Nat.ne_of_lt nl4) h) (Nat.ne_of_gt dl4) (Nat.ne_of_gt g4.lt) ((List.range v4.toNat).map fun (i : Nat) => D.int (0 + (i : Int))) (s4 ++ [Ob.lst []]) []
    (fun d hd => ⟨[some (.ref dr), some (.ref at_), some (.ref nm), some (.ref s.length), some d, none, none], rfl, fun s1 gs kp => by
      obtain ⟨e, s2, h1, h2⟩ := c_law_send (k := k) h0 hne gs kp
      exact ⟨e, s2, by simp only [mSeq, mExpr, mRet, mRetN, mIfS, mSet, mAug, mCall, mCons, mNil, mVar, mC, mOp, mUn, mApp, mTup, mLst, mNx, mRaise, mAnd, mOr, mNot, mIf, tstB, tstAnd, tstOr, tstNot, mChain, bind_ok, bind_err, bind_no, toS_ok, toS_err, nox_ok, fin_nx, fin_rt, fin_err, startL, List.map_cons, List.map_nil, List.length_cons, List.length_nil, List.cons_append, List.nil_append, List.getElem?_cons_zero, List.getElem?_cons_succ, List.set_cons_zero, List.set_cons_succ, List.replicate_succ, List.replicate_zero, Nat.zero_add, Nat.reduceAdd, Nat.reduceSub, Nat.add_one_sub_one, Nat.sub_self, if_true, if_false, ite_true, ite_false, Bool.false_eq_true, reduceCtorEq, if_pos, Nat.reduceEqDiff, Nat.reduceLeDiff, decide_true, decide_false, Bool.not_true, Bool.not_false, h1], h2⟩⟩) g5 (Gt.app.old nm _ hne hn4) last_at (by rw [rng_len, List.length_nil]; omega)
  rw [List.nil_append] at r6
  rw [rng_len] at n6
  have nz : zs.length ≤ 2 := by omega
  have t46 : Gt at_ s4 s6 := t6.close
  have hn6 := t46.old nm _ hne hn4
  have rr6 := t46.old s.length _ (Nat.ne_of_gt al) r4
  obtain ⟨_, s7, q7, ⟨v7, rfl, a7, b7⟩, g7, t7⟩ := c_law_next (k := k + 3) g6 (many := 4) (by omega)
  have hn7 := t7.old nm _ hne hn6
  have rr7 := t7.old s.length _ (Nat.ne_of_gt al) rr6
  have rz7 := t7.old s4.length _ (Nat.ne_of_gt g4.lt) r6
  obtain ⟨s8, rz, sd, e8, h8, hz8, lb8, ln8, g8, t8⟩ : ∃ s8 rz sd, (mIfS (tstB (mOp gEq (mVar 6) (mC (.int 0))))
    (mSet 5 (mLst (mCons (mTup (mCons (mC (.str "if")) (mCons (mCall 4 (call (k + 4) .law_expression) (mCons (mVar 0) (mCons (mVar 1) (mCons (mVar 2) (mCons (mC (.int 1)) mNil))))) (mCons (mOp Core.gAdd (mApp gTuple (mCons (mVar 5) mNil)) (mTup (mCons (mTup (mCons (mC (.str "skip")) mNil)) mNil))) (mCons (mTup (mCons (mCall 3 (call (k + 4) .law_send) (mCons (mVar 0) (mCons (mVar 1) (mCons (mVar 2) mNil)))) mNil)) mNil))))) mNil)))
    mNx) [some (.ref dr), some (.ref at_), some (.ref nm), some (.ref s.length), o3, some (.ref s4.length), some (.int v7)] s7 = .nx [some (.ref dr), some (.ref at_), some (.ref nm), some (.ref s.length), o3, some (.ref rz), some (.int v7)] s8 ∧ s8[rz]? = some (.lst sd) ∧ rz ≠ at_ ∧ Sl (Sx names 2) 2 sd ∧ sd.length ≤ 2 ∧ Gs dr at_ s8 ∧ Gt at_ s7 s8 := by
    by_cases h : v7 = 0
    · subst h
      obtain ⟨e1, sa, qa, ⟨c1, w1⟩, ga, ta⟩ := c_law_expression h0 hne 1 (k + 1) s7 g7 hn7
      have qa : call (k + 4) .law_expression [.ref dr, .ref at_, .ref nm, .int 1] s7 = .ok e1 sa := qa
      have hna := ta.old nm _ hne hn7
      have rza := ta.old s4.length _ (Nat.ne_of_gt g4.lt) rz7
      obtain ⟨e2, sb, qb, sb1, gb, tb⟩ := c_law_send (k := k) h0 hne ga hna
      have ad : Core.gAdd (.tup zs) (.tup [skipD]) sa = .ok (.tup (zs ++ [skipD])) sa := add_tup (by rw [List.length_singleton]; omega)
      have ad : Core.gAdd (.tup zs) (.tup [.tup [.str "skip"]]) sa = .ok (.tup (zs ++ [skipD])) sa := ad
      refine ⟨sb ++ [Ob.lst [.tup [.str "if", e1, .tup (zs ++ [skipD]), .tup [e2]]]], sb.length, [.tup [.str "if", e1, .tup (zs ++ [skipD]), .tup [e2]]], ?_, last_at, Nat.ne_of_gt gb.lt, ?_, by simp, gb.app, ta.trans (tb.trans Gt.app)⟩
      · simp only [mSeq, mExpr, mRet, mRetN, mIfS, mSet, mAug, mCall, mCons, mNil, mVar, mC, mOp, mUn, mApp, mTup, mLst, mNx, mRaise, mAnd, mOr, mNot, mIf, tstB, tstAnd, tstOr, tstNot, mChain, bind_ok, bind_err, bind_no, toS_ok, toS_err, nox_ok, fin_nx, fin_rt, fin_err, startL, List.map_cons, List.map_nil, List.length_cons, List.length_nil, List.cons_append, List.nil_append, List.getElem?_cons_zero, List.getElem?_cons_succ, List.set_cons_zero, List.set_cons_succ, List.replicate_succ, List.replicate_zero, Nat.zero_add, Nat.reduceAdd, Nat.reduceSub, Nat.add_one_sub_one, Nat.sub_self, if_true, if_false, ite_true, ite_false, Bool.false_eq_true, reduceCtorEq, if_pos, Nat.reduceEqDiff, Nat.reduceLeDiff, decide_true, decide_false, Bool.not_true, Bool.not_false, gEq, gEqB, show ((0 : Int) == 0) = true from rfl, qa, tup_lst rza, ad, qb]
      · have zs' : Sl (Sx names 1) (zs.length * 1) zs := by rw [Nat.mul_comm]; exact Sl.all p6
        have it : Sx names 2 2 (.tup [.str "if", e1, .tup (zs ++ [skipD]), .tup [e2]]) := sx_ite (n1 := 2) (n2 := 1) (w1.up (by omega)) ((zs'.app (.cons (n := 0) (m := 0) sx_skip .nil)).le (by omega)) (.cons (n := 1) (m := 0) sb1 .nil) (by omega) (by omega)
        exact .cons (m := 0) it .nil
    · have hb : (v7 == 0) = false := beq_eq_false_iff_ne.mpr h
      exact ⟨s7, s4.length, zs, by simp only [mSeq, mExpr, mRet, mRetN, mIfS, mSet, mAug, mCall, mCons, mNil, mVar, mC, mOp, mUn, mApp, mTup, mLst, mNx, mRaise, mAnd, mOr, mNot, mIf, tstB, tstAnd, tstOr, tstNot, mChain, bind_ok, bind_err, bind_no, toS_ok, toS_err, nox_ok, fin_nx, fin_rt, fin_err, startL, List.map_cons, List.map_nil, List.length_cons, List.length_nil, List.cons_append, List.nil_append, List.getElem?_cons_zero, List.getElem?_cons_succ, List.set_cons_zero, List.set_cons_succ, List.replicate_succ, List.replicate_zero, Nat.zero_add, Nat.reduceAdd, Nat.reduceSub, Nat.add_one_sub_one, Nat.sub_self, if_true, if_false, ite_true, ite_false, Bool.false_eq_true, reduceCtorEq, if_pos, Nat.reduceEqDiff, Nat.reduceLeDiff, decide_true, decide_false, Bool.not_true, Bool.not_false, gEq, gEqB, hb], rz7, Nat.ne_of_gt g4.lt, ((Sl.all p6).le (by omega)).imp fun a b q => Sx.up q (by omega) (Nat.le_refl _), nz, g7, .refl⟩
  have rr8 := t8.old s.length _ (Nat.ne_of_gt al) rr7
  have ad8 : Core.gAdd (.tup sd) (.tup [.tup [.str "skip"]]) s8 = .ok (.tup (sd ++ [skipD])) s8 := add_tup (by rw [List.length_singleton]; omega)
  let st : D := .tup [.str "if", lessD, .tup (sd ++ [skipD]), .tup [skipD]]
  have app := app_at (y := st) rr8 (by omega)
  have r9 : (s8.set s.length (.lst (ys ++ [st])))[s.length]? = some (.lst (ys ++ [st])) := set_at rr8
  have g9 : Gs dr at_ (s8.set s.length (.lst (ys ++ [st]))) := g8.set (Nat.ne_of_gt dl) (Nat.ne_of_gt al)
  have t19 : Gt2 at_ s.length (s ++ [Ob.lst []]) (s8.set s.length (.lst (ys ++ [st]))) := ((t2.two.trans t3).trans (t4.two.trans (t46.two.trans (t7.two.trans t8.two)))).trans .set
  have t09 : Gt at_ s (s8.set s.length (.lst (ys ++ [st]))) := t19.close
  unfold m_law_program
  rw [seq_nx (l1 := [some (.ref dr), some (.ref at_), some (.ref nm), some (.ref s.length), none, none, none]) (s1 := s ++ [Ob.lst []]) (by simp only [mSeq, mExpr, mRet, mRetN, mIfS, mSet, mAug, mCall, mCons, mNil, mVar, mC, mOp, mUn, mApp, mTup, mLst, mNx, mRaise, mAnd, mOr, mNot, mIf, tstB, tstAnd, tstOr, tstNot, mChain, bind_ok, bind_err, bind_no, toS_ok, toS_err, nox_ok, fin_nx, fin_rt, fin_err, startL, List.map_cons, List.map_nil, List.length_cons, List.length_nil, List.cons_append, List.nil_append, List.getElem?_cons_zero, List.getElem?_cons_succ, List.set_cons_zero, List.set_cons_succ, List.replicate_succ, List.replicate_zero, Nat.zero_add, Nat.reduceAdd, Nat.reduceSub, Nat.add_one_sub_one, Nat.sub_self, if_true, if_false, ite_true, ite_false, Bool.false_eq_true, reduceCtorEq, if_pos, Nat.reduceEqDiff, Nat.reduceLeDiff, decide_true, decide_false, Bool.not_true, Bool.not_false]),
    seq_nx ((rng1 (s1 := s2) (j := 1 + v2) (by simp only [mSeq, mExpr, mRet, mRetN, mIfS, mSet, mAug, mCall, mCons, mNil, mVar, mC, mOp, mUn, mApp, mTup, mLst, mNx, mRaise, mAnd, mOr, mNot, mIf, tstB, tstAnd, tstOr, tstNot, mChain, bind_ok, bind_err, bind_no, toS_ok, toS_err, nox_ok, fin_nx, fin_rt, fin_err, startL, List.map_cons, List.map_nil, List.length_cons, List.length_nil, List.cons_append, List.nil_append, List.getElem?_cons_zero, List.getElem?_cons_succ, List.set_cons_zero, List.set_cons_succ, List.replicate_succ, List.replicate_zero, Nat.zero_add, Nat.reduceAdd, Nat.reduceSub, Nat.add_one_sub_one, Nat.sub_self, if_true, if_false, ite_true, ite_false, Bool.false_eq_true, reduceCtorEq, if_pos, Nat.reduceEqDiff, Nat.reduceLeDiff, decide_true, decide_false, Bool.not_true, Bool.not_false, q2, Core.gAdd]) (by omega) (by omega)).trans e3)]
  have lcE := (lrng1 (g := gmName 4) (vs := [4]) (tt := tYes') (el := mCall 3 (call (k + 4) .law_send) (mCons (mVar 0) (mCons (mVar 1) (mCons (mVar 2) mNil)))) (ma := mCons (mCall 3 (call (k + 4) .law_next) (mCons (mVar 0) (mCons (mVar 1) (mCons (mC (.int 3)) mNil)))) mNil) (l := [some (.ref dr), some (.ref at_), some (.ref nm), some (.ref s.length), o3, none, none]) (s := s3) (s1 := s4) (j := v4) (by simp only [mSeq, mExpr, mRet, mRetN, mIfS, mSet, mAug, mCall, mCons, mNil, mVar, mC, mOp, mUn, mApp, mTup, mLst, mNx, mRaise, mAnd, mOr, mNot, mIf, tstB, tstAnd, tstOr, tstNot, mChain, bind_ok, bind_err, bind_no, toS_ok, toS_err, nox_ok, fin_nx, fin_rt, fin_err, startL, List.map_cons, List.map_nil, List.length_cons, List.length_nil, List.cons_append, List.nil_append, List.getElem?_cons_zero, List.getElem?_cons_succ, List.set_cons_zero, List.set_cons_succ, List.replicate_succ, List.replicate_zero, Nat.zero_add, Nat.reduceAdd, Nat.reduceSub, Nat.add_one_sub_one, Nat.sub_self, if_true, if_false, ite_true, ite_false, Bool.false_eq_true, reduceCtorEq, if_pos, Nat.reduceEqDiff, Nat.reduceLeDiff, decide_true, decide_false, Bool.not_true, Bool.not_false, q4]) (by omega) (by omega)).trans e6
  rw [seq_nx (l1 := [some (.ref dr), some (.ref at_), some (.ref nm), some (.ref s.length), o3, some (.ref s4.length), none]) (s1 := s6) (by unfold mSet; rw [lcE]; rfl),
    seq_nx (l1 := [some (.ref dr), some (.ref at_), some (.ref nm), some (.ref s.length), o3, some (.ref s4.length), some (.int v7)]) (s1 := s7) (by simp only [mSeq, mExpr, mRet, mRetN, mIfS, mSet, mAug, mCall, mCons, mNil, mVar, mC, mOp, mUn, mApp, mTup, mLst, mNx, mRaise, mAnd, mOr, mNot, mIf, tstB, tstAnd, tstOr, tstNot, mChain, bind_ok, bind_err, bind_no, toS_ok, toS_err, nox_ok, fin_nx, fin_rt, fin_err, startL, List.map_cons, List.map_nil, List.length_cons, List.length_nil, List.cons_append, List.nil_append, List.getElem?_cons_zero, List.getElem?_cons_succ, List.set_cons_zero, List.set_cons_succ, List.replicate_succ, List.replicate_zero, Nat.zero_add, Nat.reduceAdd, Nat.reduceSub, Nat.add_one_sub_one, Nat.sub_self, if_true, if_false, ite_true, ite_false, Bool.false_eq_true, reduceCtorEq, if_pos, Nat.reduceEqDiff, Nat.reduceLeDiff, decide_true, decide_false, Bool.not_true, Bool.not_false, q7]), seq_nx e8,
    seq_nx (l1 := [some (.ref dr), some (.ref at_), some (.ref nm), some (.ref s.length), o3, some (.ref rz), some (.int v7)]) (s1 := s8.set s.length (.lst (ys ++ [st]))) (by simp only [mSeq, mExpr, mRet, mRetN, mIfS, mSet, mAug, mCall, mCons, mNil, mVar, mC, mOp, mUn, mApp, mTup, mLst, mNx, mRaise, mAnd, mOr, mNot, mIf, tstB, tstAnd, tstOr, tstNot, mChain, bind_ok, bind_err, bind_no, toS_ok, toS_err, nox_ok, fin_nx, fin_rt, fin_err, startL, List.map_cons, List.map_nil, List.length_cons, List.length_nil, List.cons_append, List.nil_append, List.getElem?_cons_zero, List.getElem?_cons_succ, List.set_cons_zero, List.set_cons_succ, List.replicate_succ, List.replicate_zero, Nat.zero_add, Nat.reduceAdd, Nat.reduceSub, Nat.add_one_sub_one, Nat.sub_self, if_true, if_false, ite_true, ite_false, Bool.false_eq_true, reduceCtorEq, if_pos, Nat.reduceEqDiff, Nat.reduceLeDiff, decide_true, decide_false, Bool.not_true, Bool.not_false, mLm, rr8, tup_lst h8, ad8]; rw [show gAppend (.ref s.length) [.tup [.str "if", .tup [.str "less", .tup [.str "int", .int 0], .tup [.str "arg"]], .tup (sd ++ [skipD]), .tup [.tup [.str "skip"]]]] s8 = _ from app]; rfl)]
  by_cases h1 : v7 = 1
  · subst h1
    have rv := rev_lst r9
    refine ⟨.tup (ys ++ [st]).reverse, s8.set s.length (.lst (ys ++ [st])) ++ [Ob.lst (ys ++ [st]).reverse], ?_, ?_, g9.app, t09.trans Gt.app⟩
    · simp only [mSeq, mExpr, mRet, mRetN, mIfS, mSet, mAug, mCall, mCons, mNil, mVar, mC, mOp, mUn, mApp, mTup, mLst, mNx, mRaise, mAnd, mOr, mNot, mIf, tstB, tstAnd, tstOr, tstNot, mChain, bind_ok, bind_err, bind_no, toS_ok, toS_err, nox_ok, fin_nx, fin_rt, fin_err, startL, List.map_cons, List.map_nil, List.length_cons, List.length_nil, List.cons_append, List.nil_append, List.getElem?_cons_zero, List.getElem?_cons_succ, List.set_cons_zero, List.set_cons_succ, List.replicate_succ, List.replicate_zero, Nat.zero_add, Nat.reduceAdd, Nat.reduceSub, Nat.add_one_sub_one, Nat.sub_self, if_true, if_false, ite_true, ite_false, Bool.false_eq_true, reduceCtorEq, if_pos, Nat.reduceEqDiff, Nat.reduceLeDiff, decide_true, decide_false, Bool.not_true, Bool.not_false, gEq, gEqB, show ((1 : Int) == 1) = true from rfl, rv]
      rw [tup_lst last_at]
      simp only [mSeq, mExpr, mRet, mRetN, mIfS, mSet, mAug, mCall, mCons, mNil, mVar, mC, mOp, mUn, mApp, mTup, mLst, mNx, mRaise, mAnd, mOr, mNot, mIf, tstB, tstAnd, tstOr, tstNot, mChain, bind_ok, bind_err, bind_no, toS_ok, toS_err, nox_ok, fin_nx, fin_rt, fin_err, startL, List.map_cons, List.map_nil, List.length_cons, List.length_nil, List.cons_append, List.nil_append, List.getElem?_cons_zero, List.getElem?_cons_succ, List.set_cons_zero, List.set_cons_succ, List.replicate_succ, List.replicate_zero, Nat.zero_add, Nat.reduceAdd, Nat.reduceSub, Nat.add_one_sub_one, Nat.sub_self, if_true, if_false, ite_true, ite_false, Bool.false_eq_true, reduceCtorEq, if_pos, Nat.reduceEqDiff, Nat.reduceLeDiff, decide_true, decide_false, Bool.not_true, Bool.not_false]
    · exact ⟨[], ys.reverse, sd, by rw [List.reverse_append]; rfl, by simp, by rw [List.length_reverse]; exact ny, ln8, all_nil, fun x hx => p3 x (List.mem_reverse.mp hx), lb8⟩
  · have hb : (v7 == 1) = false := beq_eq_false_iff_ne.mpr h1
    refine ⟨.tup (ys ++ [st]), s8.set s.length (.lst (ys ++ [st])), ?_, ⟨ys, [], sd, rfl, ny, by simp, ln8, p3, all_nil, lb8⟩, g9, t09⟩
    simp only [mSeq, mExpr, mRet, mRetN, mIfS, mSet, mAug, mCall, mCons, mNil, mVar, mC, mOp, mUn, mApp, mTup, mLst, mNx, mRaise, mAnd, mOr, mNot, mIf, tstB, tstAnd, tstOr, tstNot, mChain, bind_ok, bind_err, bind_no, toS_ok, toS_err, nox_ok, fin_nx, fin_rt, fin_err, startL, List.map_cons, List.map_nil, List.length_cons, List.length_nil, List.cons_append, List.nil_append, List.getElem?_cons_zero, List.getElem?_cons_succ, List.set_cons_zero, List.set_cons_succ, List.replicate_succ, List.replicate_zero, Nat.zero_add, Nat.reduceAdd, Nat.reduceSub, Nat.add_one_sub_one, Nat.sub_self, if_true, if_false, ite_true, ite_false, Bool.false_eq_true, reduceCtorEq, if_pos, Nat.reduceEqDiff, Nat.reduceLeDiff, decide_true, decide_false, Bool.not_true, Bool.not_false, gEq, gEqB, hb]
    rw [tup_lst r9]
    simp only [mSeq, mExpr, mRet, mRetN, mIfS, mSet, mAug, mCall, mCons, mNil, mVar, mC, mOp, mUn, mApp, mTup, mLst, mNx, mRaise, mAnd, mOr, mNot, mIf, tstB, tstAnd, tstOr, tstNot, mChain, bind_ok, bind_err, bind_no, toS_ok, toS_err, nox_ok, fin_nx, fin_rt, fin_err, startL, List.map_cons, List.map_nil, List.length_cons, List.length_nil, List.cons_append, List.nil_append, List.getElem?_cons_zero, List.getElem?_cons_succ, List.set_cons_zero, List.set_cons_succ, List.replicate_succ, List.replicate_zero, Nat.zero_add, Nat.reduceAdd, Nat.reduceSub, Nat.add_one_sub_one, Nat.sub_self, if_true, if_false, ite_true, ite_false, Bool.false_eq_true, reduceCtorEq, if_pos, Nat.reduceEqDiff, Nat.reduceLeDiff, decide_true, decide_false, Bool.not_true, Bool.not_false]
end
end Pr

set_option Elab.async false
set_option linter.all false
set_option maxRecDepth 100000
set_option maxHeartbeats 4000000
/-! drawn kinds -/
namespace Pr
open PySem PySem.Spec PyProof.Rows L2 Core
def FldP (d y : D) : Prop := ∃ (one : Str) (lo hi : Int), d = .str one ∧ y = .tup [.str one, .int lo, .int hi] ∧ -50 ≤ lo ∧ lo ≤ hi ∧ hi ≤ 1000
def HndP (names : List Str) (d y : D) : Prop := ∃ p, y = .tup [d, p] ∧ PrgP names p
def fN : List Str := ["n", "m", "k"]
def hN : List Str := ["go", "tell", "ask"]
def KindP (z : D) (d : D) : Prop := ∃ (j i : Nat) (fs hs : List D), 1 ≤ j ∧ j ≤ 3 ∧ 1 ≤ i ∧ i ≤ 3 ∧ d = .tup [z, .tup fs, .tup hs] ∧ Two FldP ((fN.take j).map D.str) fs ∧ Two (HndP (fN.take j)) ((hN.take i).map D.str) hs
section
variable {s : Mem} {k dr at_ nm : Nat} {names : List Str}
abbrev bFld (k : Nat) : SM := (mSeq (mSet 6 (mOp Core.gSub (mCall 3 (call (k + 1) .law_next) (mCons (mVar 0) (mCons (mVar 1) (mCons (mC (.int 60)) mNil)))) (mC (.int 50))))
    (mExpr (mLm gAppend (mVar 4) (mCons (mTup (mCons (mVar 5) (mCons (mVar 6) (mCons (mOp Core.gAdd (mVar 6) (mCall 3 (call (k + 1) .law_next) (mCons (mVar 0) (mCons (mVar 1) (mCons (mC (.int 200)) mNil))))) mNil)))) mNil))))
theorem fld_row {r : Nat} (hr1 : r ≠ dr) (hr2 : r ≠ at_) (g : Gs dr at_ s) {rs : List D} (hr : s[r]? = some (.lst rs)) (hl : rs.length < 100000) {z c3 : Option D} {one : Str} {o6 : Option D} :
    ∃ s' y o, bFld k [some (.ref dr), some (.ref at_), z, c3, some (.ref r), some (.str one), o6, none] s = .nx [some (.ref dr), some (.ref at_), z, c3, some (.ref r), some (.str one), o, none] s' ∧ FldP (.str one) y ∧ Gs dr at_ s' ∧ Gt2 at_ r s s' ∧ s'[r]? = some (.lst (rs ++ [y])) := by
  obtain ⟨_, s1, q1, ⟨v1, rfl, a1, b1⟩, g1, t1⟩ := c_law_next (k := k) g (many := 60) (by omega)
  obtain ⟨_, s2, q2, ⟨v2, rfl, a2, b2⟩, g2, t2⟩ := c_law_next (k := k) g1 (many := 200) (by omega)
  have r1 := t1.old r _ hr2 hr
  have r2 := t2.old r _ hr2 r1
  refine ⟨s2.set r (.lst (rs ++ [.tup [.str one, .int (v1 - 50), .int (v1 - 50 + v2)]])), .tup [.str one, .int (v1 - 50), .int (v1 - 50 + v2)], some (.int (v1 - 50)), ?_, ⟨one, _, _, rfl, rfl, by omega, by omega, by omega⟩, g2.set hr1 hr2, (t1.trans t2).two.trans .set, set_at r2⟩
  simp only [mSeq, mExpr, mRet, mRetN, mIfS, mSet, mAug, mCall, mCons, mNil, mVar, mC, mOp, mUn, mApp, mTup, mLst, mNx, mRaise, mAnd, mOr, mNot, mIf, tstB, tstAnd, tstOr, tstNot, mChain, bind_ok, bind_err, bind_no, toS_ok, toS_err, nox_ok, fin_nx, fin_rt, fin_err, startL, List.map_cons, List.map_nil, List.length_cons, List.length_nil, List.cons_append, List.nil_append, List.getElem?_cons_zero, List.getElem?_cons_succ, List.set_cons_zero, List.set_cons_succ, List.replicate_succ, List.replicate_zero, Nat.zero_add, Nat.reduceAdd, Nat.reduceSub, Nat.add_one_sub_one, Nat.sub_self, if_true, if_false, ite_true, ite_false, Bool.false_eq_true, reduceCtorEq, if_pos, Nat.reduceEqDiff, Nat.reduceLeDiff, decide_true, decide_false, Bool.not_true, Bool.not_false, q1, Core.gSub, gI2, mLm, r1, q2, Core.gAdd, app_at r2 hl]
theorem c_law_kind (z : D) (g : Gs dr at_ s) : Dr dr at_ s (KindP z) (call (k + 6) .law_kind [.ref dr, .ref at_, z] s) := by
  show Dr dr at_ s _ (Core.fin (m_law_kind (call (k + 5)) [some (.ref dr), some (.ref at_), some z, none, none, none, none, none] s))
  have dl : dr < s.length := let ⟨_, h⟩ := g.hd; (List.getElem?_eq_some_iff.mp h).1
  have al := g.lt
  -- the names
  obtain ⟨N, hN0⟩ : ∃ L : List D, L = fN.map D.str := ⟨_, rfl⟩
  have hN' : N = [D.str "n", D.str "m", D.str "k"] := hN0
  have ln : N.length = 3 := by rw [hN']; rfl
  obtain ⟨_, s2, q2, ⟨v2, rfl, a2, b2⟩, g2, t2⟩ := c_law_next (k := k + 4) (g.app (t := [Ob.lst N])) (many := 3) (by omega)
  have r2 : s2[s.length]? = some (Ob.lst N) := t2.fresh (s1 := s2) al
  obtain ⟨j, hj⟩ : ∃ j : Nat, (1 + v2) = (j : Int) := ⟨(1 + v2).toNat, by omega⟩
  have sl1 := sl_lst (j := j) r2 (by omega)
  have nmE : N.take j = (fN.take j).map D.str := by rw [hN0, List.map_take]
  rw [nmE] at sl1
  -- the fields
  have g4 : Gs dr at_ (s2 ++ [Ob.lst ((fN.take j).map D.str)] ++ [Ob.lst []]) := g2.app.app
  have nmA : (s2 ++ [Ob.lst ((fN.take j).map D.str)] ++ [Ob.lst []])[s2.length]? = some (Ob.lst ((fN.take j).map D.str)) := by rw [List.getElem?_append_left (by simp)]; exact last_at
  have fr : (s2 ++ [Ob.lst ((fN.take j).map D.str)] ++ [Ob.lst []])[(s2 ++ [Ob.lst ((fN.take j).map D.str)]).length]? = some (Ob.lst []) := last_at
  obtain ⟨R, hR⟩ : ∃ R, R = (s2 ++ [Ob.lst ((fN.take j).map D.str)]).length := ⟨_, rfl⟩
  rw [← hR] at fr
  have Rl : s2.length < R := by rw [hR]; simp
  have l2 : s.length ≤ s2.length := Nat.le_trans (by simp) t2.len
  have nm_at : s2.length ≠ at_ := Nat.ne_of_gt g2.lt
  have nm_R : s2.length ≠ R := Nat.ne_of_lt Rl
  obtain ⟨l3, s3, fs, e3, ⟨o3, o3', rfl⟩, r3, w3, g3, t3⟩ := loop_app2 (dr := dr) (at_ := at_) (r := R) (ok := okL s2.length ((fN.take j).map D.str)) (i := 5) (body := bFld (k + 4)) (Lk := fun l => ∃ o o', l = [some (.ref dr), some (.ref at_), some z, some (.ref s2.length), some (.ref R), o, o', none]) (P := FldP) (Kp := fun s => s[s2.length]? = some (.lst ((fN.take j).map D.str)))
    (fun s1 h => okL_of (rd_lst h)) (fun s1 s2' t h => t.old _ _ nm_at nm_R h) ((fN.take j).map D.str) [some (.ref dr), some (.ref at_), some z, some (.ref s2.length), some (.ref R), none, none, none] (s2 ++ [Ob.lst ((fN.take j).map D.str)] ++ [Ob.lst []]) []
    (fun d hd l s1 rs ⟨o, o', hl⟩ gs kp hr hlen => by
      subst hl
      obtain ⟨one, _, rfl⟩ := List.mem_map.mp hd
      obtain ⟨s', y, o2, h1, h2, h3, h4, h5⟩ := fld_row (k := k + 4) (z := some z) (c3 := some (.ref s2.length)) (one := one) (o6 := o') (by omega) (by omega) gs hr hlen
      exact ⟨_, s', y, h1, ⟨_, _, rfl⟩, h2, h3, h4, h5⟩) ⟨_, _, rfl⟩ g4 nmA fr (by rw [List.length_nil, List.length_map, List.length_take]; show 0 + min j 3 ≤ 100000; omega)
  rw [List.nil_append] at r3
  have nm3 := t3.old _ _ nm_at nm_R nmA
  -- the handlers
  obtain ⟨M, hM0⟩ : ∃ L : List D, L = hN.map D.str := ⟨_, rfl⟩
  have hM' : M = [D.str "go", D.str "tell", D.str "ask"] := hM0
  have lm : M.length = 3 := by rw [hM']; rfl
  obtain ⟨_, s5, q5, ⟨v5, rfl, a5, b5⟩, g5, t5⟩ := c_law_next (k := k + 4) (g3.app (t := [Ob.lst M])) (many := 3) (by omega)
  have r5 : s5[s3.length]? = some (Ob.lst M) := t5.fresh (s1 := s5) g3.lt
  have nm5 := t5.old _ _ nm_at (Gt.app.old _ _ nm_at nm3)
  have R_at : R ≠ at_ := by omega
  have fr5 := t5.old _ _ R_at (Gt.app.old _ _ R_at r3)
  obtain ⟨i, hi⟩ : ∃ i : Nat, (1 + v5) = (i : Int) := ⟨(1 + v5).toNat, by omega⟩
  have sl2 := sl_lst (j := i) r5 (by omega)
  have hnE : M.take i = (hN.take i).map D.str := by rw [hM0, List.map_take]
  rw [hnE] at sl2
  have g6 : Gs dr at_ (s5 ++ [Ob.lst ((hN.take i).map D.str)]) := g5.app
  obtain ⟨T, hT⟩ : ∃ T, T = (s5 ++ [Ob.lst ((hN.take i).map D.str)]).length := ⟨_, rfl⟩
  have Tl : s5.length < T := by rw [hT]; simp
  have l5 : R < s5.length := (List.getElem?_eq_some_iff.mp fr5).1
  have hd5 : dr < s5.length := let ⟨_, h⟩ := g5.hd; (List.getElem?_eq_some_iff.mp h).1
  obtain ⟨s7, hs, e7, r7, w7, g7, t7⟩ := lc_draw2 (dr := dr) (at_ := at_) (r := T) (ok := okL s5.length ((hN.take i).map D.str)) (g := gmName 5) (vs := [5]) (l := [some (.ref dr), some (.ref at_), some z, some (.ref s2.length), some (.ref R), o3, o3', none]) (me := mTup (mCons (mVar 5) (mCons (mCall 3 (call (k + 5) .law_program) (mCons (mVar 0) (mCons (mVar 1) (mCons (mVar 3) mNil)))) mNil))) (P := HndP (fN.take j))
    (Kp := fun s => s[s2.length]? = some (.lst ((fN.take j).map D.str)) ∧ s[s5.length]? = some (.lst ((hN.take i).map D.str)))
    (fun s1 h => okL_of (rd_lst h.2)) (fun s1 s2' t h => ⟨t.old _ _ nm_at (by omega) h.1, t.old _ _ (Nat.ne_of_gt g5.lt) (by omega) h.2⟩) (by omega) (by have := g5.lt; omega) ((hN.take i).map D.str) (s5 ++ [Ob.lst ((hN.take i).map D.str)] ++ [Ob.lst []]) []
    (fun d hd => ⟨[some (.ref dr), some (.ref at_), some z, some (.ref s2.length), some (.ref R), some d, o3', none], rfl, fun s1 gs kp => by
      obtain ⟨p, s2', h1, h2, h3, h4⟩ := c_law_program (k := k) (names := fN.take j) (by rw [List.length_take]; show 1 ≤ min j 3; omega) nm_at gs kp.1
      exact ⟨.tup [d, p], s2', by simp only [mSeq, mExpr, mRet, mRetN, mIfS, mSet, mAug, mCall, mCons, mNil, mVar, mC, mOp, mUn, mApp, mTup, mLst, mNx, mRaise, mAnd, mOr, mNot, mIf, tstB, tstAnd, tstOr, tstNot, mChain, bind_ok, bind_err, bind_no, toS_ok, toS_err, nox_ok, fin_nx, fin_rt, fin_err, startL, List.map_cons, List.map_nil, List.length_cons, List.length_nil, List.cons_append, List.nil_append, List.getElem?_cons_zero, List.getElem?_cons_succ, List.set_cons_zero, List.set_cons_succ, List.replicate_succ, List.replicate_zero, Nat.zero_add, Nat.reduceAdd, Nat.reduceSub, Nat.add_one_sub_one, Nat.sub_self, if_true, if_false, ite_true, ite_false, Bool.false_eq_true, reduceCtorEq, if_pos, Nat.reduceEqDiff, Nat.reduceLeDiff, decide_true, decide_false, Bool.not_true, Bool.not_false, h1], ⟨p, rfl, h2⟩, h3, h4⟩⟩) g6.app ⟨Gt.app.old _ _ nm_at (Gt.app.old _ _ nm_at nm5), by rw [List.getElem?_append_left (by simp)]; exact last_at⟩ (by rw [hT]; exact last_at) (by rw [List.length_nil, List.length_map, List.length_take]; show 0 + min i 3 ≤ 100000; omega)
  rw [List.nil_append] at r7
  have fr7 : s7[R]? = some (.lst fs) := t7.old _ _ R_at (by omega) (Gt.app.old _ _ R_at (Gt.app.old _ _ R_at fr5))
  have tall : Gt at_ s s7 := by
    have x1 : Gt at_ s s2 := Gt.app.trans t2
    have x2 : Gt at_ s2 s3 := Gt.app.trans (by subst hR; exact t3.close)
    have x3 : Gt at_ s3 s5 := Gt.app.trans t5
    have x4 : Gt at_ s5 s7 := Gt.app.trans (by subst hT; exact t7.close)
    exact x1.trans (x2.trans (x3.trans x4))
  refine ⟨.tup [z, .tup fs, .tup hs], s7, ?_, ⟨j, i, fs, hs, by omega, by omega, by omega, by omega, rfl, w3, w7⟩, g7, tall⟩
  unfold m_law_kind
  rw [seq_nx (l1 := [some (.ref dr), some (.ref at_), some z, some (.ref s2.length), none, none, none, none]) (s1 := s2 ++ [Ob.lst ((fN.take j).map D.str)]) (by simp only [mSeq, mExpr, mRet, mRetN, mIfS, mSet, mAug, mCall, mCons, mNil, mVar, mC, mOp, mUn, mApp, mTup, mLst, mNx, mRaise, mAnd, mOr, mNot, mIf, tstB, tstAnd, tstOr, tstNot, mChain, bind_ok, bind_err, bind_no, toS_ok, toS_err, nox_ok, fin_nx, fin_rt, fin_err, startL, List.map_cons, List.map_nil, List.length_cons, List.length_nil, List.cons_append, List.nil_append, List.getElem?_cons_zero, List.getElem?_cons_succ, List.set_cons_zero, List.set_cons_succ, List.replicate_succ, List.replicate_zero, Nat.zero_add, Nat.reduceAdd, Nat.reduceSub, Nat.add_one_sub_one, Nat.sub_self, if_true, if_false, ite_true, ite_false, Bool.false_eq_true, reduceCtorEq, if_pos, Nat.reduceEqDiff, Nat.reduceLeDiff, decide_true, decide_false, Bool.not_true, Bool.not_false, mSl, oNone, oSome]; rw [← hN']; simp only [mSeq, mExpr, mRet, mRetN, mIfS, mSet, mAug, mCall, mCons, mNil, mVar, mC, mOp, mUn, mApp, mTup, mLst, mNx, mRaise, mAnd, mOr, mNot, mIf, tstB, tstAnd, tstOr, tstNot, mChain, bind_ok, bind_err, bind_no, toS_ok, toS_err, nox_ok, fin_nx, fin_rt, fin_err, startL, List.map_cons, List.map_nil, List.length_cons, List.length_nil, List.cons_append, List.nil_append, List.getElem?_cons_zero, List.getElem?_cons_succ, List.set_cons_zero, List.set_cons_succ, List.replicate_succ, List.replicate_zero, Nat.zero_add, Nat.reduceAdd, Nat.reduceSub, Nat.add_one_sub_one, Nat.sub_self, if_true, if_false, ite_true, ite_false, Bool.false_eq_true, reduceCtorEq, if_pos, Nat.reduceEqDiff, Nat.reduceLeDiff, decide_true, decide_false, Bool.not_true, Bool.not_false, q2, Core.gAdd]; rw [hj, sl1]; simp only [mSeq, mExpr, mRet, mRetN, mIfS, mSet, mAug, mCall, mCons, mNil, mVar, mC, mOp, mUn, mApp, mTup, mLst, mNx, mRaise, mAnd, mOr, mNot, mIf, tstB, tstAnd, tstOr, tstNot, mChain, bind_ok, bind_err, bind_no, toS_ok, toS_err, nox_ok, fin_nx, fin_rt, fin_err, startL, List.map_cons, List.map_nil, List.length_cons, List.length_nil, List.cons_append, List.nil_append, List.getElem?_cons_zero, List.getElem?_cons_succ, List.set_cons_zero, List.set_cons_succ, List.replicate_succ, List.replicate_zero, Nat.zero_add, Nat.reduceAdd, Nat.reduceSub, Nat.add_one_sub_one, Nat.sub_self, if_true, if_false, ite_true, ite_false, Bool.false_eq_true, reduceCtorEq, if_pos, Nat.reduceEqDiff, Nat.reduceLeDiff, decide_true, decide_false, Bool.not_true, Bool.not_false]),
    seq_nx (l1 := [some (.ref dr), some (.ref at_), some z, some (.ref s2.length), some (.ref R), none, none, none]) (s1 := s2 ++ [Ob.lst ((fN.take j).map D.str)] ++ [Ob.lst []]) (by simp only [mSeq, mExpr, mRet, mRetN, mIfS, mSet, mAug, mCall, mCons, mNil, mVar, mC, mOp, mUn, mApp, mTup, mLst, mNx, mRaise, mAnd, mOr, mNot, mIf, tstB, tstAnd, tstOr, tstNot, mChain, bind_ok, bind_err, bind_no, toS_ok, toS_err, nox_ok, fin_nx, fin_rt, fin_err, startL, List.map_cons, List.map_nil, List.length_cons, List.length_nil, List.cons_append, List.nil_append, List.getElem?_cons_zero, List.getElem?_cons_succ, List.set_cons_zero, List.set_cons_succ, List.replicate_succ, List.replicate_zero, Nat.zero_add, Nat.reduceAdd, Nat.reduceSub, Nat.add_one_sub_one, Nat.sub_self, if_true, if_false, ite_true, ite_false, Bool.false_eq_true, reduceCtorEq, if_pos, Nat.reduceEqDiff, Nat.reduceLeDiff, decide_true, decide_false, Bool.not_true, Bool.not_false]; rw [hR]),
    seq_nx ((for_ref (s1 := s2 ++ [Ob.lst ((fN.take j).map D.str)] ++ [Ob.lst []]) (m := s2.length) rfl (rd_lst nmA)).trans e3)]
  have lcE : mLc (iSeq (mSl (mLst (mCons (mC (.str "go")) (mCons (mC (.str "tell")) (mCons (mC (.str "ask")) mNil)))) oNone (oSome (mOp Core.gAdd (mC (.int 1)) (mCall 3 (call (k + 5) .law_next) (mCons (mVar 0) (mCons (mVar 1) (mCons (mC (.int 3)) mNil)))))))) (gmName 5) [5] tYes' (mTup (mCons (mVar 5) (mCons (mCall 3 (call (k + 5) .law_program) (mCons (mVar 0) (mCons (mVar 1) (mCons (mVar 3) mNil)))) mNil))) [some (.ref dr), some (.ref at_), some z, some (.ref s2.length), some (.ref R), o3, o3', none] s3 = .ok (.ref T) s7 := by
    have it : iSeq (mSl (mLst (mCons (mC (.str "go")) (mCons (mC (.str "tell")) (mCons (mC (.str "ask")) mNil)))) oNone (oSome (mOp Core.gAdd (mC (.int 1)) (mCall 3 (call (k + 5) .law_next) (mCons (mVar 0) (mCons (mVar 1) (mCons (mC (.int 3)) mNil))))))) [some (.ref dr), some (.ref at_), some z, some (.ref s2.length), some (.ref R), o3, o3', none] s3 = .ok ⟨(hN.take i).map D.str, okL s5.length ((hN.take i).map D.str)⟩ (s5 ++ [Ob.lst ((hN.take i).map D.str)]) := by
      unfold iSeq
      simp only [mSeq, mExpr, mRet, mRetN, mIfS, mSet, mAug, mCall, mCons, mNil, mVar, mC, mOp, mUn, mApp, mTup, mLst, mNx, mRaise, mAnd, mOr, mNot, mIf, tstB, tstAnd, tstOr, tstNot, mChain, bind_ok, bind_err, bind_no, toS_ok, toS_err, nox_ok, fin_nx, fin_rt, fin_err, startL, List.map_cons, List.map_nil, List.length_cons, List.length_nil, List.cons_append, List.nil_append, List.getElem?_cons_zero, List.getElem?_cons_succ, List.set_cons_zero, List.set_cons_succ, List.replicate_succ, List.replicate_zero, Nat.zero_add, Nat.reduceAdd, Nat.reduceSub, Nat.add_one_sub_one, Nat.sub_self, if_true, if_false, ite_true, ite_false, Bool.false_eq_true, reduceCtorEq, if_pos, Nat.reduceEqDiff, Nat.reduceLeDiff, decide_true, decide_false, Bool.not_true, Bool.not_false, mSl, oNone, oSome]
      rw [← hM']
      simp only [mSeq, mExpr, mRet, mRetN, mIfS, mSet, mAug, mCall, mCons, mNil, mVar, mC, mOp, mUn, mApp, mTup, mLst, mNx, mRaise, mAnd, mOr, mNot, mIf, tstB, tstAnd, tstOr, tstNot, mChain, bind_ok, bind_err, bind_no, toS_ok, toS_err, nox_ok, fin_nx, fin_rt, fin_err, startL, List.map_cons, List.map_nil, List.length_cons, List.length_nil, List.cons_append, List.nil_append, List.getElem?_cons_zero, List.getElem?_cons_succ, List.set_cons_zero, List.set_cons_succ, List.replicate_succ, List.replicate_zero, Nat.zero_add, Nat.reduceAdd, Nat.reduceSub, Nat.add_one_sub_one, Nat.sub_self, if_true, if_false, ite_true, ite_false, Bool.false_eq_true, reduceCtorEq, if_pos, Nat.reduceEqDiff, Nat.reduceLeDiff, decide_true, decide_false, Bool.not_true, Bool.not_false, q5, Core.gAdd]
      rw [hi, sl2]
      simp only [mSeq, mExpr, mRet, mRetN, mIfS, mSet, mAug, mCall, mCons, mNil, mVar, mC, mOp, mUn, mApp, mTup, mLst, mNx, mRaise, mAnd, mOr, mNot, mIf, tstB, tstAnd, tstOr, tstNot, mChain, bind_ok, bind_err, bind_no, toS_ok, toS_err, nox_ok, fin_nx, fin_rt, fin_err, startL, List.map_cons, List.map_nil, List.length_cons, List.length_nil, List.cons_append, List.nil_append, List.getElem?_cons_zero, List.getElem?_cons_succ, List.set_cons_zero, List.set_cons_succ, List.replicate_succ, List.replicate_zero, Nat.zero_add, Nat.reduceAdd, Nat.reduceSub, Nat.add_one_sub_one, Nat.sub_self, if_true, if_false, ite_true, ite_false, Bool.false_eq_true, reduceCtorEq, if_pos, Nat.reduceEqDiff, Nat.reduceLeDiff, decide_true, decide_false, Bool.not_true, Bool.not_false, rd_lst (s := s5 ++ [Ob.lst ((hN.take i).map D.str)]) (n := s5.length) last_at]
    unfold mLc
    rw [it, bind_ok]
    dsimp only
    rw [← hT]
    exact e7
  rw [seq_nx (l1 := [some (.ref dr), some (.ref at_), some z, some (.ref s2.length), some (.ref R), o3, o3', some (.ref T)]) (s1 := s7) (by unfold mSet; rw [lcE]; rfl)]
  simp only [mSeq, mExpr, mRet, mRetN, mIfS, mSet, mAug, mCall, mCons, mNil, mVar, mC, mOp, mUn, mApp, mTup, mLst, mNx, mRaise, mAnd, mOr, mNot, mIf, tstB, tstAnd, tstOr, tstNot, mChain, bind_ok, bind_err, bind_no, toS_ok, toS_err, nox_ok, fin_nx, fin_rt, fin_err, startL, List.map_cons, List.map_nil, List.length_cons, List.length_nil, List.cons_append, List.nil_append, List.getElem?_cons_zero, List.getElem?_cons_succ, List.set_cons_zero, List.set_cons_succ, List.replicate_succ, List.replicate_zero, Nat.zero_add, Nat.reduceAdd, Nat.reduceSub, Nat.add_one_sub_one, Nat.sub_self, if_true, if_false, ite_true, ite_false, Bool.false_eq_true, reduceCtorEq, if_pos, Nat.reduceEqDiff, Nat.reduceLeDiff, decide_true, decide_false, Bool.not_true, Bool.not_false, tup_lst fr7, tup_lst r7]
end
end Pr

set_option Elab.async false
set_option linter.all false
set_option maxRecDepth 100000
set_option maxHeartbeats 4000000
/-! drawn models -/
namespace Pr
open PySem PySem.Spec PyProof.Rows L2 Core
def bN : List Str := ["box", "lamp"]
def KnP (d y : D) : Prop := ∃ i : Nat, d = .int (0 + (i : Int)) ∧ ∃ z : Str, bN[i]? = some z ∧ KindP (.str z) y
def ObP (j : Nat) (y : D) : Prop := ∃ z ∈ bN.take j, y = .str z
def EvP (many e : Int) (y : D) : Prop := ∃ (t g a : Int) (n : Str), y = .tup [.int t, .int g, .str n, .int a] ∧ 0 ≤ t ∧ t ≤ e ∧ 0 ≤ g ∧ g < many ∧ n ∈ hN ∧ 0 ≤ a ∧ a ≤ 5
def ModelP (d : D) : Prop := ∃ (j : Nat) (ks os st : List D) (e : Int), d = .tup [.tup ks, .tup os, .tup st, .int e] ∧ 1 ≤ j ∧ j ≤ 2 ∧ Two KnP ((List.range j).map fun (i : Nat) => D.int (0 + (i : Int))) ks ∧ 1 ≤ os.length ∧ os.length ≤ 8 ∧ (∀ o ∈ os, ObP j o) ∧ st.length ≤ 8 ∧ (∀ y ∈ st, EvP os.length e y) ∧ 0 ≤ e ∧ e ≤ 30
section
variable {s : Mem} {k dr at_ nm : Nat} {names : List Str}
abbrev bEv (k : Nat) : SM := (mSeq (mSet 9 (mOp gIx (mLst (mCons (mC (.str "go")) (mCons (mC (.str "tell")) (mCons (mC (.str "ask")) mNil)))) (mCall 3 (call (k + 1) .law_next) (mCons (mVar 0) (mCons (mVar 1) (mCons (mC (.int 3)) mNil))))))
    (mExpr (mLm gAppend (mVar 7) (mCons (mTup (mCons (mCall 3 (call (k + 1) .law_next) (mCons (mVar 0) (mCons (mVar 1) (mCons (mOp Core.gAdd (mVar 6) (mC (.int 1))) mNil)))) (mCons (mCall 3 (call (k + 1) .law_next) (mCons (mVar 0) (mCons (mVar 1) (mCons (mApp gLen (mCons (mVar 5) mNil)) mNil)))) (mCons (mVar 9) (mCons (mCall 3 (call (k + 1) .law_next) (mCons (mVar 0) (mCons (mVar 1) (mCons (mVar 4) mNil)))) mNil))))) mNil))))
theorem ev_row {r : Nat} (hr1 : r ≠ dr) (hr2 : r ≠ at_) (g : Gs dr at_ s) {rs os : List D} (hr : s[r]? = some (.lst rs)) (hl : rs.length < 100000) {c2 c3 c8 c9 : Option D} {most e : Int} (h1 : 1 ≤ most) (h2 : most ≤ 5) (h3 : 0 ≤ e) (h4 : 1 ≤ os.length) :
    ∃ s' y o9, bEv k [some (.ref dr), some (.ref at_), c2, c3, some (.int most), some (.tup os), some (.int e), some (.ref r), c8, c9] s = .nx [some (.ref dr), some (.ref at_), c2, c3, some (.int most), some (.tup os), some (.int e), some (.ref r), c8, o9] s' ∧ EvP os.length e y ∧ Gs dr at_ s' ∧ Gt2 at_ r s s' ∧ s'[r]? = some (.lst (rs ++ [y])) := by
  obtain ⟨M, hM0⟩ : ∃ L : List D, L = hN.map D.str := ⟨_, rfl⟩
  have hM' : M = [D.str "go", D.str "tell", D.str "ask"] := hM0
  obtain ⟨_, s1, q1, ⟨v1, rfl, a1, b1⟩, g1, t1⟩ := c_law_next (k := k) (g.app (t := [Ob.lst M])) (many := 3) (by omega)
  have m1 : s1[s.length]? = some (Ob.lst (hN.map D.str)) := by rw [← hM0]; exact t1.fresh (s1 := s1) g.lt
  obtain ⟨z, hz, p1⟩ := pickN m1 a1 (by exact b1)
  have r1 := t1.old r _ hr2 (Gt.app.old r _ hr2 hr)
  obtain ⟨_, s2, q2, ⟨v2, rfl, a2, b2⟩, g2, t2⟩ := c_law_next (k := k) g1 (many := e + 1) (by omega)
  obtain ⟨_, s3, q3, ⟨v3, rfl, a3, b3⟩, g3, t3⟩ := c_law_next (k := k) g2 (many := os.length) (by omega)
  obtain ⟨_, s4, q4, ⟨v4, rfl, a4, b4⟩, g4, t4⟩ := c_law_next (k := k) g3 (many := most) (by omega)
  have r4 := t4.old r _ hr2 (t3.old r _ hr2 (t2.old r _ hr2 r1))
  refine ⟨s4.set r (.lst (rs ++ [.tup [.int v2, .int v3, .str z, .int v4]])), .tup [.int v2, .int v3, .str z, .int v4], some (.str z), ?_, ⟨v2, v3, v4, z, rfl, by omega, by omega, by omega, by omega, hz, by omega, by omega⟩, g4.set hr1 hr2, (Gt.app.trans (t1.trans (t2.trans (t3.trans t4)))).two.trans .set, set_at r4⟩
  simp only [mSeq, mExpr, mRet, mRetN, mIfS, mSet, mAug, mCall, mCons, mNil, mVar, mC, mOp, mUn, mApp, mTup, mLst, mNx, mRaise, mAnd, mOr, mNot, mIf, tstB, tstAnd, tstOr, tstNot, mChain, bind_ok, bind_err, bind_no, toS_ok, toS_err, nox_ok, fin_nx, fin_rt, fin_err, startL, List.map_cons, List.map_nil, List.length_cons, List.length_nil, List.cons_append, List.nil_append, List.getElem?_cons_zero, List.getElem?_cons_succ, List.set_cons_zero, List.set_cons_succ, List.replicate_succ, List.replicate_zero, Nat.zero_add, Nat.reduceAdd, Nat.reduceSub, Nat.add_one_sub_one, Nat.sub_self, if_true, if_false, ite_true, ite_false, Bool.false_eq_true, reduceCtorEq, if_pos, Nat.reduceEqDiff, Nat.reduceLeDiff, decide_true, decide_false, Bool.not_true, Bool.not_false]
  rw [← hM']
  simp only [mSeq, mExpr, mRet, mRetN, mIfS, mSet, mAug, mCall, mCons, mNil, mVar, mC, mOp, mUn, mApp, mTup, mLst, mNx, mRaise, mAnd, mOr, mNot, mIf, tstB, tstAnd, tstOr, tstNot, mChain, bind_ok, bind_err, bind_no, toS_ok, toS_err, nox_ok, fin_nx, fin_rt, fin_err, startL, List.map_cons, List.map_nil, List.length_cons, List.length_nil, List.cons_append, List.nil_append, List.getElem?_cons_zero, List.getElem?_cons_succ, List.set_cons_zero, List.set_cons_succ, List.replicate_succ, List.replicate_zero, Nat.zero_add, Nat.reduceAdd, Nat.reduceSub, Nat.add_one_sub_one, Nat.sub_self, if_true, if_false, ite_true, ite_false, Bool.false_eq_true, reduceCtorEq, if_pos, Nat.reduceEqDiff, Nat.reduceLeDiff, decide_true, decide_false, Bool.not_true, Bool.not_false, q1, p1, mLm, r1, Core.gAdd, q2, gLen, seqD, q3, q4, app_at r4 hl]
theorem c_law_model (g : Gs dr at_ s) : Dr dr at_ s ModelP (call (k + 7) .law_model [.ref dr, .ref at_] s) := by
  show Dr dr at_ s _ (Core.fin (m_law_model (call (k + 6)) [some (.ref dr), some (.ref at_), none, none, none, none, none, none, none, none] s))
  have dl : ∀ {s : Mem}, Gs dr at_ s → dr < s.length := fun g => let ⟨_, h⟩ := g.hd; (List.getElem?_eq_some_iff.mp h).1
  obtain ⟨B, hB0⟩ : ∃ L : List D, L = bN.map D.str := ⟨_, rfl⟩
  have hB' : B = [D.str "box", D.str "lamp"] := hB0
  have lB : B.length = 2 := by rw [hB']; rfl
  -- the kinds
  obtain ⟨_, s1, q1, ⟨v1, rfl, a1, b1⟩, g1, t1⟩ := c_law_next (k := k + 5) g (many := 2) (by omega)
  obtain ⟨j, hj⟩ : ∃ j : Nat, (1 + v1) = (j : Int) := ⟨(1 + v1).toNat, by omega⟩
  obtain ⟨s2, ks, e2, r2, w2, g2, t2⟩ := lc_draw2 (dr := dr) (at_ := at_) (r := s1.length) (ok := fun _ => true) (g := gmName 8) (vs := [8]) (l := [some (.ref dr), some (.ref at_), none, none, none, none, none, none, none, none]) (me := mCall 3 (call (k + 6) .law_kind) (mCons (mVar 0) (mCons (mVar 1) (mCons (mOp gIx (mLst (mCons (mC (.str "box")) (mCons (mC (.str "lamp")) mNil))) (mVar 8)) mNil)))) (P := KnP) (Kp := fun _ => True)
    (fun _ _ => rfl) (fun _ _ _ _ => trivial) (Nat.ne_of_gt (dl g1)) (Nat.ne_of_gt g1.lt) ((List.range j).map fun (i : Nat) => D.int (0 + (i : Int))) (s1 ++ [Ob.lst []]) []
    (fun d hd => ⟨[some (.ref dr), some (.ref at_), none, none, none, none, none, none, some d, none], rfl, fun s' gs _ => by
      obtain ⟨i, hi, rfl⟩ := List.mem_map.mp hd
      have hi := List.mem_range.mp hi
      have hi2 : i < bN.length := by show i < 2; omega
      have p : gIx (.ref s'.length) (.int (0 + (i : Int))) (s' ++ [Ob.lst B]) = .ok (.str bN[i]) (s' ++ [Ob.lst B]) := by
        rw [Int.zero_add]
        exact ix_lst last_at (by rw [hB0, List.getElem?_map, List.getElem?_eq_getElem hi2]; rfl)
      obtain ⟨y, s3, h1, h2, h3, h4⟩ := c_law_kind (k := k) (.str bN[i]) (gs.app (t := [Ob.lst B]))
      refine ⟨y, s3, ?_, ⟨i, rfl, _, List.getElem?_eq_getElem hi2, h2⟩, h3, Gt.app.trans h4⟩
      simp only [mSeq, mExpr, mRet, mRetN, mIfS, mSet, mAug, mCall, mCons, mNil, mVar, mC, mOp, mUn, mApp, mTup, mLst, mNx, mRaise, mAnd, mOr, mNot, mIf, tstB, tstAnd, tstOr, tstNot, mChain, bind_ok, bind_err, bind_no, toS_ok, toS_err, nox_ok, fin_nx, fin_rt, fin_err, startL, List.map_cons, List.map_nil, List.length_cons, List.length_nil, List.cons_append, List.nil_append, List.getElem?_cons_zero, List.getElem?_cons_succ, List.set_cons_zero, List.set_cons_succ, List.replicate_succ, List.replicate_zero, Nat.zero_add, Nat.reduceAdd, Nat.reduceSub, Nat.add_one_sub_one, Nat.sub_self, if_true, if_false, ite_true, ite_false, Bool.false_eq_true, reduceCtorEq, if_pos, Nat.reduceEqDiff, Nat.reduceLeDiff, decide_true, decide_false, Bool.not_true, Bool.not_false]
      rw [← hB']
      simp only [mSeq, mExpr, mRet, mRetN, mIfS, mSet, mAug, mCall, mCons, mNil, mVar, mC, mOp, mUn, mApp, mTup, mLst, mNx, mRaise, mAnd, mOr, mNot, mIf, tstB, tstAnd, tstOr, tstNot, mChain, bind_ok, bind_err, bind_no, toS_ok, toS_err, nox_ok, fin_nx, fin_rt, fin_err, startL, List.map_cons, List.map_nil, List.length_cons, List.length_nil, List.cons_append, List.nil_append, List.getElem?_cons_zero, List.getElem?_cons_succ, List.set_cons_zero, List.set_cons_succ, List.replicate_succ, List.replicate_zero, Nat.zero_add, Nat.reduceAdd, Nat.reduceSub, Nat.add_one_sub_one, Nat.sub_self, if_true, if_false, ite_true, ite_false, Bool.false_eq_true, reduceCtorEq, if_pos, Nat.reduceEqDiff, Nat.reduceLeDiff, decide_true, decide_false, Bool.not_true, Bool.not_false, p, h1]⟩) g1.app trivial last_at (by rw [rng_len, List.length_nil]; omega)
  rw [List.nil_append] at r2
  have t12 : Gt at_ s1 s2 := t2.close
  have lk : ks.length = j := by rw [w2.len, rng_len]
  have K_at : s1.length ≠ at_ := Nat.ne_of_gt g1.lt
  -- many, most
  obtain ⟨C, hC⟩ : ∃ L : List D, L = [.tup [.int 5, .int 5], .tup [.int 8, .int 4]] := ⟨_, rfl⟩
  obtain ⟨_, s3, q3, ⟨v3, rfl, a3, b3⟩, g3, t3⟩ := c_law_next (k := k + 5) (g2.app (t := [Ob.lst C])) (many := 2) (by omega)
  have m3 : s3[s2.length]? = some (Ob.lst C) := t3.fresh (s1 := s3) g2.lt
  obtain ⟨many, most, p3, hmm⟩ : ∃ many most : Int, gIx (.ref s2.length) (.int v3) s3 = .ok (.tup [.int many, .int most]) s3 ∧ ((many = 5 ∧ most = 5) ∨ (many = 8 ∧ most = 4)) := by
    obtain ⟨i, hi, rfl, p⟩ := pickL m3 a3 (by rw [hC]; exact b3)
    subst hC
    match i, hi with
    | 0, _ => exact ⟨5, 5, p, .inl ⟨rfl, rfl⟩⟩
    | 1, _ => exact ⟨8, 4, p, .inr ⟨rfl, rfl⟩⟩
  have K3 := t3.old _ _ K_at (Gt.app.old _ _ K_at r2)
  -- the objects
  obtain ⟨_, s4, q4, ⟨v4, rfl, a4, b4⟩, g4, t4⟩ := c_law_next (k := k + 5) g3 (many := many) (by omega)
  have K4 := t4.old _ _ K_at K3
  have Kl : s1.length < s4.length := (List.getElem?_eq_some_iff.mp K4).1
  obtain ⟨s5, os, e5, r5, n5, p5, g5, t5⟩ := lc_draw (dr := dr) (at_ := at_) (r := s4.length) (ok := fun _ => true) (g := gmName 8) (vs := [8]) (l := [some (.ref dr), some (.ref at_), some (.ref s1.length), some (.int many), some (.int most), none, none, none, none, none]) (me := mOp gIx (mLst (mCons (mC (.str "box")) (mCons (mC (.str "lamp")) mNil))) (mCall 3 (call (k + 6) .law_next) (mCons (mVar 0) (mCons (mVar 1) (mCons (mApp gLen (mCons (mVar 2) mNil)) mNil))))) (P := ObP j) (Kp := fun s => s[s1.length]? = some (.lst ks))
    (fun _ _ => rfl) (fun s1' s2' t h => t.old _ _ K_at (by omega) h) (Nat.ne_of_gt (dl g4)) (Nat.ne_of_gt g4.lt) ((List.range (1 + v4).toNat).map fun (i : Nat) => D.int (0 + (i : Int))) (s4 ++ [Ob.lst []]) []
    (fun d hd => ⟨[some (.ref dr), some (.ref at_), some (.ref s1.length), some (.int many), some (.int most), none, none, none, some d, none], rfl, fun s' gs kp => by
      have kp' := Gt.app (t := [Ob.lst B]).old _ _ K_at kp
      obtain ⟨_, sx, qx, ⟨vx, rfl, ax, bx⟩, gx', tx⟩ := c_law_next (k := k + 5) (gs.app (t := [Ob.lst B])) (many := ks.length) (by omega)
      have mx : sx[s'.length]? = some (Ob.lst B) := tx.fresh (s1 := sx) gs.lt
      obtain ⟨i, rfl⟩ : ∃ i : Nat, vx = (i : Int) := ⟨vx.toNat, by omega⟩
      have hi2 : i < bN.length := by show i < 2; omega
      have p : gIx (.ref s'.length) (.int (i : Int)) sx = .ok (.str bN[i]) sx := ix_lst mx (by rw [hB0, List.getElem?_map, List.getElem?_eq_getElem hi2]; rfl)
      refine ⟨.str bN[i], sx, ?_, ⟨bN[i], List.mem_take_iff_getElem.mpr ⟨i, by omega, rfl⟩, rfl⟩, gx', Gt.app.trans tx⟩
      simp only [mSeq, mExpr, mRet, mRetN, mIfS, mSet, mAug, mCall, mCons, mNil, mVar, mC, mOp, mUn, mApp, mTup, mLst, mNx, mRaise, mAnd, mOr, mNot, mIf, tstB, tstAnd, tstOr, tstNot, mChain, bind_ok, bind_err, bind_no, toS_ok, toS_err, nox_ok, fin_nx, fin_rt, fin_err, startL, List.map_cons, List.map_nil, List.length_cons, List.length_nil, List.cons_append, List.nil_append, List.getElem?_cons_zero, List.getElem?_cons_succ, List.set_cons_zero, List.set_cons_succ, List.replicate_succ, List.replicate_zero, Nat.zero_add, Nat.reduceAdd, Nat.reduceSub, Nat.add_one_sub_one, Nat.sub_self, if_true, if_false, ite_true, ite_false, Bool.false_eq_true, reduceCtorEq, if_pos, Nat.reduceEqDiff, Nat.reduceLeDiff, decide_true, decide_false, Bool.not_true, Bool.not_false]
      rw [← hB']
      simp only [mSeq, mExpr, mRet, mRetN, mIfS, mSet, mAug, mCall, mCons, mNil, mVar, mC, mOp, mUn, mApp, mTup, mLst, mNx, mRaise, mAnd, mOr, mNot, mIf, tstB, tstAnd, tstOr, tstNot, mChain, bind_ok, bind_err, bind_no, toS_ok, toS_err, nox_ok, fin_nx, fin_rt, fin_err, startL, List.map_cons, List.map_nil, List.length_cons, List.length_nil, List.cons_append, List.nil_append, List.getElem?_cons_zero, List.getElem?_cons_succ, List.set_cons_zero, List.set_cons_succ, List.replicate_succ, List.replicate_zero, Nat.zero_add, Nat.reduceAdd, Nat.reduceSub, Nat.add_one_sub_one, Nat.sub_self, if_true, if_false, ite_true, ite_false, Bool.false_eq_true, reduceCtorEq, if_pos, Nat.reduceEqDiff, Nat.reduceLeDiff, decide_true, decide_false, Bool.not_true, Bool.not_false, gLen, sq_lst kp', qx, p]⟩) g4.app (Gt.app.old _ _ K_at K4) last_at (by rw [rng_len, List.length_nil]; omega)
  rw [List.nil_append] at r5
  rw [rng_len] at n5
  have t45 : Gt at_ s4 s5 := t5.close
  have K5 := t45.old _ _ K_at K4
  -- the end
  obtain ⟨E, hE⟩ : ∃ L : List D, L = [.int 12, .int 7, .int 3, .int 30, .int 0] := ⟨_, rfl⟩
  obtain ⟨_, s6, q6, ⟨v6, rfl, a6, b6⟩, g6, t6⟩ := c_law_next (k := k + 5) (g5.app (t := [Ob.lst E])) (many := 5) (by omega)
  have m6 : s6[s5.length]? = some (Ob.lst E) := t6.fresh (s1 := s6) g5.lt
  obtain ⟨e, p6, he0, he1⟩ : ∃ e : Int, gIx (.ref s5.length) (.int v6) s6 = .ok (.int e) s6 ∧ 0 ≤ e ∧ e ≤ 30 := by
    obtain ⟨i, hi, rfl, p⟩ := pickL m6 a6 (by rw [hE]; exact b6)
    subst hE
    match i, hi with
    | 0, _ => exact ⟨12, p, by omega, by omega⟩
    | 1, _ => exact ⟨7, p, by omega, by omega⟩
    | 2, _ => exact ⟨3, p, by omega, by omega⟩
    | 3, _ => exact ⟨30, p, by omega, by omega⟩
    | 4, _ => exact ⟨0, p, by omega, by omega⟩
  have K6 := t6.old _ _ K_at (Gt.app.old _ _ K_at K5)
  -- the start
  obtain ⟨F, hF⟩ : ∃ L : List D, L = [.int 5, .int 9] := ⟨_, rfl⟩
  have g7 : Gs dr at_ (s6 ++ [Ob.lst []] ++ [Ob.lst F]) := g6.app.app
  have mF : (s6 ++ [Ob.lst []] ++ [Ob.lst F])[(s6 ++ [Ob.lst []]).length]? = some (Ob.lst F) := last_at
  obtain ⟨most2, pF, hm2⟩ : ∃ m : Int, gIx (.ref (s6 ++ [Ob.lst []]).length) (.int (if (many == 8) = true then 1 else 0)) (s6 ++ [Ob.lst []] ++ [Ob.lst F]) = .ok (.int m) (s6 ++ [Ob.lst []] ++ [Ob.lst F]) ∧ 1 ≤ m ∧ m ≤ 9 := by
    rcases hmm with ⟨rfl, _⟩ | ⟨rfl, _⟩
    · exact ⟨5, ix_lst (i := 0) mF (by rw [hF]; rfl), by omega, by omega⟩
    · exact ⟨9, ix_lst (i := 1) mF (by rw [hF]; rfl), by omega, by omega⟩
  obtain ⟨_, s8, q8, ⟨v8, rfl, a8, b8⟩, g8, t8⟩ := c_law_next (k := k + 5) g7 (many := most2) hm2.1
  have R_at : s6.length ≠ at_ := Nat.ne_of_gt g6.lt
  have R8 : s8[s6.length]? = some (Ob.lst []) := t8.old _ _ R_at (by rw [List.getElem?_append_left (by simp)]; exact last_at)
  have hmost : 1 ≤ most ∧ most ≤ 5 := by rcases hmm with ⟨_, rfl⟩ | ⟨_, rfl⟩ <;> omega
  have hmany : many ≤ 8 := by rcases hmm with ⟨rfl, _⟩ | ⟨rfl, _⟩ <;> omega
  have los : 1 ≤ os.length := by omega
  obtain ⟨l9, s9, st, e9, ⟨o8, o9, rfl⟩, r9, n9, p9, g9, t9⟩ := loop_app (dr := dr) (at_ := at_) (r := s6.length) (ok := fun _ => true) (i := 8) (body := bEv (k + 5)) (Lk := fun l => ∃ o o', l = [some (.ref dr), some (.ref at_), some (.ref s1.length), some (.int many), some (.int most), some (.tup os), some (.int e), some (.ref s6.length), o, o']) (P := EvP os.length e) (Kp := fun _ => True)
    (fun _ _ => rfl) (fun _ _ _ _ => trivial) ((List.range v8.toNat).map fun (i : Nat) => D.int (0 + (i : Int))) [some (.ref dr), some (.ref at_), some (.ref s1.length), some (.int many), some (.int most), some (.tup os), some (.int e), some (.ref s6.length), none, none] s8 []
    (fun d hd l s1' rs ⟨o, o', hl⟩ gs kp hr hlen => by
      subst hl
      obtain ⟨s', y, o2, h1, h2, h3, h4, h5⟩ := ev_row (k := k + 5) (c2 := some (.ref s1.length)) (c3 := some (.int many)) (c8 := some d) (c9 := o') (os := os) (most := most) (e := e) (Nat.ne_of_gt (dl g6)) R_at gs hr hlen hmost.1 hmost.2 he0 los
      exact ⟨_, s', y, h1, ⟨_, _, rfl⟩, h2, h3, h4, h5⟩) ⟨_, _, rfl⟩ g8 trivial R8 (by rw [rng_len, List.length_nil]; omega)
  rw [List.nil_append] at r9
  rw [rng_len] at n9
  have t69 : Gt at_ s6 s9 := by
    have x : Gt2 at_ s6.length (s6 ++ [Ob.lst []]) s9 := (Gt.app.trans t8).two.trans t9
    exact x.close
  have K9 : s9[s1.length]? = some (.lst ks) := t69.old _ _ K_at K6
  have tall : Gt at_ s s9 := t1.trans (t12.trans ((Gt.app.trans t3).trans (t4.trans (t45.trans ((Gt.app.trans t6).trans t69)))))
  refine ⟨.tup [.tup ks, .tup os, .tup st, .int e], s9, ?_, ⟨j, ks, os, st, e, rfl, by omega, by omega, w2, los, by omega, p5, by omega, p9, he0, he1⟩, g9, tall⟩
  unfold m_law_model
  have lcE := (lrng1 (g := gmName 8) (vs := [8]) (tt := tYes') (el := mCall 3 (call (k + 6) .law_kind) (mCons (mVar 0) (mCons (mVar 1) (mCons (mOp gIx (mLst (mCons (mC (.str "box")) (mCons (mC (.str "lamp")) mNil))) (mVar 8)) mNil)))) (ma := mCons (mOp Core.gAdd (mC (.int 1)) (mCall 3 (call (k + 6) .law_next) (mCons (mVar 0) (mCons (mVar 1) (mCons (mC (.int 2)) mNil))))) mNil) (l := [some (.ref dr), some (.ref at_), none, none, none, none, none, none, none, none]) (s := s) (s1 := s1) (j := (j : Int)) (by simp only [mSeq, mExpr, mRet, mRetN, mIfS, mSet, mAug, mCall, mCons, mNil, mVar, mC, mOp, mUn, mApp, mTup, mLst, mNx, mRaise, mAnd, mOr, mNot, mIf, tstB, tstAnd, tstOr, tstNot, mChain, bind_ok, bind_err, bind_no, toS_ok, toS_err, nox_ok, fin_nx, fin_rt, fin_err, startL, List.map_cons, List.map_nil, List.length_cons, List.length_nil, List.cons_append, List.nil_append, List.getElem?_cons_zero, List.getElem?_cons_succ, List.set_cons_zero, List.set_cons_succ, List.replicate_succ, List.replicate_zero, Nat.zero_add, Nat.reduceAdd, Nat.reduceSub, Nat.add_one_sub_one, Nat.sub_self, if_true, if_false, ite_true, ite_false, Bool.false_eq_true, reduceCtorEq, if_pos, Nat.reduceEqDiff, Nat.reduceLeDiff, decide_true, decide_false, Bool.not_true, Bool.not_false, q1, Core.gAdd]; rw [hj]) (by omega) (by omega))
  rw [Int.toNat_natCast] at lcE
  have lcE := lcE.trans e2
  rw [seq_nx (l1 := [some (.ref dr), some (.ref at_), some (.ref s1.length), none, none, none, none, none, none, none]) (s1 := s2) (by unfold mSet; rw [lcE]; rfl),
    seq_nx (l1 := [some (.ref dr), some (.ref at_), some (.ref s1.length), some (.int many), some (.int most), none, none, none, none, none]) (s1 := s3) (by unfold mAsg; simp only [mSeq, mExpr, mRet, mRetN, mIfS, mSet, mAug, mCall, mCons, mNil, mVar, mC, mOp, mUn, mApp, mTup, mLst, mNx, mRaise, mAnd, mOr, mNot, mIf, tstB, tstAnd, tstOr, tstNot, mChain, bind_ok, bind_err, bind_no, toS_ok, toS_err, nox_ok, fin_nx, fin_rt, fin_err, startL, List.map_cons, List.map_nil, List.length_cons, List.length_nil, List.cons_append, List.nil_append, List.getElem?_cons_zero, List.getElem?_cons_succ, List.set_cons_zero, List.set_cons_succ, List.replicate_succ, List.replicate_zero, Nat.zero_add, Nat.reduceAdd, Nat.reduceSub, Nat.add_one_sub_one, Nat.sub_self, if_true, if_false, ite_true, ite_false, Bool.false_eq_true, reduceCtorEq, if_pos, Nat.reduceEqDiff, Nat.reduceLeDiff, decide_true, decide_false, Bool.not_true, Bool.not_false]; rw [← hC]; simp only [mSeq, mExpr, mRet, mRetN, mIfS, mSet, mAug, mCall, mCons, mNil, mVar, mC, mOp, mUn, mApp, mTup, mLst, mNx, mRaise, mAnd, mOr, mNot, mIf, tstB, tstAnd, tstOr, tstNot, mChain, bind_ok, bind_err, bind_no, toS_ok, toS_err, nox_ok, fin_nx, fin_rt, fin_err, startL, List.map_cons, List.map_nil, List.length_cons, List.length_nil, List.cons_append, List.nil_append, List.getElem?_cons_zero, List.getElem?_cons_succ, List.set_cons_zero, List.set_cons_succ, List.replicate_succ, List.replicate_zero, Nat.zero_add, Nat.reduceAdd, Nat.reduceSub, Nat.add_one_sub_one, Nat.sub_self, if_true, if_false, ite_true, ite_false, Bool.false_eq_true, reduceCtorEq, if_pos, Nat.reduceEqDiff, Nat.reduceLeDiff, decide_true, decide_false, Bool.not_true, Bool.not_false, q3, p3, gmTup, gmCons, gmName, gmNil])]
  have lcE5 := (lrng1 (g := gmName 8) (vs := [8]) (tt := tYes') (el := mOp gIx (mLst (mCons (mC (.str "box")) (mCons (mC (.str "lamp")) mNil))) (mCall 3 (call (k + 6) .law_next) (mCons (mVar 0) (mCons (mVar 1) (mCons (mApp gLen (mCons (mVar 2) mNil)) mNil))))) (ma := mCons (mOp Core.gAdd (mC (.int 1)) (mCall 3 (call (k + 6) .law_next) (mCons (mVar 0) (mCons (mVar 1) (mCons (mVar 3) mNil))))) mNil) (l := [some (.ref dr), some (.ref at_), some (.ref s1.length), some (.int many), some (.int most), none, none, none, none, none]) (s := s3) (s1 := s4) (j := 1 + v4) (by simp only [mSeq, mExpr, mRet, mRetN, mIfS, mSet, mAug, mCall, mCons, mNil, mVar, mC, mOp, mUn, mApp, mTup, mLst, mNx, mRaise, mAnd, mOr, mNot, mIf, tstB, tstAnd, tstOr, tstNot, mChain, bind_ok, bind_err, bind_no, toS_ok, toS_err, nox_ok, fin_nx, fin_rt, fin_err, startL, List.map_cons, List.map_nil, List.length_cons, List.length_nil, List.cons_append, List.nil_append, List.getElem?_cons_zero, List.getElem?_cons_succ, List.set_cons_zero, List.set_cons_succ, List.replicate_succ, List.replicate_zero, Nat.zero_add, Nat.reduceAdd, Nat.reduceSub, Nat.add_one_sub_one, Nat.sub_self, if_true, if_false, ite_true, ite_false, Bool.false_eq_true, reduceCtorEq, if_pos, Nat.reduceEqDiff, Nat.reduceLeDiff, decide_true, decide_false, Bool.not_true, Bool.not_false, q4, Core.gAdd]) (by omega) (by omega)).trans e5
  rw [seq_nx (l1 := [some (.ref dr), some (.ref at_), some (.ref s1.length), some (.int many), some (.int most), some (.tup os), none, none, none, none]) (s1 := s5) (by simp only [mSeq, mExpr, mRet, mRetN, mIfS, mSet, mAug, mCall, mCons, mNil, mVar, mC, mOp, mUn, mApp, mTup, mLst, mNx, mRaise, mAnd, mOr, mNot, mIf, tstB, tstAnd, tstOr, tstNot, mChain, bind_ok, bind_err, bind_no, toS_ok, toS_err, nox_ok, fin_nx, fin_rt, fin_err, startL, List.map_cons, List.map_nil, List.length_cons, List.length_nil, List.cons_append, List.nil_append, List.getElem?_cons_zero, List.getElem?_cons_succ, List.set_cons_zero, List.set_cons_succ, List.replicate_succ, List.replicate_zero, Nat.zero_add, Nat.reduceAdd, Nat.reduceSub, Nat.add_one_sub_one, Nat.sub_self, if_true, if_false, ite_true, ite_false, Bool.false_eq_true, reduceCtorEq, if_pos, Nat.reduceEqDiff, Nat.reduceLeDiff, decide_true, decide_false, Bool.not_true, Bool.not_false, lcE5, tup_lst r5]),
    seq_nx (l1 := [some (.ref dr), some (.ref at_), some (.ref s1.length), some (.int many), some (.int most), some (.tup os), some (.int e), none, none, none]) (s1 := s6) (by simp only [mSeq, mExpr, mRet, mRetN, mIfS, mSet, mAug, mCall, mCons, mNil, mVar, mC, mOp, mUn, mApp, mTup, mLst, mNx, mRaise, mAnd, mOr, mNot, mIf, tstB, tstAnd, tstOr, tstNot, mChain, bind_ok, bind_err, bind_no, toS_ok, toS_err, nox_ok, fin_nx, fin_rt, fin_err, startL, List.map_cons, List.map_nil, List.length_cons, List.length_nil, List.cons_append, List.nil_append, List.getElem?_cons_zero, List.getElem?_cons_succ, List.set_cons_zero, List.set_cons_succ, List.replicate_succ, List.replicate_zero, Nat.zero_add, Nat.reduceAdd, Nat.reduceSub, Nat.add_one_sub_one, Nat.sub_self, if_true, if_false, ite_true, ite_false, Bool.false_eq_true, reduceCtorEq, if_pos, Nat.reduceEqDiff, Nat.reduceLeDiff, decide_true, decide_false, Bool.not_true, Bool.not_false]; rw [← hE]; simp only [mSeq, mExpr, mRet, mRetN, mIfS, mSet, mAug, mCall, mCons, mNil, mVar, mC, mOp, mUn, mApp, mTup, mLst, mNx, mRaise, mAnd, mOr, mNot, mIf, tstB, tstAnd, tstOr, tstNot, mChain, bind_ok, bind_err, bind_no, toS_ok, toS_err, nox_ok, fin_nx, fin_rt, fin_err, startL, List.map_cons, List.map_nil, List.length_cons, List.length_nil, List.cons_append, List.nil_append, List.getElem?_cons_zero, List.getElem?_cons_succ, List.set_cons_zero, List.set_cons_succ, List.replicate_succ, List.replicate_zero, Nat.zero_add, Nat.reduceAdd, Nat.reduceSub, Nat.add_one_sub_one, Nat.sub_self, if_true, if_false, ite_true, ite_false, Bool.false_eq_true, reduceCtorEq, if_pos, Nat.reduceEqDiff, Nat.reduceLeDiff, decide_true, decide_false, Bool.not_true, Bool.not_false, q6, p6]),
    seq_nx (l1 := [some (.ref dr), some (.ref at_), some (.ref s1.length), some (.int many), some (.int most), some (.tup os), some (.int e), some (.ref s6.length), none, none]) (s1 := s6 ++ [Ob.lst []]) (by simp only [mSeq, mExpr, mRet, mRetN, mIfS, mSet, mAug, mCall, mCons, mNil, mVar, mC, mOp, mUn, mApp, mTup, mLst, mNx, mRaise, mAnd, mOr, mNot, mIf, tstB, tstAnd, tstOr, tstNot, mChain, bind_ok, bind_err, bind_no, toS_ok, toS_err, nox_ok, fin_nx, fin_rt, fin_err, startL, List.map_cons, List.map_nil, List.length_cons, List.length_nil, List.cons_append, List.nil_append, List.getElem?_cons_zero, List.getElem?_cons_succ, List.set_cons_zero, List.set_cons_succ, List.replicate_succ, List.replicate_zero, Nat.zero_add, Nat.reduceAdd, Nat.reduceSub, Nat.add_one_sub_one, Nat.sub_self, if_true, if_false, ite_true, ite_false, Bool.false_eq_true, reduceCtorEq, if_pos, Nat.reduceEqDiff, Nat.reduceLeDiff, decide_true, decide_false, Bool.not_true, Bool.not_false])]
  have rg := rng1 (g := gmName 8) (body := bEv (k + 5)) (ma := mCons (mCall 3 (call (k + 6) .law_next) (mCons (mVar 0) (mCons (mVar 1) (mCons (mOp gIx (mLst (mCons (mC (.int 5)) (mCons (mC (.int 9)) mNil))) (mApp gInt1 (mCons (mOp gEq (mVar 3) (mC (.int 8))) mNil))) mNil)))) mNil) (l := [some (.ref dr), some (.ref at_), some (.ref s1.length), some (.int many), some (.int most), some (.tup os), some (.int e), some (.ref s6.length), none, none]) (s := s6 ++ [Ob.lst []]) (s1 := s8) (j := v8) (by simp only [mSeq, mExpr, mRet, mRetN, mIfS, mSet, mAug, mCall, mCons, mNil, mVar, mC, mOp, mUn, mApp, mTup, mLst, mNx, mRaise, mAnd, mOr, mNot, mIf, tstB, tstAnd, tstOr, tstNot, mChain, bind_ok, bind_err, bind_no, toS_ok, toS_err, nox_ok, fin_nx, fin_rt, fin_err, startL, List.map_cons, List.map_nil, List.length_cons, List.length_nil, List.cons_append, List.nil_append, List.getElem?_cons_zero, List.getElem?_cons_succ, List.set_cons_zero, List.set_cons_succ, List.replicate_succ, List.replicate_zero, Nat.zero_add, Nat.reduceAdd, Nat.reduceSub, Nat.add_one_sub_one, Nat.sub_self, if_true, if_false, ite_true, ite_false, Bool.false_eq_true, reduceCtorEq, if_pos, Nat.reduceEqDiff, Nat.reduceLeDiff, decide_true, decide_false, Bool.not_true, Bool.not_false]; rw [← hF]; simp only [mSeq, mExpr, mRet, mRetN, mIfS, mSet, mAug, mCall, mCons, mNil, mVar, mC, mOp, mUn, mApp, mTup, mLst, mNx, mRaise, mAnd, mOr, mNot, mIf, tstB, tstAnd, tstOr, tstNot, mChain, bind_ok, bind_err, bind_no, toS_ok, toS_err, nox_ok, fin_nx, fin_rt, fin_err, startL, List.map_cons, List.map_nil, List.length_cons, List.length_nil, List.cons_append, List.nil_append, List.getElem?_cons_zero, List.getElem?_cons_succ, List.set_cons_zero, List.set_cons_succ, List.replicate_succ, List.replicate_zero, Nat.zero_add, Nat.reduceAdd, Nat.reduceSub, Nat.add_one_sub_one, Nat.sub_self, if_true, if_false, ite_true, ite_false, Bool.false_eq_true, reduceCtorEq, if_pos, Nat.reduceEqDiff, Nat.reduceLeDiff, decide_true, decide_false, Bool.not_true, Bool.not_false, gEq, gEqB, gInt1, pF, q8]) (by omega) (by omega)
  rw [seq_nx (rg.trans e9)]
  simp only [mSeq, mExpr, mRet, mRetN, mIfS, mSet, mAug, mCall, mCons, mNil, mVar, mC, mOp, mUn, mApp, mTup, mLst, mNx, mRaise, mAnd, mOr, mNot, mIf, tstB, tstAnd, tstOr, tstNot, mChain, bind_ok, bind_err, bind_no, toS_ok, toS_err, nox_ok, fin_nx, fin_rt, fin_err, startL, List.map_cons, List.map_nil, List.length_cons, List.length_nil, List.cons_append, List.nil_append, List.getElem?_cons_zero, List.getElem?_cons_succ, List.set_cons_zero, List.set_cons_succ, List.replicate_succ, List.replicate_zero, Nat.zero_add, Nat.reduceAdd, Nat.reduceSub, Nat.add_one_sub_one, Nat.sub_self, if_true, if_false, ite_true, ite_false, Bool.false_eq_true, reduceCtorEq, if_pos, Nat.reduceEqDiff, Nat.reduceLeDiff, decide_true, decide_false, Bool.not_true, Bool.not_false, tup_lst K9, tup_lst r9]
end
end Pr

set_option Elab.async false
set_option linter.all false
set_option maxRecDepth 100000
set_option maxHeartbeats 4000000
/-! the draws -/
namespace Pr
open PySem PySem.Spec PyProof.Rows L2 Core
section
variable {k sc R : Nat} {ns : List Int}
theorem c_law_draws {s : Mem} (hr : rdL s sc = some (ns.map D.int)) (hn : ns.length ≤ 63) : ∃ (is : List Int) (s' : Mem), call (k + 1) .law_draws [.ref sc] s = .ok (.ref s.length) s' ∧ s'[s.length]? = some (.lst (is.map D.int)) ∧ s.length < s'.length := by
  show ∃ is s', Core.fin (m_law_draws (call k) [some (.ref sc), none, none, none, none, none] s) = _ ∧ _
  have scl : sc < s.length := by
    unfold rdL at hr
    cases q : s[sc]? with
    | none => rw [q] at hr; cases hr
    | some o => exact (List.getElem?_eq_some_iff.mp q).1
  have R_ne : s.length ≠ sc := Nat.ne_of_gt scl
  have d0 : Dw sc s.length ns (40 * 0) (s ++ [Ob.lst []]) := ⟨[], last_at, Nat.le_refl _, by unfold rdL at hr ⊢; rw [List.getElem?_append_left scl]; exact hr⟩
  have ln : gLen [.ref sc] (s ++ [Ob.lst []]) = .ok (.int ns.length) (s ++ [Ob.lst []]) := by
    obtain ⟨_, _, _, h⟩ := d0
    unfold gLen
    dsimp only
    rw [show seqD (s ++ [Ob.lst []]) (.ref sc) = some (ns.map D.int) from h]
    dsimp only
    rw [List.length_map]
  obtain ⟨l9, s9, e9, ⟨o2, o3, o4, o5, rfl⟩, _, is, h9, _, _⟩ := loop_inv (i := 2) (body := (mSeq (mSet 3 (mApp gAbs (mCons (mOp gIx (mVar 0) (mVar 2)) mNil)))
    (mIfS (tstB (mOp gGe (mVar 3) (mOp gPow (mC (.int 10)) (mC (.int 18)))))
      (mFor (iRange1 (mCons (mC (.int 40)) mNil)) (gmName 4)
        (mSeq (mExpr (mLm gAppend (mVar 1) (mCons (mOp gMod (mApp gInt1 (mCons (mVar 3) mNil)) (mC (.int 1000))) mNil)))
        (mSet 3 (mOp gFdiv (mVar 3) (mC (.int 1000))))))
      (mSeq (mSet 5 (mOp Core.gAdd (mVar 3) (mC (.int 1))))
      (mFor (iRange1 (mCons (mC (.int 8)) mNil)) (gmName 4)
        (mSeq (mSet 5 (mOp gMod (mApp gInt1 (mCons (mOp Core.gAdd (mOp Core.gAdd (mOp gMulA (mVar 5) (mC (.int 48271))) (mOp gMulA (mC (.int 7919)) (mOp Core.gAdd (mVar 2) (mVar 4)))) (mC (.int 11))) mNil)) (mC (.int 2147483647))))
        (mSeq (mSet 5 (mOp gMod (mApp gInt1 (mCons (mOp Core.gAdd (mOp gMulA (mVar 5) (mC (.int 69621))) (mC (.int 13))) mNil)) (mC (.int 2147483629))))
        (mExpr (mLm gAppend (mVar 1) (mCons (mOp gMod (mApp gInt1 (mCons (mOp gFdiv (mVar 5) (mC (.int 5))) mNil)) (mC (.int 1000))) mNil)))))))))) (I := fun n l s' => (∃ o2 o3 o4 o5, l = [some (.ref sc), some (.ref s.length), o2, o3, o4, o5]) ∧ (s.length < s'.length) ∧ Dw sc s.length ns (40 * n) s')
    ((List.range (ns.length : Int).toNat).map fun (i : Nat) => D.int (0 + (i : Int))) 0 63 [some (.ref sc), some (.ref s.length), none, none, none, none] (s ++ [Ob.lst []]) (by rw [rng_len]; omega) (fun n l s1 d hn63 hd ⟨⟨o2, o3, o4, o5, hl⟩, hlen, hD⟩ => by
      subst hl
      obtain ⟨i, hi, rfl⟩ := List.mem_map.mp hd
      have hi := List.mem_range.mp hi
      have hi' : i < ns.length := by omega
      have ix : gIx (.ref sc) (.int (0 + (i : Int))) s1 = .ok (.int ns[i]) s1 := by
        obtain ⟨_, _, _, h⟩ := hD
        rw [Int.zero_add]
        exact ix_rd h (by rw [List.getElem?_map, List.getElem?_eq_getElem hi']; rfl)
      obtain ⟨cell, hc⟩ : ∃ c : Int, c = (if ns[i] < 0 then -ns[i] else ns[i]) := ⟨_, rfl⟩
      have pw : gPow (.int 10) (.int 18) s1 = .ok (.int (10 ^ 18)) s1 := by rfl
      rw [seq_nx (l1 := [some (.ref sc), some (.ref s.length), some (.int (0 + (i : Int))), some (.int cell), o4, o5]) (s1 := s1) (by simp only [mSeq, mExpr, mRet, mRetN, mIfS, mSet, mAug, mCall, mCons, mNil, mVar, mC, mOp, mUn, mApp, mTup, mLst, mNx, mRaise, mAnd, mOr, mNot, mIf, tstB, tstAnd, tstOr, tstNot, mChain, bind_ok, bind_err, bind_no, toS_ok, toS_err, nox_ok, fin_nx, fin_rt, fin_err, startL, List.map_cons, List.map_nil, List.length_cons, List.length_nil, List.cons_append, List.nil_append, List.getElem?_cons_zero, List.getElem?_cons_succ, List.set_cons_zero, List.set_cons_succ, List.replicate_succ, List.replicate_zero, Nat.zero_add, Nat.reduceAdd, Nat.reduceSub, Nat.add_one_sub_one, Nat.sub_self, if_true, if_false, ite_true, ite_false, Bool.false_eq_true, reduceCtorEq, if_pos, Nat.reduceEqDiff, Nat.reduceLeDiff, decide_true, decide_false, Bool.not_true, Bool.not_false, ix, gAbs, hc])]
      by_cases hbig : (10 ^ 18 : Int) ≤ cell
      · obtain ⟨l2, s2, e2, ⟨c3, c4, rfl⟩, hl2, hD2⟩ := loop_inv (i := 4) (body := (mSeq (mExpr (mLm gAppend (mVar 1) (mCons (mOp gMod (mApp gInt1 (mCons (mVar 3) mNil)) (mC (.int 1000))) mNil)))
        (mSet 3 (mOp gFdiv (mVar 3) (mC (.int 1000)))))) (I := fun m l s' => (∃ c o4, l = [some (.ref sc), some (.ref s.length), some (.int (0 + (i : Int))), some (.int c), o4, o5]) ∧ s.length < s'.length ∧ Dw sc s.length ns (40 * n + m) s')
          ((List.range (40 : Int).toNat).map fun (i : Nat) => D.int (0 + (i : Int))) 0 40 [some (.ref sc), some (.ref s.length), some (.int (0 + (i : Int))), some (.int cell), o4, o5] s1 (by rw [rng_len]; omega) (fun m l s2 d hm hd ⟨⟨c, o4', hl⟩, hl2, hD2⟩ => by
            subst hl
            obtain ⟨xs, hx⟩ := hD2.is
            obtain ⟨s3, e3, hD3⟩ := hD2.put R_ne (by omega) (c % 1000)
            have hl3 : s.length < s3.length := let ⟨_, h, _⟩ := hD3; (List.getElem?_eq_some_iff.mp h).1
            refine ⟨[some (.ref sc), some (.ref s.length), some (.int (0 + (i : Int))), some (.int (c / 1000)), some d, o5], s3, ?_, ⟨_, _, rfl⟩, hl3, hD3⟩
            simp only [mSeq, mExpr, mRet, mRetN, mIfS, mSet, mAug, mCall, mCons, mNil, mVar, mC, mOp, mUn, mApp, mTup, mLst, mNx, mRaise, mAnd, mOr, mNot, mIf, tstB, tstAnd, tstOr, tstNot, mChain, bind_ok, bind_err, bind_no, toS_ok, toS_err, nox_ok, fin_nx, fin_rt, fin_err, startL, List.map_cons, List.map_nil, List.length_cons, List.length_nil, List.cons_append, List.nil_append, List.getElem?_cons_zero, List.getElem?_cons_succ, List.set_cons_zero, List.set_cons_succ, List.replicate_succ, List.replicate_zero, Nat.zero_add, Nat.reduceAdd, Nat.reduceSub, Nat.add_one_sub_one, Nat.sub_self, if_true, if_false, ite_true, ite_false, Bool.false_eq_true, reduceCtorEq, if_pos, Nat.reduceEqDiff, Nat.reduceLeDiff, decide_true, decide_false, Bool.not_true, Bool.not_false, mLm, hx, gInt1, gMod, gI2C, show decide ((0 : Int) < 1000) = true from rfl, e3, gFdiv, show decide ((0 : Int) < 1000 ∧ (1000 : Int) < 1073741824) = true from rfl]) ⟨⟨_, _, rfl⟩, hlen, hD⟩
        rw [rng_len, Nat.zero_add] at hD2
        refine ⟨[some (.ref sc), some (.ref s.length), some (.int (0 + (i : Int))), some (.int c3), c4, o5], s2, ?_, ⟨_, _, _, _, rfl⟩, hl2, by rw [show 40 * (n + 1) = 40 * n + (40 : Int).toNat from rfl]; exact hD2⟩
        unfold mIfS
        rw [show (tstB (mOp gGe (mVar 3) (mOp gPow (mC (.int 10)) (mC (.int 18))))) [some (.ref sc), some (.ref s.length), some (.int (0 + (i : Int))), some (.int cell), o4, o5] s1 = .ok true s1 by simp only [mSeq, mExpr, mRet, mRetN, mIfS, mSet, mAug, mCall, mCons, mNil, mVar, mC, mOp, mUn, mApp, mTup, mLst, mNx, mRaise, mAnd, mOr, mNot, mIf, tstB, tstAnd, tstOr, tstNot, mChain, bind_ok, bind_err, bind_no, toS_ok, toS_err, nox_ok, fin_nx, fin_rt, fin_err, startL, List.map_cons, List.map_nil, List.length_cons, List.length_nil, List.cons_append, List.nil_append, List.getElem?_cons_zero, List.getElem?_cons_succ, List.set_cons_zero, List.set_cons_succ, List.replicate_succ, List.replicate_zero, Nat.zero_add, Nat.reduceAdd, Nat.reduceSub, Nat.add_one_sub_one, Nat.sub_self, if_true, if_false, ite_true, ite_false, Bool.false_eq_true, reduceCtorEq, if_pos, Nat.reduceEqDiff, Nat.reduceLeDiff, decide_true, decide_false, Bool.not_true, Bool.not_false, pw, gOrd, decide_eq_true hbig], toS_ok, if_pos rfl]
        exact (rng1 (s1 := s1) (j := 40) (by simp only [mSeq, mExpr, mRet, mRetN, mIfS, mSet, mAug, mCall, mCons, mNil, mVar, mC, mOp, mUn, mApp, mTup, mLst, mNx, mRaise, mAnd, mOr, mNot, mIf, tstB, tstAnd, tstOr, tstNot, mChain, bind_ok, bind_err, bind_no, toS_ok, toS_err, nox_ok, fin_nx, fin_rt, fin_err, startL, List.map_cons, List.map_nil, List.length_cons, List.length_nil, List.cons_append, List.nil_append, List.getElem?_cons_zero, List.getElem?_cons_succ, List.set_cons_zero, List.set_cons_succ, List.replicate_succ, List.replicate_zero, Nat.zero_add, Nat.reduceAdd, Nat.reduceSub, Nat.add_one_sub_one, Nat.sub_self, if_true, if_false, ite_true, ite_false, Bool.false_eq_true, reduceCtorEq, if_pos, Nat.reduceEqDiff, Nat.reduceLeDiff, decide_true, decide_false, Bool.not_true, Bool.not_false]) (by omega) (by omega)).trans e2
      · obtain ⟨l2, s2, e2, ⟨c4, c5, rfl⟩, hl2, hD2⟩ := loop_inv (i := 4) (body := (mSeq (mSet 5 (mOp gMod (mApp gInt1 (mCons (mOp Core.gAdd (mOp Core.gAdd (mOp gMulA (mVar 5) (mC (.int 48271))) (mOp gMulA (mC (.int 7919)) (mOp Core.gAdd (mVar 2) (mVar 4)))) (mC (.int 11))) mNil)) (mC (.int 2147483647))))
        (mSeq (mSet 5 (mOp gMod (mApp gInt1 (mCons (mOp Core.gAdd (mOp gMulA (mVar 5) (mC (.int 69621))) (mC (.int 13))) mNil)) (mC (.int 2147483629))))
        (mExpr (mLm gAppend (mVar 1) (mCons (mOp gMod (mApp gInt1 (mCons (mOp gFdiv (mVar 5) (mC (.int 5))) mNil)) (mC (.int 1000))) mNil)))))) (I := fun m l s' => (∃ o4 c, l = [some (.ref sc), some (.ref s.length), some (.int (0 + (i : Int))), some (.int cell), o4, some (.int c)]) ∧ s.length < s'.length ∧ Dw sc s.length ns (40 * n + m) s')
          ((List.range (8 : Int).toNat).map fun (i : Nat) => D.int (0 + (i : Int))) 0 8 [some (.ref sc), some (.ref s.length), some (.int (0 + (i : Int))), some (.int cell), o4, some (.int (cell + 1))] s1 (by rw [rng_len]; omega) (fun m l s2 d hm hd ⟨⟨o4', c, hl⟩, hl2, hD2⟩ => by
            subst hl
            obtain ⟨st, _, rfl⟩ := List.mem_map.mp hd
            obtain ⟨xs, hx⟩ := hD2.is
            obtain ⟨m1, hm1⟩ : ∃ m1 : Int, m1 = (c * 48271 + 7919 * (0 + (i : Int) + (0 + (st : Int))) + 11) % 2147483647 := ⟨_, rfl⟩
            obtain ⟨m2, hm2⟩ : ∃ m2 : Int, m2 = (m1 * 69621 + 13) % 2147483629 := ⟨_, rfl⟩
            obtain ⟨s3, e3, hD3⟩ := hD2.put R_ne (by omega) (m2 / 5 % 1000)
            have hl3 : s.length < s3.length := let ⟨_, h, _⟩ := hD3; (List.getElem?_eq_some_iff.mp h).1
            refine ⟨[some (.ref sc), some (.ref s.length), some (.int (0 + (i : Int))), some (.int cell), some (.int (0 + (st : Int))), some (.int m2)], s3, ?_, ⟨_, _, rfl⟩, hl3, hD3⟩
            simp only [mSeq, mExpr, mRet, mRetN, mIfS, mSet, mAug, mCall, mCons, mNil, mVar, mC, mOp, mUn, mApp, mTup, mLst, mNx, mRaise, mAnd, mOr, mNot, mIf, tstB, tstAnd, tstOr, tstNot, mChain, bind_ok, bind_err, bind_no, toS_ok, toS_err, nox_ok, fin_nx, fin_rt, fin_err, startL, List.map_cons, List.map_nil, List.length_cons, List.length_nil, List.cons_append, List.nil_append, List.getElem?_cons_zero, List.getElem?_cons_succ, List.set_cons_zero, List.set_cons_succ, List.replicate_succ, List.replicate_zero, Nat.zero_add, Nat.reduceAdd, Nat.reduceSub, Nat.add_one_sub_one, Nat.sub_self, if_true, if_false, ite_true, ite_false, Bool.false_eq_true, reduceCtorEq, if_pos, Nat.reduceEqDiff, Nat.reduceLeDiff, decide_true, decide_false, Bool.not_true, Bool.not_false, mulR (i := c) (j := 48271) (s := s2) (by omega), Core.gAdd, mulL (i := 7919) (j := 0 + (i : Int) + (0 + (st : Int))) (s := s2) (by omega), gInt1, gMod, gI2C, show decide ((0 : Int) < 2147483647) = true from rfl, ← hm1, mulR (i := m1) (j := 69621) (s := s2) (by omega), show decide ((0 : Int) < 2147483629) = true from rfl, ← hm2, mLm, hx, gFdiv, show decide ((0 : Int) < 5 ∧ (5 : Int) < 1073741824) = true from rfl, show decide ((0 : Int) < 1000) = true from rfl, e3]) ⟨⟨_, _, rfl⟩, hlen, hD⟩
        rw [rng_len, Nat.zero_add] at hD2
        refine ⟨[some (.ref sc), some (.ref s.length), some (.int (0 + (i : Int))), some (.int cell), c4, some (.int c5)], s2, ?_, ⟨_, _, _, _, rfl⟩, hl2, by obtain ⟨is, h1, h2, h3⟩ := hD2; exact ⟨is, h1, by have : (8 : Int).toNat = 8 := rfl; omega, h3⟩⟩
        unfold mIfS
        rw [show (tstB (mOp gGe (mVar 3) (mOp gPow (mC (.int 10)) (mC (.int 18))))) [some (.ref sc), some (.ref s.length), some (.int (0 + (i : Int))), some (.int cell), o4, o5] s1 = .ok false s1 by simp only [mSeq, mExpr, mRet, mRetN, mIfS, mSet, mAug, mCall, mCons, mNil, mVar, mC, mOp, mUn, mApp, mTup, mLst, mNx, mRaise, mAnd, mOr, mNot, mIf, tstB, tstAnd, tstOr, tstNot, mChain, bind_ok, bind_err, bind_no, toS_ok, toS_err, nox_ok, fin_nx, fin_rt, fin_err, startL, List.map_cons, List.map_nil, List.length_cons, List.length_nil, List.cons_append, List.nil_append, List.getElem?_cons_zero, List.getElem?_cons_succ, List.set_cons_zero, List.set_cons_succ, List.replicate_succ, List.replicate_zero, Nat.zero_add, Nat.reduceAdd, Nat.reduceSub, Nat.add_one_sub_one, Nat.sub_self, if_true, if_false, ite_true, ite_false, Bool.false_eq_true, reduceCtorEq, if_pos, Nat.reduceEqDiff, Nat.reduceLeDiff, decide_true, decide_false, Bool.not_true, Bool.not_false, pw, gOrd, decide_eq_false hbig], toS_ok, if_neg Bool.false_ne_true]
        rw [seq_nx (l1 := [some (.ref sc), some (.ref s.length), some (.int (0 + (i : Int))), some (.int cell), o4, some (.int (cell + 1))]) (s1 := s1) (by simp only [mSeq, mExpr, mRet, mRetN, mIfS, mSet, mAug, mCall, mCons, mNil, mVar, mC, mOp, mUn, mApp, mTup, mLst, mNx, mRaise, mAnd, mOr, mNot, mIf, tstB, tstAnd, tstOr, tstNot, mChain, bind_ok, bind_err, bind_no, toS_ok, toS_err, nox_ok, fin_nx, fin_rt, fin_err, startL, List.map_cons, List.map_nil, List.length_cons, List.length_nil, List.cons_append, List.nil_append, List.getElem?_cons_zero, List.getElem?_cons_succ, List.set_cons_zero, List.set_cons_succ, List.replicate_succ, List.replicate_zero, Nat.zero_add, Nat.reduceAdd, Nat.reduceSub, Nat.add_one_sub_one, Nat.sub_self, if_true, if_false, ite_true, ite_false, Bool.false_eq_true, reduceCtorEq, if_pos, Nat.reduceEqDiff, Nat.reduceLeDiff, decide_true, decide_false, Bool.not_true, Bool.not_false, Core.gAdd])]
        exact (rng1 (s1 := s1) (j := 8) (by simp only [mSeq, mExpr, mRet, mRetN, mIfS, mSet, mAug, mCall, mCons, mNil, mVar, mC, mOp, mUn, mApp, mTup, mLst, mNx, mRaise, mAnd, mOr, mNot, mIf, tstB, tstAnd, tstOr, tstNot, mChain, bind_ok, bind_err, bind_no, toS_ok, toS_err, nox_ok, fin_nx, fin_rt, fin_err, startL, List.map_cons, List.map_nil, List.length_cons, List.length_nil, List.cons_append, List.nil_append, List.getElem?_cons_zero, List.getElem?_cons_succ, List.set_cons_zero, List.set_cons_succ, List.replicate_succ, List.replicate_zero, Nat.zero_add, Nat.reduceAdd, Nat.reduceSub, Nat.add_one_sub_one, Nat.sub_self, if_true, if_false, ite_true, ite_false, Bool.false_eq_true, reduceCtorEq, if_pos, Nat.reduceEqDiff, Nat.reduceLeDiff, decide_true, decide_false, Bool.not_true, Bool.not_false]) (by omega) (by omega)).trans e2) ⟨⟨_, _, _, _, rfl⟩, by simp, d0⟩
  refine ⟨is, s9, ?_, h9, (List.getElem?_eq_some_iff.mp h9).1⟩
  unfold m_law_draws
  rw [seq_nx (l1 := [some (.ref sc), some (.ref s.length), none, none, none, none]) (s1 := s ++ [Ob.lst []]) (by simp only [mSeq, mExpr, mRet, mRetN, mIfS, mSet, mAug, mCall, mCons, mNil, mVar, mC, mOp, mUn, mApp, mTup, mLst, mNx, mRaise, mAnd, mOr, mNot, mIf, tstB, tstAnd, tstOr, tstNot, mChain, bind_ok, bind_err, bind_no, toS_ok, toS_err, nox_ok, fin_nx, fin_rt, fin_err, startL, List.map_cons, List.map_nil, List.length_cons, List.length_nil, List.cons_append, List.nil_append, List.getElem?_cons_zero, List.getElem?_cons_succ, List.set_cons_zero, List.set_cons_succ, List.replicate_succ, List.replicate_zero, Nat.zero_add, Nat.reduceAdd, Nat.reduceSub, Nat.add_one_sub_one, Nat.sub_self, if_true, if_false, ite_true, ite_false, Bool.false_eq_true, reduceCtorEq, if_pos, Nat.reduceEqDiff, Nat.reduceLeDiff, decide_true, decide_false, Bool.not_true, Bool.not_false]),
    seq_nx ((rng1 (s1 := s ++ [Ob.lst []]) (j := (ns.length : Int)) (by simp only [mSeq, mExpr, mRet, mRetN, mIfS, mSet, mAug, mCall, mCons, mNil, mVar, mC, mOp, mUn, mApp, mTup, mLst, mNx, mRaise, mAnd, mOr, mNot, mIf, tstB, tstAnd, tstOr, tstNot, mChain, bind_ok, bind_err, bind_no, toS_ok, toS_err, nox_ok, fin_nx, fin_rt, fin_err, startL, List.map_cons, List.map_nil, List.length_cons, List.length_nil, List.cons_append, List.nil_append, List.getElem?_cons_zero, List.getElem?_cons_succ, List.set_cons_zero, List.set_cons_succ, List.replicate_succ, List.replicate_zero, Nat.zero_add, Nat.reduceAdd, Nat.reduceSub, Nat.add_one_sub_one, Nat.sub_self, if_true, if_false, ite_true, ite_false, Bool.false_eq_true, reduceCtorEq, if_pos, Nat.reduceEqDiff, Nat.reduceLeDiff, decide_true, decide_false, Bool.not_true, Bool.not_false, ln]) (by omega) (by omega)).trans e9)]
  simp only [mSeq, mExpr, mRet, mRetN, mIfS, mSet, mAug, mCall, mCons, mNil, mVar, mC, mOp, mUn, mApp, mTup, mLst, mNx, mRaise, mAnd, mOr, mNot, mIf, tstB, tstAnd, tstOr, tstNot, mChain, bind_ok, bind_err, bind_no, toS_ok, toS_err, nox_ok, fin_nx, fin_rt, fin_err, startL, List.map_cons, List.map_nil, List.length_cons, List.length_nil, List.cons_append, List.nil_append, List.getElem?_cons_zero, List.getElem?_cons_succ, List.set_cons_zero, List.set_cons_succ, List.replicate_succ, List.replicate_zero, Nat.zero_add, Nat.reduceAdd, Nat.reduceSub, Nat.add_one_sub_one, Nat.sub_self, if_true, if_false, ite_true, ite_false, Bool.false_eq_true, reduceCtorEq, if_pos, Nat.reduceEqDiff, Nat.reduceLeDiff, decide_true, decide_false, Bool.not_true, Bool.not_false]
end
end Pr

set_option Elab.async false
set_option linter.all false
set_option maxRecDepth 100000
set_option maxHeartbeats 4000000
/-! what expressions are worth, for the program and for the law -/
namespace Pr
open PySem PySem.Spec PyProof.Rows L2 Core
section
variable {s : Mem} {k : Nat}
def cl (v lo hi : Int) : Int := if v < lo then lo else if hi < v then hi else v
theorem cl_in {v lo hi : Int} (h : lo ≤ hi) : lo ≤ cl v lo hi ∧ cl v lo hi ≤ hi := by
  unfold cl
  repeat' split
  all_goals omega
theorem cl_id {v lo hi : Int} (h : lo ≤ v) (h' : v ≤ hi) : cl v lo hi = v := by
  unfold cl
  repeat' split
  all_goals omega
theorem c_clamp {v lo hi : Int} : call (k + 1) .law_clamp [.int v, .int lo, .int hi] s = .ok (.int (cl v lo hi)) s := by
  show Core.fin (m_law_clamp (call k) [some (.int v), some (.int lo), some (.int hi)] s) = _
  unfold m_law_clamp cl
  by_cases h1 : v < lo
  · simp only [mSeq, mExpr, mRet, mRetN, mIfS, mSet, mAug, mCall, mCons, mNil, mVar, mC, mOp, mUn, mApp, mTup, mLst, mNx, mRaise, mAnd, mOr, mNot, mIf, tstB, tstAnd, tstOr, tstNot, mChain, bind_ok, bind_err, bind_no, toS_ok, toS_err, nox_ok, fin_nx, fin_rt, fin_err, startL, List.map_cons, List.map_nil, List.length_cons, List.length_nil, List.cons_append, List.nil_append, List.getElem?_cons_zero, List.getElem?_cons_succ, List.set_cons_zero, List.set_cons_succ, List.replicate_succ, List.replicate_zero, Nat.zero_add, Nat.reduceAdd, Nat.reduceSub, Nat.add_one_sub_one, Nat.sub_self, if_true, if_false, ite_true, ite_false, Bool.false_eq_true, reduceCtorEq, if_pos, Nat.reduceEqDiff, Nat.reduceLeDiff, decide_true, decide_false, Bool.not_true, Bool.not_false, gOrd, h1]
  · by_cases h2 : hi < v
    · simp only [mSeq, mExpr, mRet, mRetN, mIfS, mSet, mAug, mCall, mCons, mNil, mVar, mC, mOp, mUn, mApp, mTup, mLst, mNx, mRaise, mAnd, mOr, mNot, mIf, tstB, tstAnd, tstOr, tstNot, mChain, bind_ok, bind_err, bind_no, toS_ok, toS_err, nox_ok, fin_nx, fin_rt, fin_err, startL, List.map_cons, List.map_nil, List.length_cons, List.length_nil, List.cons_append, List.nil_append, List.getElem?_cons_zero, List.getElem?_cons_succ, List.set_cons_zero, List.set_cons_succ, List.replicate_succ, List.replicate_zero, Nat.zero_add, Nat.reduceAdd, Nat.reduceSub, Nat.add_one_sub_one, Nat.sub_self, if_true, if_false, ite_true, ite_false, Bool.false_eq_true, reduceCtorEq, if_pos, Nat.reduceEqDiff, Nat.reduceLeDiff, decide_true, decide_false, Bool.not_true, Bool.not_false, gOrd, h1, h2]
    · simp only [mSeq, mExpr, mRet, mRetN, mIfS, mSet, mAug, mCall, mCons, mNil, mVar, mC, mOp, mUn, mApp, mTup, mLst, mNx, mRaise, mAnd, mOr, mNot, mIf, tstB, tstAnd, tstOr, tstNot, mChain, bind_ok, bind_err, bind_no, toS_ok, toS_err, nox_ok, fin_nx, fin_rt, fin_err, startL, List.map_cons, List.map_nil, List.length_cons, List.length_nil, List.cons_append, List.nil_append, List.getElem?_cons_zero, List.getElem?_cons_succ, List.set_cons_zero, List.set_cons_succ, List.replicate_succ, List.replicate_zero, Nat.zero_add, Nat.reduceAdd, Nat.reduceSub, Nat.add_one_sub_one, Nat.sub_self, if_true, if_false, ite_true, ite_false, Bool.false_eq_true, reduceCtorEq, if_pos, Nat.reduceEqDiff, Nat.reduceLeDiff, decide_true, decide_false, Bool.not_true, Bool.not_false, gOrd, h1, h2]
theorem c_nearest {v lo hi : Int} (h : lo ≤ hi) : call (k + 1) .nearest [.int v, .int lo, .int hi] s = .ok (.int (cl v lo hi)) s := by
  show Core.fin (m_nearest (call k) [some (.int v), some (.int lo), some (.int hi)] s) = _
  unfold m_nearest cl
  simp only [mSeq, mExpr, mRet, mRetN, mIfS, mSet, mAug, mCall, mCons, mNil, mVar, mC, mOp, mUn, mApp, mTup, mLst, mNx, mRaise, mAnd, mOr, mNot, mIf, tstB, tstAnd, tstOr, tstNot, mChain, bind_ok, bind_err, bind_no, toS_ok, toS_err, nox_ok, fin_nx, fin_rt, fin_err, startL, List.map_cons, List.map_nil, List.length_cons, List.length_nil, List.cons_append, List.nil_append, List.getElem?_cons_zero, List.getElem?_cons_succ, List.set_cons_zero, List.set_cons_succ, List.replicate_succ, List.replicate_zero, Nat.zero_add, Nat.reduceAdd, Nat.reduceSub, Nat.add_one_sub_one, Nat.sub_self, if_true, if_false, ite_true, ite_false, Bool.false_eq_true, reduceCtorEq, if_pos, Nat.reduceEqDiff, Nat.reduceLeDiff, decide_true, decide_false, Bool.not_true, Bool.not_false, gM2]
  congr 2
  repeat' split
  all_goals omega
/-- one operator of two values: what both come to -/
theorem op_two {z : Str} (hz : z ∈ ops3) {a b : Int} (ha : -1000000000 ≤ a) (ha' : a ≤ 1000000000) (hb : -1000000000 ≤ b) (hb' : b ≤ 1000000000) :
    ∃ v w : Int, (∀ (k : Nat) (s : Mem), call (k + 1) .operate [.str z, .int a, .int b] s = .ok (.int w) s) ∧ v = cl w (-1000000000) 1000000000 ∧ (∀ (k : Nat) (s : Mem), call (k + 2) .law_pair [.str z, .int a, .int b] s = .ok (.int v) s) := by
  have pw : ∀ s : Mem, gPow (.int 10) (.int 9) s = .ok (.int 1000000000) s := fun s => by rfl
  have mu : ∀ s : Mem, gMulA (.int a) (.int b) s = .ok (.int (a * b)) s := fun s => mulL (by omega)
  have hz' : z = "add" ∨ z = "sub" ∨ z = "mul" ∨ z = "min" ∨ z = "max" ∨ z = "less" ∨ z = "same" ∨ z = "both" ∨ z = "either" := by
    simpa only [ops3, List.mem_cons, List.not_mem_nil, or_false] using hz
  rcases hz' with rfl | rfl | rfl | rfl | rfl | rfl | rfl | rfl | rfl
  · refine ⟨_, a + b, fun k s => by rfl, rfl, fun k s => ?_⟩
    show Core.fin (m_law_pair (call (k + 1)) [some (.str "add"), some (.int a), some (.int b)] s) = _
    unfold m_law_pair
    simp only [mSeq, mExpr, mRet, mRetN, mIfS, mSet, mAug, mCall, mCons, mNil, mVar, mC, mOp, mUn, mApp, mTup, mLst, mNx, mRaise, mAnd, mOr, mNot, mIf, tstB, tstAnd, tstOr, tstNot, mChain, bind_ok, bind_err, bind_no, toS_ok, toS_err, nox_ok, fin_nx, fin_rt, fin_err, startL, List.map_cons, List.map_nil, List.length_cons, List.length_nil, List.cons_append, List.nil_append, List.getElem?_cons_zero, List.getElem?_cons_succ, List.set_cons_zero, List.set_cons_succ, List.replicate_succ, List.replicate_zero, Nat.zero_add, Nat.reduceAdd, Nat.reduceSub, Nat.add_one_sub_one, Nat.sub_self, if_true, if_false, ite_true, ite_false, Bool.false_eq_true, reduceCtorEq, if_pos, Nat.reduceEqDiff, Nat.reduceLeDiff, decide_true, decide_false, Bool.not_true, Bool.not_false, gEq, gEqB, ofs_beq, String.reduceBEq, Core.gAdd, gNeg, pw, c_clamp]
  · refine ⟨_, a - b, fun k s => by rfl, rfl, fun k s => ?_⟩
    show Core.fin (m_law_pair (call (k + 1)) [some (.str "sub"), some (.int a), some (.int b)] s) = _
    unfold m_law_pair
    simp only [mSeq, mExpr, mRet, mRetN, mIfS, mSet, mAug, mCall, mCons, mNil, mVar, mC, mOp, mUn, mApp, mTup, mLst, mNx, mRaise, mAnd, mOr, mNot, mIf, tstB, tstAnd, tstOr, tstNot, mChain, bind_ok, bind_err, bind_no, toS_ok, toS_err, nox_ok, fin_nx, fin_rt, fin_err, startL, List.map_cons, List.map_nil, List.length_cons, List.length_nil, List.cons_append, List.nil_append, List.getElem?_cons_zero, List.getElem?_cons_succ, List.set_cons_zero, List.set_cons_succ, List.replicate_succ, List.replicate_zero, Nat.zero_add, Nat.reduceAdd, Nat.reduceSub, Nat.add_one_sub_one, Nat.sub_self, if_true, if_false, ite_true, ite_false, Bool.false_eq_true, reduceCtorEq, if_pos, Nat.reduceEqDiff, Nat.reduceLeDiff, decide_true, decide_false, Bool.not_true, Bool.not_false, gEq, gEqB, ofs_beq, String.reduceBEq, Core.gSub, gI2, gNeg, pw, c_clamp]
  · refine ⟨_, a * b, fun k s => ?_, rfl, fun k s => ?_⟩
    · show Core.fin (m_operate (call k) [some (.str "mul"), some (.int a), some (.int b)] s) = _
      unfold m_operate
      simp only [mSeq, mExpr, mRet, mRetN, mIfS, mSet, mAug, mCall, mCons, mNil, mVar, mC, mOp, mUn, mApp, mTup, mLst, mNx, mRaise, mAnd, mOr, mNot, mIf, tstB, tstAnd, tstOr, tstNot, mChain, bind_ok, bind_err, bind_no, toS_ok, toS_err, nox_ok, fin_nx, fin_rt, fin_err, startL, List.map_cons, List.map_nil, List.length_cons, List.length_nil, List.cons_append, List.nil_append, List.getElem?_cons_zero, List.getElem?_cons_succ, List.set_cons_zero, List.set_cons_succ, List.replicate_succ, List.replicate_zero, Nat.zero_add, Nat.reduceAdd, Nat.reduceSub, Nat.add_one_sub_one, Nat.sub_self, if_true, if_false, ite_true, ite_false, Bool.false_eq_true, reduceCtorEq, if_pos, Nat.reduceEqDiff, Nat.reduceLeDiff, decide_true, decide_false, Bool.not_true, Bool.not_false, mMatch, mCases, mpLit, gEqB, ofs_beq, String.reduceBEq, setAll, List.foldl_nil, mu]
    · show Core.fin (m_law_pair (call (k + 1)) [some (.str "mul"), some (.int a), some (.int b)] s) = _
      unfold m_law_pair
      simp only [mSeq, mExpr, mRet, mRetN, mIfS, mSet, mAug, mCall, mCons, mNil, mVar, mC, mOp, mUn, mApp, mTup, mLst, mNx, mRaise, mAnd, mOr, mNot, mIf, tstB, tstAnd, tstOr, tstNot, mChain, bind_ok, bind_err, bind_no, toS_ok, toS_err, nox_ok, fin_nx, fin_rt, fin_err, startL, List.map_cons, List.map_nil, List.length_cons, List.length_nil, List.cons_append, List.nil_append, List.getElem?_cons_zero, List.getElem?_cons_succ, List.set_cons_zero, List.set_cons_succ, List.replicate_succ, List.replicate_zero, Nat.zero_add, Nat.reduceAdd, Nat.reduceSub, Nat.add_one_sub_one, Nat.sub_self, if_true, if_false, ite_true, ite_false, Bool.false_eq_true, reduceCtorEq, if_pos, Nat.reduceEqDiff, Nat.reduceLeDiff, decide_true, decide_false, Bool.not_true, Bool.not_false, gEq, gEqB, ofs_beq, String.reduceBEq, mu, gNeg, pw, c_clamp]
  · refine ⟨_, if b < a then b else a, fun k s => by rfl, rfl, fun k s => ?_⟩
    rw [cl_id (by split <;> omega) (by split <;> omega)]; rfl
  · refine ⟨_, if b > a then b else a, fun k s => by rfl, rfl, fun k s => ?_⟩
    rw [cl_id (by split <;> omega) (by split <;> omega)]; rfl
  · refine ⟨_, if a < b then 1 else 0, fun k s => ?_, rfl, fun k s => ?_⟩
    · show Core.fin (m_operate (call k) [some (.str "less"), some (.int a), some (.int b)] s) = _
      unfold m_operate
      simp only [mSeq, mExpr, mRet, mRetN, mIfS, mSet, mAug, mCall, mCons, mNil, mVar, mC, mOp, mUn, mApp, mTup, mLst, mNx, mRaise, mAnd, mOr, mNot, mIf, tstB, tstAnd, tstOr, tstNot, mChain, bind_ok, bind_err, bind_no, toS_ok, toS_err, nox_ok, fin_nx, fin_rt, fin_err, startL, List.map_cons, List.map_nil, List.length_cons, List.length_nil, List.cons_append, List.nil_append, List.getElem?_cons_zero, List.getElem?_cons_succ, List.set_cons_zero, List.set_cons_succ, List.replicate_succ, List.replicate_zero, Nat.zero_add, Nat.reduceAdd, Nat.reduceSub, Nat.add_one_sub_one, Nat.sub_self, if_true, if_false, ite_true, ite_false, Bool.false_eq_true, reduceCtorEq, if_pos, Nat.reduceEqDiff, Nat.reduceLeDiff, decide_true, decide_false, Bool.not_true, Bool.not_false, mMatch, mCases, mpLit, gEqB, ofs_beq, String.reduceBEq, setAll, List.foldl_nil, gOrd]
      by_cases h : a < b <;> simp only [mSeq, mExpr, mRet, mRetN, mIfS, mSet, mAug, mCall, mCons, mNil, mVar, mC, mOp, mUn, mApp, mTup, mLst, mNx, mRaise, mAnd, mOr, mNot, mIf, tstB, tstAnd, tstOr, tstNot, mChain, bind_ok, bind_err, bind_no, toS_ok, toS_err, nox_ok, fin_nx, fin_rt, fin_err, startL, List.map_cons, List.map_nil, List.length_cons, List.length_nil, List.cons_append, List.nil_append, List.getElem?_cons_zero, List.getElem?_cons_succ, List.set_cons_zero, List.set_cons_succ, List.replicate_succ, List.replicate_zero, Nat.zero_add, Nat.reduceAdd, Nat.reduceSub, Nat.add_one_sub_one, Nat.sub_self, if_true, if_false, ite_true, ite_false, Bool.false_eq_true, reduceCtorEq, if_pos, Nat.reduceEqDiff, Nat.reduceLeDiff, decide_true, decide_false, Bool.not_true, Bool.not_false, h]
    · rw [cl_id (by split <;> omega) (by split <;> omega)]
      show Core.fin (m_law_pair (call (k + 1)) [some (.str "less"), some (.int a), some (.int b)] s) = _
      unfold m_law_pair
      simp only [mSeq, mExpr, mRet, mRetN, mIfS, mSet, mAug, mCall, mCons, mNil, mVar, mC, mOp, mUn, mApp, mTup, mLst, mNx, mRaise, mAnd, mOr, mNot, mIf, tstB, tstAnd, tstOr, tstNot, mChain, bind_ok, bind_err, bind_no, toS_ok, toS_err, nox_ok, fin_nx, fin_rt, fin_err, startL, List.map_cons, List.map_nil, List.length_cons, List.length_nil, List.cons_append, List.nil_append, List.getElem?_cons_zero, List.getElem?_cons_succ, List.set_cons_zero, List.set_cons_succ, List.replicate_succ, List.replicate_zero, Nat.zero_add, Nat.reduceAdd, Nat.reduceSub, Nat.add_one_sub_one, Nat.sub_self, if_true, if_false, ite_true, ite_false, Bool.false_eq_true, reduceCtorEq, if_pos, Nat.reduceEqDiff, Nat.reduceLeDiff, decide_true, decide_false, Bool.not_true, Bool.not_false, gEq, gEqB, ofs_beq, String.reduceBEq, gOrd, gInt1]
      by_cases h : a < b <;> simp only [mSeq, mExpr, mRet, mRetN, mIfS, mSet, mAug, mCall, mCons, mNil, mVar, mC, mOp, mUn, mApp, mTup, mLst, mNx, mRaise, mAnd, mOr, mNot, mIf, tstB, tstAnd, tstOr, tstNot, mChain, bind_ok, bind_err, bind_no, toS_ok, toS_err, nox_ok, fin_nx, fin_rt, fin_err, startL, List.map_cons, List.map_nil, List.length_cons, List.length_nil, List.cons_append, List.nil_append, List.getElem?_cons_zero, List.getElem?_cons_succ, List.set_cons_zero, List.set_cons_succ, List.replicate_succ, List.replicate_zero, Nat.zero_add, Nat.reduceAdd, Nat.reduceSub, Nat.add_one_sub_one, Nat.sub_self, if_true, if_false, ite_true, ite_false, Bool.false_eq_true, reduceCtorEq, if_pos, Nat.reduceEqDiff, Nat.reduceLeDiff, decide_true, decide_false, Bool.not_true, Bool.not_false, h]
  · refine ⟨_, if a = b then 1 else 0, fun k s => ?_, rfl, fun k s => ?_⟩
    · show Core.fin (m_operate (call k) [some (.str "same"), some (.int a), some (.int b)] s) = _
      unfold m_operate
      simp only [mSeq, mExpr, mRet, mRetN, mIfS, mSet, mAug, mCall, mCons, mNil, mVar, mC, mOp, mUn, mApp, mTup, mLst, mNx, mRaise, mAnd, mOr, mNot, mIf, tstB, tstAnd, tstOr, tstNot, mChain, bind_ok, bind_err, bind_no, toS_ok, toS_err, nox_ok, fin_nx, fin_rt, fin_err, startL, List.map_cons, List.map_nil, List.length_cons, List.length_nil, List.cons_append, List.nil_append, List.getElem?_cons_zero, List.getElem?_cons_succ, List.set_cons_zero, List.set_cons_succ, List.replicate_succ, List.replicate_zero, Nat.zero_add, Nat.reduceAdd, Nat.reduceSub, Nat.add_one_sub_one, Nat.sub_self, if_true, if_false, ite_true, ite_false, Bool.false_eq_true, reduceCtorEq, if_pos, Nat.reduceEqDiff, Nat.reduceLeDiff, decide_true, decide_false, Bool.not_true, Bool.not_false, mMatch, mCases, mpLit, gEq, gEqB, ofs_beq, String.reduceBEq, setAll, List.foldl_nil]
      by_cases h : a = b <;> simp only [mSeq, mExpr, mRet, mRetN, mIfS, mSet, mAug, mCall, mCons, mNil, mVar, mC, mOp, mUn, mApp, mTup, mLst, mNx, mRaise, mAnd, mOr, mNot, mIf, tstB, tstAnd, tstOr, tstNot, mChain, bind_ok, bind_err, bind_no, toS_ok, toS_err, nox_ok, fin_nx, fin_rt, fin_err, startL, List.map_cons, List.map_nil, List.length_cons, List.length_nil, List.cons_append, List.nil_append, List.getElem?_cons_zero, List.getElem?_cons_succ, List.set_cons_zero, List.set_cons_succ, List.replicate_succ, List.replicate_zero, Nat.zero_add, Nat.reduceAdd, Nat.reduceSub, Nat.add_one_sub_one, Nat.sub_self, if_true, if_false, ite_true, ite_false, Bool.false_eq_true, reduceCtorEq, if_pos, Nat.reduceEqDiff, Nat.reduceLeDiff, decide_true, decide_false, Bool.not_true, Bool.not_false, h, beq_iff_eq, beq_self_eq_true]
    · rw [cl_id (by split <;> omega) (by split <;> omega)]
      show Core.fin (m_law_pair (call (k + 1)) [some (.str "same"), some (.int a), some (.int b)] s) = _
      unfold m_law_pair
      simp only [mSeq, mExpr, mRet, mRetN, mIfS, mSet, mAug, mCall, mCons, mNil, mVar, mC, mOp, mUn, mApp, mTup, mLst, mNx, mRaise, mAnd, mOr, mNot, mIf, tstB, tstAnd, tstOr, tstNot, mChain, bind_ok, bind_err, bind_no, toS_ok, toS_err, nox_ok, fin_nx, fin_rt, fin_err, startL, List.map_cons, List.map_nil, List.length_cons, List.length_nil, List.cons_append, List.nil_append, List.getElem?_cons_zero, List.getElem?_cons_succ, List.set_cons_zero, List.set_cons_succ, List.replicate_succ, List.replicate_zero, Nat.zero_add, Nat.reduceAdd, Nat.reduceSub, Nat.add_one_sub_one, Nat.sub_self, if_true, if_false, ite_true, ite_false, Bool.false_eq_true, reduceCtorEq, if_pos, Nat.reduceEqDiff, Nat.reduceLeDiff, decide_true, decide_false, Bool.not_true, Bool.not_false, gEq, gEqB, ofs_beq, String.reduceBEq, gInt1]
      by_cases h : a = b <;> simp only [mSeq, mExpr, mRet, mRetN, mIfS, mSet, mAug, mCall, mCons, mNil, mVar, mC, mOp, mUn, mApp, mTup, mLst, mNx, mRaise, mAnd, mOr, mNot, mIf, tstB, tstAnd, tstOr, tstNot, mChain, bind_ok, bind_err, bind_no, toS_ok, toS_err, nox_ok, fin_nx, fin_rt, fin_err, startL, List.map_cons, List.map_nil, List.length_cons, List.length_nil, List.cons_append, List.nil_append, List.getElem?_cons_zero, List.getElem?_cons_succ, List.set_cons_zero, List.set_cons_succ, List.replicate_succ, List.replicate_zero, Nat.zero_add, Nat.reduceAdd, Nat.reduceSub, Nat.add_one_sub_one, Nat.sub_self, if_true, if_false, ite_true, ite_false, Bool.false_eq_true, reduceCtorEq, if_pos, Nat.reduceEqDiff, Nat.reduceLeDiff, decide_true, decide_false, Bool.not_true, Bool.not_false, h, beq_iff_eq, beq_self_eq_true]
  · refine ⟨_, if a ≠ 0 ∧ b ≠ 0 then 1 else 0, fun k s => ?_, rfl, fun k s => ?_⟩
    · show Core.fin (m_operate (call k) [some (.str "both"), some (.int a), some (.int b)] s) = _
      unfold m_operate
      simp only [mSeq, mExpr, mRet, mRetN, mIfS, mSet, mAug, mCall, mCons, mNil, mVar, mC, mOp, mUn, mApp, mTup, mLst, mNx, mRaise, mAnd, mOr, mNot, mIf, tstB, tstAnd, tstOr, tstNot, mChain, bind_ok, bind_err, bind_no, toS_ok, toS_err, nox_ok, fin_nx, fin_rt, fin_err, startL, List.map_cons, List.map_nil, List.length_cons, List.length_nil, List.cons_append, List.nil_append, List.getElem?_cons_zero, List.getElem?_cons_succ, List.set_cons_zero, List.set_cons_succ, List.replicate_succ, List.replicate_zero, Nat.zero_add, Nat.reduceAdd, Nat.reduceSub, Nat.add_one_sub_one, Nat.sub_self, if_true, if_false, ite_true, ite_false, Bool.false_eq_true, reduceCtorEq, if_pos, Nat.reduceEqDiff, Nat.reduceLeDiff, decide_true, decide_false, Bool.not_true, Bool.not_false, mMatch, mCases, mpLit, gNe, gEqB, ofs_beq, String.reduceBEq, setAll, List.foldl_nil]
      by_cases h : a = 0 <;> by_cases h' : b = 0 <;> simp [h, h', bind_ok, toS_ok, fin_rt]
    · rw [cl_id (by split <;> omega) (by split <;> omega)]
      show Core.fin (m_law_pair (call (k + 1)) [some (.str "both"), some (.int a), some (.int b)] s) = _
      unfold m_law_pair
      simp only [mSeq, mExpr, mRet, mRetN, mIfS, mSet, mAug, mCall, mCons, mNil, mVar, mC, mOp, mUn, mApp, mTup, mLst, mNx, mRaise, mAnd, mOr, mNot, mIf, tstB, tstAnd, tstOr, tstNot, mChain, bind_ok, bind_err, bind_no, toS_ok, toS_err, nox_ok, fin_nx, fin_rt, fin_err, startL, List.map_cons, List.map_nil, List.length_cons, List.length_nil, List.cons_append, List.nil_append, List.getElem?_cons_zero, List.getElem?_cons_succ, List.set_cons_zero, List.set_cons_succ, List.replicate_succ, List.replicate_zero, Nat.zero_add, Nat.reduceAdd, Nat.reduceSub, Nat.add_one_sub_one, Nat.sub_self, if_true, if_false, ite_true, ite_false, Bool.false_eq_true, reduceCtorEq, if_pos, Nat.reduceEqDiff, Nat.reduceLeDiff, decide_true, decide_false, Bool.not_true, Bool.not_false, gEq, gNe, gEqB, ofs_beq, String.reduceBEq, gInt1]
      by_cases h : a = 0 <;> by_cases h' : b = 0 <;> simp [h, h', bind_ok, toS_ok, fin_rt, gInt1]
  · refine ⟨_, if a ≠ 0 ∨ b ≠ 0 then 1 else 0, fun k s => ?_, rfl, fun k s => ?_⟩
    · show Core.fin (m_operate (call k) [some (.str "either"), some (.int a), some (.int b)] s) = _
      unfold m_operate
      simp only [mSeq, mExpr, mRet, mRetN, mIfS, mSet, mAug, mCall, mCons, mNil, mVar, mC, mOp, mUn, mApp, mTup, mLst, mNx, mRaise, mAnd, mOr, mNot, mIf, tstB, tstAnd, tstOr, tstNot, mChain, bind_ok, bind_err, bind_no, toS_ok, toS_err, nox_ok, fin_nx, fin_rt, fin_err, startL, List.map_cons, List.map_nil, List.length_cons, List.length_nil, List.cons_append, List.nil_append, List.getElem?_cons_zero, List.getElem?_cons_succ, List.set_cons_zero, List.set_cons_succ, List.replicate_succ, List.replicate_zero, Nat.zero_add, Nat.reduceAdd, Nat.reduceSub, Nat.add_one_sub_one, Nat.sub_self, if_true, if_false, ite_true, ite_false, Bool.false_eq_true, reduceCtorEq, if_pos, Nat.reduceEqDiff, Nat.reduceLeDiff, decide_true, decide_false, Bool.not_true, Bool.not_false, mMatch, mCases, mpLit, gNe, gEqB, ofs_beq, String.reduceBEq, setAll, List.foldl_nil]
      by_cases h : a = 0 <;> by_cases h' : b = 0 <;> simp [h, h', bind_ok, toS_ok, fin_rt]
    · rw [cl_id (by split <;> omega) (by split <;> omega)]
      show Core.fin (m_law_pair (call (k + 1)) [some (.str "either"), some (.int a), some (.int b)] s) = _
      unfold m_law_pair
      simp only [mSeq, mExpr, mRet, mRetN, mIfS, mSet, mAug, mCall, mCons, mNil, mVar, mC, mOp, mUn, mApp, mTup, mLst, mNx, mRaise, mAnd, mOr, mNot, mIf, tstB, tstAnd, tstOr, tstNot, mChain, bind_ok, bind_err, bind_no, toS_ok, toS_err, nox_ok, fin_nx, fin_rt, fin_err, startL, List.map_cons, List.map_nil, List.length_cons, List.length_nil, List.cons_append, List.nil_append, List.getElem?_cons_zero, List.getElem?_cons_succ, List.set_cons_zero, List.set_cons_succ, List.replicate_succ, List.replicate_zero, Nat.zero_add, Nat.reduceAdd, Nat.reduceSub, Nat.add_one_sub_one, Nat.sub_self, if_true, if_false, ite_true, ite_false, Bool.false_eq_true, reduceCtorEq, if_pos, Nat.reduceEqDiff, Nat.reduceLeDiff, decide_true, decide_false, Bool.not_true, Bool.not_false, gEq, gNe, gEqB, ofs_beq, String.reduceBEq, gInt1]
      by_cases h : a = 0 <;> by_cases h' : b = 0 <;> simp [h, h', bind_ok, toS_ok, fin_rt, gInt1]
end
end Pr

set_option Elab.async false
set_option linter.all false
set_option maxRecDepth 100000
set_option maxHeartbeats 4000000
/-! what drawn expressions are worth -/
namespace Pr
open PySem PySem.Spec PyProof.Rows L2 Core
/-- what stands around a handler -/
structure En where
  num : Int
  many : Int
  time : Int
  arg : Int
structure En.Ok (E : En) : Prop where
  num : 0 ≤ E.num ∧ E.num ≤ 1000000
  many : 1 ≤ E.many ∧ E.many ≤ 1000000
  time : 0 ≤ E.time ∧ E.time ≤ 1000000
  arg : -1000 ≤ E.arg ∧ E.arg ≤ 1000
def runOb (a h S : Nat) (E : En) : Ob := .ins "Run" [("ranges", .ref a), ("held", .ref h), ("objects", .int E.many), ("number", .int E.num), ("time", .int E.time), ("arg", .int E.arg), ("sends", .ref S)]
def factOb (f S : Nat) (E : En) : Ob := .dK [(.inr "fields", .ref f), (.inr "now", .int E.time), (.inr "arg", .int E.arg), (.inr "self", .int E.num), (.inr "many", .int E.many), (.inr "sends", .ref S)]
/-- the values of the fields, each in its range -/
inductive Fs : List (Str × Int × Int) → List (Key × D) → Prop
  | nil : Fs [] []
  | cons {x : Str} {lo hi v : Int} {fd : List (Str × Int × Int)} {kv : List (Key × D)} : -1000 ≤ lo → lo ≤ v → v ≤ hi → hi ≤ 1000 → Fs fd kv → Fs ((x, lo, hi) :: fd) ((.inr x, .int v) :: kv)
theorem Fs.get {fd : List (Str × Int × Int)} {kv : List (Key × D)} (f : Fs fd kv) {x : Str} (hx : x ∈ fd.map (·.1)) : ∃ v : Int, getK kv (.inr x) = some (.int v) ∧ -1000 ≤ v ∧ v ≤ 1000 := by
  induction f with
  | nil => cases hx
  | @cons y lo hi v fd kv h1 h2 h3 h4 t ih =>
    by_cases e : y = x
    · subst e
      exact ⟨v, by unfold getK; rw [List.find?_cons, decide_eq_true rfl]; rfl, by omega, by omega⟩
    · rw [List.map_cons] at hx
      rcases List.mem_cons.mp hx with hx | hx
      · exact absurd hx.symm e
      · obtain ⟨w, h⟩ := ih hx
        refine ⟨w, ?_, h.2⟩
        rw [← h.1]
        unfold getK
        rw [List.find?_cons, decide_eq_false (by simpa using e)]
theorem look_run {f : Str} {a h S : Nat} {E : En} {s : Mem} {r : Nat} {d : D} (hr : s[r]? = some (runOb a h S E)) (e : ([(("ranges" : Str), D.ref a), ("held", .ref h), ("objects", .int E.many), ("number", .int E.num), ("time", .int E.time), ("arg", .int E.arg), ("sends", .ref S)] : List (Str × D)).lookup f = some d) : gFld ["Run"] f (.ref r) s = .ok d s := by
  unfold gFld
  dsimp only
  rw [hr]
  unfold runOb
  dsimp only
  rw [if_pos (by decide), e]
theorem ixa_dk {s : Mem} {n : Nat} {kv : List (Key × D)} {y d : D} {k : Key} (h : s[n]? = some (.dK kv)) (hk : keyD y = some k) (e : getK kv k = some d) : gIxA (.ref n) y s = .ok d s := by
  unfold gIxA
  dsimp only
  rw [h]
  dsimp only
  rw [hk]
  dsimp only
  rw [e]
theorem ixa_fact {s : Mem} {F f S : Nat} {E : En} {x : Str} {d : D} (h : s[F]? = some (factOb f S E)) (e : getK [(.inr "fields", .ref f), (.inr "now", .int E.time), (.inr "arg", .int E.arg), (.inr "self", .int E.num), (.inr "many", .int E.many), (.inr "sends", .ref S)] (.inr x) = some d) : gIxA (.ref F) (.str x) s = .ok d s := ixa_dk h rfl e
theorem in_lst {s : Mem} {n : Nat} {zs : List Str} {z : Str} (h : s[n]? = some (.lst (zs.map D.str))) : gIn (.str z) (.ref n) s = .ok (.bl (decide (z ∈ zs))) s := by
  have e2 : (zs.map D.str).mapM toV = some (zs.map V.str) := by
    clear h
    induction zs with
    | nil => rfl
    | cons a r ih => rw [List.map_cons, List.mapM_cons, ih]; rfl
  unfold gIn gInB
  rw [sq_lst h]
  simp only [e2, Option.map_some, toV]
  congr 2
  clear h e2
  induction zs with
  | nil => rfl
  | cons a r ih =>
    show (eqV (.str a) (.str z) || inV (.str z) (r.map V.str)) = _
    rw [ih]
    show ((a == z) || _) = _
    by_cases h : a = z
    · subst h; simp
    · have h' : ¬ z = a := fun q => h q.symm
      simp [h, h']
section
variable {names : List Str} {fd : List (Str × Int × Int)} {kv : List (Key × D)}
/-- the value of a drawn expression, for both -/
def Val (fd : List (Str × Int × Int)) (kv : List (Key × D)) (E : En) (h : Nat) (e : D) (v : Int) : Prop := -1000000000 ≤ v ∧ v ≤ 1000000000 ∧
  (∀ (k : Nat) (s : Mem) (r a hd S : Nat), s[r]? = some (runOb a hd S E) → s[hd]? = some (.dK kv) → call (k + h + 3) .Run_value [.ref r, e] s = .ok (.int v) s) ∧
  ∀ (k : Nat) (s : Mem) (F f S : Nat), s[F]? = some (factOb f S E) → s[f]? = some (.dK kv) → ∃ t, call (k + h + 3) .law_value [e, .ref F] s = .ok (.int v) (s ++ t)
theorem look_no {a h S : Nat} {E : En} : ([(("ranges" : Str), D.ref a), ("held", .ref h), ("objects", .int E.many), ("number", .int E.num), ("time", .int E.time), ("arg", .int E.arg), ("sends", .ref S)] : List (Str × D)).lookup ("value" : Str) = none := by rfl
theorem val_two {h c : Nat} {e : D} (w : Wx names h e c) {E : En} (ok : E.Ok) (hf : Fs fd kv) (hn : names = fd.map (·.1)) : ∃ v : Int, Val fd kv E h e v := by
  have lst3 : ∀ s : Mem, (s ++ [Ob.lst [D.str "arg", D.str "now", D.str "self"]])[s.length]? = some (Ob.lst ((["arg", "now", "self"] : List Str).map D.str)) := fun s => last_at
  induction w with
  | @int h v hv =>
    have hv : (decide ((-999 : Int) ≤ v) && decide (v ≤ 999)) = true := hv
    rw [Bool.and_eq_true, decide_eq_true_eq, decide_eq_true_eq] at hv
    exact ⟨v, by omega, by omega, fun k s r a hd S h1 h2 => by rfl, fun k s F f S h1 h2 => ⟨[], by rw [List.append_nil]; rfl⟩⟩
  | @fld h x hx =>
    obtain ⟨v, g, b1, b2⟩ := hf.get (hn ▸ hx)
    refine ⟨v, by omega, by omega, fun k s r a hd S h1 h2 => ?_, fun k s F f S h1 h2 => ⟨[], ?_⟩⟩
    · show Core.fin (m_Run_value (call (k + (h + 1) + 2)) [some (.ref r), some (.tup [.str "field", .str x]), none, none, none, none, none] s) = _
      unfold m_Run_value
      simp only [mSeq, mExpr, mRet, mRetN, mIfS, mSet, mAug, mCall, mCons, mNil, mVar, mC, mOp, mUn, mApp, mTup, mLst, mNx, mRaise, mAnd, mOr, mNot, mIf, tstB, tstAnd, tstOr, tstNot, mChain, bind_ok, bind_err, bind_no, toS_ok, toS_err, nox_ok, fin_nx, fin_rt, fin_err, startL, List.map_cons, List.map_nil, List.length_cons, List.length_nil, List.cons_append, List.nil_append, List.getElem?_cons_zero, List.getElem?_cons_succ, List.set_cons_zero, List.set_cons_succ, List.replicate_succ, List.replicate_zero, Nat.zero_add, Nat.reduceAdd, Nat.reduceSub, Nat.add_one_sub_one, Nat.sub_self, if_true, if_false, ite_true, ite_false, Bool.false_eq_true, reduceCtorEq, if_pos, Nat.reduceEqDiff, Nat.reduceLeDiff, decide_true, decide_false, Bool.not_true, Bool.not_false, mMatch, mCases, mpSeq, mpCons, mpNil, mpCap, mpLit, gEqB, ofs_beq, String.reduceBEq, setAll, List.foldl_nil, List.foldl_cons, look_run h1 (f := "held") rfl, ixa_dk (y := .str x) h2 rfl g]
    · show Core.fin (m_law_value (call (k + (h + 1) + 2)) [some (.tup [.str "field", .str x]), some (.ref F), none] s) = _
      unfold m_law_value
      simp only [mSeq, mExpr, mRet, mRetN, mIfS, mSet, mAug, mCall, mCons, mNil, mVar, mC, mOp, mUn, mApp, mTup, mLst, mNx, mRaise, mAnd, mOr, mNot, mIf, tstB, tstAnd, tstOr, tstNot, mChain, bind_ok, bind_err, bind_no, toS_ok, toS_err, nox_ok, fin_nx, fin_rt, fin_err, startL, List.map_cons, List.map_nil, List.length_cons, List.length_nil, List.cons_append, List.nil_append, List.getElem?_cons_zero, List.getElem?_cons_succ, List.set_cons_zero, List.set_cons_succ, List.replicate_succ, List.replicate_zero, Nat.zero_add, Nat.reduceAdd, Nat.reduceSub, Nat.add_one_sub_one, Nat.sub_self, if_true, if_false, ite_true, ite_false, Bool.false_eq_true, reduceCtorEq, if_pos, Nat.reduceEqDiff, Nat.reduceLeDiff, decide_true, decide_false, Bool.not_true, Bool.not_false, ix0, ix1, gEq, gEqB, ofs_beq, String.reduceBEq, ixa_fact h1 (x := "fields") rfl, ixa_dk (y := .str x) h2 rfl g, List.append_nil]
  | @leaf h z hz =>
    have hz' : z = "arg" ∨ z = "now" ∨ z = "self" := by simpa only [ops1, List.mem_cons, List.not_mem_nil, or_false] using hz
    obtain ⟨⟨_, _⟩, ⟨_, _⟩, ⟨_, _⟩, ⟨_, _⟩⟩ := ok
    rcases hz' with rfl | rfl | rfl
    · refine ⟨E.arg, by omega, by omega, fun k s r a hd S h1 h2 => ?_, fun k s F f S h1 h2 => ⟨[.lst [.str "arg", .str "now", .str "self"]], ?_⟩⟩
      · show Core.fin (m_Run_value (call (k + (h + 1) + 2)) [some (.ref r), some (.tup [.str "arg"]), none, none, none, none, none] s) = _
        unfold m_Run_value
        simp only [mSeq, mExpr, mRet, mRetN, mIfS, mSet, mAug, mCall, mCons, mNil, mVar, mC, mOp, mUn, mApp, mTup, mLst, mNx, mRaise, mAnd, mOr, mNot, mIf, tstB, tstAnd, tstOr, tstNot, mChain, bind_ok, bind_err, bind_no, toS_ok, toS_err, nox_ok, fin_nx, fin_rt, fin_err, startL, List.map_cons, List.map_nil, List.length_cons, List.length_nil, List.cons_append, List.nil_append, List.getElem?_cons_zero, List.getElem?_cons_succ, List.set_cons_zero, List.set_cons_succ, List.replicate_succ, List.replicate_zero, Nat.zero_add, Nat.reduceAdd, Nat.reduceSub, Nat.add_one_sub_one, Nat.sub_self, if_true, if_false, ite_true, ite_false, Bool.false_eq_true, reduceCtorEq, if_pos, Nat.reduceEqDiff, Nat.reduceLeDiff, decide_true, decide_false, Bool.not_true, Bool.not_false, mMatch, mCases, mpSeq, mpCons, mpNil, mpCap, mpLit, gEqB, ofs_beq, String.reduceBEq, setAll, List.foldl_nil, List.foldl_cons, look_run h1 (f := "arg") rfl]
      · show Core.fin (m_law_value (call (k + (h + 1) + 2)) [some (.tup [.str "arg"]), some (.ref F), none] s) = _
        unfold m_law_value
        simp only [mSeq, mExpr, mRet, mRetN, mIfS, mSet, mAug, mCall, mCons, mNil, mVar, mC, mOp, mUn, mApp, mTup, mLst, mNx, mRaise, mAnd, mOr, mNot, mIf, tstB, tstAnd, tstOr, tstNot, mChain, bind_ok, bind_err, bind_no, toS_ok, toS_err, nox_ok, fin_nx, fin_rt, fin_err, startL, List.map_cons, List.map_nil, List.length_cons, List.length_nil, List.cons_append, List.nil_append, List.getElem?_cons_zero, List.getElem?_cons_succ, List.set_cons_zero, List.set_cons_succ, List.replicate_succ, List.replicate_zero, Nat.zero_add, Nat.reduceAdd, Nat.reduceSub, Nat.add_one_sub_one, Nat.sub_self, if_true, if_false, ite_true, ite_false, Bool.false_eq_true, reduceCtorEq, if_pos, Nat.reduceEqDiff, Nat.reduceLeDiff, decide_true, decide_false, Bool.not_true, Bool.not_false, ix0, ix1, gEq, gEqB, ofs_beq, String.reduceBEq, in_lst (lst3 s), List.mem_cons, ofs_inj, String.reduceEq, true_or, or_true, ixa_fact (app_keep h1) (x := "arg") rfl]
    · refine ⟨E.time, by omega, by omega, fun k s r a hd S h1 h2 => ?_, fun k s F f S h1 h2 => ⟨[.lst [.str "arg", .str "now", .str "self"]], ?_⟩⟩
      · show Core.fin (m_Run_value (call (k + (h + 1) + 2)) [some (.ref r), some (.tup [.str "now"]), none, none, none, none, none] s) = _
        unfold m_Run_value
        simp only [mSeq, mExpr, mRet, mRetN, mIfS, mSet, mAug, mCall, mCons, mNil, mVar, mC, mOp, mUn, mApp, mTup, mLst, mNx, mRaise, mAnd, mOr, mNot, mIf, tstB, tstAnd, tstOr, tstNot, mChain, bind_ok, bind_err, bind_no, toS_ok, toS_err, nox_ok, fin_nx, fin_rt, fin_err, startL, List.map_cons, List.map_nil, List.length_cons, List.length_nil, List.cons_append, List.nil_append, List.getElem?_cons_zero, List.getElem?_cons_succ, List.set_cons_zero, List.set_cons_succ, List.replicate_succ, List.replicate_zero, Nat.zero_add, Nat.reduceAdd, Nat.reduceSub, Nat.add_one_sub_one, Nat.sub_self, if_true, if_false, ite_true, ite_false, Bool.false_eq_true, reduceCtorEq, if_pos, Nat.reduceEqDiff, Nat.reduceLeDiff, decide_true, decide_false, Bool.not_true, Bool.not_false, mMatch, mCases, mpSeq, mpCons, mpNil, mpCap, mpLit, gEqB, ofs_beq, String.reduceBEq, setAll, List.foldl_nil, List.foldl_cons, look_run h1 (f := "time") rfl]
      · show Core.fin (m_law_value (call (k + (h + 1) + 2)) [some (.tup [.str "now"]), some (.ref F), none] s) = _
        unfold m_law_value
        simp only [mSeq, mExpr, mRet, mRetN, mIfS, mSet, mAug, mCall, mCons, mNil, mVar, mC, mOp, mUn, mApp, mTup, mLst, mNx, mRaise, mAnd, mOr, mNot, mIf, tstB, tstAnd, tstOr, tstNot, mChain, bind_ok, bind_err, bind_no, toS_ok, toS_err, nox_ok, fin_nx, fin_rt, fin_err, startL, List.map_cons, List.map_nil, List.length_cons, List.length_nil, List.cons_append, List.nil_append, List.getElem?_cons_zero, List.getElem?_cons_succ, List.set_cons_zero, List.set_cons_succ, List.replicate_succ, List.replicate_zero, Nat.zero_add, Nat.reduceAdd, Nat.reduceSub, Nat.add_one_sub_one, Nat.sub_self, if_true, if_false, ite_true, ite_false, Bool.false_eq_true, reduceCtorEq, if_pos, Nat.reduceEqDiff, Nat.reduceLeDiff, decide_true, decide_false, Bool.not_true, Bool.not_false, ix0, ix1, gEq, gEqB, ofs_beq, String.reduceBEq, in_lst (lst3 s), List.mem_cons, ofs_inj, String.reduceEq, true_or, or_true, ixa_fact (app_keep h1) (x := "now") rfl]
    · refine ⟨E.num, by omega, by omega, fun k s r a hd S h1 h2 => ?_, fun k s F f S h1 h2 => ⟨[.lst [.str "arg", .str "now", .str "self"]], ?_⟩⟩
      · show Core.fin (m_Run_value (call (k + (h + 1) + 2)) [some (.ref r), some (.tup [.str "self"]), none, none, none, none, none] s) = _
        unfold m_Run_value
        simp only [mSeq, mExpr, mRet, mRetN, mIfS, mSet, mAug, mCall, mCons, mNil, mVar, mC, mOp, mUn, mApp, mTup, mLst, mNx, mRaise, mAnd, mOr, mNot, mIf, tstB, tstAnd, tstOr, tstNot, mChain, bind_ok, bind_err, bind_no, toS_ok, toS_err, nox_ok, fin_nx, fin_rt, fin_err, startL, List.map_cons, List.map_nil, List.length_cons, List.length_nil, List.cons_append, List.nil_append, List.getElem?_cons_zero, List.getElem?_cons_succ, List.set_cons_zero, List.set_cons_succ, List.replicate_succ, List.replicate_zero, Nat.zero_add, Nat.reduceAdd, Nat.reduceSub, Nat.add_one_sub_one, Nat.sub_self, if_true, if_false, ite_true, ite_false, Bool.false_eq_true, reduceCtorEq, if_pos, Nat.reduceEqDiff, Nat.reduceLeDiff, decide_true, decide_false, Bool.not_true, Bool.not_false, mMatch, mCases, mpSeq, mpCons, mpNil, mpCap, mpLit, gEqB, ofs_beq, String.reduceBEq, setAll, List.foldl_nil, List.foldl_cons, look_run h1 (f := "number") rfl]
      · show Core.fin (m_law_value (call (k + (h + 1) + 2)) [some (.tup [.str "self"]), some (.ref F), none] s) = _
        unfold m_law_value
        simp only [mSeq, mExpr, mRet, mRetN, mIfS, mSet, mAug, mCall, mCons, mNil, mVar, mC, mOp, mUn, mApp, mTup, mLst, mNx, mRaise, mAnd, mOr, mNot, mIf, tstB, tstAnd, tstOr, tstNot, mChain, bind_ok, bind_err, bind_no, toS_ok, toS_err, nox_ok, fin_nx, fin_rt, fin_err, startL, List.map_cons, List.map_nil, List.length_cons, List.length_nil, List.cons_append, List.nil_append, List.getElem?_cons_zero, List.getElem?_cons_succ, List.set_cons_zero, List.set_cons_succ, List.replicate_succ, List.replicate_zero, Nat.zero_add, Nat.reduceAdd, Nat.reduceSub, Nat.add_one_sub_one, Nat.sub_self, if_true, if_false, ite_true, ite_false, Bool.false_eq_true, reduceCtorEq, if_pos, Nat.reduceEqDiff, Nat.reduceLeDiff, decide_true, decide_false, Bool.not_true, Bool.not_false, ix0, ix1, gEq, gEqB, ofs_beq, String.reduceBEq, in_lst (lst3 s), List.mem_cons, ofs_inj, String.reduceEq, true_or, or_true, ixa_fact (app_keep h1) (x := "self") rfl]
  | @neg h c a w ih =>
    obtain ⟨v, b1, b2, P, L⟩ := ih
    refine ⟨if v = 0 then 1 else 0, by split <;> omega, by split <;> omega, fun k s r a' hd S h1 h2 => ?_, fun k s F f S h1 h2 => ?_⟩
    · show Core.fin (m_Run_value (call (k + h + 3)) [some (.ref r), some (.tup [.str "not", a]), none, none, none, none, none] s) = _
      unfold m_Run_value
      have P := P k s r _ _ _ h1 h2
      unfold runOb at h1
      simp only [mSeq, mExpr, mRet, mRetN, mIfS, mSet, mAug, mCall, mCons, mNil, mVar, mC, mOp, mUn, mApp, mTup, mLst, mNx, mRaise, mAnd, mOr, mNot, mIf, tstB, tstAnd, tstOr, tstNot, mChain, bind_ok, bind_err, bind_no, toS_ok, toS_err, nox_ok, fin_nx, fin_rt, fin_err, startL, List.map_cons, List.map_nil, List.length_cons, List.length_nil, List.cons_append, List.nil_append, List.getElem?_cons_zero, List.getElem?_cons_succ, List.set_cons_zero, List.set_cons_succ, List.replicate_succ, List.replicate_zero, Nat.zero_add, Nat.reduceAdd, Nat.reduceSub, Nat.add_one_sub_one, Nat.sub_self, if_true, if_false, ite_true, ite_false, Bool.false_eq_true, reduceCtorEq, if_pos, Nat.reduceEqDiff, Nat.reduceLeDiff, decide_true, decide_false, Bool.not_true, Bool.not_false, mMatch, mCases, mpSeq, mpCons, mpNil, mpCap, mpLit, gEqB, ofs_beq, String.reduceBEq, setAll, List.foldl_nil, List.foldl_cons, List.append_nil, mMethC, h1, look_no, and_self, P, gEq]
      by_cases h0 : v = 0 <;> simp only [mSeq, mExpr, mRet, mRetN, mIfS, mSet, mAug, mCall, mCons, mNil, mVar, mC, mOp, mUn, mApp, mTup, mLst, mNx, mRaise, mAnd, mOr, mNot, mIf, tstB, tstAnd, tstOr, tstNot, mChain, bind_ok, bind_err, bind_no, toS_ok, toS_err, nox_ok, fin_nx, fin_rt, fin_err, startL, List.map_cons, List.map_nil, List.length_cons, List.length_nil, List.cons_append, List.nil_append, List.getElem?_cons_zero, List.getElem?_cons_succ, List.set_cons_zero, List.set_cons_succ, List.replicate_succ, List.replicate_zero, Nat.zero_add, Nat.reduceAdd, Nat.reduceSub, Nat.add_one_sub_one, Nat.sub_self, if_true, if_false, ite_true, ite_false, Bool.false_eq_true, reduceCtorEq, if_pos, Nat.reduceEqDiff, Nat.reduceLeDiff, decide_true, decide_false, Bool.not_true, Bool.not_false, h0, beq_iff_eq, beq_self_eq_true]
    · have h3 := app_keep (t := [Ob.lst [.str "arg", .str "now", .str "self"]]) h1
      have h4 := app_keep (t := [Ob.lst [.str "arg", .str "now", .str "self"]]) h2
      obtain ⟨t, L⟩ := L k _ F f S h3 h4
      refine ⟨[Ob.lst [.str "arg", .str "now", .str "self"]] ++ t, ?_⟩
      show Core.fin (m_law_value (call (k + h + 3)) [some (.tup [.str "not", a]), some (.ref F), none] s) = _
      unfold m_law_value
      simp only [mSeq, mExpr, mRet, mRetN, mIfS, mSet, mAug, mCall, mCons, mNil, mVar, mC, mOp, mUn, mApp, mTup, mLst, mNx, mRaise, mAnd, mOr, mNot, mIf, tstB, tstAnd, tstOr, tstNot, mChain, bind_ok, bind_err, bind_no, toS_ok, toS_err, nox_ok, fin_nx, fin_rt, fin_err, startL, List.map_cons, List.map_nil, List.length_cons, List.length_nil, List.cons_append, List.nil_append, List.getElem?_cons_zero, List.getElem?_cons_succ, List.set_cons_zero, List.set_cons_succ, List.replicate_succ, List.replicate_zero, Nat.zero_add, Nat.reduceAdd, Nat.reduceSub, Nat.add_one_sub_one, Nat.sub_self, if_true, if_false, ite_true, ite_false, Bool.false_eq_true, reduceCtorEq, if_pos, Nat.reduceEqDiff, Nat.reduceLeDiff, decide_true, decide_false, Bool.not_true, Bool.not_false, ix0, ix1, gEq, gEqB, ofs_beq, String.reduceBEq, in_lst (lst3 s), List.mem_cons, List.not_mem_nil, ofs_inj, String.reduceEq, or_false, L, gInt1, List.append_assoc]
      by_cases h0 : v = 0 <;> simp only [mSeq, mExpr, mRet, mRetN, mIfS, mSet, mAug, mCall, mCons, mNil, mVar, mC, mOp, mUn, mApp, mTup, mLst, mNx, mRaise, mAnd, mOr, mNot, mIf, tstB, tstAnd, tstOr, tstNot, mChain, bind_ok, bind_err, bind_no, toS_ok, toS_err, nox_ok, fin_nx, fin_rt, fin_err, startL, List.map_cons, List.map_nil, List.length_cons, List.length_nil, List.cons_append, List.nil_append, List.getElem?_cons_zero, List.getElem?_cons_succ, List.set_cons_zero, List.set_cons_succ, List.replicate_succ, List.replicate_zero, Nat.zero_add, Nat.reduceAdd, Nat.reduceSub, Nat.add_one_sub_one, Nat.sub_self, if_true, if_false, ite_true, ite_false, Bool.false_eq_true, reduceCtorEq, if_pos, Nat.reduceEqDiff, Nat.reduceLeDiff, decide_true, decide_false, Bool.not_true, Bool.not_false, h0, beq_iff_eq, beq_self_eq_true, List.append_assoc]
  | @div h c a z n hz w hv ih =>
    obtain ⟨v, b1, b2, P, L⟩ := ih
    have hv : (decide ((1 : Int) ≤ n) && decide (n ≤ 999)) = true := hv
    rw [Bool.and_eq_true, decide_eq_true_eq, decide_eq_true_eq] at hv
    have hz' : z = "div" ∨ z = "mod" := by simpa only [ops2, List.mem_cons, List.not_mem_nil, or_false] using hz
    have q1 : -1000000000 ≤ v / n ∧ v / n ≤ 1000000000 := by
      constructor
      · exact Int.le_ediv_of_mul_le (by omega) (by have := Int.mul_le_mul_of_nonneg_left (show (1 : Int) ≤ n by omega) (show (0 : Int) ≤ 1000000000 by omega); omega)
      · rcases Int.lt_or_le v 0 with q | q
        · have := Int.ediv_lt_of_lt_mul (a := v) (b := 1) (c := n) (by omega) (by omega); omega
        · have := Int.ediv_le_self n q; omega
    have q2 : -1000000000 ≤ v % n ∧ v % n ≤ 1000000000 := ⟨by have := Int.emod_nonneg v (show n ≠ 0 by omega); omega, by have := Int.emod_lt_of_pos v (show 0 < n by omega); omega⟩
    have fd1 : ∀ s : Mem, gFdiv (.int v) (.int n) s = .ok (.int (v / n)) s := fun s => by
      show (if decide (0 < n ∧ n < 1073741824) = true then Core.R.ok (D.int (v / n)) s else .no) = _
      rw [if_pos (decide_eq_true (by omega))]
    have md1 : ∀ s : Mem, gMod (.int v) (.int n) s = .ok (.int (v % n)) s := fun s => by
      show (if decide (0 < n) = true then Core.R.ok (D.int (v % n)) s else .no) = _
      rw [if_pos (decide_eq_true (by omega))]
    rcases hz' with rfl | rfl
    · refine ⟨v / n, q1.1, q1.2, fun k s r a' hd S h1 h2 => ?_, fun k s F f S h1 h2 => ?_⟩
      · show Core.fin (m_Run_value (call (k + h + 3)) [some (.ref r), some (.tup [.str "div", a, .int n]), none, none, none, none, none] s) = _
        unfold m_Run_value
        have P := P k s r _ _ _ h1 h2
        have op : ∀ s : Mem, call (k + h + 3) .operate [.str "div", .int v, .int n] s = .ok (.int (v / n)) s := fun s => by
          show Core.fin (m_operate (call (k + h + 2)) [some (.str "div"), some (.int v), some (.int n)] s) = _
          unfold m_operate
          simp only [mSeq, mExpr, mRet, mRetN, mIfS, mSet, mAug, mCall, mCons, mNil, mVar, mC, mOp, mUn, mApp, mTup, mLst, mNx, mRaise, mAnd, mOr, mNot, mIf, tstB, tstAnd, tstOr, tstNot, mChain, bind_ok, bind_err, bind_no, toS_ok, toS_err, nox_ok, fin_nx, fin_rt, fin_err, startL, List.map_cons, List.map_nil, List.length_cons, List.length_nil, List.cons_append, List.nil_append, List.getElem?_cons_zero, List.getElem?_cons_succ, List.set_cons_zero, List.set_cons_succ, List.replicate_succ, List.replicate_zero, Nat.zero_add, Nat.reduceAdd, Nat.reduceSub, Nat.add_one_sub_one, Nat.sub_self, if_true, if_false, ite_true, ite_false, Bool.false_eq_true, reduceCtorEq, if_pos, Nat.reduceEqDiff, Nat.reduceLeDiff, decide_true, decide_false, Bool.not_true, Bool.not_false, mMatch, mCases, mpLit, gEqB, ofs_beq, String.reduceBEq, setAll, List.foldl_nil, fd1]
        unfold runOb at h1
        simp only [mSeq, mExpr, mRet, mRetN, mIfS, mSet, mAug, mCall, mCons, mNil, mVar, mC, mOp, mUn, mApp, mTup, mLst, mNx, mRaise, mAnd, mOr, mNot, mIf, tstB, tstAnd, tstOr, tstNot, mChain, bind_ok, bind_err, bind_no, toS_ok, toS_err, nox_ok, fin_nx, fin_rt, fin_err, startL, List.map_cons, List.map_nil, List.length_cons, List.length_nil, List.cons_append, List.nil_append, List.getElem?_cons_zero, List.getElem?_cons_succ, List.set_cons_zero, List.set_cons_succ, List.replicate_succ, List.replicate_zero, Nat.zero_add, Nat.reduceAdd, Nat.reduceSub, Nat.add_one_sub_one, Nat.sub_self, if_true, if_false, ite_true, ite_false, Bool.false_eq_true, reduceCtorEq, if_pos, Nat.reduceEqDiff, Nat.reduceLeDiff, decide_true, decide_false, Bool.not_true, Bool.not_false, mMatch, mCases, mpSeq, mpCons, mpNil, mpCap, mpOr, mpLit, gEqB, ofs_beq, String.reduceBEq, setAll, List.foldl_nil, List.foldl_cons, List.append_nil, mMethC, h1, look_no, and_self, P, ix0, op, gNeg]
        rw [c_nearest (by omega), cl_id q1.1 q1.2]
        rfl
      · have h3 := app_keep (t := [Ob.lst [.str "arg", .str "now", .str "self"]]) h1
        have h4 := app_keep (t := [Ob.lst [.str "arg", .str "now", .str "self"]]) h2
        obtain ⟨t, L⟩ := L k _ F f S h3 h4
        refine ⟨[Ob.lst [.str "arg", .str "now", .str "self"]] ++ t, ?_⟩
        show Core.fin (m_law_value (call (k + h + 3)) [some (.tup [.str "div", a, .int n]), some (.ref F), none] s) = _
        unfold m_law_value
        simp only [mSeq, mExpr, mRet, mRetN, mIfS, mSet, mAug, mCall, mCons, mNil, mVar, mC, mOp, mUn, mApp, mTup, mLst, mNx, mRaise, mAnd, mOr, mNot, mIf, tstB, tstAnd, tstOr, tstNot, mChain, bind_ok, bind_err, bind_no, toS_ok, toS_err, nox_ok, fin_nx, fin_rt, fin_err, startL, List.map_cons, List.map_nil, List.length_cons, List.length_nil, List.cons_append, List.nil_append, List.getElem?_cons_zero, List.getElem?_cons_succ, List.set_cons_zero, List.set_cons_succ, List.replicate_succ, List.replicate_zero, Nat.zero_add, Nat.reduceAdd, Nat.reduceSub, Nat.add_one_sub_one, Nat.sub_self, if_true, if_false, ite_true, ite_false, Bool.false_eq_true, reduceCtorEq, if_pos, Nat.reduceEqDiff, Nat.reduceLeDiff, decide_true, decide_false, Bool.not_true, Bool.not_false, ix0, ix1, ix2, gEq, gEqB, ofs_beq, String.reduceBEq, in_lst (lst3 s), List.mem_cons, List.not_mem_nil, ofs_inj, String.reduceEq, or_false, L, gInt1, List.append_assoc, fd1]
    · refine ⟨v % n, q2.1, q2.2, fun k s r a' hd S h1 h2 => ?_, fun k s F f S h1 h2 => ?_⟩
      · show Core.fin (m_Run_value (call (k + h + 3)) [some (.ref r), some (.tup [.str "mod", a, .int n]), none, none, none, none, none] s) = _
        unfold m_Run_value
        have P := P k s r _ _ _ h1 h2
        have op : ∀ s : Mem, call (k + h + 3) .operate [.str "mod", .int v, .int n] s = .ok (.int (v % n)) s := fun s => by
          show Core.fin (m_operate (call (k + h + 2)) [some (.str "mod"), some (.int v), some (.int n)] s) = _
          unfold m_operate
          simp only [mSeq, mExpr, mRet, mRetN, mIfS, mSet, mAug, mCall, mCons, mNil, mVar, mC, mOp, mUn, mApp, mTup, mLst, mNx, mRaise, mAnd, mOr, mNot, mIf, tstB, tstAnd, tstOr, tstNot, mChain, bind_ok, bind_err, bind_no, toS_ok, toS_err, nox_ok, fin_nx, fin_rt, fin_err, startL, List.map_cons, List.map_nil, List.length_cons, List.length_nil, List.cons_append, List.nil_append, List.getElem?_cons_zero, List.getElem?_cons_succ, List.set_cons_zero, List.set_cons_succ, List.replicate_succ, List.replicate_zero, Nat.zero_add, Nat.reduceAdd, Nat.reduceSub, Nat.add_one_sub_one, Nat.sub_self, if_true, if_false, ite_true, ite_false, Bool.false_eq_true, reduceCtorEq, if_pos, Nat.reduceEqDiff, Nat.reduceLeDiff, decide_true, decide_false, Bool.not_true, Bool.not_false, mMatch, mCases, mpLit, gEqB, ofs_beq, String.reduceBEq, setAll, List.foldl_nil, md1]
        unfold runOb at h1
        simp only [mSeq, mExpr, mRet, mRetN, mIfS, mSet, mAug, mCall, mCons, mNil, mVar, mC, mOp, mUn, mApp, mTup, mLst, mNx, mRaise, mAnd, mOr, mNot, mIf, tstB, tstAnd, tstOr, tstNot, mChain, bind_ok, bind_err, bind_no, toS_ok, toS_err, nox_ok, fin_nx, fin_rt, fin_err, startL, List.map_cons, List.map_nil, List.length_cons, List.length_nil, List.cons_append, List.nil_append, List.getElem?_cons_zero, List.getElem?_cons_succ, List.set_cons_zero, List.set_cons_succ, List.replicate_succ, List.replicate_zero, Nat.zero_add, Nat.reduceAdd, Nat.reduceSub, Nat.add_one_sub_one, Nat.sub_self, if_true, if_false, ite_true, ite_false, Bool.false_eq_true, reduceCtorEq, if_pos, Nat.reduceEqDiff, Nat.reduceLeDiff, decide_true, decide_false, Bool.not_true, Bool.not_false, mMatch, mCases, mpSeq, mpCons, mpNil, mpCap, mpOr, mpLit, gEqB, ofs_beq, String.reduceBEq, setAll, List.foldl_nil, List.foldl_cons, List.append_nil, mMethC, h1, look_no, and_self, P, ix0, op, gNeg]
        rw [c_nearest (by omega), cl_id q2.1 q2.2]
        rfl
      · have h3 := app_keep (t := [Ob.lst [.str "arg", .str "now", .str "self"]]) h1
        have h4 := app_keep (t := [Ob.lst [.str "arg", .str "now", .str "self"]]) h2
        obtain ⟨t, L⟩ := L k _ F f S h3 h4
        refine ⟨[Ob.lst [.str "arg", .str "now", .str "self"]] ++ t, ?_⟩
        show Core.fin (m_law_value (call (k + h + 3)) [some (.tup [.str "mod", a, .int n]), some (.ref F), none] s) = _
        unfold m_law_value
        simp only [mSeq, mExpr, mRet, mRetN, mIfS, mSet, mAug, mCall, mCons, mNil, mVar, mC, mOp, mUn, mApp, mTup, mLst, mNx, mRaise, mAnd, mOr, mNot, mIf, tstB, tstAnd, tstOr, tstNot, mChain, bind_ok, bind_err, bind_no, toS_ok, toS_err, nox_ok, fin_nx, fin_rt, fin_err, startL, List.map_cons, List.map_nil, List.length_cons, List.length_nil, List.cons_append, List.nil_append, List.getElem?_cons_zero, List.getElem?_cons_succ, List.set_cons_zero, List.set_cons_succ, List.replicate_succ, List.replicate_zero, Nat.zero_add, Nat.reduceAdd, Nat.reduceSub, Nat.add_one_sub_one, Nat.sub_self, if_true, if_false, ite_true, ite_false, Bool.false_eq_true, reduceCtorEq, if_pos, Nat.reduceEqDiff, Nat.reduceLeDiff, decide_true, decide_false, Bool.not_true, Bool.not_false, ix0, ix1, ix2, gEq, gEqB, ofs_beq, String.reduceBEq, in_lst (lst3 s), List.mem_cons, List.not_mem_nil, ofs_inj, String.reduceEq, or_false, L, gInt1, List.append_assoc, md1]
  | @bin h c c' a b z hz w w' ih ih' =>
    obtain ⟨v1, b1, b2, P1, L1⟩ := ih
    obtain ⟨v2, b3, b4, P2, L2⟩ := ih'
    obtain ⟨v, w, O1, hw, O2⟩ := op_two hz b1 b2 b3 b4
    have hv := cl_in (v := w) (show (-1000000000 : Int) ≤ 1000000000 by omega)
    rw [← hw] at hv
    have nz : z ≠ "int" ∧ z ≠ "field" ∧ z ≠ "div" ∧ z ≠ "mod" ∧ z ≠ "not" ∧ z ∉ (["arg", "now", "self"] : List Str) := by
      have : ∀ x ∈ ops3, x ≠ "int" ∧ x ≠ "field" ∧ x ≠ "div" ∧ x ≠ "mod" ∧ x ≠ "not" ∧ x ∉ (["arg", "now", "self"] : List Str) := by decide +kernel
      exact this z hz
    obtain ⟨n1, n2, n3, n4, n5, n6⟩ := nz
    have n1' : (z == "int") = false := beq_eq_false_iff_ne.mpr n1
    have n2' : (z == "field") = false := beq_eq_false_iff_ne.mpr n2
    have n3' : (z == "div") = false := beq_eq_false_iff_ne.mpr n3
    have n4' : (z == "mod") = false := beq_eq_false_iff_ne.mpr n4
    have n5' : (z == "not") = false := beq_eq_false_iff_ne.mpr n5
    refine ⟨v, hv.1, hv.2, fun k s r a' hd S h1 h2 => ?_, fun k s F f S h1 h2 => ?_⟩
    · show Core.fin (m_Run_value (call (k + h + 3)) [some (.ref r), some (.tup [.str z, a, b]), none, none, none, none, none] s) = _
      unfold m_Run_value
      have P1 := P1 k s r _ _ _ h1 h2
      have P2 := P2 k s r _ _ _ h1 h2
      have O1 := O1 (k + h + 2) s
      unfold runOb at h1
      simp only [mSeq, mExpr, mRet, mRetN, mIfS, mSet, mAug, mCall, mCons, mNil, mVar, mC, mOp, mUn, mApp, mTup, mLst, mNx, mRaise, mAnd, mOr, mNot, mIf, tstB, tstAnd, tstOr, tstNot, mChain, bind_ok, bind_err, bind_no, toS_ok, toS_err, nox_ok, fin_nx, fin_rt, fin_err, startL, List.map_cons, List.map_nil, List.length_cons, List.length_nil, List.cons_append, List.nil_append, List.getElem?_cons_zero, List.getElem?_cons_succ, List.set_cons_zero, List.set_cons_succ, List.replicate_succ, List.replicate_zero, Nat.zero_add, Nat.reduceAdd, Nat.reduceSub, Nat.add_one_sub_one, Nat.sub_self, if_true, if_false, ite_true, ite_false, Bool.false_eq_true, reduceCtorEq, if_pos, Nat.reduceEqDiff, Nat.reduceLeDiff, decide_true, decide_false, Bool.not_true, Bool.not_false, mMatch, mCases, mpSeq, mpCons, mpNil, mpCap, mpOr, mpLit, gEqB, n3', n4', setAll, List.foldl_nil, List.foldl_cons, List.append_nil, mMethC, h1, look_no, and_self, P1, P2, O1, gNeg]
      rw [c_nearest (by omega), ← hw]
      rfl
    · have h3 := app_keep (t := [Ob.lst [.str "arg", .str "now", .str "self"]]) h1
      have h4 := app_keep (t := [Ob.lst [.str "arg", .str "now", .str "self"]]) h2
      obtain ⟨t1, L1⟩ := L1 k _ F f S h3 h4
      obtain ⟨t2, L2⟩ := L2 k _ F f S (app_keep (t := t1) h3) (app_keep (t := t1) h4)
      refine ⟨[Ob.lst [.str "arg", .str "now", .str "self"]] ++ t1 ++ t2, ?_⟩
      show Core.fin (m_law_value (call (k + h + 3)) [some (.tup [.str z, a, b]), some (.ref F), none] s) = _
      unfold m_law_value
      have O2 := O2 (k + h + 1)
      simp only [mSeq, mExpr, mRet, mRetN, mIfS, mSet, mAug, mCall, mCons, mNil, mVar, mC, mOp, mUn, mApp, mTup, mLst, mNx, mRaise, mAnd, mOr, mNot, mIf, tstB, tstAnd, tstOr, tstNot, mChain, bind_ok, bind_err, bind_no, toS_ok, toS_err, nox_ok, fin_nx, fin_rt, fin_err, startL, List.map_cons, List.map_nil, List.length_cons, List.length_nil, List.cons_append, List.nil_append, List.getElem?_cons_zero, List.getElem?_cons_succ, List.set_cons_zero, List.set_cons_succ, List.replicate_succ, List.replicate_zero, Nat.zero_add, Nat.reduceAdd, Nat.reduceSub, Nat.add_one_sub_one, Nat.sub_self, if_true, if_false, ite_true, ite_false, Bool.false_eq_true, reduceCtorEq, if_pos, Nat.reduceEqDiff, Nat.reduceLeDiff, decide_true, decide_false, Bool.not_true, Bool.not_false, ix0, ix1, ix2, gEq, gEqB, n1', n2', n3', n4', n5', in_lst (lst3 s), decide_eq_false n6, L1, L2, O2]
      simp only [List.append_assoc, List.cons_append, List.nil_append]
end
end Pr

set_option Elab.async false
set_option linter.all false
set_option maxRecDepth 100000
set_option maxHeartbeats 4000000
/-! what drawn statements do -/
namespace Pr
open PySem PySem.Spec PyProof.Rows L2 Core
section
variable {names : List Str} {fd : List (Str × Int × Int)} {kv : List (Key × D)} {E : En}
theorem Val.p {h : Nat} {e : D} {v : Int} (V : Val fd kv E h e v) {K : Nat} (hK : h + 3 ≤ K) {s : Mem} {r a hd S : Nat} (h1 : s[r]? = some (runOb a hd S E)) (h2 : s[hd]? = some (.dK kv)) : call K .Run_value [.ref r, e] s = .ok (.int v) s := by
  obtain ⟨k, rfl⟩ : ∃ k, K = k + h + 3 := ⟨K - h - 3, by omega⟩
  exact V.2.2.1 k s r a hd S h1 h2
theorem Val.l {h : Nat} {e : D} {v : Int} (V : Val fd kv E h e v) {K : Nat} (hK : h + 3 ≤ K) {s : Mem} {F f S : Nat} (h1 : s[F]? = some (factOb f S E)) (h2 : s[f]? = some (.dK kv)) : ∃ t, call K .law_value [e, .ref F] s = .ok (.int v) (s ++ t) := by
  obtain ⟨k, rfl⟩ : ∃ k, K = k + h + 3 := ⟨K - h - 3, by omega⟩
  exact V.2.2.2 k s F f S h1 h2
theorem dec_val (ok : E.Ok) : Val fd kv E 2 decD (E.arg - 1) := by
  have lst3 : ∀ s : Mem, (s ++ [Ob.lst [D.str "arg", D.str "now", D.str "self"]])[s.length]? = some (Ob.lst ((["arg", "now", "self"] : List Str).map D.str)) := fun s => last_at
  have pw : ∀ s : Mem, gPow (.int 10) (.int 9) s = .ok (.int 1000000000) s := fun s => by rfl
  obtain ⟨⟨_, _⟩, ⟨_, _⟩, ⟨_, _⟩, ⟨_, _⟩⟩ := ok
  have ci : cl (E.arg - 1) (-1000000000) 1000000000 = E.arg - 1 := cl_id (by omega) (by omega)
  refine ⟨by omega, by omega, fun k s r a hd S h1 h2 => ?_, fun k s F f S h1 h2 => ?_⟩
  · show Core.fin (m_Run_value (call (k + 4)) [some (.ref r), some decD, none, none, none, none, none] s) = _
    have e1 : call (k + 4) .Run_value [.ref r, .tup [.str "arg"]] s = .ok (.int E.arg) s := by
      show Core.fin (m_Run_value (call (k + 3)) [some (.ref r), some (.tup [.str "arg"]), none, none, none, none, none] s) = _
      unfold m_Run_value
      simp only [mSeq, mExpr, mRet, mRetN, mIfS, mSet, mAug, mCall, mCons, mNil, mVar, mC, mOp, mUn, mApp, mTup, mLst, mNx, mRaise, mAnd, mOr, mNot, mIf, tstB, tstAnd, tstOr, tstNot, mChain, bind_ok, bind_err, bind_no, toS_ok, toS_err, nox_ok, fin_nx, fin_rt, fin_err, startL, List.map_cons, List.map_nil, List.length_cons, List.length_nil, List.cons_append, List.nil_append, List.getElem?_cons_zero, List.getElem?_cons_succ, List.set_cons_zero, List.set_cons_succ, List.replicate_succ, List.replicate_zero, Nat.zero_add, Nat.reduceAdd, Nat.reduceSub, Nat.add_one_sub_one, Nat.sub_self, if_true, if_false, ite_true, ite_false, Bool.false_eq_true, reduceCtorEq, if_pos, Nat.reduceEqDiff, Nat.reduceLeDiff, decide_true, decide_false, Bool.not_true, Bool.not_false, mMatch, mCases, mpSeq, mpCons, mpNil, mpCap, mpLit, gEqB, ofs_beq, String.reduceBEq, setAll, List.foldl_nil, List.foldl_cons, look_run h1 (f := "arg") rfl]
    have e2 : call (k + 4) .Run_value [.ref r, .tup [.str "int", .int 1]] s = .ok (.int 1) s := by rfl
    have e3 : call (k + 4) .operate [.str "sub", .int E.arg, .int 1] s = .ok (.int (E.arg - 1)) s := by rfl
    unfold m_Run_value decD
    unfold runOb at h1
    simp only [mSeq, mExpr, mRet, mRetN, mIfS, mSet, mAug, mCall, mCons, mNil, mVar, mC, mOp, mUn, mApp, mTup, mLst, mNx, mRaise, mAnd, mOr, mNot, mIf, tstB, tstAnd, tstOr, tstNot, mChain, bind_ok, bind_err, bind_no, toS_ok, toS_err, nox_ok, fin_nx, fin_rt, fin_err, startL, List.map_cons, List.map_nil, List.length_cons, List.length_nil, List.cons_append, List.nil_append, List.getElem?_cons_zero, List.getElem?_cons_succ, List.set_cons_zero, List.set_cons_succ, List.replicate_succ, List.replicate_zero, Nat.zero_add, Nat.reduceAdd, Nat.reduceSub, Nat.add_one_sub_one, Nat.sub_self, if_true, if_false, ite_true, ite_false, Bool.false_eq_true, reduceCtorEq, if_pos, Nat.reduceEqDiff, Nat.reduceLeDiff, decide_true, decide_false, Bool.not_true, Bool.not_false, mMatch, mCases, mpSeq, mpCons, mpNil, mpCap, mpOr, mpLit, gEqB, ofs_beq, String.reduceBEq, setAll, List.foldl_nil, List.foldl_cons, List.append_nil, mMethC, h1, look_no, and_self, e1, e2, e3, gNeg]
    rw [c_nearest (by omega), ci]
    rfl
  · obtain ⟨L3, hL3⟩ : ∃ L : List D, L = [.str "arg", .str "now", .str "self"] := ⟨_, rfl⟩
    have a1 := app_keep (t := [Ob.lst L3]) h1
    have e1 : ∀ s : Mem, s[F]? = some (factOb f S E) → call (k + 4) .law_value [.tup [.str "arg"], .ref F] s = .ok (.int E.arg) (s ++ [Ob.lst L3]) := fun s h1 => by
      show Core.fin (m_law_value (call (k + 3)) [some (.tup [.str "arg"]), some (.ref F), none] s) = _
      unfold m_law_value
      simp only [mSeq, mExpr, mRet, mRetN, mIfS, mSet, mAug, mCall, mCons, mNil, mVar, mC, mOp, mUn, mApp, mTup, mLst, mNx, mRaise, mAnd, mOr, mNot, mIf, tstB, tstAnd, tstOr, tstNot, mChain, bind_ok, bind_err, bind_no, toS_ok, toS_err, nox_ok, fin_nx, fin_rt, fin_err, startL, List.map_cons, List.map_nil, List.length_cons, List.length_nil, List.cons_append, List.nil_append, List.getElem?_cons_zero, List.getElem?_cons_succ, List.set_cons_zero, List.set_cons_succ, List.replicate_succ, List.replicate_zero, Nat.zero_add, Nat.reduceAdd, Nat.reduceSub, Nat.add_one_sub_one, Nat.sub_self, if_true, if_false, ite_true, ite_false, Bool.false_eq_true, reduceCtorEq, if_pos, Nat.reduceEqDiff, Nat.reduceLeDiff, decide_true, decide_false, Bool.not_true, Bool.not_false, ix0, ix1, gEq, gEqB, ofs_beq, String.reduceBEq, in_lst (lst3 s), List.mem_cons, ofs_inj, String.reduceEq, true_or, or_true, ixa_fact (app_keep h1) (x := "arg") rfl, hL3]
    have e2 : ∀ s : Mem, call (k + 4) .law_value [.tup [.str "int", .int 1], .ref F] s = .ok (.int 1) s := fun s => by rfl
    have e3 : ∀ s : Mem, call (k + 4) .law_pair [.str "sub", .int E.arg, .int 1] s = .ok (.int (E.arg - 1)) s := fun s => by
      show Core.fin (m_law_pair (call (k + 3)) [some (.str "sub"), some (.int E.arg), some (.int 1)] s) = _
      unfold m_law_pair
      simp only [mSeq, mExpr, mRet, mRetN, mIfS, mSet, mAug, mCall, mCons, mNil, mVar, mC, mOp, mUn, mApp, mTup, mLst, mNx, mRaise, mAnd, mOr, mNot, mIf, tstB, tstAnd, tstOr, tstNot, mChain, bind_ok, bind_err, bind_no, toS_ok, toS_err, nox_ok, fin_nx, fin_rt, fin_err, startL, List.map_cons, List.map_nil, List.length_cons, List.length_nil, List.cons_append, List.nil_append, List.getElem?_cons_zero, List.getElem?_cons_succ, List.set_cons_zero, List.set_cons_succ, List.replicate_succ, List.replicate_zero, Nat.zero_add, Nat.reduceAdd, Nat.reduceSub, Nat.add_one_sub_one, Nat.sub_self, if_true, if_false, ite_true, ite_false, Bool.false_eq_true, reduceCtorEq, if_pos, Nat.reduceEqDiff, Nat.reduceLeDiff, decide_true, decide_false, Bool.not_true, Bool.not_false, gEq, gEqB, ofs_beq, String.reduceBEq, Core.gSub, gI2, gNeg, pw, c_clamp, ci]
    refine ⟨[Ob.lst L3] ++ [Ob.lst L3], ?_⟩
    show Core.fin (m_law_value (call (k + 4)) [some decD, some (.ref F), none] s) = _
    unfold m_law_value decD
    have l3 := lst3 s
    simp only [mSeq, mExpr, mRet, mRetN, mIfS, mSet, mAug, mCall, mCons, mNil, mVar, mC, mOp, mUn, mApp, mTup, mLst, mNx, mRaise, mAnd, mOr, mNot, mIf, tstB, tstAnd, tstOr, tstNot, mChain, bind_ok, bind_err, bind_no, toS_ok, toS_err, nox_ok, fin_nx, fin_rt, fin_err, startL, List.map_cons, List.map_nil, List.length_cons, List.length_nil, List.cons_append, List.nil_append, List.getElem?_cons_zero, List.getElem?_cons_succ, List.set_cons_zero, List.set_cons_succ, List.replicate_succ, List.replicate_zero, Nat.zero_add, Nat.reduceAdd, Nat.reduceSub, Nat.add_one_sub_one, Nat.sub_self, if_true, if_false, ite_true, ite_false, Bool.false_eq_true, reduceCtorEq, if_pos, Nat.reduceEqDiff, Nat.reduceLeDiff, decide_true, decide_false, Bool.not_true, Bool.not_false, ix0, ix1, ix2, gEq, gEqB, ofs_beq, String.reduceBEq]
    rw [← hL3] at l3 ⊢
    simp only [mSeq, mExpr, mRet, mRetN, mIfS, mSet, mAug, mCall, mCons, mNil, mVar, mC, mOp, mUn, mApp, mTup, mLst, mNx, mRaise, mAnd, mOr, mNot, mIf, tstB, tstAnd, tstOr, tstNot, mChain, bind_ok, bind_err, bind_no, toS_ok, toS_err, nox_ok, fin_nx, fin_rt, fin_err, startL, List.map_cons, List.map_nil, List.length_cons, List.length_nil, List.cons_append, List.nil_append, List.getElem?_cons_zero, List.getElem?_cons_succ, List.set_cons_zero, List.set_cons_succ, List.replicate_succ, List.replicate_zero, Nat.zero_add, Nat.reduceAdd, Nat.reduceSub, Nat.add_one_sub_one, Nat.sub_self, if_true, if_false, ite_true, ite_false, Bool.false_eq_true, reduceCtorEq, if_pos, Nat.reduceEqDiff, Nat.reduceLeDiff, decide_true, decide_false, Bool.not_true, Bool.not_false, ix0, ix1, ix2, gEq, gEqB, ofs_beq, String.reduceBEq, in_lst l3, List.mem_cons, List.not_mem_nil, ofs_inj, String.reduceEq, or_false, e1 _ a1, e2, e3]
    simp only [List.append_assoc, List.cons_append, List.nil_append]
def rg (fd : List (Str × Int × Int)) : List (Key × D) := fd.map fun f => (.inr f.1, .tup [.int f.2.1, .int f.2.2])
theorem rg_get {x : Str} (hx : x ∈ fd.map (·.1)) : ∃ lo hi, (x, lo, hi) ∈ fd ∧ getK (rg fd) (.inr x) = some (.tup [.int lo, .int hi]) := by
  induction fd with
  | nil => cases hx
  | cons f r ih =>
    obtain ⟨y, lo, hi⟩ := f
    by_cases e : y = x
    · subst e
      exact ⟨lo, hi, List.mem_cons_self, by unfold getK rg; rw [List.map_cons, List.find?_cons, decide_eq_true rfl]; rfl⟩
    · rw [List.map_cons] at hx
      rcases List.mem_cons.mp hx with hx | hx
      · exact absurd hx.symm e
      · obtain ⟨lo', hi', h1, h2⟩ := ih hx
        refine ⟨lo', hi', List.mem_cons_of_mem _ h1, ?_⟩
        rw [← h2]
        unfold getK rg
        rw [List.map_cons, List.find?_cons, decide_eq_false (by simpa using e)]
theorem Fs.keys (f : Fs fd kv) : kv.map (·.1) = fd.map fun f => (.inr f.1 : Key) := by
  induction f with
  | nil => rfl
  | cons _ _ _ _ _ ih => rw [List.map_cons, List.map_cons, ih]
theorem Fs.rng (f : Fs fd kv) {x : Str} {lo hi : Int} (h : (x, lo, hi) ∈ fd) : lo ≤ hi := by
  induction f with
  | nil => cases h
  | cons h1 h2 h3 h4 t ih =>
    rcases List.mem_cons.mp h with h | h
    · cases h; omega
    · exact ih h
theorem Fs.put (f : Fs fd kv) (nd : (fd.map (·.1)).Nodup) {x : Str} {lo hi w : Int} (h : (x, lo, hi) ∈ fd) (h1 : lo ≤ w) (h2 : w ≤ hi) : Fs fd (putKD kv (.inr x) (.int w)) := by
  have any : (kv.any fun kv => decide (kv.1 = .inr x)) = true := by
    rw [List.any_eq_true]
    have : (.inr x : Key) ∈ kv.map (·.1) := by rw [f.keys]; exact List.mem_map.mpr ⟨_, h, rfl⟩
    obtain ⟨p, hp, e⟩ := List.mem_map.mp this
    exact ⟨p, hp, decide_eq_true e⟩
  unfold putKD
  rw [if_pos any]
  clear any
  have same : ∀ {fd : List (Str × Int × Int)} {kv : List (Key × D)}, Fs fd kv → x ∉ fd.map (·.1) → kv.map (fun kv => if kv.1 = .inr x then (kv.1, D.int w) else kv) = kv := fun f => by
    induction f with
    | nil => intro _; rfl
    | cons _ _ _ _ _ ih =>
      intro hx
      rw [List.map_cons, List.mem_cons, not_or] at hx
      rw [List.map_cons, ih hx.2, if_neg (by simpa using fun q => hx.1 q.symm)]
  induction f with
  | nil => cases h
  | @cons y lo' hi' v fd kv a1 a2 a3 a4 t ih =>
    rw [List.map_cons, List.nodup_cons] at nd
    rw [List.map_cons]
    rcases List.mem_cons.mp h with h | h9
    · cases h
      rw [if_pos rfl, same t nd.1]
      exact .cons a1 h1 h2 a4 t
    · rw [if_neg (by
        intro q
        cases q
        exact nd.1 (List.mem_map.mpr ⟨_, h9, rfl⟩))]
      exact .cons a1 a2 a3 a4 (ih nd.2 h9)
structure PSt (s : Mem) (r a hd S : Nat) (E : En) (fd : List (Str × Int × Int)) (kv : List (Key × D)) (sn : List D) : Prop where
  run : s[r]? = some (runOb a hd S E)
  held : s[hd]? = some (.dK kv)
  rngs : s[a]? = some (.dK (rg fd))
  snd : s[S]? = some (.lst sn)
  ne : a ≠ hd
structure LSt (s : Mem) (F f R S : Nat) (E : En) (fd : List (Str × Int × Int)) (kv : List (Key × D)) (sn : List D) : Prop where
  fact : s[F]? = some (factOb f S E)
  flds : s[f]? = some (.dK kv)
  rngs : s[R]? = some (.dK (rg fd))
  snd : s[S]? = some (.lst sn)
  ne : f ≠ R ∧ F ≠ f
def SnP (E : En) (x : D) : Prop := ∃ (t g : Int) (z : Str), x = .tup [.int t, .int g, .str z, .int (cl (E.arg - 1) (-999) 999)] ∧ E.time + 1 ≤ t ∧ t ≤ E.time + 20 ∧ 0 ≤ g ∧ g < E.many ∧ z ∈ w4
theorem ne_of {s : Mem} {m n : Nat} {o o' : Ob} (h : s[m]? = some o) (h' : s[n]? = some o') (hn : o ≠ o') : m ≠ n := fun e => hn (by subst e; rw [h] at h'; exact Option.some.inj h')
theorem LSt.app {s t : Mem} {F f R S : Nat} {sn : List D} (p : LSt s F f R S E fd kv sn) : LSt (s ++ t) F f R S E fd kv sn := ⟨app_keep p.fact, app_keep p.flds, app_keep p.rngs, app_keep p.snd, p.ne⟩
theorem keep_set {s : Mem} {m n : Nat} {o u : Ob} (h : s[m]? = some o) (hn : n ≠ m) : (s.set n u)[m]? = some o := by rw [List.getElem?_set_ne hn]; exact h
theorem PSt.put {s : Mem} {r a hd S : Nat} {sn : List D} (p : PSt s r a hd S E fd kv sn) {kv' : List (Key × D)} : PSt (s.set hd (.dK kv')) r a hd S E fd kv' sn :=
  ⟨keep_set p.run (ne_of p.held p.run (by intro q; cases q)), set_at p.held, keep_set p.rngs p.ne.symm, keep_set p.snd (ne_of p.held p.snd (by intro q; cases q)), p.ne⟩
theorem PSt.send {s : Mem} {r a hd S : Nat} {sn : List D} (p : PSt s r a hd S E fd kv sn) {sn' : List D} : PSt (s.set S (.lst sn')) r a hd S E fd kv sn' :=
  ⟨keep_set p.run (ne_of p.snd p.run (by intro q; cases q)), keep_set p.held (ne_of p.snd p.held (by intro q; cases q)), keep_set p.rngs (ne_of p.snd p.rngs (by intro q; cases q)), set_at p.snd, p.ne⟩
theorem LSt.put {s : Mem} {F f R S : Nat} {sn : List D} (p : LSt s F f R S E fd kv sn) {kv' : List (Key × D)} : LSt (s.set f (.dK kv')) F f R S E fd kv' sn :=
  ⟨keep_set p.fact p.ne.2.symm, set_at p.flds, keep_set p.rngs p.ne.1, keep_set p.snd (ne_of p.flds p.snd (by intro q; cases q)), p.ne⟩
theorem LSt.send {s : Mem} {F f R S : Nat} {sn : List D} (p : LSt s F f R S E fd kv sn) {sn' : List D} : LSt (s.set S (.lst sn')) F f R S E fd kv sn' :=
  ⟨keep_set p.fact (ne_of p.snd p.fact (by intro q; cases q)), keep_set p.flds (ne_of p.snd p.flds (by intro q; cases q)), keep_set p.rngs (ne_of p.snd p.rngs (by intro q; cases q)), set_at p.snd, p.ne⟩
/-- d[k] = v -/
theorem sub_dk {mv mo mi : EM} {l : Core.Loc} {s s1 : Mem} {n : Nat} {kv : List (Key × D)} {d y : D} {k : Key} (h1 : mv l s = .ok d s1) (h2 : mo l s1 = .ok (.ref n) s1) (h3 : mi l s1 = .ok y s1) (hn : s1[n]? = some (.dK kv)) (hk : keyD y = some k) (hl : kv.length < 100000) :
    mSubA mv mo mi l s = .nx l (s1.set n (.dK (putKD kv k d))) := by
  unfold mSubA
  rw [h1, toS_ok, h2, toS_ok, h3, toS_ok]
  dsimp only
  rw [hn]
  dsimp only
  rw [hk]
  dsimp only
  rw [if_pos hl]
theorem Gt2.app' {hd S : Nat} {s t : Mem} : Gt2 hd S s (s ++ t) := (Gt.app (at_ := hd)).two
theorem Gt2.put {hd S : Nat} {s : Mem} {u : Ob} : Gt2 hd S s (s.set hd u) := ⟨by simp, fun n o h _ e => by rw [List.getElem?_set_ne (Ne.symm h)]; exact e⟩
abbrev bRun (K : Nat) : SM := (mIfS (tstB (mOp gEq (mOp gIx (mVar 3) (mC (.int 0))) (mC (.str "set"))))
      (mSeq (mSet 4 (mOp gIxA (mVar 1) (mC (.str "fields"))))
      (mSubA (mCall 3 (call K .law_clamp) (mCons (mCall 2 (call K .law_value) (mCons (mOp gIx (mVar 3) (mC (.int 2))) (mCons (mVar 1) mNil))) (mCons (mOp gIx (mOp gIxA (mVar 2) (mOp gIx (mVar 3) (mC (.int 1)))) (mC (.int 0))) (mCons (mOp gIx (mOp gIxA (mVar 2) (mOp gIx (mVar 3) (mC (.int 1)))) (mC (.int 1))) mNil)))) (mVar 4) (mOp gIx (mVar 3) (mC (.int 1)))))
      (mIfS (tstB (mOp gEq (mOp gIx (mVar 3) (mC (.int 0))) (mC (.str "send"))))
        (mSeq (mSet 5 (mOp Core.gAdd (mOp gIxA (mVar 1) (mC (.str "now"))) (mCall 3 (call K .law_clamp) (mCons (mCall 2 (call K .law_value) (mCons (mOp gIx (mVar 3) (mC (.int 2))) (mCons (mVar 1) mNil))) (mCons (mC (.int 1)) (mCons (mC (.int 20)) mNil))))))
        (mSeq (mSet 6 (mOp gMod (mApp gInt1 (mCons (mCall 2 (call K .law_value) (mCons (mOp gIx (mVar 3) (mC (.int 1))) (mCons (mVar 1) mNil))) mNil)) (mOp gIxA (mVar 1) (mC (.str "many")))))
        (mExpr (mLm gAppend (mOp gIxA (mVar 1) (mC (.str "sends"))) (mCons (mTup (mCons (mVar 5) (mCons (mVar 6) (mCons (mOp gIx (mVar 3) (mC (.int 3))) (mCons (mCall 3 (call K .law_clamp) (mCons (mCall 2 (call K .law_value) (mCons (mOp gIx (mVar 3) (mC (.int 4))) (mCons (mVar 1) mNil))) (mCons (mUn gNeg (mC (.int 999))) (mCons (mC (.int 999)) mNil)))) mNil))))) mNil)))))
        (mIfS (tstB (mOp gEq (mOp gIx (mVar 3) (mC (.int 0))) (mC (.str "if"))))
          (mExpr (mCall 3 (call K .law_run) (mCons (mOp gIx (mVar 3) (mOp Core.gAdd (mC (.int 2)) (mApp gInt1 (mCons (mOp gEq (mCall 2 (call K .law_value) (mCons (mOp gIx (mVar 3) (mC (.int 1))) (mCons (mVar 1) mNil))) (mC (.int 0))) mNil)))) (mCons (mVar 1) (mCons (mVar 2) mNil)))))
          mNx)))
example {K : Nat} : m_law_run (call K) = mFor (iSeq (mVar 0)) (gmName 3) (bRun K) := rfl
abbrev bPrg (K : Nat) : SM := (mExpr (mMethC "Run" "statement" 2 (call K .Run_statement) (mVar 0) (mCons (mVar 2) mNil)))
example {K : Nat} : m_Run_program (call K) = mFor (iSeq (mVar 1)) (gmName 2) (bPrg K) := rfl
/-- what one row does, for both -/
structure Eff (fd : List (Str × Int × Int)) (E : En) (kv : List (Key × D)) (K n : Nat) (d : D) (kv' : List (Key × D)) (new : List D) : Prop where
  fs : Fs fd kv'
  len : new.length ≤ n
  all : ∀ x ∈ new, SnP E x
  P : ∀ (k : Nat) (s : Mem) (r a hd S : Nat) (sn : List D), K ≤ k → PSt s r a hd S E fd kv sn → sn.length + new.length ≤ 90000 → ∃ s', call k .Run_statement [.ref r, d] s = .ok .non s' ∧ PSt s' r a hd S E fd kv' (sn ++ new) ∧ Gt2 hd S s s'
  L : ∀ (k : Nat) (s : Mem) (F f R S : Nat) (sn : List D) (o p4 p5 p6 : Option D), K ≤ k → LSt s F f R S E fd kv sn → sn.length + new.length ≤ 90000 → ∃ p4' p5' p6' s', bRun k [o, some (.ref F), some (.ref R), some d, p4, p5, p6] s = .nx [o, some (.ref F), some (.ref R), some d, p4', p5', p6'] s' ∧ LSt s' F f R S E fd kv' (sn ++ new) ∧ Gt2 f S s s'
end
end Pr

set_option Elab.async false
set_option linter.all false
set_option maxRecDepth 100000
set_option maxHeartbeats 4000000
/-! what drawn statements do -/
namespace Pr
open PySem PySem.Spec PyProof.Rows L2 Core
section
variable {names : List Str} {fd : List (Str × Int × Int)} {E : En}
/-- a set row -/
theorem eff_set (ok : E.Ok) (nd : (fd.map (·.1)).Nodup) (hlen : fd.length ≤ 10) {kv : List (Key × D)} (hf : Fs fd kv) {x : Str} {e : D} {c : Nat} (hx : x ∈ fd.map (·.1)) (w : Wx (fd.map (·.1)) 3 e c) : ∃ kv', Eff fd E kv 8 0 (.tup [.str "set", .str x, e]) kv' [] := by
  obtain ⟨v, V⟩ := val_two w ok hf rfl
  obtain ⟨lo, hi, hm, hg⟩ := rg_get hx
  have hlh := hf.rng hm
  obtain ⟨c1, c2⟩ := cl_in (v := v) hlh
  have kl : kv.length < 100000 := by have := congrArg List.length hf.keys; simp at this; omega
  refine ⟨putKD kv (.inr x) (.int (cl v lo hi)), hf.put nd hm c1 c2, Nat.le_refl _, all_nil, fun k s r a hd S sn hk p hsn => ?_, fun k s F f R S sn o p4 p5 p6 hk p hsn => ?_⟩
  · obtain ⟨k, rfl⟩ : ∃ j, k = j + 1 + 1 := ⟨k - 2, by omega⟩
    refine ⟨s.set hd (.dK (putKD kv (.inr x) (.int (cl v lo hi)))), ?_, by rw [List.append_nil]; exact p.put, Gt2.put⟩
    show Core.fin (m_Run_statement (call (k + 1)) [some (.ref r), some (.tup [.str "set", .str x, e]), none, none, none, none, none, none, none, none, none] s) = _
    have P := V.p (K := k + 1) (by omega) p.run p.held
    have e1 := look_run p.run (f := "ranges") rfl
    have e2 : gIxA (.ref a) (.str x) s = .ok (.tup [.int lo, .int hi]) s := ixa_dk (y := .str x) p.rngs rfl hg
    have e3 := look_run p.run (f := "held") rfl
    have sb := sub_dk (mv := mCall 3 (call (k + 1) .nearest) (mCons (mMethC "Run" "value" 2 (call (k + 1) .Run_value) (mVar 0) (mCons (mVar 3) mNil)) (mCons (mVar 4) (mCons (mVar 5) mNil)))) (mo := mUn (gFld ["Run"] "held") (mVar 0)) (mi := mVar 2) (l := [some (.ref r), some (.tup [.str "set", .str x, e]), some (.str x), some e, some (.int lo), some (.int hi), none, none, none, none, none]) (s := s) (s1 := s) (y := .str x) (d := .int (cl v lo hi))
      (by have h1 := p.run; unfold runOb at h1; simp only [mSeq, mExpr, mRet, mRetN, mIfS, mSet, mAug, mCall, mCons, mNil, mVar, mC, mOp, mUn, mApp, mTup, mLst, mNx, mRaise, mAnd, mOr, mNot, mIf, tstB, tstAnd, tstOr, tstNot, mChain, bind_ok, bind_err, bind_no, toS_ok, toS_err, nox_ok, fin_nx, fin_rt, fin_err, startL, List.map_cons, List.map_nil, List.length_cons, List.length_nil, List.cons_append, List.nil_append, List.getElem?_cons_zero, List.getElem?_cons_succ, List.set_cons_zero, List.set_cons_succ, List.replicate_succ, List.replicate_zero, Nat.zero_add, Nat.reduceAdd, Nat.reduceSub, Nat.add_one_sub_one, Nat.sub_self, if_true, if_false, ite_true, ite_false, Bool.false_eq_true, reduceCtorEq, if_pos, Nat.reduceEqDiff, Nat.reduceLeDiff, decide_true, decide_false, Bool.not_true, Bool.not_false, mMethC, h1, look_no, and_self, P, c_nearest hlh]) (by simp only [mSeq, mExpr, mRet, mRetN, mIfS, mSet, mAug, mCall, mCons, mNil, mVar, mC, mOp, mUn, mApp, mTup, mLst, mNx, mRaise, mAnd, mOr, mNot, mIf, tstB, tstAnd, tstOr, tstNot, mChain, bind_ok, bind_err, bind_no, toS_ok, toS_err, nox_ok, fin_nx, fin_rt, fin_err, startL, List.map_cons, List.map_nil, List.length_cons, List.length_nil, List.cons_append, List.nil_append, List.getElem?_cons_zero, List.getElem?_cons_succ, List.set_cons_zero, List.set_cons_succ, List.replicate_succ, List.replicate_zero, Nat.zero_add, Nat.reduceAdd, Nat.reduceSub, Nat.add_one_sub_one, Nat.sub_self, if_true, if_false, ite_true, ite_false, Bool.false_eq_true, reduceCtorEq, if_pos, Nat.reduceEqDiff, Nat.reduceLeDiff, decide_true, decide_false, Bool.not_true, Bool.not_false, e3]) (by simp only [mSeq, mExpr, mRet, mRetN, mIfS, mSet, mAug, mCall, mCons, mNil, mVar, mC, mOp, mUn, mApp, mTup, mLst, mNx, mRaise, mAnd, mOr, mNot, mIf, tstB, tstAnd, tstOr, tstNot, mChain, bind_ok, bind_err, bind_no, toS_ok, toS_err, nox_ok, fin_nx, fin_rt, fin_err, startL, List.map_cons, List.map_nil, List.length_cons, List.length_nil, List.cons_append, List.nil_append, List.getElem?_cons_zero, List.getElem?_cons_succ, List.set_cons_zero, List.set_cons_succ, List.replicate_succ, List.replicate_zero, Nat.zero_add, Nat.reduceAdd, Nat.reduceSub, Nat.add_one_sub_one, Nat.sub_self, if_true, if_false, ite_true, ite_false, Bool.false_eq_true, reduceCtorEq, if_pos, Nat.reduceEqDiff, Nat.reduceLeDiff, decide_true, decide_false, Bool.not_true, Bool.not_false]) p.held rfl kl
    unfold m_Run_statement
    simp only [mSeq, mExpr, mRet, mRetN, mIfS, mSet, mAug, mCall, mCons, mNil, mVar, mC, mOp, mUn, mApp, mTup, mLst, mNx, mRaise, mAnd, mOr, mNot, mIf, tstB, tstAnd, tstOr, tstNot, mChain, bind_ok, bind_err, bind_no, toS_ok, toS_err, nox_ok, fin_nx, fin_rt, fin_err, startL, List.map_cons, List.map_nil, List.length_cons, List.length_nil, List.cons_append, List.nil_append, List.getElem?_cons_zero, List.getElem?_cons_succ, List.set_cons_zero, List.set_cons_succ, List.replicate_succ, List.replicate_zero, Nat.zero_add, Nat.reduceAdd, Nat.reduceSub, Nat.add_one_sub_one, Nat.sub_self, if_true, if_false, ite_true, ite_false, Bool.false_eq_true, reduceCtorEq, if_pos, Nat.reduceEqDiff, Nat.reduceLeDiff, decide_true, decide_false, Bool.not_true, Bool.not_false, mMatch, mCases, mpSeq, mpCons, mpNil, mpCap, mpLit, gEqB, ofs_beq, String.reduceBEq, setAll, List.foldl_nil, List.foldl_cons, List.append_nil, mAsg, gmTup, gmCons, gmName, gmNil, e1, e2, sb]
  · refine ⟨some (.ref f), p5, p6, ?_⟩
    obtain ⟨k, rfl⟩ : ∃ j, k = j + 1 := ⟨k - 1, by omega⟩
    obtain ⟨t, L⟩ := V.l (K := k + 1) (by omega) p.fact p.flds
    have p' := p.app (t := t)
    refine ⟨(s ++ t).set f (.dK (putKD kv (.inr x) (.int (cl v lo hi)))), ?_, by rw [List.append_nil]; exact p'.put, Gt2.app'.trans Gt2.put⟩
    have e1 := ixa_fact p.fact (x := "fields") rfl
    have e2 : gIxA (.ref R) (.str x) (s ++ t) = .ok (.tup [.int lo, .int hi]) (s ++ t) := ixa_dk (y := .str x) p'.rngs rfl hg
    have sb := sub_dk (mv := mCall 3 (call (k + 1) .law_clamp) (mCons (mCall 2 (call (k + 1) .law_value) (mCons (mOp gIx (mVar 3) (mC (.int 2))) (mCons (mVar 1) mNil))) (mCons (mOp gIx (mOp gIxA (mVar 2) (mOp gIx (mVar 3) (mC (.int 1)))) (mC (.int 0))) (mCons (mOp gIx (mOp gIxA (mVar 2) (mOp gIx (mVar 3) (mC (.int 1)))) (mC (.int 1))) mNil)))) (mo := mVar 4) (mi := mOp gIx (mVar 3) (mC (.int 1))) (l := [o, some (.ref F), some (.ref R), some (.tup [.str "set", .str x, e]), some (.ref f), p5, p6]) (s := s) (s1 := s ++ t) (y := .str x) (d := .int (cl v lo hi))
      (by simp only [mSeq, mExpr, mRet, mRetN, mIfS, mSet, mAug, mCall, mCons, mNil, mVar, mC, mOp, mUn, mApp, mTup, mLst, mNx, mRaise, mAnd, mOr, mNot, mIf, tstB, tstAnd, tstOr, tstNot, mChain, bind_ok, bind_err, bind_no, toS_ok, toS_err, nox_ok, fin_nx, fin_rt, fin_err, startL, List.map_cons, List.map_nil, List.length_cons, List.length_nil, List.cons_append, List.nil_append, List.getElem?_cons_zero, List.getElem?_cons_succ, List.set_cons_zero, List.set_cons_succ, List.replicate_succ, List.replicate_zero, Nat.zero_add, Nat.reduceAdd, Nat.reduceSub, Nat.add_one_sub_one, Nat.sub_self, if_true, if_false, ite_true, ite_false, Bool.false_eq_true, reduceCtorEq, if_pos, Nat.reduceEqDiff, Nat.reduceLeDiff, decide_true, decide_false, Bool.not_true, Bool.not_false, ix0, ix1, ix2, L, e2, c_clamp]) (by simp only [mSeq, mExpr, mRet, mRetN, mIfS, mSet, mAug, mCall, mCons, mNil, mVar, mC, mOp, mUn, mApp, mTup, mLst, mNx, mRaise, mAnd, mOr, mNot, mIf, tstB, tstAnd, tstOr, tstNot, mChain, bind_ok, bind_err, bind_no, toS_ok, toS_err, nox_ok, fin_nx, fin_rt, fin_err, startL, List.map_cons, List.map_nil, List.length_cons, List.length_nil, List.cons_append, List.nil_append, List.getElem?_cons_zero, List.getElem?_cons_succ, List.set_cons_zero, List.set_cons_succ, List.replicate_succ, List.replicate_zero, Nat.zero_add, Nat.reduceAdd, Nat.reduceSub, Nat.add_one_sub_one, Nat.sub_self, if_true, if_false, ite_true, ite_false, Bool.false_eq_true, reduceCtorEq, if_pos, Nat.reduceEqDiff, Nat.reduceLeDiff, decide_true, decide_false, Bool.not_true, Bool.not_false]) (by simp only [mSeq, mExpr, mRet, mRetN, mIfS, mSet, mAug, mCall, mCons, mNil, mVar, mC, mOp, mUn, mApp, mTup, mLst, mNx, mRaise, mAnd, mOr, mNot, mIf, tstB, tstAnd, tstOr, tstNot, mChain, bind_ok, bind_err, bind_no, toS_ok, toS_err, nox_ok, fin_nx, fin_rt, fin_err, startL, List.map_cons, List.map_nil, List.length_cons, List.length_nil, List.cons_append, List.nil_append, List.getElem?_cons_zero, List.getElem?_cons_succ, List.set_cons_zero, List.set_cons_succ, List.replicate_succ, List.replicate_zero, Nat.zero_add, Nat.reduceAdd, Nat.reduceSub, Nat.add_one_sub_one, Nat.sub_self, if_true, if_false, ite_true, ite_false, Bool.false_eq_true, reduceCtorEq, if_pos, Nat.reduceEqDiff, Nat.reduceLeDiff, decide_true, decide_false, Bool.not_true, Bool.not_false, ix1]) p'.flds rfl kl
    simp only [mSeq, mExpr, mRet, mRetN, mIfS, mSet, mAug, mCall, mCons, mNil, mVar, mC, mOp, mUn, mApp, mTup, mLst, mNx, mRaise, mAnd, mOr, mNot, mIf, tstB, tstAnd, tstOr, tstNot, mChain, bind_ok, bind_err, bind_no, toS_ok, toS_err, nox_ok, fin_nx, fin_rt, fin_err, startL, List.map_cons, List.map_nil, List.length_cons, List.length_nil, List.cons_append, List.nil_append, List.getElem?_cons_zero, List.getElem?_cons_succ, List.set_cons_zero, List.set_cons_succ, List.replicate_succ, List.replicate_zero, Nat.zero_add, Nat.reduceAdd, Nat.reduceSub, Nat.add_one_sub_one, Nat.sub_self, if_true, if_false, ite_true, ite_false, Bool.false_eq_true, reduceCtorEq, if_pos, Nat.reduceEqDiff, Nat.reduceLeDiff, decide_true, decide_false, Bool.not_true, Bool.not_false, ix0, gEq, gEqB, ofs_beq, String.reduceBEq, e1, sb]
/-- a send row -/
theorem eff_send (ok : E.Ok) {kv : List (Key × D)} (hf : Fs fd kv) {t dl : D} {z : Str} {c1 c2 : Nat} (w1 : Wx (fd.map (·.1)) 2 t c1) (w2 : Wx (fd.map (·.1)) 2 dl c2) (hz : z ∈ w4) : ∃ x, Eff fd E kv 8 1 (.tup [.str "send", t, dl, .str z, decD]) kv [x] := by
  obtain ⟨v1, V1⟩ := val_two w1 ok hf rfl
  obtain ⟨v2, V2⟩ := val_two w2 ok hf rfl
  have V3 : Val fd kv E 2 decD (E.arg - 1) := dec_val ok
  obtain ⟨b1, b2⟩ := cl_in (v := v2) (show (1 : Int) ≤ 20 by omega)
  have em := ok.many
  have md : ∀ s : Mem, gMod (.int v1) (.int E.many) s = .ok (.int (v1 % E.many)) s := fun s => by
    show (if decide (0 < E.many) = true then Core.R.ok (D.int (v1 % E.many)) s else .no) = _
    rw [if_pos (decide_eq_true (by omega))]
  refine ⟨.tup [.int (E.time + cl v2 1 20), .int (v1 % E.many), .str z, .int (cl (E.arg - 1) (-999) 999)], hf, Nat.le_refl _, fun x hx => ?_, fun k s r a hd S sn hk p hsn => ?_, fun k s F f R S sn o p4 p5 p6 hk p hsn => ?_⟩
  · rw [List.mem_singleton.mp hx]
    exact ⟨_, _, z, rfl, by omega, by omega, Int.emod_nonneg _ (by omega), Int.emod_lt_of_pos _ (by omega), hz⟩
  · obtain ⟨k, rfl⟩ : ∃ j, k = j + 1 + 1 + 1 := ⟨k - 3, by omega⟩
    have P1 := V1.p (K := k + 1) (by omega) p.run p.held
    have P2 := V2.p (K := k + 1) (by omega) p.run p.held
    have P3 := V3.p (K := k + 1) (by omega) p.run p.held
    have l0 : sn.length < 100000 := by rw [List.length_singleton] at hsn; omega
    refine ⟨s.set S (.lst (sn ++ [.tup [.int (E.time + cl v2 1 20), .int (v1 % E.many), .str z, .int (cl (E.arg - 1) (-999) 999)]])), ?_, p.send, .set⟩
    have h1 := p.run
    have snd : call (k + 2) .Run_send [.ref r, t, dl, .str z, decD] s = .ok .non (s.set S (.lst (sn ++ [.tup [.int (E.time + cl v2 1 20), .int (v1 % E.many), .str z, .int (cl (E.arg - 1) (-999) 999)]]))) := by
      show Core.fin (m_Run_send (call (k + 1)) [some (.ref r), some t, some dl, some (.str z), some decD, none, none, none] s) = _
      unfold m_Run_send
      have e1 := look_run h1 (f := "time") rfl
      have e2 := look_run h1 (f := "objects") rfl
      have e3 := look_run h1 (f := "sends") rfl
      unfold runOb at h1
      simp only [mSeq, mExpr, mRet, mRetN, mIfS, mSet, mAug, mCall, mCons, mNil, mVar, mC, mOp, mUn, mApp, mTup, mLst, mNx, mRaise, mAnd, mOr, mNot, mIf, tstB, tstAnd, tstOr, tstNot, mChain, bind_ok, bind_err, bind_no, toS_ok, toS_err, nox_ok, fin_nx, fin_rt, fin_err, startL, List.map_cons, List.map_nil, List.length_cons, List.length_nil, List.cons_append, List.nil_append, List.getElem?_cons_zero, List.getElem?_cons_succ, List.set_cons_zero, List.set_cons_succ, List.replicate_succ, List.replicate_zero, Nat.zero_add, Nat.reduceAdd, Nat.reduceSub, Nat.add_one_sub_one, Nat.sub_self, if_true, if_false, ite_true, ite_false, Bool.false_eq_true, reduceCtorEq, if_pos, Nat.reduceEqDiff, Nat.reduceLeDiff, decide_true, decide_false, Bool.not_true, Bool.not_false, mMethC, h1, look_no, and_self, P1, P2, P3, e1, e2, e3, c_nearest (lo := 1) (hi := 20) (by omega), Core.gAdd, md, gNeg, c_nearest (lo := -999) (hi := 999) (by omega), mLm, p.snd, app_at p.snd l0]
    show Core.fin (m_Run_statement (call (k + 2)) [some (.ref r), some (.tup [.str "send", t, dl, .str z, decD]), none, none, none, none, none, none, none, none, none] s) = _
    have lk : ([(("ranges" : Str), D.ref a), ("held", .ref hd), ("objects", .int E.many), ("number", .int E.num), ("time", .int E.time), ("arg", .int E.arg), ("sends", .ref S)] : List (Str × D)).lookup ("send" : Str) = none := by rfl
    unfold runOb at h1
    unfold m_Run_statement
    simp only [mSeq, mExpr, mRet, mRetN, mIfS, mSet, mAug, mCall, mCons, mNil, mVar, mC, mOp, mUn, mApp, mTup, mLst, mNx, mRaise, mAnd, mOr, mNot, mIf, tstB, tstAnd, tstOr, tstNot, mChain, bind_ok, bind_err, bind_no, toS_ok, toS_err, nox_ok, fin_nx, fin_rt, fin_err, startL, List.map_cons, List.map_nil, List.length_cons, List.length_nil, List.cons_append, List.nil_append, List.getElem?_cons_zero, List.getElem?_cons_succ, List.set_cons_zero, List.set_cons_succ, List.replicate_succ, List.replicate_zero, Nat.zero_add, Nat.reduceAdd, Nat.reduceSub, Nat.add_one_sub_one, Nat.sub_self, if_true, if_false, ite_true, ite_false, Bool.false_eq_true, reduceCtorEq, if_pos, Nat.reduceEqDiff, Nat.reduceLeDiff, decide_true, decide_false, Bool.not_true, Bool.not_false, mMatch, mCases, mpSeq, mpCons, mpNil, mpCap, mpLit, gEqB, ofs_beq, String.reduceBEq, setAll, List.foldl_nil, List.foldl_cons, List.append_nil, mMethC, h1, lk, and_self, snd]
  · obtain ⟨k, rfl⟩ : ∃ j, k = j + 1 := ⟨k - 1, by omega⟩
    obtain ⟨t2, L2⟩ := V2.l (K := k + 1) (by omega) p.fact p.flds
    have p2 := p.app (t := t2)
    obtain ⟨t1, L1⟩ := V1.l (K := k + 1) (by omega) p2.fact p2.flds
    have p1 := p2.app (t := t1)
    obtain ⟨t3, L3⟩ := V3.l (K := k + 1) (by omega) p1.fact p1.flds
    have p3 := p1.app (t := t3)
    have l0 : sn.length < 100000 := by rw [List.length_singleton] at hsn; omega
    refine ⟨p4, some (.int (E.time + cl v2 1 20)), some (.int (v1 % E.many)), (s ++ t2 ++ t1 ++ t3).set S (.lst (sn ++ [.tup [.int (E.time + cl v2 1 20), .int (v1 % E.many), .str z, .int (cl (E.arg - 1) (-999) 999)]])), ?_, p3.send, (Gt2.app'.trans (Gt2.app'.trans Gt2.app')).trans .set⟩
    have f1 := ixa_fact p.fact (x := "now") rfl
    have f2 := ixa_fact p1.fact (x := "many") rfl
    have f3 := ixa_fact p1.fact (x := "sends") rfl
    have ix3 : ∀ s : Mem, gIx (.tup [.str "send", t, dl, .str z, decD]) (.int 3) s = .ok (.str z) s := fun s => by rfl
    have ix4 : ∀ s : Mem, gIx (.tup [.str "send", t, dl, .str z, decD]) (.int 4) s = .ok decD s := fun s => by rfl
    simp only [mSeq, mExpr, mRet, mRetN, mIfS, mSet, mAug, mCall, mCons, mNil, mVar, mC, mOp, mUn, mApp, mTup, mLst, mNx, mRaise, mAnd, mOr, mNot, mIf, tstB, tstAnd, tstOr, tstNot, mChain, bind_ok, bind_err, bind_no, toS_ok, toS_err, nox_ok, fin_nx, fin_rt, fin_err, startL, List.map_cons, List.map_nil, List.length_cons, List.length_nil, List.cons_append, List.nil_append, List.getElem?_cons_zero, List.getElem?_cons_succ, List.set_cons_zero, List.set_cons_succ, List.replicate_succ, List.replicate_zero, Nat.zero_add, Nat.reduceAdd, Nat.reduceSub, Nat.add_one_sub_one, Nat.sub_self, if_true, if_false, ite_true, ite_false, Bool.false_eq_true, reduceCtorEq, if_pos, Nat.reduceEqDiff, Nat.reduceLeDiff, decide_true, decide_false, Bool.not_true, Bool.not_false, ix0, ix1, ix2, ix3, ix4, gEq, gEqB, ofs_beq, String.reduceBEq, f1, L2, c_clamp, Core.gAdd, L1, gInt1, f2, md, mLm, f3, p1.snd, L3, gNeg, app_at p3.snd l0]
/-- a row that does nothing -/
theorem eff_skip {kv : List (Key × D)} (hf : Fs fd kv) : Eff fd E kv 8 0 skipD kv [] := by
  refine ⟨hf, Nat.le_refl _, all_nil, fun k s r a hd S sn hk p hsn => ⟨s, ?_, by rw [List.append_nil]; exact p, .refl⟩, fun k s F f R S sn o p4 p5 p6 hk p hsn => ⟨p4, p5, p6, s, ?_, by rw [List.append_nil]; exact p, .refl⟩⟩
  · obtain ⟨k, rfl⟩ : ∃ j, k = j + 1 := ⟨k - 1, by omega⟩
    rfl
  · unfold skipD
    simp only [mSeq, mExpr, mRet, mRetN, mIfS, mSet, mAug, mCall, mCons, mNil, mVar, mC, mOp, mUn, mApp, mTup, mLst, mNx, mRaise, mAnd, mOr, mNot, mIf, tstB, tstAnd, tstOr, tstNot, mChain, bind_ok, bind_err, bind_no, toS_ok, toS_err, nox_ok, fin_nx, fin_rt, fin_err, startL, List.map_cons, List.map_nil, List.length_cons, List.length_nil, List.cons_append, List.nil_append, List.getElem?_cons_zero, List.getElem?_cons_succ, List.set_cons_zero, List.set_cons_succ, List.replicate_succ, List.replicate_zero, Nat.zero_add, Nat.reduceAdd, Nat.reduceSub, Nat.add_one_sub_one, Nat.sub_self, if_true, if_false, ite_true, ite_false, Bool.false_eq_true, reduceCtorEq, if_pos, Nat.reduceEqDiff, Nat.reduceLeDiff, decide_true, decide_false, Bool.not_true, Bool.not_false, ix0, gEq, gEqB, ofs_beq, String.reduceBEq]
theorem Eff.up {kv kv' : List (Key × D)} {K n K' n' : Nat} {d : D} {new : List D} (e : Eff fd E kv K n d kv' new) (h1 : K ≤ K') (h2 : n ≤ n') : Eff fd E kv K' n' d kv' new :=
  ⟨e.fs, by have := e.len; omega, e.all, fun k s r a hd S sn hk => e.P k s r a hd S sn (by omega), fun k s F f R S sn o p4 p5 p6 hk => e.L k s F f R S sn o p4 p5 p6 (by omega)⟩
/-- what a list of rows does, for both -/
structure Efs (fd : List (Str × Int × Int)) (E : En) (kv : List (Key × D)) (K n : Nat) (ds : List D) (kv' : List (Key × D)) (new : List D) : Prop where
  fs : Fs fd kv'
  len : new.length ≤ n
  all : ∀ x ∈ new, SnP E x
  P : ∀ (k : Nat) (s : Mem) (r a hd S : Nat) (sn : List D) (o o2 : Option D), K ≤ k → PSt s r a hd S E fd kv sn → sn.length + new.length ≤ 90000 → ∃ o2' s', loopS (fun _ => true) (gmName 2) (bPrg k) ds [some (.ref r), o, o2] s = .nx [some (.ref r), o, o2'] s' ∧ PSt s' r a hd S E fd kv' (sn ++ new) ∧ Gt2 hd S s s'
  L : ∀ (k : Nat) (s : Mem) (F f R S : Nat) (sn : List D) (o p3 p4 p5 p6 : Option D), K ≤ k → LSt s F f R S E fd kv sn → sn.length + new.length ≤ 90000 → ∃ p3' p4' p5' p6' s', loopS (fun _ => true) (gmName 3) (bRun k) ds [o, some (.ref F), some (.ref R), p3, p4, p5, p6] s = .nx [o, some (.ref F), some (.ref R), p3', p4', p5', p6'] s' ∧ LSt s' F f R S E fd kv' (sn ++ new) ∧ Gt2 f S s s'
theorem efs_nil {kv : List (Key × D)} {K n : Nat} (hf : Fs fd kv) : Efs fd E kv K n [] kv [] :=
  ⟨hf, Nat.zero_le _, all_nil, fun k s r a hd S sn o o2 hk p hsn => ⟨o2, s, rfl, by rw [List.append_nil]; exact p, .refl⟩, fun k s F f R S sn o p3 p4 p5 p6 hk p hsn => ⟨p3, p4, p5, p6, s, rfl, by rw [List.append_nil]; exact p, .refl⟩⟩
theorem efs_cons {kv kv1 kv2 : List (Key × D)} {K n m : Nat} {d : D} {ds new1 new2 : List D} (e1 : Eff fd E kv K n d kv1 new1) (e2 : Efs fd E kv1 K m ds kv2 new2) : Efs fd E kv K (n + m) (d :: ds) kv2 (new1 ++ new2) := by
  have z1 := e1.len
  have z2 := e2.len
  refine ⟨e2.fs, by rw [List.length_append]; omega, fun x hx => ?_, fun k s r a hd S sn o o2 hk p hsn => ?_, fun k s F f R S sn o p3 p4 p5 p6 hk p hsn => ?_⟩
  · rcases List.mem_append.mp hx with hx | hx
    · exact e1.all x hx
    · exact e2.all x hx
  · rw [List.length_append] at hsn
    obtain ⟨s1, q1, p1, g1⟩ := e1.P k s r a hd S sn hk p (by omega)
    obtain ⟨o2', s2, q2, p2, g2⟩ := e2.P k s1 r a hd S (sn ++ new1) o (some d) hk p1 (by rw [List.length_append]; omega)
    refine ⟨o2', s2, ?_, by rw [← List.append_assoc]; exact p2, g1.trans g2⟩
    unfold loopS
    rw [if_pos rfl]
    dsimp only [gmName]
    have h1 := p.run
    have lk : ([(("ranges" : Str), D.ref a), ("held", .ref hd), ("objects", .int E.many), ("number", .int E.num), ("time", .int E.time), ("arg", .int E.arg), ("sends", .ref S)] : List (Str × D)).lookup ("statement" : Str) = none := by rfl
    unfold runOb at h1
    have b : bPrg k [some (.ref r), o, some d] s = .nx [some (.ref r), o, some d] s1 := by simp only [mSeq, mExpr, mRet, mRetN, mIfS, mSet, mAug, mCall, mCons, mNil, mVar, mC, mOp, mUn, mApp, mTup, mLst, mNx, mRaise, mAnd, mOr, mNot, mIf, tstB, tstAnd, tstOr, tstNot, mChain, bind_ok, bind_err, bind_no, toS_ok, toS_err, nox_ok, fin_nx, fin_rt, fin_err, startL, List.map_cons, List.map_nil, List.length_cons, List.length_nil, List.cons_append, List.nil_append, List.getElem?_cons_zero, List.getElem?_cons_succ, List.set_cons_zero, List.set_cons_succ, List.replicate_succ, List.replicate_zero, Nat.zero_add, Nat.reduceAdd, Nat.reduceSub, Nat.add_one_sub_one, Nat.sub_self, if_true, if_false, ite_true, ite_false, Bool.false_eq_true, reduceCtorEq, if_pos, Nat.reduceEqDiff, Nat.reduceLeDiff, decide_true, decide_false, Bool.not_true, Bool.not_false, mMethC, h1, lk, and_self, q1]
    rw [show ([some (D.ref r), o, o2].set 2 (some d)) = [some (.ref r), o, some d] from rfl, b]
    exact q2
  · rw [List.length_append] at hsn
    obtain ⟨a4, a5, a6, s1, q1, p1, g1⟩ := e1.L k s F f R S sn o p4 p5 p6 hk p (by omega)
    obtain ⟨c3, c4, c5, c6, s2, q2, p2, g2⟩ := e2.L k s1 F f R S (sn ++ new1) o (some d) a4 a5 a6 hk p1 (by rw [List.length_append]; omega)
    refine ⟨c3, c4, c5, c6, s2, ?_, by rw [← List.append_assoc]; exact p2, g1.trans g2⟩
    unfold loopS
    rw [if_pos rfl]
    dsimp only [gmName]
    rw [show ([o, some (D.ref F), some (D.ref R), p3, p4, p5, p6].set 3 (some d)) = [o, some (.ref F), some (.ref R), some d, p4, p5, p6] from rfl, q1]
    exact q2
/-- an if row, whose condition is worth v -/
theorem eff_ite {kv kv' : List (Key × D)} {K n h : Nat} {e : D} {as bs new : List D} {v : Int} (V : Val fd kv E h e v) (hh : h + 3 ≤ K) (e1 : Efs fd E kv K n (if v = 0 then bs else as) kv' new) : Eff fd E kv (K + 2) n (.tup [.str "if", e, .tup as, .tup bs]) kv' new := by
  refine ⟨e1.fs, e1.len, e1.all, fun k s r a hd S sn hk p hsn => ?_, fun k s F f R S sn o p4 p5 p6 hk p hsn => ?_⟩
  · obtain ⟨k, rfl⟩ : ∃ j, k = j + 1 + 1 := ⟨k - 2, by omega⟩
    have P := V.p (K := k + 1) (by omega) p.run p.held
    obtain ⟨o2, s', q, p', g⟩ := e1.P k s r a hd S sn (some (.tup (if v = 0 then bs else as))) none (by omega) p hsn
    have pr : call (k + 1) .Run_program [.ref r, .tup (if v = 0 then bs else as)] s = .ok .non s' := by
      show Core.fin (mFor (iSeq (mVar 1)) (gmName 2) (bPrg k) [some (.ref r), some (.tup (if v = 0 then bs else as)), none] s) = _
      rw [for_tup (ds := if v = 0 then bs else as) (s1 := s) rfl, q]
      rfl
    refine ⟨s', ?_, p', g⟩
    show Core.fin (m_Run_statement (call (k + 1)) [some (.ref r), some (.tup [.str "if", e, .tup as, .tup bs]), none, none, none, none, none, none, none, none, none] s) = _
    have h1 := p.run
    have lk : ([(("ranges" : Str), D.ref a), ("held", .ref hd), ("objects", .int E.many), ("number", .int E.num), ("time", .int E.time), ("arg", .int E.arg), ("sends", .ref S)] : List (Str × D)).lookup ("program" : Str) = none := by rfl
    unfold runOb at h1
    unfold m_Run_statement
    simp only [mSeq, mExpr, mRet, mRetN, mIfS, mSet, mAug, mCall, mCons, mNil, mVar, mC, mOp, mUn, mApp, mTup, mLst, mNx, mRaise, mAnd, mOr, mNot, mIf, tstB, tstAnd, tstOr, tstNot, mChain, bind_ok, bind_err, bind_no, toS_ok, toS_err, nox_ok, fin_nx, fin_rt, fin_err, startL, List.map_cons, List.map_nil, List.length_cons, List.length_nil, List.cons_append, List.nil_append, List.getElem?_cons_zero, List.getElem?_cons_succ, List.set_cons_zero, List.set_cons_succ, List.replicate_succ, List.replicate_zero, Nat.zero_add, Nat.reduceAdd, Nat.reduceSub, Nat.add_one_sub_one, Nat.sub_self, if_true, if_false, ite_true, ite_false, Bool.false_eq_true, reduceCtorEq, if_pos, Nat.reduceEqDiff, Nat.reduceLeDiff, decide_true, decide_false, Bool.not_true, Bool.not_false, mMatch, mCases, mpSeq, mpCons, mpNil, mpCap, mpLit, gEq, gEqB, ofs_beq, String.reduceBEq, setAll, List.foldl_nil, List.foldl_cons, List.append_nil, mMethC, h1, lk, look_no, and_self, P]
    by_cases h0 : v = 0
    · subst h0
      rw [if_pos rfl] at pr
      simp only [mSeq, mExpr, mRet, mRetN, mIfS, mSet, mAug, mCall, mCons, mNil, mVar, mC, mOp, mUn, mApp, mTup, mLst, mNx, mRaise, mAnd, mOr, mNot, mIf, tstB, tstAnd, tstOr, tstNot, mChain, bind_ok, bind_err, bind_no, toS_ok, toS_err, nox_ok, fin_nx, fin_rt, fin_err, startL, List.map_cons, List.map_nil, List.length_cons, List.length_nil, List.cons_append, List.nil_append, List.getElem?_cons_zero, List.getElem?_cons_succ, List.set_cons_zero, List.set_cons_succ, List.replicate_succ, List.replicate_zero, Nat.zero_add, Nat.reduceAdd, Nat.reduceSub, Nat.add_one_sub_one, Nat.sub_self, if_true, if_false, ite_true, ite_false, Bool.false_eq_true, reduceCtorEq, if_pos, Nat.reduceEqDiff, Nat.reduceLeDiff, decide_true, decide_false, Bool.not_true, Bool.not_false, beq_self_eq_true, pr]
    · rw [if_neg h0] at pr
      simp only [mSeq, mExpr, mRet, mRetN, mIfS, mSet, mAug, mCall, mCons, mNil, mVar, mC, mOp, mUn, mApp, mTup, mLst, mNx, mRaise, mAnd, mOr, mNot, mIf, tstB, tstAnd, tstOr, tstNot, mChain, bind_ok, bind_err, bind_no, toS_ok, toS_err, nox_ok, fin_nx, fin_rt, fin_err, startL, List.map_cons, List.map_nil, List.length_cons, List.length_nil, List.cons_append, List.nil_append, List.getElem?_cons_zero, List.getElem?_cons_succ, List.set_cons_zero, List.set_cons_succ, List.replicate_succ, List.replicate_zero, Nat.zero_add, Nat.reduceAdd, Nat.reduceSub, Nat.add_one_sub_one, Nat.sub_self, if_true, if_false, ite_true, ite_false, Bool.false_eq_true, reduceCtorEq, if_pos, Nat.reduceEqDiff, Nat.reduceLeDiff, decide_true, decide_false, Bool.not_true, Bool.not_false, show (v == 0) = false from beq_eq_false_iff_ne.mpr h0, pr]
  · obtain ⟨k, rfl⟩ : ∃ j, k = j + 1 := ⟨k - 1, by omega⟩
    obtain ⟨t, L⟩ := V.l (K := k + 1) (by omega) p.fact p.flds
    have p1 := p.app (t := t)
    obtain ⟨c3, c4, c5, c6, s', q, p', g⟩ := e1.L k (s ++ t) F f R S sn (some (.tup (if v = 0 then bs else as))) none none none none (by omega) p1 hsn
    have pr : call (k + 1) .law_run [.tup (if v = 0 then bs else as), .ref F, .ref R] (s ++ t) = .ok .non s' := by
      show Core.fin (mFor (iSeq (mVar 0)) (gmName 3) (bRun k) [some (.tup (if v = 0 then bs else as)), some (.ref F), some (.ref R), none, none, none, none] (s ++ t)) = _
      rw [for_tup (ds := if v = 0 then bs else as) (s1 := s ++ t) rfl, q]
      rfl
    refine ⟨p4, p5, p6, s', ?_, p', Gt2.app'.trans g⟩
    have ix2 : gIx (.tup [.str "if", e, .tup as, .tup bs]) (.int 2) (s ++ t) = .ok (.tup as) (s ++ t) := by rfl
    have ix3 : gIx (.tup [.str "if", e, .tup as, .tup bs]) (.int 3) (s ++ t) = .ok (.tup bs) (s ++ t) := by rfl
    simp only [mSeq, mExpr, mRet, mRetN, mIfS, mSet, mAug, mCall, mCons, mNil, mVar, mC, mOp, mUn, mApp, mTup, mLst, mNx, mRaise, mAnd, mOr, mNot, mIf, tstB, tstAnd, tstOr, tstNot, mChain, bind_ok, bind_err, bind_no, toS_ok, toS_err, nox_ok, fin_nx, fin_rt, fin_err, startL, List.map_cons, List.map_nil, List.length_cons, List.length_nil, List.cons_append, List.nil_append, List.getElem?_cons_zero, List.getElem?_cons_succ, List.set_cons_zero, List.set_cons_succ, List.replicate_succ, List.replicate_zero, Nat.zero_add, Nat.reduceAdd, Nat.reduceSub, Nat.add_one_sub_one, Nat.sub_self, if_true, if_false, ite_true, ite_false, Bool.false_eq_true, reduceCtorEq, if_pos, Nat.reduceEqDiff, Nat.reduceLeDiff, decide_true, decide_false, Bool.not_true, Bool.not_false, ix0, ix1, gEq, gEqB, ofs_beq, String.reduceBEq, L, gInt1, Core.gAdd]
    by_cases h0 : v = 0
    · subst h0
      rw [if_pos rfl] at pr
      simp only [mSeq, mExpr, mRet, mRetN, mIfS, mSet, mAug, mCall, mCons, mNil, mVar, mC, mOp, mUn, mApp, mTup, mLst, mNx, mRaise, mAnd, mOr, mNot, mIf, tstB, tstAnd, tstOr, tstNot, mChain, bind_ok, bind_err, bind_no, toS_ok, toS_err, nox_ok, fin_nx, fin_rt, fin_err, startL, List.map_cons, List.map_nil, List.length_cons, List.length_nil, List.cons_append, List.nil_append, List.getElem?_cons_zero, List.getElem?_cons_succ, List.set_cons_zero, List.set_cons_succ, List.replicate_succ, List.replicate_zero, Nat.zero_add, Nat.reduceAdd, Nat.reduceSub, Nat.add_one_sub_one, Nat.sub_self, if_true, if_false, ite_true, ite_false, Bool.false_eq_true, reduceCtorEq, if_pos, Nat.reduceEqDiff, Nat.reduceLeDiff, decide_true, decide_false, Bool.not_true, Bool.not_false, beq_self_eq_true, show (2 : Int) + 1 = 3 from rfl, ix3, pr]
    · rw [if_neg h0] at pr
      simp only [mSeq, mExpr, mRet, mRetN, mIfS, mSet, mAug, mCall, mCons, mNil, mVar, mC, mOp, mUn, mApp, mTup, mLst, mNx, mRaise, mAnd, mOr, mNot, mIf, tstB, tstAnd, tstOr, tstNot, mChain, bind_ok, bind_err, bind_no, toS_ok, toS_err, nox_ok, fin_nx, fin_rt, fin_err, startL, List.map_cons, List.map_nil, List.length_cons, List.length_nil, List.cons_append, List.nil_append, List.getElem?_cons_zero, List.getElem?_cons_succ, List.set_cons_zero, List.set_cons_succ, List.replicate_succ, List.replicate_zero, Nat.zero_add, Nat.reduceAdd, Nat.reduceSub, Nat.add_one_sub_one, Nat.sub_self, if_true, if_false, ite_true, ite_false, Bool.false_eq_true, reduceCtorEq, if_pos, Nat.reduceEqDiff, Nat.reduceLeDiff, decide_true, decide_false, Bool.not_true, Bool.not_false, show (v == 0) = false from beq_eq_false_iff_ne.mpr h0, show (2 : Int) + 0 = 2 from rfl, ix2, pr]
theorem efs_of (ok : E.Ok) (nd : (fd.map (·.1)).Nodup) (hlen : fd.length ≤ 10) : ∀ {h n : Nat},
    (∀ {d : D} {kv : List (Key × D)}, Fs fd kv → Sx (fd.map (·.1)) h n d → ∃ kv' new, Eff fd E kv (2 * h + 8) n d kv' new)
  | 0, n, d, kv, hf, w => w.elim
  | h + 1, n, d, kv, hf, w => by
    have lists : ∀ {m : Nat} {ds : List D} (t : Sl (Sx (fd.map (·.1)) h) m ds) {kv : List (Key × D)}, Fs fd kv → ∃ kv' new, Efs fd E kv (2 * h + 8) m ds kv' new := fun t => by
      induction t with
      | nil => intro kv hf; exact ⟨kv, [], efs_nil hf⟩
      | cons a _ ih =>
        intro kv hf
        obtain ⟨kv1, n1, e1⟩ := efs_of ok nd hlen hf a
        obtain ⟨kv2, n2, e2⟩ := ih e1.fs
        exact ⟨kv2, _, efs_cons e1 e2⟩
    rcases w with ⟨x, e, c, rfl, hx, w⟩ | ⟨hn, t, dl, z, c1, c2, rfl, w1, w2, hz⟩ | ⟨e, c, n1, n2, as, bs, rfl, w1, w2, w3, h1, h2⟩ | rfl
    · obtain ⟨kv', q⟩ := eff_set ok nd hlen hf hx w
      exact ⟨kv', [], q.up (by omega) (by omega)⟩
    · obtain ⟨x, q⟩ := eff_send ok hf w1 w2 hz
      exact ⟨kv, [x], q.up (by omega) hn⟩
    · obtain ⟨v, V⟩ := val_two w1 ok hf rfl
      by_cases h0 : v = 0
      · obtain ⟨kv', new, q⟩ := lists w3 hf
        have q : Efs fd E kv (2 * h + 8) n2 (if v = 0 then bs else as) kv' new := by rw [if_pos h0]; exact q
        exact ⟨kv', new, (eff_ite V (by omega) q).up (by omega) h2⟩
      · obtain ⟨kv', new, q⟩ := lists w2 hf
        have q : Efs fd E kv (2 * h + 8) n1 (if v = 0 then bs else as) kv' new := by rw [if_neg h0]; exact q
        exact ⟨kv', new, (eff_ite V (by omega) q).up (by omega) h1⟩
    · exact ⟨kv, [], (eff_skip hf).up (by omega) (by omega)⟩
end
end Pr

set_option Elab.async false
set_option linter.all false
set_option maxRecDepth 100000
set_option maxHeartbeats 4000000
/-! drawn kinds, their fields and programs -/
namespace Pr
open PySem PySem.Spec PyProof.Rows L2 Core
def strOf : D → Str
  | .str z => z
  | _ => ""
def hdD : D → D
  | .tup (a :: _) => a
  | d => d
section
variable {j : Nat}
theorem kn_hd {ks : List D} (h1 : 1 ≤ j) (h2 : j ≤ 2) (t : Two KnP ((List.range j).map fun (i : Nat) => D.int (0 + (i : Int))) ks) : ks.map hdD = (bN.take j).map D.str ∧ ks.length = j ∧ (∀ y ∈ ks, ∃ z ∈ bN.take j, KindP (.str z) y) ∧ ∃ y r, ks = y :: r ∧ KindP (.str "box") y := by
  have pick : ∀ {i : Nat} {y : D}, KnP (.int (0 + (i : Int))) y → ∃ z, bN[i]? = some z ∧ KindP (.str z) y := fun {i y} ⟨i', e, z, hz, k⟩ => by
    have : i = i' := by injection e with e; omega
    subst this; exact ⟨z, hz, k⟩
  have hdK : ∀ {z y : D}, KindP z y → hdD y = z := fun {z y} ⟨_, _, _, _, _, _, _, _, e, _⟩ => by rw [e]; rfl
  have hj : j = 1 ∨ j = 2 := by omega
  rcases hj with rfl | rfl
  · have t : Two KnP [D.int (0 + ((0 : Nat) : Int))] ks := t
    cases t with
    | cons a t' =>
      cases t'
      obtain ⟨z, hz, k⟩ := pick a
      cases hz
      exact ⟨by rw [List.map_cons, hdK k]; rfl, rfl, fun y hy => ⟨"box", by decide +kernel, by rw [List.mem_singleton.mp hy]; exact k⟩, _, [], rfl, k⟩
  · have t : Two KnP [D.int (0 + ((0 : Nat) : Int)), D.int (0 + ((1 : Nat) : Int))] ks := t
    cases t with
    | cons a t' =>
      cases t' with
      | cons b t'' =>
        cases t''
        obtain ⟨z, hz, k⟩ := pick a
        obtain ⟨z', hz', k'⟩ := pick b
        cases hz
        cases hz'
        refine ⟨by rw [List.map_cons, List.map_cons, hdK k, hdK k']; rfl, rfl, fun y hy => ?_, _, _, rfl, k⟩
        rcases List.mem_cons.mp hy with rfl | hy
        · exact ⟨"box", by decide +kernel, k⟩
        · exact ⟨"lamp", by decide +kernel, by rw [List.mem_singleton.mp hy]; exact k'⟩
end
def isK (z : Str) (d : D) : Bool := strOf (hdD d) == z
section
variable {s : Mem} {k : Nat}
structure KOf (ks os : List D) (n : Nat) (z : Str) (y : D) : Prop where
  at_ : os[n]? = some (.str z)
  fst : ∃ r, ks.filter (isK z) = y :: r
  kind : ∃ z, KindP z y
theorem kof_of {ks os : List D} {j : Nat} (h1 : 1 ≤ j) (h2 : j ≤ 2) (t : Two KnP ((List.range j).map fun (i : Nat) => D.int (0 + (i : Int))) ks) (ho : ∀ o ∈ os, ObP j o) {n : Nat} (hn : n < os.length) : ∃ z y, KOf ks os n z y := by
  obtain ⟨a, b, c, _⟩ := kn_hd h1 h2 t
  obtain ⟨z, hz, e⟩ := ho os[n] (List.getElem_mem hn)
  have : D.str z ∈ ks.map hdD := by rw [a]; exact List.mem_map_of_mem hz
  obtain ⟨y, hy, ey⟩ := List.mem_map.mp this
  have hf : y ∈ ks.filter (isK z) := List.mem_filter.mpr ⟨hy, by unfold isK; rw [ey]; simp [strOf]⟩
  cases q : ks.filter (isK z) with
  | nil => rw [q] at hf; cases hf
  | cons y' r =>
    have hy' : y' ∈ ks := (List.mem_filter.mp (by rw [q]; exact List.mem_cons_self)).1
    obtain ⟨z', _, k⟩ := c y' hy'
    exact ⟨z, y', by rw [List.getElem?_eq_getElem hn, e], ⟨r, q⟩, ⟨_, k⟩⟩
theorem ks_hd {ks : List D} {j : Nat} (h1 : 1 ≤ j) (h2 : j ≤ 2) (t : Two KnP ((List.range j).map fun (i : Nat) => D.int (0 + (i : Int))) ks) : ∀ d ∈ ks, ∃ x b c, d = .tup [.str x, b, c] := fun d hd => by
  obtain ⟨_, _, c, _⟩ := kn_hd h1 h2 t
  obtain ⟨z, _, _, _, _, _, _, _, _, _, e, _⟩ := c d hd
  exact ⟨_, _, _, e⟩
theorem c_kind_of {ks os : List D} {st e : D} {n : Nat} {z : Str} {y : D} (K : KOf ks os n z y) (hk : ∀ d ∈ ks, ∃ x b c, d = .tup [.str x, b, c]) (hl : ks.length ≤ 4) :
    ∃ t, call (k + 1) .kind_of [.tup [.tup ks, .tup os, st, e], .int n] s = .ok y (s ++ t) := by
  refine ⟨[.lst (ks.filter (isK z))], ?_⟩
  show Core.fin (m_kind_of (call k) [some (.tup [.tup ks, .tup os, st, e]), some (.int n), none, none] s) = _
  have lc := lc_filt (s := s) (ok := fun _ => true) (g := gmName 3) (vs := [3]) (l := [some (.tup [.tup ks, .tup os, st, e]), some (.int n), some (.str z), none]) (tt := tstB (mOp gEq (mOp gIx (mVar 3) (mC (.int 0))) (mVar 2))) (me := mVar 3) (T := isK z) (F := id) ks [] (fun _ => rfl) (fun d hd => by
    obtain ⟨x, b, c, rfl⟩ := hk d hd
    exact ⟨[some (.tup [.tup ks, .tup os, st, e]), some (.int n), some (.str z), some (.tup [.str x, b, c])], rfl, fun u => by simp only [mSeq, mExpr, mRet, mRetN, mIfS, mSet, mAug, mCall, mCons, mNil, mVar, mC, mOp, mUn, mApp, mTup, mLst, mNx, mRaise, mAnd, mOr, mNot, mIf, tstB, tstAnd, tstOr, tstNot, mChain, bind_ok, bind_err, bind_no, toS_ok, toS_err, nox_ok, fin_nx, fin_rt, fin_err, startL, List.map_cons, List.map_nil, List.length_cons, List.length_nil, List.cons_append, List.nil_append, List.getElem?_cons_zero, List.getElem?_cons_succ, List.set_cons_zero, List.set_cons_succ, List.replicate_succ, List.replicate_zero, Nat.zero_add, Nat.reduceAdd, Nat.reduceSub, Nat.add_one_sub_one, Nat.sub_self, if_true, if_false, ite_true, ite_false, Bool.false_eq_true, reduceCtorEq, if_pos, Nat.reduceEqDiff, Nat.reduceLeDiff, decide_true, decide_false, Bool.not_true, Bool.not_false, ix0, gEq, gEqB]; rfl, fun u => rfl⟩) (by rw [List.length_nil]; omega)
  rw [List.nil_append, List.map_id] at lc
  have e1 : mLc (iSeq (mOp gIx (mVar 0) (mC (.int 0)))) (gmName 3) [3] (tstB (mOp gEq (mOp gIx (mVar 3) (mC (.int 0))) (mVar 2))) (mVar 3) [some (.tup [.tup ks, .tup os, st, e]), some (.int n), some (.str z), none] s = _ := (lc_tup (s1 := s) (by simp only [mSeq, mExpr, mRet, mRetN, mIfS, mSet, mAug, mCall, mCons, mNil, mVar, mC, mOp, mUn, mApp, mTup, mLst, mNx, mRaise, mAnd, mOr, mNot, mIf, tstB, tstAnd, tstOr, tstNot, mChain, bind_ok, bind_err, bind_no, toS_ok, toS_err, nox_ok, fin_nx, fin_rt, fin_err, startL, List.map_cons, List.map_nil, List.length_cons, List.length_nil, List.cons_append, List.nil_append, List.getElem?_cons_zero, List.getElem?_cons_succ, List.set_cons_zero, List.set_cons_succ, List.replicate_succ, List.replicate_zero, Nat.zero_add, Nat.reduceAdd, Nat.reduceSub, Nat.add_one_sub_one, Nat.sub_self, if_true, if_false, ite_true, ite_false, Bool.false_eq_true, reduceCtorEq, if_pos, Nat.reduceEqDiff, Nat.reduceLeDiff, decide_true, decide_false, Bool.not_true, Bool.not_false, ix0])).trans lc
  obtain ⟨r, hr⟩ := K.fst
  have p : gIx (.ref s.length) (.int ((0 : Nat) : Int)) (s ++ [Ob.lst (ks.filter (isK z))]) = .ok y _ := ix_lst last_at (by rw [hr]; rfl)
  have p : gIx (.ref s.length) (.int 0) (s ++ [Ob.lst (ks.filter (isK z))]) = .ok y (s ++ [Ob.lst (ks.filter (isK z))]) := p
  unfold m_kind_of
  rw [seq_nx (l1 := [some (.tup [.tup ks, .tup os, st, e]), some (.int n), some (.str z), none]) (s1 := s) (by simp only [mSeq, mExpr, mRet, mRetN, mIfS, mSet, mAug, mCall, mCons, mNil, mVar, mC, mOp, mUn, mApp, mTup, mLst, mNx, mRaise, mAnd, mOr, mNot, mIf, tstB, tstAnd, tstOr, tstNot, mChain, bind_ok, bind_err, bind_no, toS_ok, toS_err, nox_ok, fin_nx, fin_rt, fin_err, startL, List.map_cons, List.map_nil, List.length_cons, List.length_nil, List.cons_append, List.nil_append, List.getElem?_cons_zero, List.getElem?_cons_succ, List.set_cons_zero, List.set_cons_succ, List.replicate_succ, List.replicate_zero, Nat.zero_add, Nat.reduceAdd, Nat.reduceSub, Nat.add_one_sub_one, Nat.sub_self, if_true, if_false, ite_true, ite_false, Bool.false_eq_true, reduceCtorEq, if_pos, Nat.reduceEqDiff, Nat.reduceLeDiff, decide_true, decide_false, Bool.not_true, Bool.not_false, ix1, ix_nat K.at_])]
  simp only [mSeq, mExpr, mRet, mRetN, mIfS, mSet, mAug, mCall, mCons, mNil, mVar, mC, mOp, mUn, mApp, mTup, mLst, mNx, mRaise, mAnd, mOr, mNot, mIf, tstB, tstAnd, tstOr, tstNot, mChain, bind_ok, bind_err, bind_no, toS_ok, toS_err, nox_ok, fin_nx, fin_rt, fin_err, startL, List.map_cons, List.map_nil, List.length_cons, List.length_nil, List.cons_append, List.nil_append, List.getElem?_cons_zero, List.getElem?_cons_succ, List.set_cons_zero, List.set_cons_succ, List.replicate_succ, List.replicate_zero, Nat.zero_add, Nat.reduceAdd, Nat.reduceSub, Nat.add_one_sub_one, Nat.sub_self, if_true, if_false, ite_true, ite_false, Bool.false_eq_true, reduceCtorEq, if_pos, Nat.reduceEqDiff, Nat.reduceLeDiff, decide_true, decide_false, Bool.not_true, Bool.not_false, e1, p]
theorem c_law_kind_of {ks os : List D} {st e : D} {n : Nat} {z : Str} {y : D} (K : KOf ks os n z y) (hk : ∀ d ∈ ks, ∃ x b c, d = .tup [.str x, b, c]) (hl : ks.length ≤ 4) :
    ∃ t, call (k + 1) .law_kind_of [.tup [.tup ks, .tup os, st, e], .int n] s = .ok y (s ++ t) := by
  refine ⟨[.lst (ks.filter (isK z))], ?_⟩
  show Core.fin (m_law_kind_of (call k) [some (.tup [.tup ks, .tup os, st, e]), some (.int n), none] s) = _
  have lc := lc_filt (s := s) (ok := fun _ => true) (g := gmName 2) (vs := [2]) (l := [some (.tup [.tup ks, .tup os, st, e]), some (.int n), none]) (tt := tstB (mOp gEq (mOp gIx (mVar 2) (mC (.int 0))) (mOp gIx (mOp gIx (mVar 0) (mC (.int 1))) (mVar 1)))) (me := mVar 2) (T := isK z) (F := id) ks [] (fun _ => rfl) (fun d hd => by
    obtain ⟨x, b, c, rfl⟩ := hk d hd
    exact ⟨[some (.tup [.tup ks, .tup os, st, e]), some (.int n), some (.tup [.str x, b, c])], rfl, fun u => by simp only [mSeq, mExpr, mRet, mRetN, mIfS, mSet, mAug, mCall, mCons, mNil, mVar, mC, mOp, mUn, mApp, mTup, mLst, mNx, mRaise, mAnd, mOr, mNot, mIf, tstB, tstAnd, tstOr, tstNot, mChain, bind_ok, bind_err, bind_no, toS_ok, toS_err, nox_ok, fin_nx, fin_rt, fin_err, startL, List.map_cons, List.map_nil, List.length_cons, List.length_nil, List.cons_append, List.nil_append, List.getElem?_cons_zero, List.getElem?_cons_succ, List.set_cons_zero, List.set_cons_succ, List.replicate_succ, List.replicate_zero, Nat.zero_add, Nat.reduceAdd, Nat.reduceSub, Nat.add_one_sub_one, Nat.sub_self, if_true, if_false, ite_true, ite_false, Bool.false_eq_true, reduceCtorEq, if_pos, Nat.reduceEqDiff, Nat.reduceLeDiff, decide_true, decide_false, Bool.not_true, Bool.not_false, ix0, ix1, ix_nat K.at_, gEq, gEqB]; rfl, fun u => rfl⟩) (by rw [List.length_nil]; omega)
  rw [List.nil_append, List.map_id] at lc
  have e1 : mLc (iSeq (mOp gIx (mVar 0) (mC (.int 0)))) (gmName 2) [2] (tstB (mOp gEq (mOp gIx (mVar 2) (mC (.int 0))) (mOp gIx (mOp gIx (mVar 0) (mC (.int 1))) (mVar 1)))) (mVar 2) [some (.tup [.tup ks, .tup os, st, e]), some (.int n), none] s = _ := (lc_tup (s1 := s) (by simp only [mSeq, mExpr, mRet, mRetN, mIfS, mSet, mAug, mCall, mCons, mNil, mVar, mC, mOp, mUn, mApp, mTup, mLst, mNx, mRaise, mAnd, mOr, mNot, mIf, tstB, tstAnd, tstOr, tstNot, mChain, bind_ok, bind_err, bind_no, toS_ok, toS_err, nox_ok, fin_nx, fin_rt, fin_err, startL, List.map_cons, List.map_nil, List.length_cons, List.length_nil, List.cons_append, List.nil_append, List.getElem?_cons_zero, List.getElem?_cons_succ, List.set_cons_zero, List.set_cons_succ, List.replicate_succ, List.replicate_zero, Nat.zero_add, Nat.reduceAdd, Nat.reduceSub, Nat.add_one_sub_one, Nat.sub_self, if_true, if_false, ite_true, ite_false, Bool.false_eq_true, reduceCtorEq, if_pos, Nat.reduceEqDiff, Nat.reduceLeDiff, decide_true, decide_false, Bool.not_true, Bool.not_false, ix0])).trans lc
  obtain ⟨r, hr⟩ := K.fst
  have p : gIx (.ref s.length) (.int ((0 : Nat) : Int)) (s ++ [Ob.lst (ks.filter (isK z))]) = .ok y _ := ix_lst last_at (by rw [hr]; rfl)
  have p : gIx (.ref s.length) (.int 0) (s ++ [Ob.lst (ks.filter (isK z))]) = .ok y (s ++ [Ob.lst (ks.filter (isK z))]) := p
  unfold m_law_kind_of
  simp only [mSeq, mExpr, mRet, mRetN, mIfS, mSet, mAug, mCall, mCons, mNil, mVar, mC, mOp, mUn, mApp, mTup, mLst, mNx, mRaise, mAnd, mOr, mNot, mIf, tstB, tstAnd, tstOr, tstNot, mChain, bind_ok, bind_err, bind_no, toS_ok, toS_err, nox_ok, fin_nx, fin_rt, fin_err, startL, List.map_cons, List.map_nil, List.length_cons, List.length_nil, List.cons_append, List.nil_append, List.getElem?_cons_zero, List.getElem?_cons_succ, List.set_cons_zero, List.set_cons_succ, List.replicate_succ, List.replicate_zero, Nat.zero_add, Nat.reduceAdd, Nat.reduceSub, Nat.add_one_sub_one, Nat.sub_self, if_true, if_false, ite_true, ite_false, Bool.false_eq_true, reduceCtorEq, if_pos, Nat.reduceEqDiff, Nat.reduceLeDiff, decide_true, decide_false, Bool.not_true, Bool.not_false, e1, p]
end
def fD (f : Str × Int × Int) : D := .tup [.str f.1, .int f.2.1, .int f.2.2]
theorem flds_typed {zs : List Str} {fs : List D} (t : Two FldP (zs.map D.str) fs) : ∃ fd : List (Str × Int × Int), fs = fd.map fD ∧ fd.map (·.1) = zs ∧ ∀ f ∈ fd, -1000 ≤ f.2.1 ∧ f.2.1 ≤ f.2.2 ∧ f.2.2 ≤ 1000 := by
  induction zs generalizing fs with
  | nil => cases t; exact ⟨[], rfl, rfl, fun f h => absurd h List.not_mem_nil⟩
  | cons z r ih =>
    cases t with
    | cons a t =>
      obtain ⟨one, lo, hi, e1, rfl, b1, b2, b3⟩ := a
      cases e1
      obtain ⟨fd, rfl, h2, h3⟩ := ih t
      refine ⟨(z, lo, hi) :: fd, rfl, by rw [List.map_cons, h2], fun f hf => ?_⟩
      rcases List.mem_cons.mp hf with rfl | hf
      · exact ⟨show (-1000 : Int) ≤ lo by omega, b2, b3⟩
      · exact h3 f hf
/-- a kind, in types -/
structure KT (y : D) (fd : List (Str × Int × Int)) (hs : List D) : Prop where
  is : ∃ z, y = .tup [z, .tup (fd.map fD), .tup hs]
  nd : (fd.map (·.1)).Nodup
  len : 1 ≤ fd.length ∧ fd.length ≤ 3
  rng : ∀ f ∈ fd, -1000 ≤ f.2.1 ∧ f.2.1 ≤ f.2.2 ∧ f.2.2 ≤ 1000
  hnd : ∃ i, 1 ≤ i ∧ i ≤ 3 ∧ Two (HndP (fd.map (·.1))) ((hN.take i).map D.str) hs
theorem fN_nodup : ∀ j : Nat, (fN.take j).Nodup := fun j => (List.take_sublist j fN).nodup (by decide +kernel)
theorem hN_nodup : ∀ j : Nat, (hN.take j).Nodup := fun j => (List.take_sublist j hN).nodup (by decide +kernel)
theorem kt_of {z y : D} (h : KindP z y) : ∃ fd hs, KT y fd hs := by
  obtain ⟨j, i, fs, hs, h1, h2, h3, h4, rfl, t1, t2⟩ := h
  obtain ⟨fd, rfl, e, r⟩ := flds_typed t1
  have ln : fd.length = j := by
    have := congrArg List.length e
    rw [List.length_map, List.length_take] at this
    have : fd.length = min j 3 := this
    omega
  exact ⟨fd, hs, ⟨z, rfl⟩, by rw [e]; exact fN_nodup j, ⟨by omega, by omega⟩, r, ⟨i, h3, h4, by rw [e]; exact t2⟩⟩
/-- 0 < arg, for both -/
theorem less_val {fd : List (Str × Int × Int)} {kv : List (Key × D)} {E : En} (ok : E.Ok) : Val fd kv E 4 lessD (if 0 < E.arg then 1 else 0) := by
  have lst3 : ∀ s : Mem, (s ++ [Ob.lst [D.str "arg", D.str "now", D.str "self"]])[s.length]? = some (Ob.lst ((["arg", "now", "self"] : List Str).map D.str)) := fun s => last_at
  obtain ⟨⟨_, _⟩, ⟨_, _⟩, ⟨_, _⟩, ⟨_, _⟩⟩ := ok
  have ci : cl (if 0 < E.arg then 1 else 0) (-1000000000) 1000000000 = if 0 < E.arg then 1 else 0 := cl_id (by split <;> omega) (by split <;> omega)
  refine ⟨by split <;> omega, by split <;> omega, fun k s r a hd S h1 h2 => ?_, fun k s F f S h1 h2 => ?_⟩
  · show Core.fin (m_Run_value (call (k + 6)) [some (.ref r), some lessD, none, none, none, none, none] s) = _
    have e1 : call (k + 6) .Run_value [.ref r, .tup [.str "arg"]] s = .ok (.int E.arg) s := by
      show Core.fin (m_Run_value (call (k + 5)) [some (.ref r), some (.tup [.str "arg"]), none, none, none, none, none] s) = _
      unfold m_Run_value
      simp only [mSeq, mExpr, mRet, mRetN, mIfS, mSet, mAug, mCall, mCons, mNil, mVar, mC, mOp, mUn, mApp, mTup, mLst, mNx, mRaise, mAnd, mOr, mNot, mIf, tstB, tstAnd, tstOr, tstNot, mChain, bind_ok, bind_err, bind_no, toS_ok, toS_err, nox_ok, fin_nx, fin_rt, fin_err, startL, List.map_cons, List.map_nil, List.length_cons, List.length_nil, List.cons_append, List.nil_append, List.getElem?_cons_zero, List.getElem?_cons_succ, List.set_cons_zero, List.set_cons_succ, List.replicate_succ, List.replicate_zero, Nat.zero_add, Nat.reduceAdd, Nat.reduceSub, Nat.add_one_sub_one, Nat.sub_self, if_true, if_false, ite_true, ite_false, Bool.false_eq_true, reduceCtorEq, if_pos, Nat.reduceEqDiff, Nat.reduceLeDiff, decide_true, decide_false, Bool.not_true, Bool.not_false, mMatch, mCases, mpSeq, mpCons, mpNil, mpCap, mpLit, gEqB, ofs_beq, String.reduceBEq, setAll, List.foldl_nil, List.foldl_cons, look_run h1 (f := "arg") rfl]
    have e2 : call (k + 6) .Run_value [.ref r, .tup [.str "int", .int 0]] s = .ok (.int 0) s := by rfl
    have e3 : call (k + 6) .operate [.str "less", .int 0, .int E.arg] s = .ok (.int (if 0 < E.arg then 1 else 0)) s := by
      show Core.fin (m_operate (call (k + 5)) [some (.str "less"), some (.int 0), some (.int E.arg)] s) = _
      unfold m_operate
      simp only [mSeq, mExpr, mRet, mRetN, mIfS, mSet, mAug, mCall, mCons, mNil, mVar, mC, mOp, mUn, mApp, mTup, mLst, mNx, mRaise, mAnd, mOr, mNot, mIf, tstB, tstAnd, tstOr, tstNot, mChain, bind_ok, bind_err, bind_no, toS_ok, toS_err, nox_ok, fin_nx, fin_rt, fin_err, startL, List.map_cons, List.map_nil, List.length_cons, List.length_nil, List.cons_append, List.nil_append, List.getElem?_cons_zero, List.getElem?_cons_succ, List.set_cons_zero, List.set_cons_succ, List.replicate_succ, List.replicate_zero, Nat.zero_add, Nat.reduceAdd, Nat.reduceSub, Nat.add_one_sub_one, Nat.sub_self, if_true, if_false, ite_true, ite_false, Bool.false_eq_true, reduceCtorEq, if_pos, Nat.reduceEqDiff, Nat.reduceLeDiff, decide_true, decide_false, Bool.not_true, Bool.not_false, mMatch, mCases, mpLit, gEqB, ofs_beq, String.reduceBEq, setAll, List.foldl_nil, gOrd]
      by_cases h : 0 < E.arg <;> simp only [mSeq, mExpr, mRet, mRetN, mIfS, mSet, mAug, mCall, mCons, mNil, mVar, mC, mOp, mUn, mApp, mTup, mLst, mNx, mRaise, mAnd, mOr, mNot, mIf, tstB, tstAnd, tstOr, tstNot, mChain, bind_ok, bind_err, bind_no, toS_ok, toS_err, nox_ok, fin_nx, fin_rt, fin_err, startL, List.map_cons, List.map_nil, List.length_cons, List.length_nil, List.cons_append, List.nil_append, List.getElem?_cons_zero, List.getElem?_cons_succ, List.set_cons_zero, List.set_cons_succ, List.replicate_succ, List.replicate_zero, Nat.zero_add, Nat.reduceAdd, Nat.reduceSub, Nat.add_one_sub_one, Nat.sub_self, if_true, if_false, ite_true, ite_false, Bool.false_eq_true, reduceCtorEq, if_pos, Nat.reduceEqDiff, Nat.reduceLeDiff, decide_true, decide_false, Bool.not_true, Bool.not_false, h]
    unfold m_Run_value lessD
    unfold runOb at h1
    simp only [mSeq, mExpr, mRet, mRetN, mIfS, mSet, mAug, mCall, mCons, mNil, mVar, mC, mOp, mUn, mApp, mTup, mLst, mNx, mRaise, mAnd, mOr, mNot, mIf, tstB, tstAnd, tstOr, tstNot, mChain, bind_ok, bind_err, bind_no, toS_ok, toS_err, nox_ok, fin_nx, fin_rt, fin_err, startL, List.map_cons, List.map_nil, List.length_cons, List.length_nil, List.cons_append, List.nil_append, List.getElem?_cons_zero, List.getElem?_cons_succ, List.set_cons_zero, List.set_cons_succ, List.replicate_succ, List.replicate_zero, Nat.zero_add, Nat.reduceAdd, Nat.reduceSub, Nat.add_one_sub_one, Nat.sub_self, if_true, if_false, ite_true, ite_false, Bool.false_eq_true, reduceCtorEq, if_pos, Nat.reduceEqDiff, Nat.reduceLeDiff, decide_true, decide_false, Bool.not_true, Bool.not_false, mMatch, mCases, mpSeq, mpCons, mpNil, mpCap, mpOr, mpLit, gEqB, ofs_beq, String.reduceBEq, setAll, List.foldl_nil, List.foldl_cons, List.append_nil, mMethC, h1, look_no, and_self, e1, e2, e3, gNeg]
    rw [c_nearest (by omega), ci]
    rfl
  · obtain ⟨L3, hL3⟩ : ∃ L : List D, L = [.str "arg", .str "now", .str "self"] := ⟨_, rfl⟩
    have a1 := app_keep (t := [Ob.lst L3]) h1
    have e1 : ∀ s : Mem, s[F]? = some (factOb f S E) → call (k + 6) .law_value [.tup [.str "arg"], .ref F] s = .ok (.int E.arg) (s ++ [Ob.lst L3]) := fun s h1 => by
      show Core.fin (m_law_value (call (k + 5)) [some (.tup [.str "arg"]), some (.ref F), none] s) = _
      unfold m_law_value
      simp only [mSeq, mExpr, mRet, mRetN, mIfS, mSet, mAug, mCall, mCons, mNil, mVar, mC, mOp, mUn, mApp, mTup, mLst, mNx, mRaise, mAnd, mOr, mNot, mIf, tstB, tstAnd, tstOr, tstNot, mChain, bind_ok, bind_err, bind_no, toS_ok, toS_err, nox_ok, fin_nx, fin_rt, fin_err, startL, List.map_cons, List.map_nil, List.length_cons, List.length_nil, List.cons_append, List.nil_append, List.getElem?_cons_zero, List.getElem?_cons_succ, List.set_cons_zero, List.set_cons_succ, List.replicate_succ, List.replicate_zero, Nat.zero_add, Nat.reduceAdd, Nat.reduceSub, Nat.add_one_sub_one, Nat.sub_self, if_true, if_false, ite_true, ite_false, Bool.false_eq_true, reduceCtorEq, if_pos, Nat.reduceEqDiff, Nat.reduceLeDiff, decide_true, decide_false, Bool.not_true, Bool.not_false, ix0, ix1, gEq, gEqB, ofs_beq, String.reduceBEq, in_lst (lst3 s), List.mem_cons, ofs_inj, String.reduceEq, true_or, or_true, ixa_fact (app_keep h1) (x := "arg") rfl, hL3]
    have e2 : ∀ s : Mem, call (k + 6) .law_value [.tup [.str "int", .int 0], .ref F] s = .ok (.int 0) s := fun s => by rfl
    have e3 : ∀ s : Mem, call (k + 6) .law_pair [.str "less", .int 0, .int E.arg] s = .ok (.int (if 0 < E.arg then 1 else 0)) s := fun s => by
      show Core.fin (m_law_pair (call (k + 5)) [some (.str "less"), some (.int 0), some (.int E.arg)] s) = _
      unfold m_law_pair
      simp only [mSeq, mExpr, mRet, mRetN, mIfS, mSet, mAug, mCall, mCons, mNil, mVar, mC, mOp, mUn, mApp, mTup, mLst, mNx, mRaise, mAnd, mOr, mNot, mIf, tstB, tstAnd, tstOr, tstNot, mChain, bind_ok, bind_err, bind_no, toS_ok, toS_err, nox_ok, fin_nx, fin_rt, fin_err, startL, List.map_cons, List.map_nil, List.length_cons, List.length_nil, List.cons_append, List.nil_append, List.getElem?_cons_zero, List.getElem?_cons_succ, List.set_cons_zero, List.set_cons_succ, List.replicate_succ, List.replicate_zero, Nat.zero_add, Nat.reduceAdd, Nat.reduceSub, Nat.add_one_sub_one, Nat.sub_self, if_true, if_false, ite_true, ite_false, Bool.false_eq_true, reduceCtorEq, if_pos, Nat.reduceEqDiff, Nat.reduceLeDiff, decide_true, decide_false, Bool.not_true, Bool.not_false, gEq, gEqB, ofs_beq, String.reduceBEq, gOrd, gInt1]
      by_cases h : 0 < E.arg <;> simp only [mSeq, mExpr, mRet, mRetN, mIfS, mSet, mAug, mCall, mCons, mNil, mVar, mC, mOp, mUn, mApp, mTup, mLst, mNx, mRaise, mAnd, mOr, mNot, mIf, tstB, tstAnd, tstOr, tstNot, mChain, bind_ok, bind_err, bind_no, toS_ok, toS_err, nox_ok, fin_nx, fin_rt, fin_err, startL, List.map_cons, List.map_nil, List.length_cons, List.length_nil, List.cons_append, List.nil_append, List.getElem?_cons_zero, List.getElem?_cons_succ, List.set_cons_zero, List.set_cons_succ, List.replicate_succ, List.replicate_zero, Nat.zero_add, Nat.reduceAdd, Nat.reduceSub, Nat.add_one_sub_one, Nat.sub_self, if_true, if_false, ite_true, ite_false, Bool.false_eq_true, reduceCtorEq, if_pos, Nat.reduceEqDiff, Nat.reduceLeDiff, decide_true, decide_false, Bool.not_true, Bool.not_false, h]
    refine ⟨[Ob.lst L3] ++ [Ob.lst L3], ?_⟩
    show Core.fin (m_law_value (call (k + 6)) [some lessD, some (.ref F), none] s) = _
    unfold m_law_value lessD
    have l3 := lst3 s
    simp only [mSeq, mExpr, mRet, mRetN, mIfS, mSet, mAug, mCall, mCons, mNil, mVar, mC, mOp, mUn, mApp, mTup, mLst, mNx, mRaise, mAnd, mOr, mNot, mIf, tstB, tstAnd, tstOr, tstNot, mChain, bind_ok, bind_err, bind_no, toS_ok, toS_err, nox_ok, fin_nx, fin_rt, fin_err, startL, List.map_cons, List.map_nil, List.length_cons, List.length_nil, List.cons_append, List.nil_append, List.getElem?_cons_zero, List.getElem?_cons_succ, List.set_cons_zero, List.set_cons_succ, List.replicate_succ, List.replicate_zero, Nat.zero_add, Nat.reduceAdd, Nat.reduceSub, Nat.add_one_sub_one, Nat.sub_self, if_true, if_false, ite_true, ite_false, Bool.false_eq_true, reduceCtorEq, if_pos, Nat.reduceEqDiff, Nat.reduceLeDiff, decide_true, decide_false, Bool.not_true, Bool.not_false, ix0, ix1, ix2, gEq, gEqB, ofs_beq, String.reduceBEq]
    rw [← hL3] at l3 ⊢
    simp only [mSeq, mExpr, mRet, mRetN, mIfS, mSet, mAug, mCall, mCons, mNil, mVar, mC, mOp, mUn, mApp, mTup, mLst, mNx, mRaise, mAnd, mOr, mNot, mIf, tstB, tstAnd, tstOr, tstNot, mChain, bind_ok, bind_err, bind_no, toS_ok, toS_err, nox_ok, fin_nx, fin_rt, fin_err, startL, List.map_cons, List.map_nil, List.length_cons, List.length_nil, List.cons_append, List.nil_append, List.getElem?_cons_zero, List.getElem?_cons_succ, List.set_cons_zero, List.set_cons_succ, List.replicate_succ, List.replicate_zero, Nat.zero_add, Nat.reduceAdd, Nat.reduceSub, Nat.add_one_sub_one, Nat.sub_self, if_true, if_false, ite_true, ite_false, Bool.false_eq_true, reduceCtorEq, if_pos, Nat.reduceEqDiff, Nat.reduceLeDiff, decide_true, decide_false, Bool.not_true, Bool.not_false, ix0, ix1, ix2, gEq, gEqB, ofs_beq, String.reduceBEq, in_lst l3, List.mem_cons, List.not_mem_nil, ofs_inj, String.reduceEq, or_false, e1 _ a1, e2, e3]
    simp only [List.append_assoc, List.cons_append, List.nil_append]
section
variable {fd : List (Str × Int × Int)} {E : En}
theorem efs_list (ok : E.Ok) (nd : (fd.map (·.1)).Nodup) (hlen : fd.length ≤ 10) {h m : Nat} {ds : List D} (t : Sl (Sx (fd.map (·.1)) h) m ds) : ∀ {kv : List (Key × D)}, Fs fd kv → ∃ kv' new, Efs fd E kv (2 * h + 8) m ds kv' new := by
  induction t with
  | nil => intro kv hf; exact ⟨kv, [], efs_nil hf⟩
  | cons a _ ih =>
    intro kv hf
    obtain ⟨kv1, n1, e1⟩ := efs_of ok nd hlen hf a
    obtain ⟨kv2, n2, e2⟩ := ih e1.fs
    exact ⟨kv2, _, efs_cons e1 e2⟩
theorem Efs.up {kv kv' : List (Key × D)} {K n K' n' : Nat} {ds new : List D} (e : Efs fd E kv K n ds kv' new) (h1 : K ≤ K') (h2 : n ≤ n') : Efs fd E kv K' n' ds kv' new :=
  ⟨e.fs, by have := e.len; omega, e.all, fun k s r a hd S sn o o2 hk => e.P k s r a hd S sn o o2 (by omega), fun k s F f R S sn o p3 p4 p5 p6 hk => e.L k s F f R S sn o p3 p4 p5 p6 (by omega)⟩
theorem sl_app1 {P : Nat → D → Prop} {n : Nat} {ds : List D} {d : D} (t : Sl P n ds) (h : P 0 d) : Sl P n (ds ++ [d]) := (t.app (.cons (m := 0) h .nil)).le (by omega)
/-- rows that only set, ahead of others -/
theorem efs_pre (ok : E.Ok) (nd : (fd.map (·.1)).Nodup) (hlen : fd.length ≤ 10) {K n : Nat} (hK : 10 ≤ K) {rest : List D} {P : List D → Prop} (hr : ∀ {kv : List (Key × D)}, Fs fd kv → ∃ kv' new, Efs fd E kv K n rest kv' new ∧ P new) : ∀ (pre : List D), (∀ x ∈ pre, Sx (fd.map (·.1)) 1 0 x) → ∀ {kv : List (Key × D)}, Fs fd kv → ∃ kv' new, Efs fd E kv K n (pre ++ rest) kv' new ∧ P new
  | [], _, kv, hf => hr hf
  | x :: pre, h, kv, hf => by
    obtain ⟨kv1, n1, e1⟩ := efs_of ok nd hlen hf (h x List.mem_cons_self)
    obtain ⟨kv2, n2, e2, p2⟩ := efs_pre ok nd hlen hK hr pre (fun y hy => h y (List.mem_cons_of_mem _ hy)) e1.fs
    have z : n1 = [] := List.eq_nil_of_length_eq_zero (by have := e1.len; omega)
    subst z
    exact ⟨kv2, n2, by have := efs_cons (e1.up hK (Nat.le_refl _)) e2; rw [Nat.zero_add] at this; exact this, p2⟩
/-- a drawn program: two sends at most, and none where the arg is not above 0 -/
theorem prg_two (ok : E.Ok) (nd : (fd.map (·.1)).Nodup) (hlen : fd.length ≤ 10) {p : D} (hp : PrgP (fd.map (·.1)) p) {kv : List (Key × D)} (hf : Fs fd kv) : ∃ ds kv' new, p = .tup ds ∧ Efs fd E kv 16 2 ds kv' new ∧ (E.arg ≤ 0 → new = []) := by
  obtain ⟨pre, post, sd, rfl, h1, h2, h3, w1, w2, w3⟩ := hp
  have gate : ∀ {kv : List (Key × D)}, Fs fd kv → ∃ kv' new, Eff fd E kv 16 2 (gateD sd) kv' new ∧ (E.arg ≤ 0 → new = []) := fun {kv} hf => by
    have V : Val fd kv E 4 lessD (if 0 < E.arg then 1 else 0) := less_val ok
    by_cases ha : 0 < E.arg
    · obtain ⟨kv', new, q⟩ := efs_list (E := E) ok nd hlen (sl_app1 w3 (sx_skip (h := 1) (n := 0))) hf
      rw [if_pos ha] at V
      have q : Efs fd E kv 12 2 (if (1 : Int) = 0 then [skipD] else sd ++ [skipD]) kv' new := by rw [if_neg (by omega)]; exact q
      exact ⟨kv', new, (eff_ite V (by omega) q).up (by omega) (Nat.le_refl _), fun z => absurd ha (by omega)⟩
    · rw [if_neg ha] at V
      have q : Efs fd E kv 8 0 (if (0 : Int) = 0 then [skipD] else sd ++ [skipD]) kv [] := by
        rw [if_pos rfl]
        exact efs_cons (n := 0) (m := 0) ((eff_skip hf)) (efs_nil hf)
      exact ⟨kv, [], (eff_ite V (by omega) q).up (by omega) (by omega), fun _ => rfl⟩
  have tail : ∀ {kv : List (Key × D)}, Fs fd kv → ∃ kv' new, Efs fd E kv 16 2 (gateD sd :: post) kv' new ∧ (E.arg ≤ 0 → new = []) := fun {kv} hf => by
    obtain ⟨kv1, n1, e1, g1⟩ := gate hf
    obtain ⟨kv2, n2, e2, g2⟩ := efs_pre (E := E) ok nd hlen (K := 16) (n := 0) (rest := []) (P := fun n => n = []) (by omega) (fun hf => ⟨_, [], efs_nil hf, rfl⟩) post w2 e1.fs
    subst g2
    rw [List.append_nil] at e2
    refine ⟨kv2, n1, ?_, g1⟩
    have := efs_cons e1 e2
    rw [List.append_nil] at this
    exact this
  obtain ⟨kv', new, e, g⟩ := efs_pre (E := E) ok nd hlen (K := 16) (n := 2) (by omega) tail pre w1 hf
  exact ⟨_, kv', new, rfl, e, g⟩
end
end Pr

set_option Elab.async false
set_option linter.all false
set_option maxRecDepth 100000
set_option maxHeartbeats 4000000
/-! a handler's run, for the program -/
namespace Pr
open PySem PySem.Spec PyProof.Rows L2 Core
theorem putKD_new {kv : List (Key × D)} {k : Key} {v : D} (h : ∀ p ∈ kv, p.1 ≠ k) : putKD kv k v = kv ++ [(k, v)] := by
  unfold putKD
  have : (kv.any fun kv => decide (kv.1 = k)) = false := by
    rw [List.any_eq_false]
    intro p hp
    simpa using h p hp
  rw [this]; rfl
theorem merge_new : ∀ {more acc : List (Key × D)}, ((acc ++ more).map (·.1)).Nodup → mergeKD acc more = acc ++ more
  | [], acc, _ => by rw [List.append_nil]; rfl
  | (k, v) :: r, acc, h => by
    show mergeKD (putKD acc k v) r = _
    have hk : ∀ p ∈ acc, p.1 ≠ k := fun p hp e => by
      rw [List.map_append, List.nodup_append] at h
      exact h.2.2 p.1 (List.mem_map_of_mem hp) k (by simp) e
    rw [putKD_new hk, merge_new (by rw [List.append_assoc]; exact h), List.append_assoc]; rfl
theorem inr_nodup {zs : List Str} (h : zs.Nodup) : (zs.map (Sum.inr : Str → Key)).Nodup := by
  unfold List.Nodup at h ⊢
  rw [List.pairwise_map]
  exact h.imp fun a e => a (by injection e)
section
variable {fd : List (Str × Int × Int)} {kv : List (Key × D)}
theorem rg_keys : (rg fd).map (·.1) = (fd.map (·.1)).map (Sum.inr : Str → Key) := by unfold rg; simp [List.map_map]
theorem Fs.keys' (f : Fs fd kv) : kv.map (·.1) = (fd.map (·.1)).map (Sum.inr : Str → Key) := by rw [f.keys]; simp [List.map_map]
theorem Fs.len (f : Fs fd kv) : kv.length = fd.length := by have := congrArg List.length f.keys; simpa using this
theorem getK_head {k : Key} {v : D} {kv : List (Key × D)} : getK ((k, v) :: kv) k = some v := by unfold getK; rw [List.find?_cons, decide_eq_true rfl]; rfl
theorem getK_tail {k k' : Key} {v : D} {kv : List (Key × D)} (h : k' ≠ k) : getK ((k', v) :: kv) k = getK kv k := by unfold getK; rw [List.find?_cons, decide_eq_false h]
theorem Fs.vals (f : Fs fd kv) (nd : (fd.map (·.1)).Nodup) : (fd.map (·.1)).map (fun x => (getK kv (.inr x)).getD .non) = kv.map (·.2) := by
  induction f with
  | nil => rfl
  | @cons x lo hi v fd kv _ _ _ _ t ih =>
    rw [List.map_cons, List.nodup_cons] at nd
    rw [List.map_cons, List.map_cons, List.map_cons, getK_head]
    congr 1
    rw [← ih nd.2]
    refine List.map_congr_left fun y hy => ?_
    rw [getK_tail (fun e => nd.1 (by injection e with e; rw [e]; exact hy))]
theorem Fs.ints (f : Fs fd kv) : ∀ d ∈ kv.map (·.2), ∃ v : Int, d = .int v := by
  induction f with
  | nil => intro d h; cases h
  | cons _ _ _ _ _ ih =>
    intro d h
    rw [List.map_cons] at h
    rcases List.mem_cons.mp h with rfl | h
    · exact ⟨_, rfl⟩
    · exact ih d h
end
theorem set_mid {s t : Mem} {o o' : Ob} : (s ++ o :: t).set s.length o' = s ++ o' :: t := by simp
theorem get_mid {s t : Mem} {o : Ob} : (s ++ o :: t)[s.length]? = some o := by simp
theorem setF_at {cs : List Str} {f c : Str} {mo mv : EM} {l : Core.Loc} {s s1 : Mem} {d : D} {n : Nat} {fs : List (Str × D)} (hv : mv l s = .ok d s1) (ho : mo l s1 = .ok (.ref n) s1) (hn : s1[n]? = some (.ins c fs)) (hc : c ∈ cs) (hl : fs.length < 900) : mSetF cs f mo mv l s = .nx l (s1.set n (.ins c (putD f d fs))) := by
  unfold mSetF
  rw [hv, toS_ok, ho, toS_ok]
  dsimp only
  rw [hn]
  dsimp only
  rw [if_pos ⟨hc, hl⟩]
section
variable {fd : List (Str × Int × Int)} {kv : List (Key × D)} {E : En} {s : Mem} {k : Nat}
theorem lc_zip {g : TGm} {vs : List Nat} {l : Core.Loc} {mk mv : EM} {mA : AM} {a b : List D} {s s1 : Mem} (h : mA l s = .ok [.tup a, .tup b] s1) : mDc (iZip mA) g vs tYes' mk mv l s = loopDc (fun _ => true) g vs l tYes' mk mv s1.length (zipD a b) (s1 ++ [.dK []]) := by
  unfold mDc Core.iZip; rw [h]; rfl
theorem dc_tup {g : TGm} {vs : List Nat} {l : Core.Loc} {me mk mv : EM} {ds : List D} {s s1 : Mem} (h : me l s = .ok (.tup ds) s1) : mDc (iSeq me) g vs tYes' mk mv l s = loopDc (fun _ => true) g vs l tYes' mk mv s1.length ds (s1 ++ [.dK []]) := by
  unfold mDc iSeq; rw [h]; rfl
def keyHd : D → Key
  | .tup (.str x :: _) => .inr x
  | .tup (.tup (.str x :: _) :: _) => .inr x
  | _ => .inl 0
def rngF : D → D
  | .tup [_, lo, hi] => .tup [lo, hi]
  | d => d
def sndF : D → D
  | .tup [_, v] => v
  | d => d
theorem zip_fd (f : Fs fd kv) : (zipD (fd.map fD) (kv.map (·.2))).map (fun d => (keyHd d, sndF d)) = kv := by
  induction f with
  | nil => rfl
  | cons _ _ _ _ _ ih =>
    rw [List.map_cons, List.map_cons]
    show (_ :: ((zipD _ _).map _)) = _
    rw [ih]; rfl
theorem zip_len (f : Fs fd kv) : (zipD (fd.map fD) (kv.map (·.2))).length = fd.length := by
  unfold zipD
  rw [List.length_zipWith, List.length_map, List.length_map, f.len, Nat.min_self]
theorem zip_mem (f : Fs fd kv) : ∀ d ∈ zipD (fd.map fD) (kv.map (·.2)), ∃ x lo hi v, d = .tup [fD (x, lo, hi), v] := by
  induction f with
  | nil => intro d h; cases h
  | @cons x lo hi v fd kv _ _ _ _ _ ih =>
    intro d h
    have h : d ∈ D.tup [fD (x, lo, hi), .int v] :: zipD (fd.map fD) (kv.map (·.2)) := h
    rcases List.mem_cons.mp h with rfl | h
    · exact ⟨_, _, _, _, rfl⟩
    · exact ih d h
theorem c_Run_init (nd : (fd.map (·.1)).Nodup) (hl : fd.length ≤ 10) (f : Fs fd kv) : call (k + 1) .Run_init [.ref s.length, .tup (fd.map fD), .int E.many, .int E.num, .tup (kv.map (·.2)), .int E.time, .int E.arg] (s ++ [.ins "Run" []]) =
    .ok .non (s ++ [runOb (s.length + 1) (s.length + 2) (s.length + 3) E, .dK (rg fd), .dK kv, .lst []]) := by
  show Core.fin (m_Run_init (call k) [some (.ref s.length), some (.tup (fd.map fD)), some (.int E.many), some (.int E.num), some (.tup (kv.map (·.2))), some (.int E.time), some (.int E.arg), none, none, none, none, none] (s ++ [.ins "Run" []])) = _
  have lr : ((s ++ [Ob.ins "Run" []]).length) = s.length + 1 := by simp
  have e1 : mDc (iSeq (mVar 1)) (gmTup 3 (gmCons (gmName 7) (gmCons (gmName 8) (gmCons (gmName 9) gmNil)))) [7, 8, 9] tYes' (mVar 7) (mTup (mCons (mVar 8) (mCons (mVar 9) mNil))) [some (.ref s.length), some (.tup (fd.map fD)), some (.int E.many), some (.int E.num), some (.tup (kv.map (·.2))), some (.int E.time), some (.int E.arg), none, none, none, none, none] (s ++ [.ins "Run" []]) = .ok (.ref (s.length + 1)) (s ++ [.ins "Run" []] ++ [.dK (rg fd)]) := by
    have h := dc_map (s := s ++ [.ins "Run" []]) (ok := fun _ => true) (g := gmTup 3 (gmCons (gmName 7) (gmCons (gmName 8) (gmCons (gmName 9) gmNil)))) (vs := [7, 8, 9]) (l := [some (.ref s.length), some (.tup (fd.map fD)), some (.int E.many), some (.int E.num), some (.tup (kv.map (·.2))), some (.int E.time), some (.int E.arg), none, none, none, none, none]) (mk := mVar 7) (mv := mTup (mCons (mVar 8) (mCons (mVar 9) mNil))) (K := keyHd) (F := rngF) (fd.map fD) [] (fun _ => rfl) (fun d hd => by
      obtain ⟨⟨x, lo, hi⟩, _, rfl⟩ := List.mem_map.mp hd
      exact ⟨_, .str x, rfl, rfl, fun u => rfl, fun u => rfl⟩) (by rw [List.length_nil, List.length_map]; omega)
    have m : mergeKD [] ((fd.map fD).map fun d => (keyHd d, rngF d)) = rg fd := by
      have e : ((fd.map fD).map fun d => (keyHd d, rngF d)) = rg fd := by unfold rg; rw [List.map_map]; rfl
      rw [e, merge_new (acc := []) (by rw [List.nil_append, rg_keys]; exact inr_nodup nd), List.nil_append]
    rw [m, lr] at h
    exact (dc_tup (s1 := s ++ [.ins "Run" []]) rfl).trans (by rw [lr]; exact h)
  obtain ⟨s2, hs2⟩ : ∃ s2 : Mem, s2 = s ++ [Ob.ins "Run" [("ranges", .ref (s.length + 1))], .dK (rg fd)] := ⟨_, rfl⟩
  have l2 : s2.length = s.length + 2 := by rw [hs2]; simp
  have n1 := setF_at (cs := ["Run"]) (f := "ranges") (mo := mVar 0) (c := "Run") (n := s.length) (fs := []) e1 rfl (by simp) (by simp) (by simp)
  have st1 : (s ++ [Ob.ins "Run" []] ++ [Ob.dK (rg fd)]).set s.length (.ins "Run" (putD "ranges" (.ref (s.length + 1)) [])) = s2 := by rw [hs2, List.append_assoc]; exact set_mid
  rw [st1] at n1
  have e2 : mDc (iZip (mCons (mVar 1) (mCons (mVar 4) mNil))) (gmTup 2 (gmCons (gmName 10) (gmCons (gmName 11) gmNil))) [10, 11] tYes' (mOp gIx (mVar 10) (mC (.int 0))) (mVar 11) [some (.ref s.length), some (.tup (fd.map fD)), some (.int E.many), some (.int E.num), some (.tup (kv.map (·.2))), some (.int E.time), some (.int E.arg), none, none, none, none, none] s2 = .ok (.ref (s.length + 2)) (s2 ++ [.dK kv]) := by
    have h := dc_map (s := s2) (ok := fun _ => true) (g := gmTup 2 (gmCons (gmName 10) (gmCons (gmName 11) gmNil))) (vs := [10, 11]) (l := [some (.ref s.length), some (.tup (fd.map fD)), some (.int E.many), some (.int E.num), some (.tup (kv.map (·.2))), some (.int E.time), some (.int E.arg), none, none, none, none, none]) (mk := mOp gIx (mVar 10) (mC (.int 0))) (mv := mVar 11) (K := keyHd) (F := sndF) (zipD (fd.map fD) (kv.map (·.2))) [] (fun _ => rfl) (fun d hd => by
      obtain ⟨x, lo, hi, v, rfl⟩ := zip_mem f d hd
      exact ⟨_, .str x, rfl, rfl, fun u => by rfl, fun u => rfl⟩) (by rw [List.length_nil, zip_len f]; omega)
    rw [zip_fd f, merge_new (acc := []) (by rw [List.nil_append, f.keys']; exact inr_nodup nd), List.nil_append, l2] at h
    exact (lc_zip (a := fd.map fD) (b := kv.map (·.2)) (s1 := s2) rfl).trans (by rw [l2]; exact h)
  have g2 : (s2 ++ [Ob.dK kv])[s.length]? = some (.ins "Run" [("ranges", .ref (s.length + 1))]) := by rw [hs2]; simp
  have n2 := setF_at (cs := ["Run"]) (f := "held") (mo := mVar 0) (c := "Run") (n := s.length) e2 rfl g2 (by simp) (by simp)
  have st2 : (s2 ++ [Ob.dK kv]).set s.length (.ins "Run" (putD "held" (.ref (s.length + 2)) [("ranges", .ref (s.length + 1))])) = s ++ [Ob.ins "Run" [("ranges", .ref (s.length + 1)), ("held", .ref (s.length + 2))], .dK (rg fd), .dK kv] := by
    rw [hs2, List.append_assoc]; exact set_mid
  rw [st2] at n2
  have nn : ∀ (t : Mem) (f : Str) (d : D) (fs fs' : List (Str × D)) (mv : EM), fs.length < 900 → putD f d fs = fs' → mv [some (.ref s.length), some (.tup (fd.map fD)), some (.int E.many), some (.int E.num), some (.tup (kv.map (·.2))), some (.int E.time), some (.int E.arg), none, none, none, none, none] (s ++ Ob.ins "Run" fs :: t) = .ok d (s ++ Ob.ins "Run" fs :: t) →
      mSetF ["Run"] f (mVar 0) mv [some (.ref s.length), some (.tup (fd.map fD)), some (.int E.many), some (.int E.num), some (.tup (kv.map (·.2))), some (.int E.time), some (.int E.arg), none, none, none, none, none] (s ++ Ob.ins "Run" fs :: t) = .nx [some (.ref s.length), some (.tup (fd.map fD)), some (.int E.many), some (.int E.num), some (.tup (kv.map (·.2))), some (.int E.time), some (.int E.arg), none, none, none, none, none] (s ++ Ob.ins "Run" fs' :: t) := fun t f d fs fs' mv hl e h => by
    subst e
    rw [setF_at (cs := ["Run"]) (f := f) (mo := mVar 0) (c := "Run") (n := s.length) h rfl get_mid (by simp) hl, set_mid]
  unfold m_Run_init
  rw [seq_nx n1, seq_nx n2]
  have m0 := nn [.dK (rg fd), .dK kv] "objects" (.int E.many) [("ranges", .ref (s.length + 1)), ("held", .ref (s.length + 2))] [("ranges", .ref (s.length + 1)), ("held", .ref (s.length + 2)), ("objects", .int E.many)] (mVar 2) (show (2 : Nat) < 900 by decide) rfl rfl
  have m1 := nn [.dK (rg fd), .dK kv] "number" (.int E.num) [("ranges", .ref (s.length + 1)), ("held", .ref (s.length + 2)), ("objects", .int E.many)] [("ranges", .ref (s.length + 1)), ("held", .ref (s.length + 2)), ("objects", .int E.many), ("number", .int E.num)] (mVar 3) (show (3 : Nat) < 900 by decide) rfl rfl
  have m2 := nn [.dK (rg fd), .dK kv] "time" (.int E.time) [("ranges", .ref (s.length + 1)), ("held", .ref (s.length + 2)), ("objects", .int E.many), ("number", .int E.num)] [("ranges", .ref (s.length + 1)), ("held", .ref (s.length + 2)), ("objects", .int E.many), ("number", .int E.num), ("time", .int E.time)] (mVar 5) (show (4 : Nat) < 900 by decide) rfl rfl
  have m3 := nn [.dK (rg fd), .dK kv] "arg" (.int E.arg) [("ranges", .ref (s.length + 1)), ("held", .ref (s.length + 2)), ("objects", .int E.many), ("number", .int E.num), ("time", .int E.time)] [("ranges", .ref (s.length + 1)), ("held", .ref (s.length + 2)), ("objects", .int E.many), ("number", .int E.num), ("time", .int E.time), ("arg", .int E.arg)] (mVar 6) (show (5 : Nat) < 900 by decide) rfl rfl
  rw [seq_nx m0]
  rw [seq_nx m1]
  rw [seq_nx m2]
  rw [seq_nx m3]
  have e7 : mLst mNil [some (.ref s.length), some (.tup (fd.map fD)), some (.int E.many), some (.int E.num), some (.tup (kv.map (·.2))), some (.int E.time), some (.int E.arg), none, none, none, none, none] (s ++ [Ob.ins "Run" [("ranges", .ref (s.length + 1)), ("held", .ref (s.length + 2)), ("objects", .int E.many), ("number", .int E.num), ("time", .int E.time), ("arg", .int E.arg)], .dK (rg fd), .dK kv]) = .ok (.ref (s.length + 3)) (s ++ [Ob.ins "Run" [("ranges", .ref (s.length + 1)), ("held", .ref (s.length + 2)), ("objects", .int E.many), ("number", .int E.num), ("time", .int E.time), ("arg", .int E.arg)], .dK (rg fd), .dK kv, .lst []]) := by
    simp only [mSeq, mExpr, mRet, mRetN, mIfS, mSet, mAug, mCall, mCons, mNil, mVar, mC, mOp, mUn, mApp, mTup, mLst, mNx, mRaise, mAnd, mOr, mNot, mIf, tstB, tstAnd, tstOr, tstNot, mChain, bind_ok, bind_err, bind_no, toS_ok, toS_err, nox_ok, fin_nx, fin_rt, fin_err, startL, List.map_cons, List.map_nil, List.length_cons, List.length_nil, List.cons_append, List.nil_append, List.getElem?_cons_zero, List.getElem?_cons_succ, List.set_cons_zero, List.set_cons_succ, List.replicate_succ, List.replicate_zero, Nat.zero_add, Nat.reduceAdd, Nat.reduceSub, Nat.add_one_sub_one, Nat.sub_self, if_true, if_false, ite_true, ite_false, Bool.false_eq_true, reduceCtorEq, if_pos, Nat.reduceEqDiff, Nat.reduceLeDiff, decide_true, decide_false, Bool.not_true, Bool.not_false]
    simp
  have n7 := setF_at (cs := ["Run"]) (f := "sends") (mo := mVar 0) (c := "Run") (n := s.length) e7 rfl get_mid (by simp) (show (6 : Nat) < 900 by decide)
  rw [set_mid] at n7
  exact congrArg Core.fin n7
theorem c_Run_state {r a hd S : Nat} {sn : List D} (nd : (fd.map (·.1)).Nodup) (hl : fd.length ≤ 10) (f : Fs fd kv) (p : PSt s r a hd S E fd kv sn) : call (k + 1) .Run_state [.ref r] s = .ok (.tup (kv.map (·.2))) (s ++ [.lst (kv.map (·.2))]) := by
  show Core.fin (m_Run_state (call k) [some (.ref r), none] s) = _
  have al : a < s.length := (List.getElem?_eq_some_iff.mp p.rngs).1
  have ha : (s.set a (.lkK (rg fd)))[a]? = some (.lkK (rg fd)) := List.getElem?_set_self al
  have nr : a ≠ r := ne_of p.rngs p.run (by intro q; cases q)
  have hr : (s.set a (.lkK (rg fd)))[r]? = some (runOb a hd S E) := keep_set p.run nr
  have hh : (s.set a (.lkK (rg fd)))[hd]? = some (.dK kv) := keep_set p.held p.ne
  have pk : pkF 0 "ranges" [some (.ref r), none] s = some a := by
    unfold pkF
    have h1 := p.run
    simp only [List.getElem?_cons_zero, h1, runOb]
    rfl
  have ks : ((rg fd).map fun kv => Core.keyOf kv.1) = (fd.map (·.1)).map D.str := by unfold rg; rw [List.map_map, List.map_map]; rfl
  have sl : (s.set a (.lkK (rg fd))).length = s.length := by simp
  have lc := lc_map (s := s.set a (.lkK (rg fd))) (ok := fun _ => true) (g := gmName 1) (vs := [1]) (l := [some (.ref r), none]) (me := mOp gIxA (mUn (gFld ["Run"] "held") (mVar 0)) (mVar 1)) (F := fun d => match d with | .str x => (getK kv (.inr x)).getD .non | _ => .non) ((fd.map (·.1)).map D.str) [] (fun _ => rfl) (fun d hd' => by
    obtain ⟨x, hx, rfl⟩ := List.mem_map.mp hd'
    obtain ⟨v, hv, _⟩ := f.get hx
    refine ⟨[some (.ref r), some (.str x)], rfl, fun u => ?_⟩
    have e1 := look_run (app_keep (t := [u]) hr) (f := "held") rfl
    have e2 : gIxA (.ref hd) (.str x) (s.set a (.lkK (rg fd)) ++ [u]) = .ok (.int v) (s.set a (.lkK (rg fd)) ++ [u]) := ixa_dk (y := .str x) (app_keep (t := [u]) hh) rfl hv
    simp only [mSeq, mExpr, mRet, mRetN, mIfS, mSet, mAug, mCall, mCons, mNil, mVar, mC, mOp, mUn, mApp, mTup, mLst, mNx, mRaise, mAnd, mOr, mNot, mIf, tstB, tstAnd, tstOr, tstNot, mChain, bind_ok, bind_err, bind_no, toS_ok, toS_err, nox_ok, fin_nx, fin_rt, fin_err, startL, List.map_cons, List.map_nil, List.length_cons, List.length_nil, List.cons_append, List.nil_append, List.getElem?_cons_zero, List.getElem?_cons_succ, List.set_cons_zero, List.set_cons_succ, List.replicate_succ, List.replicate_zero, Nat.zero_add, Nat.reduceAdd, Nat.reduceSub, Nat.add_one_sub_one, Nat.sub_self, if_true, if_false, ite_true, ite_false, Bool.false_eq_true, reduceCtorEq, if_pos, Nat.reduceEqDiff, Nat.reduceLeDiff, decide_true, decide_false, Bool.not_true, Bool.not_false, e1, e2, hv, Option.getD_some]) (by rw [List.length_nil, List.length_map, List.length_map]; omega)
  rw [List.nil_append] at lc
  have vals : ((fd.map (·.1)).map D.str).map (fun d => match d with | .str x => (getK kv (.inr x)).getD .non | _ => .non) = kv.map (·.2) := by
    rw [List.map_map (l := fd.map (·.1))]; exact f.vals nd
  rw [vals, sl] at lc
  have e1 : mLc (iKeysD (mUn (gFld ["Run"] "ranges") (mVar 0))) (gmName 1) [1] tYes' (mOp gIxA (mUn (gFld ["Run"] "held") (mVar 0)) (mVar 1)) [some (.ref r), none] (s.set a (.lkK (rg fd))) = .ok (.ref s.length) (s.set a (.lkK (rg fd)) ++ [.lst (kv.map (·.2))]) := by
    have it : iKeysD (mUn (gFld ["Run"] "ranges") (mVar 0)) [some (.ref r), none] (s.set a (.lkK (rg fd))) = .ok ⟨(fd.map (·.1)).map D.str, fun _ => true⟩ (s.set a (.lkK (rg fd))) := by
      unfold iKeysD
      simp only [mSeq, mExpr, mRet, mRetN, mIfS, mSet, mAug, mCall, mCons, mNil, mVar, mC, mOp, mUn, mApp, mTup, mLst, mNx, mRaise, mAnd, mOr, mNot, mIf, tstB, tstAnd, tstOr, tstNot, mChain, bind_ok, bind_err, bind_no, toS_ok, toS_err, nox_ok, fin_nx, fin_rt, fin_err, startL, List.map_cons, List.map_nil, List.length_cons, List.length_nil, List.cons_append, List.nil_append, List.getElem?_cons_zero, List.getElem?_cons_succ, List.set_cons_zero, List.set_cons_succ, List.replicate_succ, List.replicate_zero, Nat.zero_add, Nat.reduceAdd, Nat.reduceSub, Nat.add_one_sub_one, Nat.sub_self, if_true, if_false, ite_true, ite_false, Bool.false_eq_true, reduceCtorEq, if_pos, Nat.reduceEqDiff, Nat.reduceLeDiff, decide_true, decide_false, Bool.not_true, Bool.not_false, look_run hr (f := "ranges") rfl, ha]
      rw [ks]
    unfold mLc
    rw [it, bind_ok]
    dsimp only
    rw [sl]
    exact lc
  have e2 : mLock (pkF 0 "ranges") (mLc (iKeysD (mUn (gFld ["Run"] "ranges") (mVar 0))) (gmName 1) [1] tYes' (mOp gIxA (mUn (gFld ["Run"] "held") (mVar 0)) (mVar 1))) [some (.ref r), none] s = .ok (.ref s.length) (s ++ [.lst (kv.map (·.2))]) := by
    unfold mLock
    rw [pk]
    dsimp only
    rw [p.rngs]
    dsimp only
    rw [e1]
    dsimp only
    rw [app_keep ha]
    dsimp only
    congr 1
    rw [List.set_append_left _ _ (by rw [sl]; exact al), List.set_set]
    congr 1
    have := (List.getElem?_eq_some_iff.mp p.rngs).2
    rw [← this, List.set_getElem_self]
  unfold m_Run_state
  simp only [mSeq, mExpr, mRet, mRetN, mIfS, mSet, mAug, mCall, mCons, mNil, mVar, mC, mOp, mUn, mApp, mTup, mLst, mNx, mRaise, mAnd, mOr, mNot, mIf, tstB, tstAnd, tstOr, tstNot, mChain, bind_ok, bind_err, bind_no, toS_ok, toS_err, nox_ok, fin_nx, fin_rt, fin_err, startL, List.map_cons, List.map_nil, List.length_cons, List.length_nil, List.cons_append, List.nil_append, List.getElem?_cons_zero, List.getElem?_cons_succ, List.set_cons_zero, List.set_cons_succ, List.replicate_succ, List.replicate_zero, Nat.zero_add, Nat.reduceAdd, Nat.reduceSub, Nat.add_one_sub_one, Nat.sub_self, if_true, if_false, ite_true, ite_false, Bool.false_eq_true, reduceCtorEq, if_pos, Nat.reduceEqDiff, Nat.reduceLeDiff, decide_true, decide_false, Bool.not_true, Bool.not_false, e2, tup_lst last_at]
/-- no handler of the name, or just one -/
theorem hnd_split {names : List Str} {zs : List Str} {hs : List D} (t : Two (HndP names) (zs.map D.str) hs) (nd : zs.Nodup) (name : Str) :
    (∀ y ∈ hs, ∃ x p, y = .tup [.str x, p] ∧ x ≠ name) ∨ ∃ h1 h2 p, hs = h1 ++ .tup [.str name, p] :: h2 ∧ PrgP names p ∧ (∀ y ∈ h1, ∃ x p, y = .tup [.str x, p] ∧ x ≠ name) ∧ ∀ y ∈ h2, ∃ x p, y = .tup [.str x, p] ∧ x ≠ name := by
  induction zs generalizing hs with
  | nil => cases t; exact .inl fun y h => absurd h List.not_mem_nil
  | cons z r ih =>
    cases t with
    | cons a t =>
      obtain ⟨p, rfl, hp⟩ := a
      rw [List.nodup_cons] at nd
      by_cases e : z = name
      · subst e
        refine .inr ⟨[], _, p, rfl, hp, fun y h => absurd h List.not_mem_nil, ?_⟩
        have : ∀ {zs : List Str} {hs : List D}, Two (HndP names) (zs.map D.str) hs → z ∉ zs → ∀ y ∈ hs, ∃ x p, y = .tup [.str x, p] ∧ x ≠ z := fun {zs} => by
          induction zs with
          | nil => intro hs t _ y hy; cases t; cases hy
          | cons w r ih =>
            intro hs t hz y hy
            cases t with
            | cons a t =>
              obtain ⟨p, rfl, _⟩ := a
              rw [List.mem_cons, not_or] at hz
              rcases List.mem_cons.mp hy with rfl | hy
              · exact ⟨w, p, rfl, fun e => hz.1 e.symm⟩
              · exact ih t hz.2 y hy
        exact this t nd.1
      · rcases ih t nd.2 with h | ⟨h1, h2, q, rfl, hq, a1, a2⟩
        · refine .inl fun y hy => ?_
          rcases List.mem_cons.mp hy with rfl | hy
          · exact ⟨z, p, rfl, e⟩
          · exact h y hy
        · refine .inr ⟨_ :: h1, h2, q, rfl, hq, fun y hy => ?_, a2⟩
          rcases List.mem_cons.mp hy with rfl | hy
          · exact ⟨z, p, rfl, e⟩
          · exact a1 y hy
end
end Pr

set_option Elab.async false
set_option linter.all false
set_option maxRecDepth 100000
set_option maxHeartbeats 4000000
/-! a handler's run, for both -/
namespace Pr
open PySem PySem.Spec PyProof.Rows L2 Core
/-- what stood still stands -/
def Ex (s s' : Mem) : Prop := ∀ (n : Nat) (o : Ob), s[n]? = some o → s'[n]? = some o
theorem Ex.refl {s : Mem} : Ex s s := fun _ _ h => h
theorem Ex.trans {s s1 s2 : Mem} (a : Ex s s1) (b : Ex s1 s2) : Ex s s2 := fun n o h => b n o (a n o h)
theorem Ex.app {s t : Mem} : Ex s (s ++ t) := fun _ _ h => app_keep h
theorem Ex.of2 {a b : Nat} {s t s' : Mem} (g : Gt2 a b (s ++ t) s') (ha : s.length ≤ a) (hb : s.length ≤ b) : Ex s s' := fun n o h => by
  have hn : n < s.length := (List.getElem?_eq_some_iff.mp h).1
  exact g.old n o (by omega) (by omega) (app_keep h)
theorem loop_skip {g : TGm} {body : SM} {s : Mem} {Lk : Core.Loc → Prop} {rest : List D} : ∀ (h1 : List D) (l : Core.Loc), (∀ y ∈ h1, ∀ l, Lk l → ∃ l1 l2, g y l = some l1 ∧ body l1 s = .nx l2 s ∧ Lk l2) → Lk l →
    ∃ l2, Lk l2 ∧ loopS (fun _ => true) g body (h1 ++ rest) l s = loopS (fun _ => true) g body rest l2 s
  | [], l, _, h => ⟨l, h, rfl⟩
  | y :: h1, l, hb, h => by
    obtain ⟨l1, l2, e1, e2, h2⟩ := hb y List.mem_cons_self l h
    obtain ⟨l3, h3, e3⟩ := loop_skip h1 l2 (fun z hz => hb z (List.mem_cons_of_mem _ hz)) h2
    refine ⟨l3, h3, ?_⟩
    rw [← e3, List.cons_append]
    conv => lhs; unfold loopS
    rw [if_pos rfl, e1]
    dsimp only
    rw [e2]
section
variable {s : Mem} {k : Nat} {fd : List (Str × Int × Int)}
abbrev gFP : TGm := gmTup 2 (gmCons (gmName 2) (gmCons (gmName 3) gmNil))
abbrev bFP : SM := (mIfS (tstB (mOp gEq (mVar 2) (mVar 1))) (mRet (mVar 3)) mNx)
theorem fp_skip {a : D} {name : Str} {hs rest : List D} (h : ∀ y ∈ hs, ∃ x p, y = .tup [.str x, p] ∧ x ≠ name) (o2 o3 : Option D) : ∃ l2, (∃ o2 o3, l2 = [some a, some (.str name), o2, o3]) ∧ loopS (fun _ => true) gFP bFP (hs ++ rest) [some a, some (.str name), o2, o3] s = loopS (fun _ => true) gFP bFP rest l2 s :=
  loop_skip (Lk := fun l => ∃ o2 o3, l = [some a, some (.str name), o2, o3]) hs _ (fun y hy l ⟨o2, o3, hl⟩ => by
    subst hl
    obtain ⟨x, p, rfl, hx⟩ := h y hy
    refine ⟨[some a, some (.str name), some (.str x), some p], [some a, some (.str name), some (.str x), some p], rfl, ?_, ⟨some (.str x), some p, rfl⟩⟩
    simp only [mSeq, mExpr, mRet, mRetN, mIfS, mSet, mAug, mCall, mCons, mNil, mVar, mC, mOp, mUn, mApp, mTup, mLst, mNx, mRaise, mAnd, mOr, mNot, mIf, tstB, tstAnd, tstOr, tstNot, mChain, bind_ok, bind_err, bind_no, toS_ok, toS_err, nox_ok, fin_nx, fin_rt, fin_err, startL, List.map_cons, List.map_nil, List.length_cons, List.length_nil, List.cons_append, List.nil_append, List.getElem?_cons_zero, List.getElem?_cons_succ, List.set_cons_zero, List.set_cons_succ, List.replicate_succ, List.replicate_zero, Nat.zero_add, Nat.reduceAdd, Nat.reduceSub, Nat.add_one_sub_one, Nat.sub_self, if_true, if_false, ite_true, ite_false, Bool.false_eq_true, reduceCtorEq, if_pos, Nat.reduceEqDiff, Nat.reduceLeDiff, decide_true, decide_false, Bool.not_true, Bool.not_false, gEq, gEqB, show (x == name) = false from beq_eq_false_iff_ne.mpr hx]) ⟨_, _, rfl⟩
theorem c_find_none {z : D} {fs hs : List D} {name : Str} (h : ∀ y ∈ hs, ∃ x p, y = .tup [.str x, p] ∧ x ≠ name) : call (k + 1) .find_program [.tup [z, .tup fs, .tup hs], .str name] s = .ok .non s := by
  show Core.fin (m_find_program (call k) [some (.tup [z, .tup fs, .tup hs]), some (.str name), none, none] s) = _
  obtain ⟨l2, ⟨o2, o3, rfl⟩, e⟩ := fp_skip (s := s) (a := .tup [z, .tup fs, .tup hs]) (rest := []) h none none
  rw [List.append_nil] at e
  have e : loopS (fun _ => true) gFP bFP hs [some (.tup [z, .tup fs, .tup hs]), some (.str name), none, none] s = .nx [some (.tup [z, .tup fs, .tup hs]), some (.str name), o2, o3] s := e.trans rfl
  unfold m_find_program
  rw [seq_nx ((for_tup (ds := hs) (s1 := s) (by simp only [mSeq, mExpr, mRet, mRetN, mIfS, mSet, mAug, mCall, mCons, mNil, mVar, mC, mOp, mUn, mApp, mTup, mLst, mNx, mRaise, mAnd, mOr, mNot, mIf, tstB, tstAnd, tstOr, tstNot, mChain, bind_ok, bind_err, bind_no, toS_ok, toS_err, nox_ok, fin_nx, fin_rt, fin_err, startL, List.map_cons, List.map_nil, List.length_cons, List.length_nil, List.cons_append, List.nil_append, List.getElem?_cons_zero, List.getElem?_cons_succ, List.set_cons_zero, List.set_cons_succ, List.replicate_succ, List.replicate_zero, Nat.zero_add, Nat.reduceAdd, Nat.reduceSub, Nat.add_one_sub_one, Nat.sub_self, if_true, if_false, ite_true, ite_false, Bool.false_eq_true, reduceCtorEq, if_pos, Nat.reduceEqDiff, Nat.reduceLeDiff, decide_true, decide_false, Bool.not_true, Bool.not_false, ix2])).trans e)]
  simp only [mSeq, mExpr, mRet, mRetN, mIfS, mSet, mAug, mCall, mCons, mNil, mVar, mC, mOp, mUn, mApp, mTup, mLst, mNx, mRaise, mAnd, mOr, mNot, mIf, tstB, tstAnd, tstOr, tstNot, mChain, bind_ok, bind_err, bind_no, toS_ok, toS_err, nox_ok, fin_nx, fin_rt, fin_err, startL, List.map_cons, List.map_nil, List.length_cons, List.length_nil, List.cons_append, List.nil_append, List.getElem?_cons_zero, List.getElem?_cons_succ, List.set_cons_zero, List.set_cons_succ, List.replicate_succ, List.replicate_zero, Nat.zero_add, Nat.reduceAdd, Nat.reduceSub, Nat.add_one_sub_one, Nat.sub_self, if_true, if_false, ite_true, ite_false, Bool.false_eq_true, reduceCtorEq, if_pos, Nat.reduceEqDiff, Nat.reduceLeDiff, decide_true, decide_false, Bool.not_true, Bool.not_false]
theorem c_find_at {z p : D} {fs h1 h2 : List D} {name : Str} (h : ∀ y ∈ h1, ∃ x p, y = .tup [.str x, p] ∧ x ≠ name) : call (k + 1) .find_program [.tup [z, .tup fs, .tup (h1 ++ .tup [.str name, p] :: h2)], .str name] s = .ok p s := by
  show Core.fin (m_find_program (call k) [some (.tup [z, .tup fs, .tup (h1 ++ .tup [.str name, p] :: h2)]), some (.str name), none, none] s) = _
  obtain ⟨l2, ⟨o2, o3, rfl⟩, e⟩ := fp_skip (s := s) (a := .tup [z, .tup fs, .tup (h1 ++ .tup [.str name, p] :: h2)]) (rest := .tup [.str name, p] :: h2) h none none
  have e : loopS (fun _ => true) gFP bFP (h1 ++ .tup [.str name, p] :: h2) [some (.tup [z, .tup fs, .tup (h1 ++ .tup [.str name, p] :: h2)]), some (.str name), none, none] s = .rt p s := by
    rw [e]
    unfold loopS
    rw [if_pos rfl]
    have g : gFP (.tup [.str name, p]) [some (.tup [z, .tup fs, .tup (h1 ++ .tup [.str name, p] :: h2)]), some (.str name), o2, o3] = some [some (.tup [z, .tup fs, .tup (h1 ++ .tup [.str name, p] :: h2)]), some (.str name), some (.str name), some p] := rfl
    rw [g]
    dsimp only
    have b : bFP [some (.tup [z, .tup fs, .tup (h1 ++ .tup [.str name, p] :: h2)]), some (.str name), some (.str name), some p] s = .rt p s := by simp only [mSeq, mExpr, mRet, mRetN, mIfS, mSet, mAug, mCall, mCons, mNil, mVar, mC, mOp, mUn, mApp, mTup, mLst, mNx, mRaise, mAnd, mOr, mNot, mIf, tstB, tstAnd, tstOr, tstNot, mChain, bind_ok, bind_err, bind_no, toS_ok, toS_err, nox_ok, fin_nx, fin_rt, fin_err, startL, List.map_cons, List.map_nil, List.length_cons, List.length_nil, List.cons_append, List.nil_append, List.getElem?_cons_zero, List.getElem?_cons_succ, List.set_cons_zero, List.set_cons_succ, List.replicate_succ, List.replicate_zero, Nat.zero_add, Nat.reduceAdd, Nat.reduceSub, Nat.add_one_sub_one, Nat.sub_self, if_true, if_false, ite_true, ite_false, Bool.false_eq_true, reduceCtorEq, if_pos, Nat.reduceEqDiff, Nat.reduceLeDiff, decide_true, decide_false, Bool.not_true, Bool.not_false, gEq, gEqB, beq_self_eq_true]
    rw [b]
  unfold m_find_program
  rw [seq_rt ((for_tup (ds := h1 ++ .tup [.str name, p] :: h2) (s1 := s) (by simp only [mSeq, mExpr, mRet, mRetN, mIfS, mSet, mAug, mCall, mCons, mNil, mVar, mC, mOp, mUn, mApp, mTup, mLst, mNx, mRaise, mAnd, mOr, mNot, mIf, tstB, tstAnd, tstOr, tstNot, mChain, bind_ok, bind_err, bind_no, toS_ok, toS_err, nox_ok, fin_nx, fin_rt, fin_err, startL, List.map_cons, List.map_nil, List.length_cons, List.length_nil, List.cons_append, List.nil_append, List.getElem?_cons_zero, List.getElem?_cons_succ, List.set_cons_zero, List.set_cons_succ, List.replicate_succ, List.replicate_zero, Nat.zero_add, Nat.reduceAdd, Nat.reduceSub, Nat.add_one_sub_one, Nat.sub_self, if_true, if_false, ite_true, ite_false, Bool.false_eq_true, reduceCtorEq, if_pos, Nat.reduceEqDiff, Nat.reduceLeDiff, decide_true, decide_false, Bool.not_true, Bool.not_false, ix2])).trans e)]
  rfl
/-- what a run of a handler is, for both -/
structure Hp2 (M : D) (fd : List (Str × Int × Int)) (kv : List (Key × D)) (E : En) (name : Str) (kv' : List (Key × D)) (new : List D) : Prop where
  fs : Fs fd kv'
  len : new.length ≤ 2
  all : ∀ x ∈ new, SnP E x
  non : E.arg ≤ 0 → new = []
  P : ∀ (k : Nat) (s : Mem), 24 ≤ k → ∃ S s', call k .run_handler [M, .int E.num, .tup (kv.map (·.2)), .int E.time, .str name, .int E.arg] s = .ok (.tup [.tup (kv'.map (·.2)), .ref S]) s' ∧ s'[S]? = some (.lst new) ∧ s.length ≤ S ∧ Ex s s'
  L : ∀ (k : Nat) (s : Mem), 24 ≤ k → ∃ S s', call k .law_happen [M, .int E.num, .tup (kv.map (·.2)), .int E.time, .str name, .int E.arg] s = .ok (.tup [.tup (kv'.map (·.2)), .ref S]) s' ∧ s'[S]? = some (.lst new) ∧ s.length ≤ S ∧ Ex s s'
theorem set4 {s : Mem} {F R : Nat} (h : F ≠ R) {a b c d : Ob} : (((s.set F a).set R b).set F c).set R d = (s.set F c).set R d := by
  have e : ((s.set F a).set R b).set F c = (s.set F c).set R b := by
    rw [List.set_comm (a := b) (b := c) h.symm, List.set_set]
  rw [e, List.set_set]
/-- the fields and the ranges, put in one by one -/
abbrev bFld2 : SM := (mSeq (mSubA (mOp gIx (mVar 2) (mVar 9)) (mVar 7) (mOp gIx (mOp gIx (mOp gIx (mVar 6) (mC (.int 1))) (mVar 9)) (mC (.int 0))))
    (mSubA (mTup (mCons (mOp gIx (mOp gIx (mOp gIx (mVar 6) (mC (.int 1))) (mVar 9)) (mC (.int 1))) (mCons (mOp gIx (mOp gIx (mOp gIx (mVar 6) (mC (.int 1))) (mVar 9)) (mC (.int 2))) mNil))) (mVar 8) (mOp gIx (mOp gIx (mOp gIx (mVar 6) (mC (.int 1))) (mVar 9)) (mC (.int 0)))))
theorem Fs.at {kv : List (Key × D)} (f : Fs fd kv) {i : Nat} (h : i < fd.length) : ∃ x lo hi v, fd[i]? = some (x, lo, hi) ∧ kv[i]? = some (.inr x, .int v) := by
  induction f generalizing i with
  | nil => cases h
  | @cons x lo hi v fd kv _ _ _ _ _ ih =>
    cases i with
    | zero => exact ⟨x, lo, hi, v, rfl, rfl⟩
    | succ i => obtain ⟨a, b, c, d, e1, e2⟩ := ih (i := i) (by simpa using h); exact ⟨a, b, c, d, by simpa using e1, by simpa using e2⟩
theorem take_put {kv : List (Key × D)} (nd : (kv.map (·.1)).Nodup) {i : Nat} {k : Key} {v : D} (h : kv[i]? = some (k, v)) : putKD (kv.take i) k v = kv.take (i + 1) := by
  have hl : i < kv.length := (List.getElem?_eq_some_iff.mp h).1
  have e : kv[i] = (k, v) := (List.getElem?_eq_some_iff.mp h).2
  rw [List.take_succ, h]
  rw [putKD_new]
  · rfl
  · intro p hp q
    obtain ⟨j, hj, rfl⟩ := List.mem_take_iff_getElem.mp hp
    have hj' : j < kv.length := by omega
    have : (kv.map (·.1))[j]'(by simpa using hj') = (kv.map (·.1))[i]'(by simpa using hl) := by simp [e, q]
    have := (List.getElem_inj nd).mp this
    omega
theorem loop_flds {M A1 A2 A3 A4 A5 KD : D} {z : D} {hs : List D} {kv : List (Key × D)} (hM : KD = .tup [z, .tup (fd.map fD), .tup hs]) (hA : A2 = .tup (kv.map (·.2))) (f : Fs fd kv) (nd : (fd.map (·.1)).Nodup) (hl : fd.length ≤ 10) {F R : Nat} (hne : F ≠ R) {o10 o11 o12 : Option D} (hF : s[F]? = some (.dK [])) (hR : s[R]? = some (.dK [])) :
    Nx (loopS (fun _ => true) (gmName 9) bFld2 ((List.range fd.length).map fun (i : Nat) => D.int (0 + (i : Int))) [some M, some A1, some A2, some A3, some A4, some A5, some KD, some (.ref F), some (.ref R), none, o10, o11, o12] s)
      fun l s' => (∃ o9, l = [some M, some A1, some A2, some A3, some A4, some A5, some KD, some (.ref F), some (.ref R), o9, o10, o11, o12]) ∧ s' = (s.set F (.dK kv)).set R (.dK (rg fd)) := by
  have fl : F < s.length := (List.getElem?_eq_some_iff.mp hF).1
  have rl : R < s.length := (List.getElem?_eq_some_iff.mp hR).1
  have kl := f.len
  have rgl : (rg fd).length = fd.length := by unfold rg; simp
  have ndk : (kv.map (·.1)).Nodup := by rw [f.keys']; exact inr_nodup nd
  have ndr : ((rg fd).map (·.1)).Nodup := by rw [rg_keys]; exact inr_nodup nd
  have key := loop_nx (ok := fun _ => true) (g := gmName 9) (body := bFld2) (ds := (List.range fd.length).map fun (i : Nat) => D.int (0 + (i : Int))) (l := [some M, some A1, some A2, some A3, some A4, some A5, some KD, some (.ref F), some (.ref R), none, o10, o11, o12]) (s := s)
    (fun n l s' => (∃ o9, l = [some M, some A1, some A2, some A3, some A4, some A5, some KD, some (.ref F), some (.ref R), o9, o10, o11, o12]) ∧ s' = (s.set F (.dK (kv.take n))).set R (.dK ((rg fd).take n))) (fun _ _ _ _ => rfl)
    (fun n d l s' hd ⟨⟨o9, hl'⟩, hs'⟩ => by
      subst hl'
      rw [List.getElem?_map] at hd
      cases q : (List.range fd.length)[n]? with
      | none => rw [q] at hd; cases hd
      | some m =>
        rw [q] at hd
        have hn : n < fd.length := by have := (List.getElem?_eq_some_iff.mp q).1; simpa using this
        have hm : m = n := by rw [List.getElem?_range hn] at q; exact (Option.some.inj q).symm
        subst hm
        cases hd
        obtain ⟨x, lo, hi, v, e1, e2⟩ := f.at hn
        refine ⟨[some M, some A1, some A2, some A3, some A4, some A5, some KD, some (.ref F), some (.ref R), some (.int (0 + (m : Int))), o10, o11, o12], rfl, ?_⟩
        have i1 : ∀ s : Mem, gIx A2 (.int (0 + (m : Int))) s = .ok (.int v) s := fun s => by
          rw [hA, Int.zero_add]
          exact ix_nat (by rw [List.getElem?_map, e2]; rfl)
        have i2 : ∀ s : Mem, gIx (.tup (fd.map fD)) (.int (0 + (m : Int))) s = .ok (fD (x, lo, hi)) s := fun s => by
          rw [Int.zero_add]
          exact ix_nat (by rw [List.getElem?_map, e1]; rfl)
        have i0 : ∀ s : Mem, gIx KD (.int 1) s = .ok (.tup (fd.map fD)) s := fun s => by rw [hM]; rfl
        have gF : s'[F]? = some (.dK (kv.take m)) := by rw [hs']; exact keep_set (List.getElem?_set_self fl) hne.symm
        have a1 := sub_dk (mv := mOp gIx (mVar 2) (mVar 9)) (mo := mVar 7) (mi := mOp gIx (mOp gIx (mOp gIx (mVar 6) (mC (.int 1))) (mVar 9)) (mC (.int 0))) (l := [some M, some A1, some A2, some A3, some A4, some A5, some KD, some (.ref F), some (.ref R), some (.int (0 + (m : Int))), o10, o11, o12]) (s := s') (s1 := s') (n := F) (y := .str x) (d := .int v) (k := .inr x)
          (by simp only [mSeq, mExpr, mRet, mRetN, mIfS, mSet, mAug, mCall, mCons, mNil, mVar, mC, mOp, mUn, mApp, mTup, mLst, mNx, mRaise, mAnd, mOr, mNot, mIf, tstB, tstAnd, tstOr, tstNot, mChain, bind_ok, bind_err, bind_no, toS_ok, toS_err, nox_ok, fin_nx, fin_rt, fin_err, startL, List.map_cons, List.map_nil, List.length_cons, List.length_nil, List.cons_append, List.nil_append, List.getElem?_cons_zero, List.getElem?_cons_succ, List.set_cons_zero, List.set_cons_succ, List.replicate_succ, List.replicate_zero, Nat.zero_add, Nat.reduceAdd, Nat.reduceSub, Nat.add_one_sub_one, Nat.sub_self, if_true, if_false, ite_true, ite_false, Bool.false_eq_true, reduceCtorEq, if_pos, Nat.reduceEqDiff, Nat.reduceLeDiff, decide_true, decide_false, Bool.not_true, Bool.not_false, i1]) (by simp only [mSeq, mExpr, mRet, mRetN, mIfS, mSet, mAug, mCall, mCons, mNil, mVar, mC, mOp, mUn, mApp, mTup, mLst, mNx, mRaise, mAnd, mOr, mNot, mIf, tstB, tstAnd, tstOr, tstNot, mChain, bind_ok, bind_err, bind_no, toS_ok, toS_err, nox_ok, fin_nx, fin_rt, fin_err, startL, List.map_cons, List.map_nil, List.length_cons, List.length_nil, List.cons_append, List.nil_append, List.getElem?_cons_zero, List.getElem?_cons_succ, List.set_cons_zero, List.set_cons_succ, List.replicate_succ, List.replicate_zero, Nat.zero_add, Nat.reduceAdd, Nat.reduceSub, Nat.add_one_sub_one, Nat.sub_self, if_true, if_false, ite_true, ite_false, Bool.false_eq_true, reduceCtorEq, if_pos, Nat.reduceEqDiff, Nat.reduceLeDiff, decide_true, decide_false, Bool.not_true, Bool.not_false]) (by simp only [mSeq, mExpr, mRet, mRetN, mIfS, mSet, mAug, mCall, mCons, mNil, mVar, mC, mOp, mUn, mApp, mTup, mLst, mNx, mRaise, mAnd, mOr, mNot, mIf, tstB, tstAnd, tstOr, tstNot, mChain, bind_ok, bind_err, bind_no, toS_ok, toS_err, nox_ok, fin_nx, fin_rt, fin_err, startL, List.map_cons, List.map_nil, List.length_cons, List.length_nil, List.cons_append, List.nil_append, List.getElem?_cons_zero, List.getElem?_cons_succ, List.set_cons_zero, List.set_cons_succ, List.replicate_succ, List.replicate_zero, Nat.zero_add, Nat.reduceAdd, Nat.reduceSub, Nat.add_one_sub_one, Nat.sub_self, if_true, if_false, ite_true, ite_false, Bool.false_eq_true, reduceCtorEq, if_pos, Nat.reduceEqDiff, Nat.reduceLeDiff, decide_true, decide_false, Bool.not_true, Bool.not_false, i0, i2, fD, ix0]) gF rfl (by rw [List.length_take]; omega)
        rw [take_put ndk e2] at a1
        have gR : (s'.set F (.dK (kv.take (m + 1))))[R]? = some (.dK ((rg fd).take m)) := by
          rw [hs']
          exact keep_set (List.getElem?_set_self (by simpa using rl)) hne
        have er : (rg fd)[m]? = some (.inr x, .tup [.int lo, .int hi]) := by unfold rg; rw [List.getElem?_map, e1]; rfl
        have a2 := sub_dk (mv := mTup (mCons (mOp gIx (mOp gIx (mOp gIx (mVar 6) (mC (.int 1))) (mVar 9)) (mC (.int 1))) (mCons (mOp gIx (mOp gIx (mOp gIx (mVar 6) (mC (.int 1))) (mVar 9)) (mC (.int 2))) mNil))) (mo := mVar 8) (mi := mOp gIx (mOp gIx (mOp gIx (mVar 6) (mC (.int 1))) (mVar 9)) (mC (.int 0))) (l := [some M, some A1, some A2, some A3, some A4, some A5, some KD, some (.ref F), some (.ref R), some (.int (0 + (m : Int))), o10, o11, o12]) (s := s'.set F (.dK (kv.take (m + 1)))) (s1 := s'.set F (.dK (kv.take (m + 1)))) (n := R) (y := .str x) (d := .tup [.int lo, .int hi]) (k := .inr x)
          (by simp only [mSeq, mExpr, mRet, mRetN, mIfS, mSet, mAug, mCall, mCons, mNil, mVar, mC, mOp, mUn, mApp, mTup, mLst, mNx, mRaise, mAnd, mOr, mNot, mIf, tstB, tstAnd, tstOr, tstNot, mChain, bind_ok, bind_err, bind_no, toS_ok, toS_err, nox_ok, fin_nx, fin_rt, fin_err, startL, List.map_cons, List.map_nil, List.length_cons, List.length_nil, List.cons_append, List.nil_append, List.getElem?_cons_zero, List.getElem?_cons_succ, List.set_cons_zero, List.set_cons_succ, List.replicate_succ, List.replicate_zero, Nat.zero_add, Nat.reduceAdd, Nat.reduceSub, Nat.add_one_sub_one, Nat.sub_self, if_true, if_false, ite_true, ite_false, Bool.false_eq_true, reduceCtorEq, if_pos, Nat.reduceEqDiff, Nat.reduceLeDiff, decide_true, decide_false, Bool.not_true, Bool.not_false, i0, i2, fD, ix1, ix2]) (by simp only [mSeq, mExpr, mRet, mRetN, mIfS, mSet, mAug, mCall, mCons, mNil, mVar, mC, mOp, mUn, mApp, mTup, mLst, mNx, mRaise, mAnd, mOr, mNot, mIf, tstB, tstAnd, tstOr, tstNot, mChain, bind_ok, bind_err, bind_no, toS_ok, toS_err, nox_ok, fin_nx, fin_rt, fin_err, startL, List.map_cons, List.map_nil, List.length_cons, List.length_nil, List.cons_append, List.nil_append, List.getElem?_cons_zero, List.getElem?_cons_succ, List.set_cons_zero, List.set_cons_succ, List.replicate_succ, List.replicate_zero, Nat.zero_add, Nat.reduceAdd, Nat.reduceSub, Nat.add_one_sub_one, Nat.sub_self, if_true, if_false, ite_true, ite_false, Bool.false_eq_true, reduceCtorEq, if_pos, Nat.reduceEqDiff, Nat.reduceLeDiff, decide_true, decide_false, Bool.not_true, Bool.not_false]) (by simp only [mSeq, mExpr, mRet, mRetN, mIfS, mSet, mAug, mCall, mCons, mNil, mVar, mC, mOp, mUn, mApp, mTup, mLst, mNx, mRaise, mAnd, mOr, mNot, mIf, tstB, tstAnd, tstOr, tstNot, mChain, bind_ok, bind_err, bind_no, toS_ok, toS_err, nox_ok, fin_nx, fin_rt, fin_err, startL, List.map_cons, List.map_nil, List.length_cons, List.length_nil, List.cons_append, List.nil_append, List.getElem?_cons_zero, List.getElem?_cons_succ, List.set_cons_zero, List.set_cons_succ, List.replicate_succ, List.replicate_zero, Nat.zero_add, Nat.reduceAdd, Nat.reduceSub, Nat.add_one_sub_one, Nat.sub_self, if_true, if_false, ite_true, ite_false, Bool.false_eq_true, reduceCtorEq, if_pos, Nat.reduceEqDiff, Nat.reduceLeDiff, decide_true, decide_false, Bool.not_true, Bool.not_false, i0, i2, fD, ix0]) gR rfl (by rw [List.length_take]; omega)
        rw [take_put ndr er] at a2
        refine ⟨_, _, ?_, ⟨some (.int (0 + (m : Int))), rfl⟩, rfl⟩
        show mSeq _ _ _ _ = _
        rw [seq_nx a1, a2, hs']
        congr 1
        exact set4 hne) ⟨⟨none, rfl⟩, by
          show s = (s.set F (.dK [])).set R (.dK [])
          have e1 := (List.getElem?_eq_some_iff.mp hF).2
          have e2 := (List.getElem?_eq_some_iff.mp hR).2
          have : s.set F (.dK []) = s := by rw [← e1, List.set_getElem_self]
          rw [this]
          rw [← e2, List.set_getElem_self]⟩
  obtain ⟨l, s', e, h1, h2⟩ := key
  refine ⟨l, s', e, h1, ?_⟩
  rw [h2, rng_len, List.take_of_length_le (by omega), List.take_of_length_le (by omega)]
end
end Pr

set_option Elab.async false
set_option linter.all false
set_option maxRecDepth 100000
set_option maxHeartbeats 4000000
/-! a handler's run, for both -/
namespace Pr
open PySem PySem.Spec PyProof.Rows L2 Core
section
variable {fd : List (Str × Int × Int)} {kv : List (Key × D)} {E : En} {ks os hs : List D} {st e : D} {z : Str} {y : D} {n : Nat}
abbrev bHnd (K : Nat) : SM := (mIfS (tstB (mOp gEq (mOp gIx (mVar 11) (mC (.int 0))) (mVar 4)))
      (mExpr (mCall 3 (call K .law_run) (mCons (mOp gIx (mVar 11) (mC (.int 1))) (mCons (mVar 10) (mCons (mVar 8) mNil)))))
      mNx)
theorem get_off {s t : Mem} {i : Nat} : (s ++ t)[s.length + i]? = t[i]? := by
  rw [List.getElem?_append_right (by omega)]; congr 1; omega
theorem prog_side (ok : E.Ok) (K : KOf ks os n z y) (hk : ∀ d ∈ ks, ∃ x b c, d = .tup [.str x, b, c]) (hkl : ks.length ≤ 4) (T : KT y fd hs) (hn : E.num = (n : Int)) (hm : E.many = (os.length : Int)) (f : Fs fd kv) {name : Str} {ds new : List D} {kv' : List (Key × D)} {h1 h2 : List D} (hh : hs = h1 ++ .tup [.str name, .tup ds] :: h2) (a1 : ∀ y ∈ h1, ∃ x p, y = .tup [.str x, p] ∧ x ≠ name)
    {e0 : D} (e : Efs fd E kv 16 2 ds kv' new) (k : Nat) (s : Mem) (hK : 24 ≤ k) : ∃ S s', call k .run_handler [.tup [.tup ks, .tup os, st, e0], .int E.num, .tup (kv.map (·.2)), .int E.time, .str name, .int E.arg] s = .ok (.tup [.tup (kv'.map (·.2)), .ref S]) s' ∧ s'[S]? = some (.lst new) ∧ s.length ≤ S ∧ Ex s s' := by
  obtain ⟨k, rfl⟩ : ∃ j, k = j + 1 + 1 := ⟨k - 2, by omega⟩
  obtain ⟨zz, hy⟩ := T.is
  obtain ⟨t1, c1⟩ := c_kind_of (s := s) (k := k) (st := st) (e := e0) K hk hkl
  rw [← hn] at c1
  have c2 : call (k + 1) .find_program [y, .str name] (s ++ t1) = .ok (.tup ds) (s ++ t1) := by rw [hy, hh]; exact c_find_at a1
  have c3 := c_Run_init (s := s ++ t1) (k := k) (E := E) T.nd (by have := T.len; omega) f
  obtain ⟨s3, hs3⟩ : ∃ s3 : Mem, s3 = s ++ t1 ++ [runOb ((s ++ t1).length + 1) ((s ++ t1).length + 2) ((s ++ t1).length + 3) E, .dK (rg fd), .dK kv, .lst []] := ⟨_, rfl⟩
  rw [← hs3] at c3
  have p3 : PSt s3 (s ++ t1).length ((s ++ t1).length + 1) ((s ++ t1).length + 2) ((s ++ t1).length + 3) E fd kv [] := by
    rw [hs3]
    exact ⟨get_mid, get_off.trans rfl, get_off.trans rfl, get_off.trans rfl, by omega⟩
  obtain ⟨o2, s4, q4, p4, g4⟩ := e.P k s3 _ _ _ _ [] (some (.tup ds)) none (by omega) p3 (by have := e.len; simp; omega)
  have c4 : call (k + 1) .Run_program [.ref (s ++ t1).length, .tup ds] s3 = .ok .non s4 := by
    show Core.fin (mFor (iSeq (mVar 1)) (gmName 2) (bPrg k) [some (.ref (s ++ t1).length), some (.tup ds), none] s3) = _
    rw [for_tup (ds := ds) (s1 := s3) rfl, q4]
    rfl
  have c5 := c_Run_state (k := k) T.nd (by have := T.len; omega) e.fs p4
  rw [List.nil_append] at p4
  have lk1 : ([(("ranges" : Str), D.ref ((s ++ t1).length + 1)), ("held", .ref ((s ++ t1).length + 2)), ("objects", .int E.many), ("number", .int E.num), ("time", .int E.time), ("arg", .int E.arg), ("sends", .ref ((s ++ t1).length + 3))] : List (Str × D)).lookup ("program" : Str) = none := by rfl
  have lk2 : ([(("ranges" : Str), D.ref ((s ++ t1).length + 1)), ("held", .ref ((s ++ t1).length + 2)), ("objects", .int E.many), ("number", .int E.num), ("time", .int E.time), ("arg", .int E.arg), ("sends", .ref ((s ++ t1).length + 3))] : List (Str × D)).lookup ("state" : Str) = none := by rfl
  have h3 := p3.run
  have h4 := p4.run
  have e6 := look_run (app_keep (t := [Ob.lst (kv'.map (·.2))]) p4.run) (f := "sends") rfl
  have r3 : s.length ≤ (s ++ t1).length := by simp
  refine ⟨(s ++ t1).length + 3, s4 ++ [.lst (kv'.map (·.2))], ?_, app_keep p4.snd, by omega, ?_⟩
  · show Core.fin (m_run_handler (call (k + 1)) [some (.tup [.tup ks, .tup os, st, e0]), some (.int E.num), some (.tup (kv.map (·.2))), some (.int E.time), some (.str name), some (.int E.arg), none, none, none] s) = _
    have iy : ∀ s : Mem, gIx y (.int 1) s = .ok (.tup (fd.map fD)) s := fun s => by rw [hy]; rfl
    have ln : ∀ s : Mem, gLen [.tup os] s = .ok (.int E.many) s := fun s => by rw [hm]; rfl
    unfold runOb at h3 h4
    unfold m_run_handler
    simp only [mSeq, mExpr, mRet, mRetN, mIfS, mSet, mAug, mCall, mCons, mNil, mVar, mC, mOp, mUn, mApp, mTup, mLst, mNx, mRaise, mAnd, mOr, mNot, mIf, tstB, tstAnd, tstOr, tstNot, mChain, bind_ok, bind_err, bind_no, toS_ok, toS_err, nox_ok, fin_nx, fin_rt, fin_err, startL, List.map_cons, List.map_nil, List.length_cons, List.length_nil, List.cons_append, List.nil_append, List.getElem?_cons_zero, List.getElem?_cons_succ, List.set_cons_zero, List.set_cons_succ, List.replicate_succ, List.replicate_zero, Nat.zero_add, Nat.reduceAdd, Nat.reduceSub, Nat.add_one_sub_one, Nat.sub_self, if_true, if_false, ite_true, ite_false, Bool.false_eq_true, reduceCtorEq, if_pos, Nat.reduceEqDiff, Nat.reduceLeDiff, decide_true, decide_false, Bool.not_true, Bool.not_false, c1, c2, gIsN, iy, ix1, ln, mMake, c3, mMethC, h3, lk1, and_self, c4, h4, lk2, c5, e6]
  · have g : Gt2 ((s ++ t1).length + 2) ((s ++ t1).length + 3) (s ++ (t1 ++ [runOb ((s ++ t1).length + 1) ((s ++ t1).length + 2) ((s ++ t1).length + 3) E, .dK (rg fd), .dK kv, .lst []])) s4 := by rw [← List.append_assoc, ← hs3]; exact g4
    exact (Ex.of2 g (by omega) (by omega)).trans Ex.app
theorem prog_none (K : KOf ks os n z y) (hk : ∀ d ∈ ks, ∃ x b c, d = .tup [.str x, b, c]) (hkl : ks.length ≤ 4) (T : KT y fd hs) (hn : E.num = (n : Int)) {name : Str} (a1 : ∀ y ∈ hs, ∃ x p, y = .tup [.str x, p] ∧ x ≠ name) {e0 : D}
    (k : Nat) (s : Mem) (hK : 24 ≤ k) : ∃ S s', call k .run_handler [.tup [.tup ks, .tup os, st, e0], .int E.num, .tup (kv.map (·.2)), .int E.time, .str name, .int E.arg] s = .ok (.tup [.tup (kv.map (·.2)), .ref S]) s' ∧ s'[S]? = some (.lst []) ∧ s.length ≤ S ∧ Ex s s' := by
  obtain ⟨k, rfl⟩ : ∃ j, k = j + 1 + 1 := ⟨k - 2, by omega⟩
  obtain ⟨zz, hy⟩ := T.is
  obtain ⟨t1, c1⟩ := c_kind_of (s := s) (k := k) (st := st) (e := e0) K hk hkl
  rw [← hn] at c1
  have c2 : call (k + 1) .find_program [y, .str name] (s ++ t1) = .ok .non (s ++ t1) := by rw [hy]; exact c_find_none a1
  refine ⟨(s ++ t1).length, s ++ t1 ++ [.lst []], ?_, last_at, by simp, Ex.app.trans Ex.app⟩
  show Core.fin (m_run_handler (call (k + 1)) [some (.tup [.tup ks, .tup os, st, e0]), some (.int E.num), some (.tup (kv.map (·.2))), some (.int E.time), some (.str name), some (.int E.arg), none, none, none] s) = _
  unfold m_run_handler
  simp only [mSeq, mExpr, mRet, mRetN, mIfS, mSet, mAug, mCall, mCons, mNil, mVar, mC, mOp, mUn, mApp, mTup, mLst, mNx, mRaise, mAnd, mOr, mNot, mIf, tstB, tstAnd, tstOr, tstNot, mChain, bind_ok, bind_err, bind_no, toS_ok, toS_err, nox_ok, fin_nx, fin_rt, fin_err, startL, List.map_cons, List.map_nil, List.length_cons, List.length_nil, List.cons_append, List.nil_append, List.getElem?_cons_zero, List.getElem?_cons_succ, List.set_cons_zero, List.set_cons_succ, List.replicate_succ, List.replicate_zero, Nat.zero_add, Nat.reduceAdd, Nat.reduceSub, Nat.add_one_sub_one, Nat.sub_self, if_true, if_false, ite_true, ite_false, Bool.false_eq_true, reduceCtorEq, if_pos, Nat.reduceEqDiff, Nat.reduceLeDiff, decide_true, decide_false, Bool.not_true, Bool.not_false, c1, c2, gIsN]
/-- the law's side: what its loop over the handlers leaves -/
theorem law_side (K : KOf ks os n z y) (hk : ∀ d ∈ ks, ∃ x b c, d = .tup [.str x, b, c]) (hkl : ks.length ≤ 4) (T : KT y fd hs) (hn : E.num = (n : Int)) (hm : E.many = (os.length : Int)) (f : Fs fd kv) {name : Str} {new : List D} {kv' : List (Key × D)} {e0 : D} (f' : Fs fd kv') (k : Nat)
    (lp : ∀ (s : Mem) (M A1 A2 A3 o9 : Option D) (F fl R S : Nat), LSt s F fl R S E fd kv [] → ∃ o11 s', loopS (fun _ => true) (gmName 11) (bHnd (k + 1)) hs [M, A1, A2, A3, some (.str name), some (.int E.arg), some y, some (.ref fl), some (.ref R), o9, some (.ref F), none, none] s = .nx [M, A1, A2, A3, some (.str name), some (.int E.arg), some y, some (.ref fl), some (.ref R), o9, some (.ref F), o11, none] s' ∧ LSt s' F fl R S E fd kv' new ∧ Gt2 fl S s s')
    (s : Mem) : ∃ S s', call (k + 2) .law_happen [.tup [.tup ks, .tup os, st, e0], .int E.num, .tup (kv.map (·.2)), .int E.time, .str name, .int E.arg] s = .ok (.tup [.tup (kv'.map (·.2)), .ref S]) s' ∧ s'[S]? = some (.lst new) ∧ s.length ≤ S ∧ Ex s s' := by
  obtain ⟨zz, hy⟩ := T.is
  obtain ⟨t1, c1⟩ := c_law_kind_of (s := s) (k := k) (st := st) (e := e0) K hk hkl
  rw [← hn] at c1
  obtain ⟨M, hM⟩ : ∃ M : D, M = .tup [.tup ks, .tup os, st, e0] := ⟨_, rfl⟩
  obtain ⟨A2, hA⟩ : ∃ A : D, A = .tup (kv.map (·.2)) := ⟨_, rfl⟩
  have tl := T.len
  have s1l : s.length ≤ (s ++ t1).length := by simp
  obtain ⟨s1, hs1⟩ : ∃ s1, s1 = s ++ t1 := ⟨_, rfl⟩
  rw [← hs1] at c1 s1l
  obtain ⟨F, hF⟩ : ∃ F, F = s1.length := ⟨_, rfl⟩
  have g1 : (s1 ++ [Ob.dK []] ++ [Ob.dK []])[F]? = some (.dK []) := by rw [hF]; simp
  have g2 : (s1 ++ [Ob.dK []] ++ [Ob.dK []])[F + 1]? = some (.dK []) := by rw [hF]; simp
  obtain ⟨l3, s3, q3, ⟨o9, rfl⟩, hs3⟩ := loop_flds (M := M) (A1 := .int E.num) (A2 := A2) (A3 := .int E.time) (A4 := .str name) (A5 := .int E.arg) (KD := y) hy hA f T.nd (by omega) (F := F) (R := F + 1) (by omega) (o10 := none) (o11 := none) (o12 := none) g1 g2
  have e3 : s3 = s1 ++ [.dK kv, .dK (rg fd)] := by
    rw [hs3, List.append_assoc, hF]
    show ((s1 ++ Ob.dK [] :: [Ob.dK []]).set s1.length (Ob.dK kv)).set (s1.length + 1) _ = _
    rw [set_mid]
    simp
  obtain ⟨s4, hs4⟩ : ∃ s4 : Mem, s4 = s1 ++ [.dK kv, .dK (rg fd), factOb F (F + 3) E, .lst []] := ⟨_, rfl⟩
  have L4 : LSt s4 (F + 2) F (F + 1) (F + 3) E fd kv [] := by
    rw [hs4, hF]
    exact ⟨by simp, by simp, by simp, by simp, by omega, by omega⟩
  obtain ⟨o11, s5, q5, L5, g5⟩ := lp s4 (some M) (some (.int E.num)) (some A2) (some (.int E.time)) o9 _ _ _ _ L4
  -- the values
  have lc := lc_map (s := s5) (ok := fun _ => true) (g := gmName 12) (vs := [12]) (l := [some M, some (.int E.num), some A2, some (.int E.time), some (.str name), some (.int E.arg), some y, some (.ref F), some (.ref (F + 1)), o9, some (.ref (F + 2)), o11, none]) (me := mOp gIxA (mVar 7) (mOp gIx (mVar 12) (mC (.int 0)))) (F := fun d => match d with | .tup (.str x :: _) => (getK kv' (.inr x)).getD .non | _ => .non) (fd.map fD) [] (fun _ => rfl) (fun d hd' => by
    obtain ⟨⟨x, lo, hi⟩, hx, rfl⟩ := List.mem_map.mp hd'
    obtain ⟨v, hv, _⟩ := f'.get (List.mem_map.mpr ⟨_, hx, rfl⟩)
    refine ⟨[some M, some (.int E.num), some A2, some (.int E.time), some (.str name), some (.int E.arg), some y, some (.ref F), some (.ref (F + 1)), o9, some (.ref (F + 2)), o11, some (fD (x, lo, hi))], rfl, fun u => ?_⟩
    have e2 : gIxA (.ref F) (.str x) (s5 ++ [u]) = .ok (.int v) (s5 ++ [u]) := ixa_dk (y := .str x) (app_keep (t := [u]) L5.flds) rfl hv
    simp only [mSeq, mExpr, mRet, mRetN, mIfS, mSet, mAug, mCall, mCons, mNil, mVar, mC, mOp, mUn, mApp, mTup, mLst, mNx, mRaise, mAnd, mOr, mNot, mIf, tstB, tstAnd, tstOr, tstNot, mChain, bind_ok, bind_err, bind_no, toS_ok, toS_err, nox_ok, fin_nx, fin_rt, fin_err, startL, List.map_cons, List.map_nil, List.length_cons, List.length_nil, List.cons_append, List.nil_append, List.getElem?_cons_zero, List.getElem?_cons_succ, List.set_cons_zero, List.set_cons_succ, List.replicate_succ, List.replicate_zero, Nat.zero_add, Nat.reduceAdd, Nat.reduceSub, Nat.add_one_sub_one, Nat.sub_self, if_true, if_false, ite_true, ite_false, Bool.false_eq_true, reduceCtorEq, if_pos, Nat.reduceEqDiff, Nat.reduceLeDiff, decide_true, decide_false, Bool.not_true, Bool.not_false, fD, ix0, e2, hv, Option.getD_some]) (by rw [List.length_nil, List.length_map]; omega)
  rw [List.nil_append] at lc
  have vals : (fd.map fD).map (fun d => match d with | .tup (.str x :: _) => (getK kv' (.inr x)).getD .non | _ => .non) = kv'.map (·.2) := by
    rw [List.map_map, ← f'.vals T.nd, List.map_map]; rfl
  rw [vals] at lc
  have iy : ∀ s : Mem, gIx y (.int 1) s = .ok (.tup (fd.map fD)) s := fun s => by rw [hy]; rfl
  have iy2 : ∀ s : Mem, gIx y (.int 2) s = .ok (.tup hs) s := fun s => by rw [hy]; rfl
  have e6 : mLc (iSeq (mOp gIx (mVar 6) (mC (.int 1)))) (gmName 12) [12] tYes' (mOp gIxA (mVar 7) (mOp gIx (mVar 12) (mC (.int 0)))) [some M, some (.int E.num), some A2, some (.int E.time), some (.str name), some (.int E.arg), some y, some (.ref F), some (.ref (F + 1)), o9, some (.ref (F + 2)), o11, none] s5 = .ok (.ref s5.length) (s5 ++ [.lst (kv'.map (·.2))]) := (lc_tup (s1 := s5) (by simp only [mSeq, mExpr, mRet, mRetN, mIfS, mSet, mAug, mCall, mCons, mNil, mVar, mC, mOp, mUn, mApp, mTup, mLst, mNx, mRaise, mAnd, mOr, mNot, mIf, tstB, tstAnd, tstOr, tstNot, mChain, bind_ok, bind_err, bind_no, toS_ok, toS_err, nox_ok, fin_nx, fin_rt, fin_err, startL, List.map_cons, List.map_nil, List.length_cons, List.length_nil, List.cons_append, List.nil_append, List.getElem?_cons_zero, List.getElem?_cons_succ, List.set_cons_zero, List.set_cons_succ, List.replicate_succ, List.replicate_zero, Nat.zero_add, Nat.reduceAdd, Nat.reduceSub, Nat.add_one_sub_one, Nat.sub_self, if_true, if_false, ite_true, ite_false, Bool.false_eq_true, reduceCtorEq, if_pos, Nat.reduceEqDiff, Nat.reduceLeDiff, decide_true, decide_false, Bool.not_true, Bool.not_false, iy])).trans lc
  have e7 := ixa_fact (app_keep (t := [Ob.lst (kv'.map (·.2))]) L5.fact) (x := "sends") rfl
  refine ⟨F + 3, s5 ++ [.lst (kv'.map (·.2))], ?_, app_keep L5.snd, by omega, ?_⟩
  · rw [← hA, ← hM]
    rw [← hM] at c1
    show Core.fin (m_law_happen (call (k + 1)) [some M, some (.int E.num), some A2, some (.int E.time), some (.str name), some (.int E.arg), none, none, none, none, none, none, none] s) = _
    have ln : ∀ s : Mem, gLen [.tup (fd.map fD)] s = .ok (.int (fd.length : Nat)) s := fun s => by
      show Core.R.ok (D.int ((fd.map fD).length : Nat)) s = _
      rw [List.length_map]
    have ln2 : ∀ s : Mem, gLen [.tup os] s = .ok (.int E.many) s := fun s => by rw [hm]; rfl
    have iM : ∀ s : Mem, gIx M (.int 1) s = .ok (.tup os) s := fun s => by rw [hM]; rfl
    unfold m_law_happen
    rw [seq_nx (l1 := [some M, some (.int E.num), some A2, some (.int E.time), some (.str name), some (.int E.arg), some y, none, none, none, none, none, none]) (s1 := s1) (by simp only [mSeq, mExpr, mRet, mRetN, mIfS, mSet, mAug, mCall, mCons, mNil, mVar, mC, mOp, mUn, mApp, mTup, mLst, mNx, mRaise, mAnd, mOr, mNot, mIf, tstB, tstAnd, tstOr, tstNot, mChain, bind_ok, bind_err, bind_no, toS_ok, toS_err, nox_ok, fin_nx, fin_rt, fin_err, startL, List.map_cons, List.map_nil, List.length_cons, List.length_nil, List.cons_append, List.nil_append, List.getElem?_cons_zero, List.getElem?_cons_succ, List.set_cons_zero, List.set_cons_succ, List.replicate_succ, List.replicate_zero, Nat.zero_add, Nat.reduceAdd, Nat.reduceSub, Nat.add_one_sub_one, Nat.sub_self, if_true, if_false, ite_true, ite_false, Bool.false_eq_true, reduceCtorEq, if_pos, Nat.reduceEqDiff, Nat.reduceLeDiff, decide_true, decide_false, Bool.not_true, Bool.not_false, c1]),
      seq_nx (l1 := [some M, some (.int E.num), some A2, some (.int E.time), some (.str name), some (.int E.arg), some y, some (.ref F), none, none, none, none, none]) (s1 := s1 ++ [Ob.dK []]) (by simp only [mSeq, mExpr, mRet, mRetN, mIfS, mSet, mAug, mCall, mCons, mNil, mVar, mC, mOp, mUn, mApp, mTup, mLst, mNx, mRaise, mAnd, mOr, mNot, mIf, tstB, tstAnd, tstOr, tstNot, mChain, bind_ok, bind_err, bind_no, toS_ok, toS_err, nox_ok, fin_nx, fin_rt, fin_err, startL, List.map_cons, List.map_nil, List.length_cons, List.length_nil, List.cons_append, List.nil_append, List.getElem?_cons_zero, List.getElem?_cons_succ, List.set_cons_zero, List.set_cons_succ, List.replicate_succ, List.replicate_zero, Nat.zero_add, Nat.reduceAdd, Nat.reduceSub, Nat.add_one_sub_one, Nat.sub_self, if_true, if_false, ite_true, ite_false, Bool.false_eq_true, reduceCtorEq, if_pos, Nat.reduceEqDiff, Nat.reduceLeDiff, decide_true, decide_false, Bool.not_true, Bool.not_false, mDNew, hF]),
      seq_nx (l1 := [some M, some (.int E.num), some A2, some (.int E.time), some (.str name), some (.int E.arg), some y, some (.ref F), some (.ref (F + 1)), none, none, none, none]) (s1 := s1 ++ [Ob.dK []] ++ [Ob.dK []]) (by simp only [mSeq, mExpr, mRet, mRetN, mIfS, mSet, mAug, mCall, mCons, mNil, mVar, mC, mOp, mUn, mApp, mTup, mLst, mNx, mRaise, mAnd, mOr, mNot, mIf, tstB, tstAnd, tstOr, tstNot, mChain, bind_ok, bind_err, bind_no, toS_ok, toS_err, nox_ok, fin_nx, fin_rt, fin_err, startL, List.map_cons, List.map_nil, List.length_cons, List.length_nil, List.cons_append, List.nil_append, List.getElem?_cons_zero, List.getElem?_cons_succ, List.set_cons_zero, List.set_cons_succ, List.replicate_succ, List.replicate_zero, Nat.zero_add, Nat.reduceAdd, Nat.reduceSub, Nat.add_one_sub_one, Nat.sub_self, if_true, if_false, ite_true, ite_false, Bool.false_eq_true, reduceCtorEq, if_pos, Nat.reduceEqDiff, Nat.reduceLeDiff, decide_true, decide_false, Bool.not_true, Bool.not_false, mDNew, hF, List.length_append]),
      seq_nx ((rng1 (s1 := s1 ++ [Ob.dK []] ++ [Ob.dK []]) (j := (fd.length : Nat)) (by simp only [mSeq, mExpr, mRet, mRetN, mIfS, mSet, mAug, mCall, mCons, mNil, mVar, mC, mOp, mUn, mApp, mTup, mLst, mNx, mRaise, mAnd, mOr, mNot, mIf, tstB, tstAnd, tstOr, tstNot, mChain, bind_ok, bind_err, bind_no, toS_ok, toS_err, nox_ok, fin_nx, fin_rt, fin_err, startL, List.map_cons, List.map_nil, List.length_cons, List.length_nil, List.cons_append, List.nil_append, List.getElem?_cons_zero, List.getElem?_cons_succ, List.set_cons_zero, List.set_cons_succ, List.replicate_succ, List.replicate_zero, Nat.zero_add, Nat.reduceAdd, Nat.reduceSub, Nat.add_one_sub_one, Nat.sub_self, if_true, if_false, ite_true, ite_false, Bool.false_eq_true, reduceCtorEq, if_pos, Nat.reduceEqDiff, Nat.reduceLeDiff, decide_true, decide_false, Bool.not_true, Bool.not_false, iy, ln]) (by omega) (by omega)).trans q3)]
    have e4 : mDisp [((mC (.str "fields")), (mVar 7)), ((mC (.str "now")), (mVar 3)), ((mC (.str "arg")), (mVar 5)), ((mC (.str "self")), (mVar 1)), ((mC (.str "many")), (mApp gLen (mCons (mOp gIx (mVar 0) (mC (.int 1))) mNil))), ((mC (.str "sends")), (mLst mNil))] [some M, some (.int E.num), some A2, some (.int E.time), some (.str name), some (.int E.arg), some y, some (.ref F), some (.ref (F + 1)), o9, none, none, none] s3 = .ok (.ref (F + 2)) s4 := by
      have l3 : s3.length = F + 2 := by rw [e3, hF]; simp
      unfold mDisp
      simp only [mSeq, mExpr, mRet, mRetN, mIfS, mSet, mAug, mCall, mCons, mNil, mVar, mC, mOp, mUn, mApp, mTup, mLst, mNx, mRaise, mAnd, mOr, mNot, mIf, tstB, tstAnd, tstOr, tstNot, mChain, bind_ok, bind_err, bind_no, toS_ok, toS_err, nox_ok, fin_nx, fin_rt, fin_err, startL, List.map_cons, List.map_nil, List.length_cons, List.length_nil, List.cons_append, List.nil_append, List.getElem?_cons_zero, List.getElem?_cons_succ, List.set_cons_zero, List.set_cons_succ, List.replicate_succ, List.replicate_zero, Nat.zero_add, Nat.reduceAdd, Nat.reduceSub, Nat.add_one_sub_one, Nat.sub_self, if_true, if_false, ite_true, ite_false, Bool.false_eq_true, reduceCtorEq, if_pos, Nat.reduceEqDiff, Nat.reduceLeDiff, decide_true, decide_false, Bool.not_true, Bool.not_false, mPairs, iM, ln2, l3]
      have g : (s3 ++ [Ob.dK []] ++ [Ob.lst []])[F + 2]? = some (.dK []) := by rw [← l3]; simp
      have l4 : (s3 ++ [Ob.dK []]).length = F + 3 := by simp [l3]
      rw [l4, g]
      have kd : keysD [(.str "fields", .ref F), (.str "now", .int E.time), (.str "arg", .int E.arg), (.str "self", .int E.num), (.str "many", .int E.many), (.str "sends", .ref (F + 3))] = some [(.inr "fields", .ref F), (.inr "now", .int E.time), (.inr "arg", .int E.arg), (.inr "self", .int E.num), (.inr "many", .int E.many), (.inr "sends", .ref (F + 3))] := by rfl
      rw [kd]
      simp only [mSeq, mExpr, mRet, mRetN, mIfS, mSet, mAug, mCall, mCons, mNil, mVar, mC, mOp, mUn, mApp, mTup, mLst, mNx, mRaise, mAnd, mOr, mNot, mIf, tstB, tstAnd, tstOr, tstNot, mChain, bind_ok, bind_err, bind_no, toS_ok, toS_err, nox_ok, fin_nx, fin_rt, fin_err, startL, List.map_cons, List.map_nil, List.length_cons, List.length_nil, List.cons_append, List.nil_append, List.getElem?_cons_zero, List.getElem?_cons_succ, List.set_cons_zero, List.set_cons_succ, List.replicate_succ, List.replicate_zero, Nat.zero_add, Nat.reduceAdd, Nat.reduceSub, Nat.add_one_sub_one, Nat.sub_self, if_true, if_false, ite_true, ite_false, Bool.false_eq_true, reduceCtorEq, if_pos, Nat.reduceEqDiff, Nat.reduceLeDiff, decide_true, decide_false, Bool.not_true, Bool.not_false]
      have mg : mergeKD [] [(.inr "fields", .ref F), (.inr "now", .int E.time), (.inr "arg", .int E.arg), (.inr "self", .int E.num), (.inr "many", .int E.many), (.inr "sends", .ref (F + 3))] = [(.inr "fields", .ref F), (.inr "now", .int E.time), (.inr "arg", .int E.arg), (.inr "self", .int E.num), (.inr "many", .int E.many), (.inr "sends", .ref (F + 3))] := by rfl
      rw [mg, hs4, e3]
      congr 1
      rw [hF]
      simp [factOb]
    rw [seq_nx (l1 := [some M, some (.int E.num), some A2, some (.int E.time), some (.str name), some (.int E.arg), some y, some (.ref F), some (.ref (F + 1)), o9, some (.ref (F + 2)), none, none]) (s1 := s4) (by unfold mSet; rw [e4]; rfl),
      seq_nx ((for_tup (ds := hs) (s1 := s4) (by simp only [mSeq, mExpr, mRet, mRetN, mIfS, mSet, mAug, mCall, mCons, mNil, mVar, mC, mOp, mUn, mApp, mTup, mLst, mNx, mRaise, mAnd, mOr, mNot, mIf, tstB, tstAnd, tstOr, tstNot, mChain, bind_ok, bind_err, bind_no, toS_ok, toS_err, nox_ok, fin_nx, fin_rt, fin_err, startL, List.map_cons, List.map_nil, List.length_cons, List.length_nil, List.cons_append, List.nil_append, List.getElem?_cons_zero, List.getElem?_cons_succ, List.set_cons_zero, List.set_cons_succ, List.replicate_succ, List.replicate_zero, Nat.zero_add, Nat.reduceAdd, Nat.reduceSub, Nat.add_one_sub_one, Nat.sub_self, if_true, if_false, ite_true, ite_false, Bool.false_eq_true, reduceCtorEq, if_pos, Nat.reduceEqDiff, Nat.reduceLeDiff, decide_true, decide_false, Bool.not_true, Bool.not_false, iy2])).trans q5)]
    simp only [mSeq, mExpr, mRet, mRetN, mIfS, mSet, mAug, mCall, mCons, mNil, mVar, mC, mOp, mUn, mApp, mTup, mLst, mNx, mRaise, mAnd, mOr, mNot, mIf, tstB, tstAnd, tstOr, tstNot, mChain, bind_ok, bind_err, bind_no, toS_ok, toS_err, nox_ok, fin_nx, fin_rt, fin_err, startL, List.map_cons, List.map_nil, List.length_cons, List.length_nil, List.cons_append, List.nil_append, List.getElem?_cons_zero, List.getElem?_cons_succ, List.set_cons_zero, List.set_cons_succ, List.replicate_succ, List.replicate_zero, Nat.zero_add, Nat.reduceAdd, Nat.reduceSub, Nat.add_one_sub_one, Nat.sub_self, if_true, if_false, ite_true, ite_false, Bool.false_eq_true, reduceCtorEq, if_pos, Nat.reduceEqDiff, Nat.reduceLeDiff, decide_true, decide_false, Bool.not_true, Bool.not_false, e6, tup_lst last_at, e7]
  · have g : Gt2 F (F + 3) (s ++ (t1 ++ [.dK kv, .dK (rg fd), factOb F (F + 3) E, .lst []])) s5 := by
      rw [← List.append_assoc, ← hs1, ← hs4]; exact g5
    exact (Ex.of2 g (by omega) (by omega)).trans Ex.app
end
end Pr

set_option Elab.async false
set_option linter.all false
set_option maxRecDepth 100000
set_option maxHeartbeats 4000000
/-! a handler's run, for both: together -/
namespace Pr
open PySem PySem.Spec PyProof.Rows L2 Core
section
variable {fd : List (Str × Int × Int)} {kv : List (Key × D)} {E : En} {ks os hs : List D} {st e0 : D} {z : Str} {y : D} {n : Nat}
theorem hnd_skip {K : Nat} {hs rest : List D} {name : Str} (h : ∀ y ∈ hs, ∃ x p, y = .tup [.str x, p] ∧ x ≠ name) {s : Mem} {M A1 A2 A3 A5 A6 A7 A8 A9 A10 o11 : Option D} :
    ∃ l2, (∃ o11', l2 = [M, A1, A2, A3, some (.str name), A5, A6, A7, A8, A9, A10, o11', none]) ∧ loopS (fun _ => true) (gmName 11) (bHnd K) (hs ++ rest) [M, A1, A2, A3, some (.str name), A5, A6, A7, A8, A9, A10, o11, none] s = loopS (fun _ => true) (gmName 11) (bHnd K) rest l2 s :=
  loop_skip (Lk := fun l => ∃ o11', l = [M, A1, A2, A3, some (.str name), A5, A6, A7, A8, A9, A10, o11', none]) hs _ (fun y hy l ⟨o, hl⟩ => by
    subst hl
    obtain ⟨x, p, rfl, hx⟩ := h y hy
    refine ⟨[M, A1, A2, A3, some (.str name), A5, A6, A7, A8, A9, A10, some (.tup [.str x, p]), none], [M, A1, A2, A3, some (.str name), A5, A6, A7, A8, A9, A10, some (.tup [.str x, p]), none], rfl, ?_, ⟨some (.tup [.str x, p]), rfl⟩⟩
    simp only [mSeq, mExpr, mRet, mRetN, mIfS, mSet, mAug, mCall, mCons, mNil, mVar, mC, mOp, mUn, mApp, mTup, mLst, mNx, mRaise, mAnd, mOr, mNot, mIf, tstB, tstAnd, tstOr, tstNot, mChain, bind_ok, bind_err, bind_no, toS_ok, toS_err, nox_ok, fin_nx, fin_rt, fin_err, startL, List.map_cons, List.map_nil, List.length_cons, List.length_nil, List.cons_append, List.nil_append, List.getElem?_cons_zero, List.getElem?_cons_succ, List.set_cons_zero, List.set_cons_succ, List.replicate_succ, List.replicate_zero, Nat.zero_add, Nat.reduceAdd, Nat.reduceSub, Nat.add_one_sub_one, Nat.sub_self, if_true, if_false, ite_true, ite_false, Bool.false_eq_true, reduceCtorEq, if_pos, Nat.reduceEqDiff, Nat.reduceLeDiff, decide_true, decide_false, Bool.not_true, Bool.not_false, ix0, gEq, gEqB, show (x == name) = false from beq_eq_false_iff_ne.mpr hx]) ⟨o11, rfl⟩
theorem hap_two (ok : E.Ok) (K : KOf ks os n z y) (hk : ∀ d ∈ ks, ∃ x b c, d = .tup [.str x, b, c]) (hkl : ks.length ≤ 4) (T : KT y fd hs) (hn : E.num = (n : Int)) (hm : E.many = (os.length : Int)) (f : Fs fd kv) (name : Str) : ∃ kv' new, Hp2 (.tup [.tup ks, .tup os, st, e0]) fd kv E name kv' new := by
  obtain ⟨i, _, _, tw⟩ := T.hnd
  have tl := T.len
  rcases hnd_split tw (hN_nodup i) name with a1 | ⟨h1, h2, p, rfl, hp, a1, a2⟩
  · refine ⟨kv, [], f, by simp, all_nil, fun _ => rfl, fun k s hK => prog_none K hk hkl T hn a1 k s hK, fun k s hK => ?_⟩
    obtain ⟨k, rfl⟩ : ∃ j, k = j + 2 := ⟨k - 2, by omega⟩
    refine law_side K hk hkl T hn hm f f k (fun s M A1 A2 A3 o9 F fl R S L => ?_) s
    obtain ⟨l2, ⟨o11, rfl⟩, q⟩ := hnd_skip (K := k + 1) (rest := []) a1 (s := s) (M := M) (A1 := A1) (A2 := A2) (A3 := A3) (A5 := some (.int E.arg)) (A6 := some y) (A7 := some (.ref fl)) (A8 := some (.ref R)) (A9 := o9) (A10 := some (.ref F)) (o11 := none)
    rw [List.append_nil] at q
    exact ⟨o11, s, q.trans rfl, L, .refl⟩
  · obtain ⟨ds, kv', new, rfl, e, g⟩ := prg_two ok T.nd (by omega) hp f
    refine ⟨kv', new, e.fs, e.len, e.all, g, fun k s hK => prog_side ok K hk hkl T hn hm f rfl a1 e k s hK, fun k s hK => ?_⟩
    obtain ⟨k, rfl⟩ : ∃ j, k = j + 2 := ⟨k - 2, by omega⟩
    refine law_side K hk hkl T hn hm f e.fs k (fun s M A1 A2 A3 o9 F fl R S L => ?_) s
    obtain ⟨l2, ⟨o11, rfl⟩, q⟩ := hnd_skip (K := k + 1) (rest := .tup [.str name, .tup ds] :: h2) a1 (s := s) (M := M) (A1 := A1) (A2 := A2) (A3 := A3) (A5 := some (.int E.arg)) (A6 := some y) (A7 := some (.ref fl)) (A8 := some (.ref R)) (A9 := o9) (A10 := some (.ref F)) (o11 := none)
    obtain ⟨c3, c4, c5, c6, s', q2, L2, g2⟩ := e.L k s F fl R S [] (some (.tup ds)) none none none none (by omega) L (by have := e.len; simp; omega)
    rw [List.nil_append] at L2
    have cr : call (k + 1) .law_run [.tup ds, .ref F, .ref R] s = .ok .non s' := by
      show Core.fin (mFor (iSeq (mVar 0)) (gmName 3) (bRun k) [some (.tup ds), some (.ref F), some (.ref R), none, none, none, none] s) = _
      rw [for_tup (ds := ds) (s1 := s) rfl, q2]
      rfl
    obtain ⟨l3, ⟨o11', rfl⟩, q3⟩ := hnd_skip (K := k + 1) (rest := []) a2 (s := s') (M := M) (A1 := A1) (A2 := A2) (A3 := A3) (A5 := some (.int E.arg)) (A6 := some y) (A7 := some (.ref fl)) (A8 := some (.ref R)) (A9 := o9) (A10 := some (.ref F)) (o11 := some (.tup [.str name, .tup ds]))
    rw [List.append_nil] at q3
    refine ⟨o11', s', q.trans ?_, L2, g2⟩
    have b : bHnd (k + 1) [M, A1, A2, A3, some (.str name), some (.int E.arg), some y, some (.ref fl), some (.ref R), o9, some (.ref F), some (.tup [.str name, .tup ds]), none] s = .nx [M, A1, A2, A3, some (.str name), some (.int E.arg), some y, some (.ref fl), some (.ref R), o9, some (.ref F), some (.tup [.str name, .tup ds]), none] s' := by
      simp only [mSeq, mExpr, mRet, mRetN, mIfS, mSet, mAug, mCall, mCons, mNil, mVar, mC, mOp, mUn, mApp, mTup, mLst, mNx, mRaise, mAnd, mOr, mNot, mIf, tstB, tstAnd, tstOr, tstNot, mChain, bind_ok, bind_err, bind_no, toS_ok, toS_err, nox_ok, fin_nx, fin_rt, fin_err, startL, List.map_cons, List.map_nil, List.length_cons, List.length_nil, List.cons_append, List.nil_append, List.getElem?_cons_zero, List.getElem?_cons_succ, List.set_cons_zero, List.set_cons_succ, List.replicate_succ, List.replicate_zero, Nat.zero_add, Nat.reduceAdd, Nat.reduceSub, Nat.add_one_sub_one, Nat.sub_self, if_true, if_false, ite_true, ite_false, Bool.false_eq_true, reduceCtorEq, if_pos, Nat.reduceEqDiff, Nat.reduceLeDiff, decide_true, decide_false, Bool.not_true, Bool.not_false, ix0, ix1, gEq, gEqB, beq_self_eq_true, cr]
    unfold loopS
    rw [if_pos rfl]
    dsimp only [gmName]
    rw [show ([M, A1, A2, A3, some (.str name), some (.int E.arg), some y, some (.ref fl), some (.ref R), o9, some (.ref F), o11, none].set 11 (some (D.tup [.str name, .tup ds]))) = [M, A1, A2, A3, some (.str name), some (.int E.arg), some y, some (.ref fl), some (.ref R), o9, some (.ref F), some (.tup [.str name, .tup ds]), none] from rfl, b]
    exact q3.trans rfl
/-- the drawn model in parts, and the kind of an object -/
theorem model_kind {M : D} (h : ModelP M) : ∃ (ks os st : List D) (e : Int), M = .tup [.tup ks, .tup os, .tup st, .int e] ∧ 1 ≤ os.length ∧ os.length ≤ 8 ∧ ks.length ≤ 4 ∧ st.length ≤ 8 ∧ (∀ y ∈ st, EvP os.length e y) ∧ 0 ≤ e ∧ e ≤ 30 ∧ (∀ d ∈ ks, ∃ x b c, d = .tup [.str x, b, c]) ∧
    ∀ n, n < os.length → ∃ z y fd hs, KOf ks os n z y ∧ KT y fd hs := by
  obtain ⟨j, ks, os, st, e, rfl, h1, h2, t, h3, h4, h5, h6, h7, h8, h9⟩ := h
  obtain ⟨_, lk, _, _⟩ := kn_hd h1 h2 t
  refine ⟨ks, os, st, e, rfl, h3, h4, by omega, h6, h7, h8, h9, ks_hd h1 h2 t, fun n hn => ?_⟩
  obtain ⟨z, y, K⟩ := kof_of h1 h2 t h5 hn
  obtain ⟨zz, kk⟩ := K.kind
  obtain ⟨fd, hs, T⟩ := kt_of kk
  exact ⟨z, y, fd, hs, K, T⟩
end
end Pr

set_option Elab.async false
set_option linter.all false
set_option maxRecDepth 100000
set_option maxHeartbeats 4000000
/-! law k02: the drawn state, the comparisons -/
namespace Pr
open PySem PySem.Spec PyProof.Rows L2 Core
section
variable {s : Mem} {k dr at_ : Nat}
theorem Fs.snoc {fd : List (Str × Int × Int)} {kv : List (Key × D)} {x : Str} {lo hi v : Int} (f : Fs fd kv) (h1 : -1000 ≤ lo) (h2 : lo ≤ v) (h3 : v ≤ hi) (h4 : hi ≤ 1000) : Fs (fd ++ [(x, lo, hi)]) (kv ++ [(.inr x, .int v)]) := by
  induction f with
  | nil => exact .cons h1 h2 h3 h4 .nil
  | cons a b c d _ ih => exact .cons a b c d ih
theorem c_law_state (g : Gs dr at_ s) {ks os hs : List D} {st e0 : D} {n : Nat} {z : Str} {y : D} {fd : List (Str × Int × Int)} (K : KOf ks os n z y) (hk : ∀ d ∈ ks, ∃ x b c, d = .tup [.str x, b, c]) (hkl : ks.length ≤ 4) (T : KT y fd hs) :
    Dr dr at_ s (fun d => ∃ kv, d = .tup (kv.map (·.2)) ∧ Fs fd kv) (call (k + 2) .law_state [.tup [.tup ks, .tup os, st, e0], .int n, .ref dr, .ref at_] s) := by
  obtain ⟨M, hM⟩ : ∃ M : D, M = .tup [.tup ks, .tup os, st, e0] := ⟨_, rfl⟩
  rw [← hM]
  show Dr dr at_ s _ (Core.fin (m_law_state (call (k + 1)) [some M, some (.int n), some (.ref dr), some (.ref at_), none, none] s))
  obtain ⟨zz, hy⟩ := T.is
  have g1 : Gs dr at_ (s ++ [Ob.lst []]) := g.app
  obtain ⟨t1, c1⟩ := c_law_kind_of (s := s ++ [Ob.lst []]) (k := k) (st := st) (e := e0) K hk hkl
  rw [← hM] at c1
  have iy : ∀ s : Mem, gIx y (.int 1) s = .ok (.tup (fd.map fD)) s := fun s => by rw [hy]; rfl
  have tl := T.len
  have ne1 : s.length ≠ dr := by have : dr < s.length := let ⟨_, h⟩ := g.hd; (List.getElem?_eq_some_iff.mp h).1
                                 omega
  have ne2 : s.length ≠ at_ := by have := g.lt; omega
  obtain ⟨l2, s2, q2, ⟨o5, rfl⟩, kv, f2, r2, g2, t2⟩ := loop_nx (ok := fun _ => true) (g := gmName 5) (body := (mExpr (mLm gAppend (mVar 4) (mCons (mOp Core.gAdd (mOp gIx (mVar 5) (mC (.int 1))) (mCall 3 (call (k + 1) .law_next) (mCons (mVar 2) (mCons (mVar 3) (mCons (mOp Core.gAdd (mOp Core.gSub (mOp gIx (mVar 5) (mC (.int 2))) (mOp gIx (mVar 5) (mC (.int 1)))) (mC (.int 1))) mNil))))) mNil)))) (ds := fd.map fD) (l := [some M, some (.int n), some (.ref dr), some (.ref at_), some (.ref s.length), none]) (s := s ++ [Ob.lst []] ++ t1)
    (fun m l s' => (∃ o5, l = [some M, some (.int n), some (.ref dr), some (.ref at_), some (.ref s.length), o5]) ∧ ∃ kv, Fs (fd.take m) kv ∧ s'[s.length]? = some (.lst (kv.map (·.2))) ∧ Gs dr at_ s' ∧ Gt at_ s s') (fun _ _ _ _ => rfl)
    (fun m d l s' hd ⟨⟨o5, hl⟩, kv, f, r, gs, gt⟩ => by
      subst hl
      rw [List.getElem?_map] at hd
      cases q : fd[m]? with
      | none => rw [q] at hd; cases hd
      | some w =>
        obtain ⟨x, lo, hi⟩ := w
        rw [q] at hd
        cases hd
        have hm : m < fd.length := (List.getElem?_eq_some_iff.mp q).1
        obtain ⟨b1, b2, b3⟩ := T.rng _ (List.mem_of_getElem? q)
        have b1 : -1000 ≤ lo := b1
        have b2 : lo ≤ hi := b2
        have b3 : hi ≤ 1000 := b3
        obtain ⟨_, s3, e3, ⟨v, rfl, a3, c3⟩, g3, t3⟩ := c_law_next (k := k) gs (many := hi - lo + 1) (by omega)
        have r3 := t3.old _ _ ne2 r
        have kl : (kv.map (·.2)).length < 100000 := by rw [List.length_map, f.len, List.length_take]; omega
        refine ⟨[some M, some (.int n), some (.ref dr), some (.ref at_), some (.ref s.length), some (fD (x, lo, hi))], rfl, [some M, some (.int n), some (.ref dr), some (.ref at_), some (.ref s.length), some (fD (x, lo, hi))], s3.set s.length (.lst (kv.map (·.2) ++ [.int (lo + v)])), ?_, ⟨_, rfl⟩, kv ++ [(.inr x, .int (lo + v))], ?_, by rw [set_at r3, List.map_append]; rfl, g3.set ne1 ne2, ?_⟩
        · simp only [mSeq, mExpr, mRet, mRetN, mIfS, mSet, mAug, mCall, mCons, mNil, mVar, mC, mOp, mUn, mApp, mTup, mLst, mNx, mRaise, mAnd, mOr, mNot, mIf, tstB, tstAnd, tstOr, tstNot, mChain, bind_ok, bind_err, bind_no, toS_ok, toS_err, nox_ok, fin_nx, fin_rt, fin_err, startL, List.map_cons, List.map_nil, List.length_cons, List.length_nil, List.cons_append, List.nil_append, List.getElem?_cons_zero, List.getElem?_cons_succ, List.set_cons_zero, List.set_cons_succ, List.replicate_succ, List.replicate_zero, Nat.zero_add, Nat.reduceAdd, Nat.reduceSub, Nat.add_one_sub_one, Nat.sub_self, if_true, if_false, ite_true, ite_false, Bool.false_eq_true, reduceCtorEq, if_pos, Nat.reduceEqDiff, Nat.reduceLeDiff, decide_true, decide_false, Bool.not_true, Bool.not_false, mLm, r, fD, ix1, ix2, Core.gSub, gI2, Core.gAdd, e3, app_at r3 kl]
        · rw [List.take_succ, q]
          exact f.snoc b1 (by omega) (by omega) b3
        · exact ⟨Nat.le_trans gt.len (Nat.le_trans t3.len (by simp)), fun n o h e => by
            have hn : n < s.length := (List.getElem?_eq_some_iff.mp e).1
            rw [List.getElem?_set_ne (by omega)]
            exact t3.old n o h (gt.old n o h e)⟩) ⟨⟨none, rfl⟩, [], .nil, by rw [List.append_assoc]; exact get_mid, g1.app, by rw [List.append_assoc]; exact Gt.app⟩
  rw [List.length_map, List.take_of_length_le (Nat.le_refl _)] at f2
  refine ⟨_, s2, ?_, ⟨kv, rfl, f2⟩, g2, t2⟩
  unfold m_law_state
  rw [seq_nx (l1 := [some M, some (.int n), some (.ref dr), some (.ref at_), some (.ref s.length), none]) (s1 := s ++ [Ob.lst []]) (by simp only [mSeq, mExpr, mRet, mRetN, mIfS, mSet, mAug, mCall, mCons, mNil, mVar, mC, mOp, mUn, mApp, mTup, mLst, mNx, mRaise, mAnd, mOr, mNot, mIf, tstB, tstAnd, tstOr, tstNot, mChain, bind_ok, bind_err, bind_no, toS_ok, toS_err, nox_ok, fin_nx, fin_rt, fin_err, startL, List.map_cons, List.map_nil, List.length_cons, List.length_nil, List.cons_append, List.nil_append, List.getElem?_cons_zero, List.getElem?_cons_succ, List.set_cons_zero, List.set_cons_succ, List.replicate_succ, List.replicate_zero, Nat.zero_add, Nat.reduceAdd, Nat.reduceSub, Nat.add_one_sub_one, Nat.sub_self, if_true, if_false, ite_true, ite_false, Bool.false_eq_true, reduceCtorEq, if_pos, Nat.reduceEqDiff, Nat.reduceLeDiff, decide_true, decide_false, Bool.not_true, Bool.not_false]),
    seq_nx ((for_tup (ds := fd.map fD) (s1 := s ++ [Ob.lst []] ++ t1) (by simp only [mSeq, mExpr, mRet, mRetN, mIfS, mSet, mAug, mCall, mCons, mNil, mVar, mC, mOp, mUn, mApp, mTup, mLst, mNx, mRaise, mAnd, mOr, mNot, mIf, tstB, tstAnd, tstOr, tstNot, mChain, bind_ok, bind_err, bind_no, toS_ok, toS_err, nox_ok, fin_nx, fin_rt, fin_err, startL, List.map_cons, List.map_nil, List.length_cons, List.length_nil, List.cons_append, List.nil_append, List.getElem?_cons_zero, List.getElem?_cons_succ, List.set_cons_zero, List.set_cons_succ, List.replicate_succ, List.replicate_zero, Nat.zero_add, Nat.reduceAdd, Nat.reduceSub, Nat.add_one_sub_one, Nat.sub_self, if_true, if_false, ite_true, ite_false, Bool.false_eq_true, reduceCtorEq, if_pos, Nat.reduceEqDiff, Nat.reduceLeDiff, decide_true, decide_false, Bool.not_true, Bool.not_false, c1, iy])).trans q2)]
  simp only [mSeq, mExpr, mRet, mRetN, mIfS, mSet, mAug, mCall, mCons, mNil, mVar, mC, mOp, mUn, mApp, mTup, mLst, mNx, mRaise, mAnd, mOr, mNot, mIf, tstB, tstAnd, tstOr, tstNot, mChain, bind_ok, bind_err, bind_no, toS_ok, toS_err, nox_ok, fin_nx, fin_rt, fin_err, startL, List.map_cons, List.map_nil, List.length_cons, List.length_nil, List.cons_append, List.nil_append, List.getElem?_cons_zero, List.getElem?_cons_succ, List.set_cons_zero, List.set_cons_succ, List.replicate_succ, List.replicate_zero, Nat.zero_add, Nat.reduceAdd, Nat.reduceSub, Nat.add_one_sub_one, Nat.sub_self, if_true, if_false, ite_true, ite_false, Bool.false_eq_true, reduceCtorEq, if_pos, Nat.reduceEqDiff, Nat.reduceLeDiff, decide_true, decide_false, Bool.not_true, Bool.not_false, tup_lst r2]
theorem numbers_ok {xs : List D} (h : ∀ d ∈ xs, ∃ v : Int, d = .int v) : call (k + 1) .law_numbers [.tup xs] s = .ok (.bl true) s := by
  show Core.fin (m_law_numbers (call k) [some (.tup xs), none] s) = _
  obtain ⟨l2, s2, q2, ⟨o, rfl⟩, rfl⟩ := loop_nx (ok := fun _ => true) (g := gmName 1) (body := (mIfS (tstOr (tstB (mUn (gIsT "bool") (mVar 1))) (tstNot (tstB (mUn (gIsT "int") (mVar 1))))) (mRet (mC (.bl false))) mNx)) (ds := xs) (l := [some (.tup xs), none]) (s := s)
    (fun m l s' => (∃ o, l = [some (.tup xs), o]) ∧ s' = s) (fun _ _ _ _ => rfl) (fun m d l s' hd ⟨⟨o, hl⟩, hs⟩ => by
      subst hl hs
      obtain ⟨v, rfl⟩ := h d (List.mem_of_getElem? hd)
      exact ⟨_, rfl, [some (.tup xs), some (.int v)], _, by simp only [mSeq, mExpr, mRet, mRetN, mIfS, mSet, mAug, mCall, mCons, mNil, mVar, mC, mOp, mUn, mApp, mTup, mLst, mNx, mRaise, mAnd, mOr, mNot, mIf, tstB, tstAnd, tstOr, tstNot, mChain, bind_ok, bind_err, bind_no, toS_ok, toS_err, nox_ok, fin_nx, fin_rt, fin_err, startL, List.map_cons, List.map_nil, List.length_cons, List.length_nil, List.cons_append, List.nil_append, List.getElem?_cons_zero, List.getElem?_cons_succ, List.set_cons_zero, List.set_cons_succ, List.replicate_succ, List.replicate_zero, Nat.zero_add, Nat.reduceAdd, Nat.reduceSub, Nat.add_one_sub_one, Nat.sub_self, if_true, if_false, ite_true, ite_false, Bool.false_eq_true, reduceCtorEq, if_pos, Nat.reduceEqDiff, Nat.reduceLeDiff, decide_true, decide_false, Bool.not_true, Bool.not_false, gIsT_at (s := s') (d := .int v) (a := "int") rfl, show isT "int" "bool" = false from by decide, show isT "int" "int" = true from by decide], ⟨some (.int v), rfl⟩, rfl⟩) ⟨⟨none, rfl⟩, rfl⟩
  unfold m_law_numbers
  rw [seq_nx ((for_tup (ds := xs) (s1 := s2) (by simp only [mSeq, mExpr, mRet, mRetN, mIfS, mSet, mAug, mCall, mCons, mNil, mVar, mC, mOp, mUn, mApp, mTup, mLst, mNx, mRaise, mAnd, mOr, mNot, mIf, tstB, tstAnd, tstOr, tstNot, mChain, bind_ok, bind_err, bind_no, toS_ok, toS_err, nox_ok, fin_nx, fin_rt, fin_err, startL, List.map_cons, List.map_nil, List.length_cons, List.length_nil, List.cons_append, List.nil_append, List.getElem?_cons_zero, List.getElem?_cons_succ, List.set_cons_zero, List.set_cons_succ, List.replicate_succ, List.replicate_zero, Nat.zero_add, Nat.reduceAdd, Nat.reduceSub, Nat.add_one_sub_one, Nat.sub_self, if_true, if_false, ite_true, ite_false, Bool.false_eq_true, reduceCtorEq, if_pos, Nat.reduceEqDiff, Nat.reduceLeDiff, decide_true, decide_false, Bool.not_true, Bool.not_false])).trans q2)]
  rfl
/-- a pair of a plain value and a list, twice -/
theorem ne_pair {a : D} {S R : Nat} {xs : List D} (hS : s[S]? = some (.lst xs)) (hR : s[R]? = some (.lst xs)) (ha : pl 30 a = true) (hx : ∀ x ∈ xs, pl 30 x = true) : gNe (.tup [a, .ref S]) (.tup [a, .ref R]) s = .ok (.bl false) s := by
  obtain ⟨p, e, hp⟩ := py_pl (s := s) 39 a (pl_up (by omega) ha)
  obtain ⟨ps, e', hps⟩ := mapM_some (s := s) (n := 38) fun x h => py_pl (s := s) 38 x (pl_up (by omega) (hx x h))
  have er : ∀ r, s[r]? = some (.lst xs) → py s 39 (.ref r) = some (.list ps) := fun r hr => by
    show (match rdL s r with
      | some xs => (xs.mapM (py s 38)).map PyData.list
      | none => none) = _
    rw [rd_lst hr]
    dsimp only
    rw [e']; rfl
  have e1 : ∀ r, s[r]? = some (.lst xs) → py s pyL (.tup [a, .ref r]) = some (.tuple [p, .list ps]) := fun r hr => by
    show ([a, .ref r].mapM (py s 39)).map PyData.tuple = _
    rw [List.mapM_cons, e, List.mapM_cons, er r hr]; rfl
  have e2 : gEqB s (.tup [a, .ref S]) (.tup [a, .ref R]) = some (PyData.eqv (.tuple [p, .list ps]) (.tuple [p, .list ps])) := by
    show (match py s pyL (.tup [a, .ref S]), py s pyL (.tup [a, .ref R]) with
      | some p, some q => some (PyData.eqv p q)
      | _, _ => none) = _
    rw [e1 S hS, e1 R hR]
  unfold gNe
  rw [e2, PySem.SeqAt.eqv_refl_plain (.tuple [p, .list ps]) (by simp [PyData.plain, PyData.plainAll, hp, hps])]
  rfl
theorem snp_pl {E : En} {x : D} (h : SnP E x) : pl 30 x = true := by
  obtain ⟨t, g, z, rfl, _, _, _, _, hz⟩ := h
  have : ∀ z ∈ w4, pl 1 (.str z) = true := by decide +kernel
  exact pl_up (n := 2) (by omega) (pl_t4 pl_i pl_i (this z hz) pl_i)
end
end Pr

set_option Elab.async false
set_option linter.all false
set_option maxRecDepth 100000
set_option maxHeartbeats 4000000
/-! law k02 -/
namespace Pr
open PySem PySem.Spec PyProof.Rows L2 Core
abbrev bK (K : Nat) : SM := (mSeq (mSet 6 (mCall 3 (call K .law_next) (mCons (mVar 1) (mCons (mVar 2) (mCons (mApp gLen (mCons (mOp gIx (mVar 4) (mC (.int 1))) mNil)) mNil))))) (mSeq (mSet 7 (mCall 4 (call K .law_state) (mCons (mVar 4) (mCons (mVar 6) (mCons (mVar 1) (mCons (mVar 2) mNil)))))) (mSeq (mSet 8 (mOp gIx (mLst (mCons (mC (.str "go")) (mCons (mC (.str "tell")) (mCons (mC (.str "ask")) (mCons (mC (.str "none")) mNil))))) (mCall 3 (call K .law_next) (mCons (mVar 1) (mCons (mVar 2) (mCons (mC (.int 4)) mNil)))))) (mSeq (mSet 9 (mCall 3 (call K .law_next) (mCons (mVar 1) (mCons (mVar 2) (mCons (mC (.int 1001)) mNil))))) (mSeq (mSet 10 (mOp Core.gSub (mCall 3 (call K .law_next) (mCons (mVar 1) (mCons (mVar 2) (mCons (mC (.int 12)) mNil)))) (mC (.int 3)))) (mSeq (mIfS (tstB (mOp gEq (mCall 3 (call K .law_next) (mCons (mVar 1) (mCons (mVar 2) (mCons (mC (.int 3)) mNil)))) (mC (.int 1)))) (mSet 10 (mOp gMulA (mCall 3 (call K .law_next) (mCons (mVar 1) (mCons (mVar 2) (mCons (mC (.int 1000)) mNil)))) (mOp gIx (mLst (mCons (mC (.int 1)) (mCons (mUn gNeg (mC (.int 1))) mNil))) (mCall 3 (call K .law_next) (mCons (mVar 1) (mCons (mVar 2) (mCons (mC (.int 2)) mNil))))))) mNx) (mSeq (mSet 11 (mCall 6 (call K .law_happen) (mCons (mVar 4) (mCons (mVar 6) (mCons (mVar 7) (mCons (mVar 9) (mCons (mVar 8) (mCons (mVar 10) mNil)))))))) (mSeq (mSet 12 (mCall 6 (call K .run_handler) (mCons (mVar 4) (mCons (mVar 6) (mCons (mVar 7) (mCons (mVar 9) (mCons (mVar 8) (mCons (mVar 10) mNil)))))))) (mSeq (mIfS (tstOr (tstNot (tstB (mUn (gIsT "tuple") (mVar 12)))) (tstOr (tstB (mOp gNe (mApp gLen (mCons (mVar 12) mNil)) (mC (.int 2)))) (tstB (mOp gNe (mVar 12) (mVar 11))))) (mRet (mC (.bl false))) mNx) (mSeq (mIfS (tstOr (tstNot (tstB (mUn (gIsT "tuple") (mOp gIx (mVar 12) (mC (.int 0)))))) (tstOr (tstNot (tstB (mUn (gIsT "list") (mOp gIx (mVar 12) (mC (.int 1)))))) (tstNot (tstB (mCall 1 (call K .law_numbers) (mCons (mOp gIx (mVar 12) (mC (.int 0))) mNil)))))) (mRet (mC (.bl false))) mNx) (mSeq (mFor (iSeq (mOp gIx (mVar 12) (mC (.int 1)))) (gmName 13) (mIfS (tstOr (tstNot (tstB (mUn (gIsT "tuple") (mVar 13)))) (tstNot (tstB (mCall 1 (call K .law_numbers) (mCons (mTup (mCons (mOp gIx (mVar 13) (mC (.int 0))) (mCons (mOp gIx (mVar 13) (mC (.int 1))) (mCons (mOp gIx (mVar 13) (mC (.int 3))) mNil)))) mNil))))) (mRet (mC (.bl false))) mNx)) (mIfS (tstB (mOp gNe (mCall 6 (call K .run_handler) (mCons (mVar 4) (mCons (mVar 6) (mCons (mVar 7) (mCons (mVar 9) (mCons (mVar 8) (mCons (mVar 10) mNil))))))) (mVar 11))) (mRet (mC (.bl false))) mNx))))))))))))
theorem isT_yes {T : String} {d : D} {s : Mem} {a : String} (h : tyN s d = some a) (e : isT a T = true) : gIsT T d s = .ok (.bl true) s := by rw [gIsT_at h, e]
section
variable {s : Mem} {at_ : Nat}
theorem turn_k (g : Gs 1 at_ s) {M : D} (hM : ModelP M) {c3 c5 c6 c7 c8 c9 c10 c11 c12 c13 : Option D} :
    Nx (bK 40 [some (.ref 0), some (.ref 1), some (.ref at_), c3, some M, c5, c6, c7, c8, c9, c10, c11, c12, c13] s) fun l s' => (∃ c6 c7 c8 c9 c10 c11 c12 c13, l = [some (.ref 0), some (.ref 1), some (.ref at_), c3, some M, c5, c6, c7, c8, c9, c10, c11, c12, c13]) ∧ Gs 1 at_ s' := by
  obtain ⟨ks, os, st, e, hMe, h1, h2, h3, h4, h5, h6, h7, hk, kinds⟩ := model_kind hM
  have iM : ∀ s : Mem, gIx M (.int 1) s = .ok (.tup os) s := fun s => by rw [hMe]; rfl
  have ln : ∀ s : Mem, gLen [.tup os] s = .ok (.int (os.length : Nat)) s := fun s => rfl
  obtain ⟨_, s1, e1, ⟨v1, rfl, a1, b1⟩, g1, t1⟩ := c_law_next (k := 39) g (many := (os.length : Nat)) (by omega)
  obtain ⟨n, rfl⟩ : ∃ n : Nat, v1 = n := ⟨v1.toNat, by omega⟩
  obtain ⟨z, y, fd, hs, K, T⟩ := kinds n (by omega)
  obtain ⟨_, s2, e2, ⟨kv, rfl, f⟩, g2, t2⟩ := c_law_state (k := 38) (st := .tup st) (e0 := .int e) g1 K hk h3 T
  rw [← hMe] at e2
  obtain ⟨W, hW⟩ : ∃ L : List D, L = w4.map D.str := ⟨_, rfl⟩
  have hW' : W = [D.str "go", D.str "tell", D.str "ask", D.str "none"] := hW
  obtain ⟨_, s3, e3, ⟨v3, rfl, a3, b3⟩, g3, t3⟩ := c_law_next (k := 39) (g2.app (t := [Ob.lst W])) (many := 4) (by omega)
  have r3 : s3[s2.length]? = some (Ob.lst (w4.map D.str)) := by rw [← hW]; exact t3.fresh (s1 := s3) g2.lt
  obtain ⟨name, hname, p3⟩ := pickN r3 a3 (by exact b3)
  obtain ⟨_, s4, e4, ⟨v4, rfl, a4, b4⟩, g4, t4⟩ := c_law_next (k := 39) g3 (many := 1001) (by omega)
  obtain ⟨_, s5, e5, ⟨v5, rfl, a5, b5⟩, g5, t5⟩ := c_law_next (k := 39) g4 (many := 12) (by omega)
  obtain ⟨_, s6, e6, ⟨v6, rfl, a6, b6⟩, g6, t6⟩ := c_law_next (k := 39) g5 (many := 3) (by omega)
  unfold bK
  refine nx_nx (by simp only [mSeq, mExpr, mRet, mRetN, mIfS, mSet, mAug, mCall, mCons, mNil, mVar, mC, mOp, mUn, mApp, mTup, mLst, mNx, mRaise, mAnd, mOr, mNot, mIf, tstB, tstAnd, tstOr, tstNot, mChain, bind_ok, bind_err, bind_no, toS_ok, toS_err, nox_ok, fin_nx, fin_rt, fin_err, startL, List.map_cons, List.map_nil, List.length_cons, List.length_nil, List.cons_append, List.nil_append, List.getElem?_cons_zero, List.getElem?_cons_succ, List.set_cons_zero, List.set_cons_succ, List.replicate_succ, List.replicate_zero, Nat.zero_add, Nat.reduceAdd, Nat.reduceSub, Nat.add_one_sub_one, Nat.sub_self, if_true, if_false, ite_true, ite_false, Bool.false_eq_true, reduceCtorEq, if_pos, Nat.reduceEqDiff, Nat.reduceLeDiff, decide_true, decide_false, Bool.not_true, Bool.not_false, iM, ln, e1]; rfl) ?_
  refine nx_nx (by simp only [mSeq, mExpr, mRet, mRetN, mIfS, mSet, mAug, mCall, mCons, mNil, mVar, mC, mOp, mUn, mApp, mTup, mLst, mNx, mRaise, mAnd, mOr, mNot, mIf, tstB, tstAnd, tstOr, tstNot, mChain, bind_ok, bind_err, bind_no, toS_ok, toS_err, nox_ok, fin_nx, fin_rt, fin_err, startL, List.map_cons, List.map_nil, List.length_cons, List.length_nil, List.cons_append, List.nil_append, List.getElem?_cons_zero, List.getElem?_cons_succ, List.set_cons_zero, List.set_cons_succ, List.replicate_succ, List.replicate_zero, Nat.zero_add, Nat.reduceAdd, Nat.reduceSub, Nat.add_one_sub_one, Nat.sub_self, if_true, if_false, ite_true, ite_false, Bool.false_eq_true, reduceCtorEq, if_pos, Nat.reduceEqDiff, Nat.reduceLeDiff, decide_true, decide_false, Bool.not_true, Bool.not_false, e2]; rfl) ?_
  refine nx_nx (l1 := [some (.ref 0), some (.ref 1), some (.ref at_), c3, some M, c5, some (.int n), some (.tup (kv.map (·.2))), some (.str name), c9, c10, c11, c12, c13]) (s1 := s3) (by simp only [mSeq, mExpr, mRet, mRetN, mIfS, mSet, mAug, mCall, mCons, mNil, mVar, mC, mOp, mUn, mApp, mTup, mLst, mNx, mRaise, mAnd, mOr, mNot, mIf, tstB, tstAnd, tstOr, tstNot, mChain, bind_ok, bind_err, bind_no, toS_ok, toS_err, nox_ok, fin_nx, fin_rt, fin_err, startL, List.map_cons, List.map_nil, List.length_cons, List.length_nil, List.cons_append, List.nil_append, List.getElem?_cons_zero, List.getElem?_cons_succ, List.set_cons_zero, List.set_cons_succ, List.replicate_succ, List.replicate_zero, Nat.zero_add, Nat.reduceAdd, Nat.reduceSub, Nat.add_one_sub_one, Nat.sub_self, if_true, if_false, ite_true, ite_false, Bool.false_eq_true, reduceCtorEq, if_pos, Nat.reduceEqDiff, Nat.reduceLeDiff, decide_true, decide_false, Bool.not_true, Bool.not_false]; rw [← hW']; simp only [mSeq, mExpr, mRet, mRetN, mIfS, mSet, mAug, mCall, mCons, mNil, mVar, mC, mOp, mUn, mApp, mTup, mLst, mNx, mRaise, mAnd, mOr, mNot, mIf, tstB, tstAnd, tstOr, tstNot, mChain, bind_ok, bind_err, bind_no, toS_ok, toS_err, nox_ok, fin_nx, fin_rt, fin_err, startL, List.map_cons, List.map_nil, List.length_cons, List.length_nil, List.cons_append, List.nil_append, List.getElem?_cons_zero, List.getElem?_cons_succ, List.set_cons_zero, List.set_cons_succ, List.replicate_succ, List.replicate_zero, Nat.zero_add, Nat.reduceAdd, Nat.reduceSub, Nat.add_one_sub_one, Nat.sub_self, if_true, if_false, ite_true, ite_false, Bool.false_eq_true, reduceCtorEq, if_pos, Nat.reduceEqDiff, Nat.reduceLeDiff, decide_true, decide_false, Bool.not_true, Bool.not_false, e3, p3]) ?_
  refine nx_nx (by simp only [mSeq, mExpr, mRet, mRetN, mIfS, mSet, mAug, mCall, mCons, mNil, mVar, mC, mOp, mUn, mApp, mTup, mLst, mNx, mRaise, mAnd, mOr, mNot, mIf, tstB, tstAnd, tstOr, tstNot, mChain, bind_ok, bind_err, bind_no, toS_ok, toS_err, nox_ok, fin_nx, fin_rt, fin_err, startL, List.map_cons, List.map_nil, List.length_cons, List.length_nil, List.cons_append, List.nil_append, List.getElem?_cons_zero, List.getElem?_cons_succ, List.set_cons_zero, List.set_cons_succ, List.replicate_succ, List.replicate_zero, Nat.zero_add, Nat.reduceAdd, Nat.reduceSub, Nat.add_one_sub_one, Nat.sub_self, if_true, if_false, ite_true, ite_false, Bool.false_eq_true, reduceCtorEq, if_pos, Nat.reduceEqDiff, Nat.reduceLeDiff, decide_true, decide_false, Bool.not_true, Bool.not_false, e4]; rfl) ?_
  refine nx_nx (by simp only [mSeq, mExpr, mRet, mRetN, mIfS, mSet, mAug, mCall, mCons, mNil, mVar, mC, mOp, mUn, mApp, mTup, mLst, mNx, mRaise, mAnd, mOr, mNot, mIf, tstB, tstAnd, tstOr, tstNot, mChain, bind_ok, bind_err, bind_no, toS_ok, toS_err, nox_ok, fin_nx, fin_rt, fin_err, startL, List.map_cons, List.map_nil, List.length_cons, List.length_nil, List.cons_append, List.nil_append, List.getElem?_cons_zero, List.getElem?_cons_succ, List.set_cons_zero, List.set_cons_succ, List.replicate_succ, List.replicate_zero, Nat.zero_add, Nat.reduceAdd, Nat.reduceSub, Nat.add_one_sub_one, Nat.sub_self, if_true, if_false, ite_true, ite_false, Bool.false_eq_true, reduceCtorEq, if_pos, Nat.reduceEqDiff, Nat.reduceLeDiff, decide_true, decide_false, Bool.not_true, Bool.not_false, e5, Core.gSub, gI2]; rfl) ?_
  -- the arg
  obtain ⟨s7, ar, q7, ha1, ha2, g7⟩ : ∃ s7 ar, (mIfS (tstB (mOp gEq (mCall 3 (call 40 .law_next) (mCons (mVar 1) (mCons (mVar 2) (mCons (mC (.int 3)) mNil)))) (mC (.int 1)))) (mSet 10 (mOp gMulA (mCall 3 (call 40 .law_next) (mCons (mVar 1) (mCons (mVar 2) (mCons (mC (.int 1000)) mNil)))) (mOp gIx (mLst (mCons (mC (.int 1)) (mCons (mUn gNeg (mC (.int 1))) mNil))) (mCall 3 (call 40 .law_next) (mCons (mVar 1) (mCons (mVar 2) (mCons (mC (.int 2)) mNil))))))) mNx) [some (.ref 0), some (.ref 1), some (.ref at_), c3, some M, c5, some (.int n), some (.tup (kv.map (·.2))), some (.str name), some (.int v4), some (.int (v5 - 3)), c11, c12, c13] s5 =
      .nx [some (.ref 0), some (.ref 1), some (.ref at_), c3, some M, c5, some (.int n), some (.tup (kv.map (·.2))), some (.str name), some (.int v4), some (.int ar), c11, c12, c13] s7 ∧ -1000 ≤ ar ∧ ar ≤ 1000 ∧ Gs 1 at_ s7 := by
    by_cases h : v6 = 1
    · subst h
      obtain ⟨_, sa, ea, ⟨va, rfl, aa, ba⟩, ga, ta⟩ := c_law_next (k := 39) g6 (many := 1000) (by omega)
      obtain ⟨P, hP⟩ : ∃ L : List D, L = [.int 1, .int (-1)] := ⟨_, rfl⟩
      obtain ⟨_, sb, eb, ⟨vb, rfl, ab, bb⟩, gb, tb⟩ := c_law_next (k := 39) (ga.app (t := [Ob.lst P])) (many := 2) (by omega)
      have rb : sb[sa.length]? = some (Ob.lst P) := tb.fresh (s1 := sb) ga.lt
      obtain ⟨j, hj, rfl, p⟩ := pickL rb ab (by rw [hP]; exact bb)
      obtain ⟨sg, hsg, hs1⟩ : ∃ sg : Int, P[j] = .int sg ∧ (sg = 1 ∨ sg = -1) := by
        subst hP
        match j, hj with
        | 0, _ => exact ⟨1, rfl, .inl rfl⟩
        | 1, _ => exact ⟨-1, rfl, .inr rfl⟩
      rw [hsg] at p
      have mu : gMulA (.int va) (.int sg) sb = .ok (.int (va * sg)) sb := mulL (by omega)
      refine ⟨sb, va * sg, ?_, ?_, ?_, gb⟩
      · simp only [mSeq, mExpr, mRet, mRetN, mIfS, mSet, mAug, mCall, mCons, mNil, mVar, mC, mOp, mUn, mApp, mTup, mLst, mNx, mRaise, mAnd, mOr, mNot, mIf, tstB, tstAnd, tstOr, tstNot, mChain, bind_ok, bind_err, bind_no, toS_ok, toS_err, nox_ok, fin_nx, fin_rt, fin_err, startL, List.map_cons, List.map_nil, List.length_cons, List.length_nil, List.cons_append, List.nil_append, List.getElem?_cons_zero, List.getElem?_cons_succ, List.set_cons_zero, List.set_cons_succ, List.replicate_succ, List.replicate_zero, Nat.zero_add, Nat.reduceAdd, Nat.reduceSub, Nat.add_one_sub_one, Nat.sub_self, if_true, if_false, ite_true, ite_false, Bool.false_eq_true, reduceCtorEq, if_pos, Nat.reduceEqDiff, Nat.reduceLeDiff, decide_true, decide_false, Bool.not_true, Bool.not_false, e6, gEq, gEqB, show ((1 : Int) == 1) = true from rfl, ea, gNeg]
        rw [← hP]
        simp only [mSeq, mExpr, mRet, mRetN, mIfS, mSet, mAug, mCall, mCons, mNil, mVar, mC, mOp, mUn, mApp, mTup, mLst, mNx, mRaise, mAnd, mOr, mNot, mIf, tstB, tstAnd, tstOr, tstNot, mChain, bind_ok, bind_err, bind_no, toS_ok, toS_err, nox_ok, fin_nx, fin_rt, fin_err, startL, List.map_cons, List.map_nil, List.length_cons, List.length_nil, List.cons_append, List.nil_append, List.getElem?_cons_zero, List.getElem?_cons_succ, List.set_cons_zero, List.set_cons_succ, List.replicate_succ, List.replicate_zero, Nat.zero_add, Nat.reduceAdd, Nat.reduceSub, Nat.add_one_sub_one, Nat.sub_self, if_true, if_false, ite_true, ite_false, Bool.false_eq_true, reduceCtorEq, if_pos, Nat.reduceEqDiff, Nat.reduceLeDiff, decide_true, decide_false, Bool.not_true, Bool.not_false, eb, p, mu]
      · rcases hs1 with rfl | rfl <;> omega
      · rcases hs1 with rfl | rfl <;> omega
    · exact ⟨s6, v5 - 3, by simp only [mSeq, mExpr, mRet, mRetN, mIfS, mSet, mAug, mCall, mCons, mNil, mVar, mC, mOp, mUn, mApp, mTup, mLst, mNx, mRaise, mAnd, mOr, mNot, mIf, tstB, tstAnd, tstOr, tstNot, mChain, bind_ok, bind_err, bind_no, toS_ok, toS_err, nox_ok, fin_nx, fin_rt, fin_err, startL, List.map_cons, List.map_nil, List.length_cons, List.length_nil, List.cons_append, List.nil_append, List.getElem?_cons_zero, List.getElem?_cons_succ, List.set_cons_zero, List.set_cons_succ, List.replicate_succ, List.replicate_zero, Nat.zero_add, Nat.reduceAdd, Nat.reduceSub, Nat.add_one_sub_one, Nat.sub_self, if_true, if_false, ite_true, ite_false, Bool.false_eq_true, reduceCtorEq, if_pos, Nat.reduceEqDiff, Nat.reduceLeDiff, decide_true, decide_false, Bool.not_true, Bool.not_false, e6, gEq, gEqB, show (v6 == 1) = false from beq_eq_false_iff_ne.mpr h], by omega, by omega, g6⟩
  refine nx_nx q7 ?_
  have ok : (En.mk (n : Int) (os.length : Nat) v4 ar).Ok := ⟨⟨by show (0 : Int) ≤ n; omega, by show (n : Int) ≤ 1000000; omega⟩, ⟨by show (1 : Int) ≤ (os.length : Nat); omega, by show ((os.length : Nat) : Int) ≤ 1000000; omega⟩, ⟨by show (0 : Int) ≤ v4; omega, by show v4 ≤ 1000000; omega⟩, ⟨ha1, ha2⟩⟩
  obtain ⟨kv', new, H⟩ := hap_two (st := .tup st) (e0 := .int e) ok K hk h3 T rfl rfl f name
  rw [← hMe] at H
  obtain ⟨S8, s8, q8, r8, l8, x8⟩ := H.L 40 s7 (by omega)
  obtain ⟨S9, s9, q9, r9, l9, x9⟩ := H.P 40 s8 (by omega)
  obtain ⟨S10, s10, q10, r10, l10, x10⟩ := H.P 40 s9 (by omega)
  have q8 : call 40 .law_happen [M, .int (n : Int), .tup (kv.map (·.2)), .int v4, .str name, .int ar] s7 = .ok (.tup [.tup (kv'.map (·.2)), .ref S8]) s8 := q8
  have q9 : call 40 .run_handler [M, .int (n : Int), .tup (kv.map (·.2)), .int v4, .str name, .int ar] s8 = .ok (.tup [.tup (kv'.map (·.2)), .ref S9]) s9 := q9
  have q10 : call 40 .run_handler [M, .int (n : Int), .tup (kv.map (·.2)), .int v4, .str name, .int ar] s9 = .ok (.tup [.tup (kv'.map (·.2)), .ref S10]) s10 := q10
  have pv : pl 30 (.tup (kv'.map (·.2))) = true := pl_up (n := 2) (by omega) (pl_tup fun x hx => by obtain ⟨v, rfl⟩ := H.fs.ints x hx; exact pl_i)
  have pn : ∀ x ∈ new, pl 30 x = true := fun x hx => snp_pl (H.all x hx)
  have n1 := ne_pair r9 (x9 _ _ r8) pv pn
  have n2 := ne_pair r10 (x10 _ _ (x9 _ _ r8)) pv pn
  have n1' : gNe (.int 2) (.int 2) s9 = .ok (.bl false) s9 := rfl
  have ln2 : gLen [.tup [.tup (kv'.map (·.2)), .ref S9]] s9 = .ok (.int 2) s9 := rfl
  have ti1 : gIsT "tuple" (.tup [.tup (kv'.map (·.2)), .ref S9]) s9 = .ok (.bl true) s9 := isT_yes rfl (by decide)
  have ti2 : gIsT "tuple" (.tup (kv'.map (·.2))) s9 = .ok (.bl true) s9 := isT_yes rfl (by decide)
  have ti3 : gIsT "list" (.ref S9) s9 = .ok (.bl true) s9 := isT_yes (a := "list") (by unfold tyN; dsimp only; rw [r9]) (by decide)
  have nu := numbers_ok (k := 39) (s := s9) (xs := kv'.map (·.2)) H.fs.ints
  refine nx_nx (by simp only [mSeq, mExpr, mRet, mRetN, mIfS, mSet, mAug, mCall, mCons, mNil, mVar, mC, mOp, mUn, mApp, mTup, mLst, mNx, mRaise, mAnd, mOr, mNot, mIf, tstB, tstAnd, tstOr, tstNot, mChain, bind_ok, bind_err, bind_no, toS_ok, toS_err, nox_ok, fin_nx, fin_rt, fin_err, startL, List.map_cons, List.map_nil, List.length_cons, List.length_nil, List.cons_append, List.nil_append, List.getElem?_cons_zero, List.getElem?_cons_succ, List.set_cons_zero, List.set_cons_succ, List.replicate_succ, List.replicate_zero, Nat.zero_add, Nat.reduceAdd, Nat.reduceSub, Nat.add_one_sub_one, Nat.sub_self, if_true, if_false, ite_true, ite_false, Bool.false_eq_true, reduceCtorEq, if_pos, Nat.reduceEqDiff, Nat.reduceLeDiff, decide_true, decide_false, Bool.not_true, Bool.not_false, q8]; rfl) ?_
  refine nx_nx (by simp only [mSeq, mExpr, mRet, mRetN, mIfS, mSet, mAug, mCall, mCons, mNil, mVar, mC, mOp, mUn, mApp, mTup, mLst, mNx, mRaise, mAnd, mOr, mNot, mIf, tstB, tstAnd, tstOr, tstNot, mChain, bind_ok, bind_err, bind_no, toS_ok, toS_err, nox_ok, fin_nx, fin_rt, fin_err, startL, List.map_cons, List.map_nil, List.length_cons, List.length_nil, List.cons_append, List.nil_append, List.getElem?_cons_zero, List.getElem?_cons_succ, List.set_cons_zero, List.set_cons_succ, List.replicate_succ, List.replicate_zero, Nat.zero_add, Nat.reduceAdd, Nat.reduceSub, Nat.add_one_sub_one, Nat.sub_self, if_true, if_false, ite_true, ite_false, Bool.false_eq_true, reduceCtorEq, if_pos, Nat.reduceEqDiff, Nat.reduceLeDiff, decide_true, decide_false, Bool.not_true, Bool.not_false, q9]; rfl) ?_
  refine nx_nx (by simp only [mSeq, mExpr, mRet, mRetN, mIfS, mSet, mAug, mCall, mCons, mNil, mVar, mC, mOp, mUn, mApp, mTup, mLst, mNx, mRaise, mAnd, mOr, mNot, mIf, tstB, tstAnd, tstOr, tstNot, mChain, bind_ok, bind_err, bind_no, toS_ok, toS_err, nox_ok, fin_nx, fin_rt, fin_err, startL, List.map_cons, List.map_nil, List.length_cons, List.length_nil, List.cons_append, List.nil_append, List.getElem?_cons_zero, List.getElem?_cons_succ, List.set_cons_zero, List.set_cons_succ, List.replicate_succ, List.replicate_zero, Nat.zero_add, Nat.reduceAdd, Nat.reduceSub, Nat.add_one_sub_one, Nat.sub_self, if_true, if_false, ite_true, ite_false, Bool.false_eq_true, reduceCtorEq, if_pos, Nat.reduceEqDiff, Nat.reduceLeDiff, decide_true, decide_false, Bool.not_true, Bool.not_false, ti1, ln2, n1', n1]; rfl) ?_
  refine nx_nx (by simp only [mSeq, mExpr, mRet, mRetN, mIfS, mSet, mAug, mCall, mCons, mNil, mVar, mC, mOp, mUn, mApp, mTup, mLst, mNx, mRaise, mAnd, mOr, mNot, mIf, tstB, tstAnd, tstOr, tstNot, mChain, bind_ok, bind_err, bind_no, toS_ok, toS_err, nox_ok, fin_nx, fin_rt, fin_err, startL, List.map_cons, List.map_nil, List.length_cons, List.length_nil, List.cons_append, List.nil_append, List.getElem?_cons_zero, List.getElem?_cons_succ, List.set_cons_zero, List.set_cons_succ, List.replicate_succ, List.replicate_zero, Nat.zero_add, Nat.reduceAdd, Nat.reduceSub, Nat.add_one_sub_one, Nat.sub_self, if_true, if_false, ite_true, ite_false, Bool.false_eq_true, reduceCtorEq, if_pos, Nat.reduceEqDiff, Nat.reduceLeDiff, decide_true, decide_false, Bool.not_true, Bool.not_false, ix0, ix1, ti2, ti3, nu]; rfl) ?_
  -- the sent events
  obtain ⟨l11, s11, q11, ⟨o13, rfl⟩, rfl⟩ := loop_nx (ok := okL S9 new) (g := gmName 13) (body := (mIfS (tstOr (tstNot (tstB (mUn (gIsT "tuple") (mVar 13)))) (tstNot (tstB (mCall 1 (call 40 .law_numbers) (mCons (mTup (mCons (mOp gIx (mVar 13) (mC (.int 0))) (mCons (mOp gIx (mVar 13) (mC (.int 1))) (mCons (mOp gIx (mVar 13) (mC (.int 3))) mNil)))) mNil))))) (mRet (mC (.bl false))) mNx)) (ds := new)
    (l := [some (.ref 0), some (.ref 1), some (.ref at_), c3, some M, c5, some (.int n), some (.tup (kv.map (·.2))), some (.str name), some (.int v4), some (.int ar), some (.tup [.tup (kv'.map (·.2)), .ref S8]), some (.tup [.tup (kv'.map (·.2)), .ref S9]), c13]) (s := s9)
    (fun m l s' => (∃ o13, l = [some (.ref 0), some (.ref 1), some (.ref at_), c3, some M, c5, some (.int n), some (.tup (kv.map (·.2))), some (.str name), some (.int v4), some (.int ar), some (.tup [.tup (kv'.map (·.2)), .ref S8]), some (.tup [.tup (kv'.map (·.2)), .ref S9]), o13]) ∧ s' = s9)
    (fun _ _ s' h => by rw [h.2]; exact okL_of (rd_lst r9)) (fun m d l s' hd ⟨⟨o, hl⟩, hs⟩ => by
      subst hl hs
      obtain ⟨t, g, z, rfl, _⟩ := H.all d (List.mem_of_getElem? hd)
      have nu2 := numbers_ok (k := 39) (s := s') (xs := [.int t, .int g, .int (cl (ar - 1) (-999) 999)]) (by simp)
      have i3 : gIx (.tup [.int t, .int g, .str z, .int (cl (ar - 1) (-999) 999)]) (.int 3) s' = .ok (.int (cl (ar - 1) (-999) 999)) s' := rfl
      have ti : gIsT "tuple" (.tup [.int t, .int g, .str z, .int (cl (ar - 1) (-999) 999)]) s' = .ok (.bl true) s' := isT_yes rfl (by decide)
      exact ⟨_, rfl, _, _, by simp only [mSeq, mExpr, mRet, mRetN, mIfS, mSet, mAug, mCall, mCons, mNil, mVar, mC, mOp, mUn, mApp, mTup, mLst, mNx, mRaise, mAnd, mOr, mNot, mIf, tstB, tstAnd, tstOr, tstNot, mChain, bind_ok, bind_err, bind_no, toS_ok, toS_err, nox_ok, fin_nx, fin_rt, fin_err, startL, List.map_cons, List.map_nil, List.length_cons, List.length_nil, List.cons_append, List.nil_append, List.getElem?_cons_zero, List.getElem?_cons_succ, List.set_cons_zero, List.set_cons_succ, List.replicate_succ, List.replicate_zero, Nat.zero_add, Nat.reduceAdd, Nat.reduceSub, Nat.add_one_sub_one, Nat.sub_self, if_true, if_false, ite_true, ite_false, Bool.false_eq_true, reduceCtorEq, if_pos, Nat.reduceEqDiff, Nat.reduceLeDiff, decide_true, decide_false, Bool.not_true, Bool.not_false, ti, ix0, ix1, i3, nu2]; rfl, ⟨_, rfl⟩, rfl⟩) ⟨⟨c13, rfl⟩, rfl⟩
  refine nx_nx ((for_ref (m := S9) (ds := new) (s1 := s11) (by simp only [mSeq, mExpr, mRet, mRetN, mIfS, mSet, mAug, mCall, mCons, mNil, mVar, mC, mOp, mUn, mApp, mTup, mLst, mNx, mRaise, mAnd, mOr, mNot, mIf, tstB, tstAnd, tstOr, tstNot, mChain, bind_ok, bind_err, bind_no, toS_ok, toS_err, nox_ok, fin_nx, fin_rt, fin_err, startL, List.map_cons, List.map_nil, List.length_cons, List.length_nil, List.cons_append, List.nil_append, List.getElem?_cons_zero, List.getElem?_cons_succ, List.set_cons_zero, List.set_cons_succ, List.replicate_succ, List.replicate_zero, Nat.zero_add, Nat.reduceAdd, Nat.reduceSub, Nat.add_one_sub_one, Nat.sub_self, if_true, if_false, ite_true, ite_false, Bool.false_eq_true, reduceCtorEq, if_pos, Nat.reduceEqDiff, Nat.reduceLeDiff, decide_true, decide_false, Bool.not_true, Bool.not_false, ix1]) (rd_lst r9)).trans q11) ?_
  refine nx_end (by simp only [mSeq, mExpr, mRet, mRetN, mIfS, mSet, mAug, mCall, mCons, mNil, mVar, mC, mOp, mUn, mApp, mTup, mLst, mNx, mRaise, mAnd, mOr, mNot, mIf, tstB, tstAnd, tstOr, tstNot, mChain, bind_ok, bind_err, bind_no, toS_ok, toS_err, nox_ok, fin_nx, fin_rt, fin_err, startL, List.map_cons, List.map_nil, List.length_cons, List.length_nil, List.cons_append, List.nil_append, List.getElem?_cons_zero, List.getElem?_cons_succ, List.set_cons_zero, List.set_cons_succ, List.replicate_succ, List.replicate_zero, Nat.zero_add, Nat.reduceAdd, Nat.reduceSub, Nat.add_one_sub_one, Nat.sub_self, if_true, if_false, ite_true, ite_false, Bool.false_eq_true, reduceCtorEq, if_pos, Nat.reduceEqDiff, Nat.reduceLeDiff, decide_true, decide_false, Bool.not_true, Bool.not_false, q10, n2]; rfl) ⟨⟨_, _, _, _, _, _, _, _, rfl⟩, ?_⟩
  have gx : ∀ {s s' : Mem}, Gs 1 at_ s → Ex s s' → Gs 1 at_ s' := fun g x => let ⟨⟨xs, a⟩, ⟨i, b⟩, c⟩ := g; ⟨⟨xs, x _ _ a⟩, ⟨i, x _ _ b⟩, c⟩
  exact gx (gx (gx g7 x8) x9) x10
end
theorem pureLaw : ∀ ns : List Int, ns.length ≤ 63 → (∀ z ∈ ns, Builtin.Int.intBits z ≤ 1048576) → ∀ o : Ob, (o = .lst (ns.map D.int) ∨ o = .frz (ns.map D.int)) → ∃ s', call 41 .law [.ref 0] [o] = .ok (.bl true) s' := by
  intro ns hn hb o ho
  have hr : rdL [o] 0 = some (ns.map D.int) := by rcases ho with rfl | rfl <;> rfl
  obtain ⟨is, s1, e1, x1, l1⟩ := c_law_draws (k := 39) hr hn
  have e1 : call 40 .law_draws [.ref 0] [o] = .ok (.ref 1) s1 := e1
  have x1 : s1[1]? = some (.lst (is.map D.int)) := x1
  have l1 : 1 < s1.length := l1
  have g2 : Gs 1 s1.length (s1 ++ [Ob.lst [.int 0]]) := ⟨⟨is, app_keep x1⟩, ⟨0, last_at⟩, Nat.ne_of_lt l1⟩
  obtain ⟨at_, hat⟩ : ∃ a, a = s1.length := ⟨_, rfl⟩
  rw [← hat] at g2
  have lp := loop_nx (ok := fun _ => true) (g := gmName 3) (body := (mSeq (mSet 4 (mCall 2 (call 40 .law_model) (mCons (mVar 1) (mCons (mVar 2) mNil)))) (mFor (iRange1 (mCons (mC (.int 5)) mNil)) (gmName 5) (bK 40)))) (ds := (List.range (3 : Int).toNat).map fun (i : Nat) => D.int (0 + (i : Int))) (l := [some (.ref 0), some (.ref 1), some (.ref at_), none, none, none, none, none, none, none, none, none, none, none]) (s := s1 ++ [Ob.lst [.int 0]])
    (fun m l s' => (∃ c3 c4 c5 c6 c7 c8 c9 c10 c11 c12 c13, l = [some (.ref 0), some (.ref 1), some (.ref at_), c3, c4, c5, c6, c7, c8, c9, c10, c11, c12, c13]) ∧ Gs 1 at_ s') (fun _ _ _ _ => rfl)
    (fun m d l s' hd ⟨⟨c3, c4, c5, c6, c7, c8, c9, c10, c11, c12, c13, hl⟩, gs⟩ => by
      subst hl
      refine ⟨[some (.ref 0), some (.ref 1), some (.ref at_), some d, c4, c5, c6, c7, c8, c9, c10, c11, c12, c13], rfl, ?_⟩
      obtain ⟨M, s4, e4, hM, g4, t4⟩ := c_law_model (k := 33) gs
      refine nx_nx (by simp only [mSeq, mExpr, mRet, mRetN, mIfS, mSet, mAug, mCall, mCons, mNil, mVar, mC, mOp, mUn, mApp, mTup, mLst, mNx, mRaise, mAnd, mOr, mNot, mIf, tstB, tstAnd, tstOr, tstNot, mChain, bind_ok, bind_err, bind_no, toS_ok, toS_err, nox_ok, fin_nx, fin_rt, fin_err, startL, List.map_cons, List.map_nil, List.length_cons, List.length_nil, List.cons_append, List.nil_append, List.getElem?_cons_zero, List.getElem?_cons_succ, List.set_cons_zero, List.set_cons_succ, List.replicate_succ, List.replicate_zero, Nat.zero_add, Nat.reduceAdd, Nat.reduceSub, Nat.add_one_sub_one, Nat.sub_self, if_true, if_false, ite_true, ite_false, Bool.false_eq_true, reduceCtorEq, if_pos, Nat.reduceEqDiff, Nat.reduceLeDiff, decide_true, decide_false, Bool.not_true, Bool.not_false, e4]; rfl) ?_
      obtain ⟨l5, s5, q5, ⟨c5', c6', c7', c8', c9', c10', c11', c12', c13', rfl⟩, g5⟩ := loop_nx (ok := fun _ => true) (g := gmName 5) (body := bK 40) (ds := (List.range (5 : Int).toNat).map fun (i : Nat) => D.int (0 + (i : Int))) (l := [some (.ref 0), some (.ref 1), some (.ref at_), some d, some M, c5, c6, c7, c8, c9, c10, c11, c12, c13]) (s := s4)
        (fun m l s' => (∃ c5 c6 c7 c8 c9 c10 c11 c12 c13, l = [some (.ref 0), some (.ref 1), some (.ref at_), some d, some M, c5, c6, c7, c8, c9, c10, c11, c12, c13]) ∧ Gs 1 at_ s') (fun _ _ _ _ => rfl)
        (fun m d' l s' hd' ⟨⟨c5, c6, c7, c8, c9, c10, c11, c12, c13, hl⟩, gs⟩ => by
          subst hl
          refine ⟨[some (.ref 0), some (.ref 1), some (.ref at_), some d, some M, some d', c6, c7, c8, c9, c10, c11, c12, c13], rfl, ?_⟩
          obtain ⟨l', s'', q, ⟨_, _, _, _, _, _, _, _, rfl⟩, g'⟩ := turn_k gs hM (c3 := some d) (c5 := some d') (c6 := c6) (c7 := c7) (c8 := c8) (c9 := c9) (c10 := c10) (c11 := c11) (c12 := c12) (c13 := c13)
          exact ⟨_, s'', q, ⟨_, _, _, _, _, _, _, _, _, rfl⟩, g'⟩) ⟨⟨_, _, _, _, _, _, _, _, _, rfl⟩, g4⟩
      exact nx_end ((rng1 (s1 := s4) (j := 5) (by simp only [mSeq, mExpr, mRet, mRetN, mIfS, mSet, mAug, mCall, mCons, mNil, mVar, mC, mOp, mUn, mApp, mTup, mLst, mNx, mRaise, mAnd, mOr, mNot, mIf, tstB, tstAnd, tstOr, tstNot, mChain, bind_ok, bind_err, bind_no, toS_ok, toS_err, nox_ok, fin_nx, fin_rt, fin_err, startL, List.map_cons, List.map_nil, List.length_cons, List.length_nil, List.cons_append, List.nil_append, List.getElem?_cons_zero, List.getElem?_cons_succ, List.set_cons_zero, List.set_cons_succ, List.replicate_succ, List.replicate_zero, Nat.zero_add, Nat.reduceAdd, Nat.reduceSub, Nat.add_one_sub_one, Nat.sub_self, if_true, if_false, ite_true, ite_false, Bool.false_eq_true, reduceCtorEq, if_pos, Nat.reduceEqDiff, Nat.reduceLeDiff, decide_true, decide_false, Bool.not_true, Bool.not_false]) (by omega) (by omega)).trans q5) ⟨⟨_, _, _, _, _, _, _, _, _, _, _, rfl⟩, g5⟩) ⟨⟨none, none, none, none, none, none, none, none, none, none, none, rfl⟩, g2⟩
  obtain ⟨l9, s9, q9, ⟨_, _, _, _, _, _, _, _, _, _, _, rfl⟩, g9⟩ := lp
  refine ⟨s9, ?_⟩
  show Core.fin (m_law (call 40) [some (.ref 0), none, none, none, none, none, none, none, none, none, none, none, none, none] [o]) = _
  unfold m_law
  rw [seq_nx (l1 := [some (.ref 0), some (.ref 1), none, none, none, none, none, none, none, none, none, none, none, none]) (s1 := s1) (by simp only [mSeq, mExpr, mRet, mRetN, mIfS, mSet, mAug, mCall, mCons, mNil, mVar, mC, mOp, mUn, mApp, mTup, mLst, mNx, mRaise, mAnd, mOr, mNot, mIf, tstB, tstAnd, tstOr, tstNot, mChain, bind_ok, bind_err, bind_no, toS_ok, toS_err, nox_ok, fin_nx, fin_rt, fin_err, startL, List.map_cons, List.map_nil, List.length_cons, List.length_nil, List.cons_append, List.nil_append, List.getElem?_cons_zero, List.getElem?_cons_succ, List.set_cons_zero, List.set_cons_succ, List.replicate_succ, List.replicate_zero, Nat.zero_add, Nat.reduceAdd, Nat.reduceSub, Nat.add_one_sub_one, Nat.sub_self, if_true, if_false, ite_true, ite_false, Bool.false_eq_true, reduceCtorEq, if_pos, Nat.reduceEqDiff, Nat.reduceLeDiff, decide_true, decide_false, Bool.not_true, Bool.not_false, e1]),
    seq_nx (l1 := [some (.ref 0), some (.ref 1), some (.ref at_), none, none, none, none, none, none, none, none, none, none, none]) (s1 := s1 ++ [Ob.lst [.int 0]]) (by simp only [mSeq, mExpr, mRet, mRetN, mIfS, mSet, mAug, mCall, mCons, mNil, mVar, mC, mOp, mUn, mApp, mTup, mLst, mNx, mRaise, mAnd, mOr, mNot, mIf, tstB, tstAnd, tstOr, tstNot, mChain, bind_ok, bind_err, bind_no, toS_ok, toS_err, nox_ok, fin_nx, fin_rt, fin_err, startL, List.map_cons, List.map_nil, List.length_cons, List.length_nil, List.cons_append, List.nil_append, List.getElem?_cons_zero, List.getElem?_cons_succ, List.set_cons_zero, List.set_cons_succ, List.replicate_succ, List.replicate_zero, Nat.zero_add, Nat.reduceAdd, Nat.reduceSub, Nat.add_one_sub_one, Nat.sub_self, if_true, if_false, ite_true, ite_false, Bool.false_eq_true, reduceCtorEq, if_pos, Nat.reduceEqDiff, Nat.reduceLeDiff, decide_true, decide_false, Bool.not_true, Bool.not_false, hat]),
    seq_nx ((rng1 (s1 := s1 ++ [Ob.lst [.int 0]]) (j := 3) (by simp only [mSeq, mExpr, mRet, mRetN, mIfS, mSet, mAug, mCall, mCons, mNil, mVar, mC, mOp, mUn, mApp, mTup, mLst, mNx, mRaise, mAnd, mOr, mNot, mIf, tstB, tstAnd, tstOr, tstNot, mChain, bind_ok, bind_err, bind_no, toS_ok, toS_err, nox_ok, fin_nx, fin_rt, fin_err, startL, List.map_cons, List.map_nil, List.length_cons, List.length_nil, List.cons_append, List.nil_append, List.getElem?_cons_zero, List.getElem?_cons_succ, List.set_cons_zero, List.set_cons_succ, List.replicate_succ, List.replicate_zero, Nat.zero_add, Nat.reduceAdd, Nat.reduceSub, Nat.add_one_sub_one, Nat.sub_self, if_true, if_false, ite_true, ite_false, Bool.false_eq_true, reduceCtorEq, if_pos, Nat.reduceEqDiff, Nat.reduceLeDiff, decide_true, decide_false, Bool.not_true, Bool.not_false]) (by omega) (by omega)).trans q9)]
  rfl
end Pr

set_option maxRecDepth 100000 in
set_option maxHeartbeats 8000000 in
theorem PySem.Challenge.cw_vancourier_k02_handlers_holds : PySem.Challenge.rw_vancourier_k02_handlers.Holds := by
  exact Pr.holds (N := 40) ⟨rfl, by decide, by decide⟩ Pr.pureLaw
