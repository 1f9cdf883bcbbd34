import PyProof.Rows.All
import Wide.All
import OpenK.AllK
import Wide.FinOn
import HandS.ForMost
import HandS.ForExc
import HandS.ExcInit
import HandS.ExcField
import HandS.Flow
import HandS.FStr
import HandS.IsInst
import HandS.Deep
import HandS.Zip
import HandS.Wide
import HandS.TupAny
import HandS.StrMore
import HandS.RaiseMore
import HandS.WordsList
import HandS.WordsDict
import HandS.TupLen
import HandS.DictComp
import HandS.SetKeys
import HandS.Head2
import HandS.HeadEnd
import HandS.HeadHook2
import HandS.Style
import HandS.ExcIs
import HandS.Conv
import HandS.EndBits
import KE.GoesEnum
import HandS.OwnEq
import HandS.SlotsOwn
import PyProof.InstNe
import HandS.Gcd
import HandS.WideBits
import HandS.TryOnly
import HandS.Comp
import PyProof.Rows.SumAny
import KE.KRevSl
import HandS.SetFor
import HandS.Strs
import KE.DatumOrd
import KE.KDictDisplayH
import PyProof.AutoSeq1
import KE.IntTextLaws
import HandS.Text
import PySem.Challenge.RW_oncebooked_k23_whole_statements_and_page
section SDLCore
set_option Elab.async false
set_option linter.all false
set_option maxRecDepth 100000
/-! A layer of plain values over HandS: D (data), cells (what may still change), readings over these alone. -/
namespace DL
open PySem L2

inductive D where
  | non | bl (b : Bool) | int (i : Int) | str (x : Str)
  | tup (xs : List D) | lst (xs : List D) | dic (kvs : List (Key × D)) | ref (a : Addr)
  /-- a list that is locked: the script -/
  | lkd (xs : List D)
  /-- a built-in type -/
  | ty (n : String)
  /-- the error that an except suite holds: where it stands, its class, its dict, its value -/
  | exc (a C dx : Addr) (d : D)
/-- what may change: a list, a dict, an instance -/
inductive Cell where
  | lst (xs : List D) | dic (kvs : List (Key × D)) | obj (C : Addr) (fs : List (Str × D))
  /-- a dict with tuples as keys -/
  | dct (kvs : List (List Key × D))
abbrev Sto := Addr → Option Cell
def put (st : Sto) (a : Addr) (c : Cell) : Sto := fun b => if b = a then some c else st b
def drop (st : Sto) (a : Addr) : Sto := fun b => if b = a then none else st b
theorem put_same {st : Sto} {a : Addr} {c : Cell} : put st a c a = some c := if_pos rfl
theorem put_ne {st : Sto} {a b : Addr} {c : Cell} (h : b ≠ a) : put st a c b = st b := if_neg h
theorem drop_same {st : Sto} {a : Addr} : drop st a a = none := if_pos rfl
theorem drop_ne {st : Sto} {a b : Addr} (h : b ≠ a) : drop st a b = st b := if_neg h
theorem drop_put {st : Sto} {a : Addr} {c : Cell} (h : st a = none) : drop (put st a c) a = st := by
  funext b; by_cases e : b = a
  · subst e; rw [drop_same, h]
  · rw [drop_ne e, put_ne e]
theorem put_put {st : Sto} {a : Addr} {c d : Cell} : put (put st a c) a d = put st a d := by
  funext b; by_cases e : b = a
  · subst e; rw [put_same, put_same]
  · rw [put_ne e, put_ne e, put_ne e]
theorem put_self {st : Sto} {a : Addr} {c : Cell} (h : st a = some c) : put st a c = st := by
  funext b; by_cases e : b = a
  · subst e; rw [put_same, h]
  · rw [put_ne e]
theorem put_comm {st : Sto} {a b : Addr} {c d : Cell} (h : a ≠ b) : put (put st a c) b d = put (put st b d) a c := by
  funext x
  by_cases e : x = b
  · subst e; rw [put_same, put_ne (Ne.symm h), put_same]
  · rw [put_ne e]
    by_cases e2 : x = a
    · subst e2; rw [put_same, put_same]
    · rw [put_ne e2, put_ne e2, put_ne e]
theorem drop_put_ne {st : Sto} {a b : Addr} {c : Cell} (h : a ≠ b) : drop (put st a c) b = put (drop st b) a c := by
  funext x
  by_cases e : x = b
  · subst e; rw [drop_same, put_ne (Ne.symm h), drop_same]
  · rw [drop_ne e]
    by_cases e2 : x = a
    · subst e2; rw [put_same, put_same]
    · rw [put_ne e2, put_ne e2, drop_ne e]
theorem sto_ne {st : Sto} {a b : Addr} {c : Cell} (h : st a = some c) (h' : st b = none) : a ≠ b := fun e => by rw [e, h'] at h; cases h

/-! ### a datum stands at a value -/
mutual
inductive Rep (H : Hp) (st : Sto) : D → V → Prop
  | non : Rep H st .non .non
  | bl (b : Bool) : Rep H st (.bl b) (.bl b)
  | int (i : Int) : Rep H st (.int i) (.int i)
  | str (x : Str) : Rep H st (.str x) (.str x)
  | ref (a : Addr) : Rep H st (.ref a) (.ref a)
  | ty (n : String) : Rep H st (.ty n) (.ty n)
  | exc {a C dx : Addr} {d : D} {v : V} : st dx = none → H dx = some (.xd [("value", v)]) → Rep H st d v → Rep H st (.exc a C dx d) (.ref a)
  | tup {a : Addr} {ds : List D} {vs : List V} : st a = none → Rd H a (.tup vs) → RepL H st ds vs → Rep H st (.tup ds) (.ref a)
  | lst {a : Addr} {ds : List D} {vs : List V} : st a = none → H a = some (.lst vs) → RepL H st ds vs → Rep H st (.lst ds) (.ref a)
  | lkd {a : Addr} {ds : List D} {vs : List V} : st a = none → Rd H a (.lst vs) → RepL H st ds vs → Rep H st (.lkd ds) (.ref a)
  | dic {a : Addr} {ds : List (Key × D)} {vs : List (Key × V)} : st a = none → H a = some (.dK vs) → RepK H st ds vs → Rep H st (.dic ds) (.ref a)
inductive RepL (H : Hp) (st : Sto) : List D → List V → Prop
  | nil : RepL H st [] []
  | cons {d : D} {v : V} {ds : List D} {vs : List V} : Rep H st d v → RepL H st ds vs → RepL H st (d :: ds) (v :: vs)
inductive RepK (H : Hp) (st : Sto) : List (Key × D) → List (Key × V) → Prop
  | nil : RepK H st [] []
  | cons {k : Key} {d : D} {v : V} {ds : List (Key × D)} {vs : List (Key × V)} : Rep H st d v → RepK H st ds vs → RepK H st ((k, d) :: ds) ((k, v) :: vs)
end
/-- attributes -/
inductive RepF (H : Hp) (st : Sto) : List (Str × D) → List (Str × V) → Prop
  | nil : RepF H st [] []
  | cons {k : Str} {d : D} {v : V} {ds : List (Str × D)} {vs : List (Str × V)} : Rep H st d v → RepF H st ds vs → RepF H st ((k, d) :: ds) ((k, v) :: vs)

/-- a dict with tuples as keys -/
inductive RepT (H : Hp) (st : Sto) : List (List Key × D) → List (List Key × V) → Prop
  | nil : RepT H st [] []
  | cons {k : List Key} {d : D} {v : V} {ds : List (List Key × D)} {vs : List (List Key × V)} : Rep H st d v → RepT H st ds vs → RepT H st ((k, d) :: ds) ((k, v) :: vs)

/-- what was tracked and does not change is as it was -/
structure Step (st : Sto) (H : Hp) (st' : Sto) (H' : Hp) : Prop where
  keep : ∀ a o, H a = some o → st a = none → H' a = some o ∧ st' a = none
theorem Step.refl {st : Sto} {H : Hp} : Step st H st H := ⟨fun _ _ h n => ⟨h, n⟩⟩
theorem Step.trans {s0 s1 s2 : Sto} {H0 H1 H2 : Hp} (a : Step s0 H0 s1 H1) (b : Step s1 H1 s2 H2) : Step s0 H0 s2 H2 :=
  ⟨fun x o h n => let ⟨h1, n1⟩ := a.keep x o h n; b.keep x o h1 n1⟩
theorem Step.rd {st st' : Sto} {H H' : Hp} {a : Addr} {u : HO} (s : Step st H st' H') (n : st a = none) (r : Rd H a u) : Rd H' a u ∧ st' a = none := by
  rcases r with r | ⟨o, r⟩
  · exact ⟨.inl (s.keep _ _ r n).1, (s.keep _ _ r n).2⟩
  · exact ⟨.inr ⟨o, (s.keep _ _ r n).1⟩, (s.keep _ _ r n).2⟩

mutual
theorem Rep.step {H H' : Hp} {st st' : Sto} (s : Step st H st' H') : ∀ {d : D} {v : V}, Rep H st d v → Rep H' st' d v
  | _, _, .non => .non
  | _, _, .bl b => .bl b
  | _, _, .int i => .int i
  | _, _, .str x => .str x
  | _, _, .ref a => .ref a
  | _, _, .ty n => .ty n
  | _, _, .exc n r q => .exc (s.keep _ _ r n).2 (s.keep _ _ r n).1 (Rep.step s q)
  | _, _, .tup n r l => .tup (s.rd n r).2 (s.rd n r).1 (RepL.step s l)
  | _, _, .lst n r l => .lst (s.keep _ _ r n).2 (s.keep _ _ r n).1 (RepL.step s l)
  | _, _, .lkd n r l => .lkd (s.rd n r).2 (s.rd n r).1 (RepL.step s l)
  | _, _, .dic n r l => .dic (s.keep _ _ r n).2 (s.keep _ _ r n).1 (RepK.step s l)
theorem RepL.step {H H' : Hp} {st st' : Sto} (s : Step st H st' H') : ∀ {ds : List D} {vs : List V}, RepL H st ds vs → RepL H' st' ds vs
  | _, _, .nil => .nil
  | _, _, .cons r l => .cons (Rep.step s r) (RepL.step s l)
theorem RepK.step {H H' : Hp} {st st' : Sto} (s : Step st H st' H') : ∀ {ds : List (Key × D)} {vs : List (Key × V)}, RepK H st ds vs → RepK H' st' ds vs
  | _, _, .nil => .nil
  | _, _, .cons r l => .cons (Rep.step s r) (RepK.step s l)
end
theorem RepF.step {H H' : Hp} {st st' : Sto} (s : Step st H st' H') : ∀ {ds : List (Str × D)} {vs : List (Str × V)}, RepF H st ds vs → RepF H' st' ds vs
  | _, _, .nil => .nil
  | _, _, .cons r l => .cons (r.step s) (RepF.step s l)
theorem RepT.step {H H' : Hp} {st st' : Sto} (s : Step st H st' H') : ∀ {ds : List (List Key × D)} {vs : List (List Key × V)}, RepT H st ds vs → RepT H' st' ds vs
  | _, _, .nil => .nil
  | _, _, .cons r l => .cons (r.step s) (RepT.step s l)
theorem RepT.length {H : Hp} {st : Sto} : ∀ {ds : List (List Key × D)} {vs : List (List Key × V)}, RepT H st ds vs → ds.length = vs.length
  | _, _, .nil => rfl
  | _, _, .cons _ l => by rw [List.length_cons, List.length_cons, RepT.length l]
section
variable {H : Hp} {st : Sto}
theorem RepL.length : ∀ {ds : List D} {vs : List V}, RepL H st ds vs → ds.length = vs.length
  | _, _, .nil => rfl
  | _, _, .cons _ l => by rw [List.length_cons, List.length_cons, RepL.length l]
theorem RepL.append : ∀ {ds es : List D} {vs ws : List V}, RepL H st ds vs → RepL H st es ws → RepL H st (ds ++ es) (vs ++ ws)
  | _, _, _, _, .nil, r => r
  | _, _, _, _, .cons a l, r => .cons a (RepL.append l r)
theorem RepL.get : ∀ {ds : List D} {vs : List V} {i : Nat} {d : D}, RepL H st ds vs → ds[i]? = some d → ∃ v, vs[i]? = some v ∧ Rep H st d v
  | _, _, _, _, .nil, e => by simp at e
  | _, _, 0, _, .cons r _, e => by simp at e; subst e; exact ⟨_, rfl, r⟩
  | _, _, i + 1, d, .cons _ l, e => by
    obtain ⟨v, h1, h2⟩ := RepL.get (i := i) (d := d) l (by simpa using e)
    exact ⟨v, by simpa using h1, h2⟩
theorem RepL.get' : ∀ {ds : List D} {vs : List V} {i : Nat} {v : V}, RepL H st ds vs → vs[i]? = some v → ∃ d, ds[i]? = some d ∧ Rep H st d v
  | _, _, _, _, .nil, e => by simp at e
  | _, _, 0, _, .cons r _, e => by simp at e; subst e; exact ⟨_, rfl, r⟩
  | _, _, i + 1, d, .cons _ l, e => by
    obtain ⟨v, h1, h2⟩ := RepL.get' (i := i) (v := d) l (by simpa using e)
    exact ⟨v, by simpa using h1, h2⟩
theorem RepL.take : ∀ {ds : List D} {vs : List V} (n : Nat), RepL H st ds vs → RepL H st (ds.take n) (vs.take n)
  | _, _, 0, _ => .nil
  | _, _, _ + 1, .nil => .nil
  | _, _, n + 1, .cons r l => .cons r (RepL.take n l)
theorem RepL.drop : ∀ {ds : List D} {vs : List V} (n : Nat), RepL H st ds vs → RepL H st (ds.drop n) (vs.drop n)
  | _, _, 0, r => r
  | _, _, _ + 1, .nil => .nil
  | _, _, n + 1, .cons r l => RepL.drop n l
theorem RepL.set {d : D} {v : V} (r : Rep H st d v) : ∀ {ds : List D} {vs : List V} (n : Nat), RepL H st ds vs → RepL H st (ds.set n d) (vs.set n v)
  | _, _, _, .nil => .nil
  | _, _, 0, .cons _ l => .cons r l
  | _, _, n + 1, .cons q l => .cons q (RepL.set r n l)
theorem RepL.eraseIdx : ∀ {ds : List D} {vs : List V} (n : Nat), RepL H st ds vs → RepL H st (ds.eraseIdx n) (vs.eraseIdx n)
  | _, _, _, .nil => .nil
  | _, _, 0, .cons _ l => l
  | _, _, n + 1, .cons q l => .cons q (RepL.eraseIdx n l)
theorem RepL.reverse {ds : List D} {vs : List V} (l : RepL H st ds vs) : RepL H st ds.reverse vs.reverse := by
  induction ds generalizing vs with
  | nil => cases l; exact .nil
  | cons d ds ih =>
    cases l with
    | cons r l => rw [List.reverse_cons, List.reverse_cons]; exact (ih l).append (.cons r .nil)
theorem RepL.ints (ns : List Int) : RepL H st (ns.map D.int) (ns.map V.int) := by
  induction ns with
  | nil => exact .nil
  | cons n ns ih => exact .cons (.int n) ih
theorem RepL.strs (ns : List Str) : RepL H st (ns.map D.str) (ns.map V.str) := by
  induction ns with
  | nil => exact .nil
  | cons n ns ih => exact .cons (.str n) ih
theorem RepK.length : ∀ {ds : List (Key × D)} {vs : List (Key × V)}, RepK H st ds vs → ds.length = vs.length
  | _, _, .nil => rfl
  | _, _, .cons _ l => by rw [List.length_cons, List.length_cons, RepK.length l]
end

/-! ### the state -/
def getS : List (Option D) → Nat → Option D
  | [], _ => none
  | x :: _, 0 => x
  | _ :: r, n + 1 => getS r n
def setS : List (Option D) → Nat → D → List (Option D)
  | [], _, _ => []
  | _ :: r, 0, d => some d :: r
  | x :: r, n + 1, d => x :: setS r n d
theorem setS_length : ∀ (l : List (Option D)) (n : Nat) (d : D), (setS l n d).length = l.length
  | [], _, _ => rfl
  | _ :: _, 0, _ => rfl
  | _ :: r, n + 1, d => by rw [setS, List.length_cons, List.length_cons, setS_length r n d]
theorem getS_setS : ∀ (l : List (Option D)) (n m : Nat) (d x : D), getS (setS l n d) m = some x → (m = n ∧ x = d ∧ n < l.length) ∨ (m ≠ n ∧ getS l m = some x)
  | [], _, _, _, _, h => by cases h
  | _ :: _, 0, 0, _, _, h => by
    have h : some _ = some _ := h
    cases h
    exact .inl ⟨rfl, rfl, Nat.succ_pos _⟩
  | _ :: _, 0, m + 1, _, _, h => .inr ⟨nofun, h⟩
  | _ :: _, n + 1, 0, _, _, h => .inr ⟨nofun, h⟩
  | _ :: r, n + 1, m + 1, d, x, h => by
    rcases getS_setS r n m d x h with ⟨a, b, c⟩ | ⟨a, b⟩
    · exact .inl ⟨by rw [a], b, Nat.succ_lt_succ c⟩
    · exact .inr ⟨fun z => a (Nat.succ.inj z), b⟩
structure G where
  sl : List (Option D)
  st : Sto
def CellRep (H : Hp) (st : Sto) (a : Addr) : Cell → Prop
  | .lst ds => ∃ vs, H a = some (.lst vs) ∧ RepL H st ds vs
  | .dic ds => ∃ vs, H a = some (.dK vs) ∧ RepK H st ds vs
  | .obj C fs => ∃ dx vs, H a = some (.ins C dx vs) ∧ RepF H st fs vs
  | .dct ds => ∃ vs, H a = some (.dT vs) ∧ RepT H st ds vs
def StoRep (H : Hp) (st : Sto) : Prop := ∀ a c, st a = some c → CellRep H st a c
structure EnvRep (G : G) (σ : L2.St) (H : Hp) : Prop where
  sto : StoRep H G.st
  len : G.sl.length = σ.length
  sl : ∀ (i : Nat) (d : D), getS G.sl i = some d → ∃ v, σ[i]? = some (some v) ∧ Rep H G.st d v
theorem StoRep.there {H : Hp} {st : Sto} (r : StoRep H st) {a : Addr} {c : Cell} (h : st a = some c) : ∃ o, H a = some o ∧ Mut (some o) := by
  have q := r a c h
  cases c with
  | lst ds => obtain ⟨vs, e, _⟩ := q; exact ⟨_, e, trivial⟩
  | dic ds => obtain ⟨vs, e, _⟩ := q; exact ⟨_, e, trivial⟩
  | obj C fs => obtain ⟨dx, vs, e, _⟩ := q; exact ⟨_, e, trivial⟩
  | dct ds => obtain ⟨vs, e, _⟩ := q; exact ⟨_, e, trivial⟩
/-- no cell stands at a free place -/
theorem StoRep.free {H : Hp} {st : Sto} (r : StoRep H st) {a : Addr} (h : H a = none) : st a = none := by
  cases e : st a with
  | none => rfl
  | some c =>
    obtain ⟨o, q, _⟩ := r.there e
    rw [h] at q; cases q
theorem CellRep.step {H H' : Hp} {st st' : Sto} (s : Step st H st' H') {a : Addr} {c : Cell} (e : H' a = H a) (r : CellRep H st a c) : CellRep H' st' a c := by
  cases c with
  | lst ds => obtain ⟨vs, h, l⟩ := r; exact ⟨vs, e.trans h, l.step s⟩
  | dic ds => obtain ⟨vs, h, l⟩ := r; exact ⟨vs, e.trans h, l.step s⟩
  | obj C fs => obtain ⟨dx, vs, h, l⟩ := r; exact ⟨dx, vs, e.trans h, l.step s⟩
  | dct ds => obtain ⟨vs, h, l⟩ := r; exact ⟨vs, e.trans h, l.step s⟩
/-- a new object, that will not change -/
theorem Step.new {st : Sto} {H : Hp} {p : Addr} {o : HO} (h : H p = none) : Step st H st (upd H p o) :=
  ⟨fun a u e n => ⟨by rw [upd_ne (ne_of_none e h)]; exact e, n⟩⟩
/-- a new cell -/
theorem Step.newc {st : Sto} {H : Hp} {p : Addr} {o : HO} {c : Cell} (h : H p = none) : Step st H (put st p c) (upd H p o) :=
  ⟨fun a u e n => ⟨by rw [upd_ne (ne_of_none e h)]; exact e, by rw [put_ne (ne_of_none e h)]; exact n⟩⟩
/-- a cell is written -/
theorem Step.wr {st : Sto} {H : Hp} {p : Addr} {o : HO} {c c' : Cell} (h : st p = some c) : Step st H (put st p c') (upd H p o) :=
  ⟨fun a u e n => by
    have ne : a ≠ p := fun z => by rw [z, h] at n; cases n
    exact ⟨by rw [upd_ne ne]; exact e, by rw [put_ne ne]; exact n⟩⟩
/-- a cell is given up: it will not change -/
theorem Step.frz {st : Sto} {H : Hp} {p : Addr} : Step st H (drop st p) H :=
  ⟨fun a u e n => ⟨e, by
    by_cases z : a = p
    · subst z; exact drop_same
    · rw [drop_ne z]; exact n⟩⟩
theorem StoRep.new {st : Sto} {H : Hp} {p : Addr} {o : HO} (r : StoRep H st) (h : H p = none) : StoRep (upd H p o) st := fun a c e => by
  obtain ⟨u, q, _⟩ := r.there e
  exact (r a c e).step (Step.new h) (upd_ne (ne_of_none q h))
theorem StoRep.newc {st : Sto} {H : Hp} {p : Addr} {o : HO} {c : Cell} (r : StoRep H st) (h : H p = none) (n : CellRep (upd H p o) (put st p c) p c) : StoRep (upd H p o) (put st p c) := fun a d e => by
  by_cases z : a = p
  · subst z; rw [put_same] at e; cases e; exact n
  · rw [put_ne z] at e
    exact (r a d e).step (Step.newc h) (upd_ne z)
theorem StoRep.wr {st : Sto} {H : Hp} {p : Addr} {o : HO} {c c' : Cell} (r : StoRep H st) (h : st p = some c) (n : CellRep (upd H p o) (put st p c') p c') : StoRep (upd H p o) (put st p c') := fun a d e => by
  by_cases z : a = p
  · subst z; rw [put_same] at e; cases e; exact n
  · rw [put_ne z] at e
    exact (r a d e).step (Step.wr h) (upd_ne z)
theorem StoRep.frz {st : Sto} {H : Hp} {p : Addr} (r : StoRep H st) : StoRep H (drop st p) := fun a c e => by
  by_cases z : a = p
  · subst z; rw [drop_same] at e; cases e
  · rw [drop_ne z] at e
    exact (r a c e).step Step.frz rfl
/-- the state behind a step -/
theorem EnvRep.step {g : G} {σ : St} {H H' : Hp} {st' : Sto} (e : EnvRep g σ H) (s : Step g.st H st' H') (r : StoRep H' st') : EnvRep ⟨g.sl, st'⟩ σ H' :=
  ⟨r, e.len, fun i d h => let ⟨v, h1, h2⟩ := e.sl i d h; ⟨v, h1, h2.step s⟩⟩
theorem EnvRep.set {g : G} {σ : L2.St} {H : Hp} (e : EnvRep g σ H) {d : D} {v : V} (i : Nat) (r : Rep H g.st d v) : EnvRep ⟨setS g.sl i d, g.st⟩ (σ.set i (some v)) H :=
  ⟨e.sto, by rw [setS_length, List.length_set]; exact e.len, fun j x h => by
    rcases getS_setS _ _ _ _ _ h with ⟨rfl, rfl, hl⟩ | ⟨ne, h⟩
    · exact ⟨v, List.getElem?_set_self (by rw [← e.len]; exact hl), r⟩
    · obtain ⟨u, h1, h2⟩ := e.sl j x h
      exact ⟨u, by rw [List.getElem?_set_ne (Ne.symm ne)]; exact h1, h2⟩⟩
/-- less is known -/
theorem EnvRep.weak {g : G} {σ : L2.St} {H : Hp} (e : EnvRep g σ H) {sl : List (Option D)} (hl : sl.length = g.sl.length) (h : ∀ (i : Nat) (d : D), getS sl i = some d → getS g.sl i = some d) : EnvRep ⟨sl, g.st⟩ σ H :=
  ⟨e.sto, hl.trans e.len, fun i d q => e.sl i d (h i d q)⟩
end DL

end SDLCore

section SDLJ
set_option Elab.async false
set_option linter.all false
set_option maxRecDepth 100000
namespace DL
open PySem L2

abbrev KD := D → G → Prop
abbrev XD := Addr → D → G → Prop
abbrev WE := G → KD → XD → Prop
abbrev WA := G → (List D → G → Prop) → XD → Prop
abbrev WT := G → (Bool → G → Prop) → XD → Prop
abbrev WO1 := D → G → KD → Prop
abbrev WO2 := D → D → G → KD → Prop
abbrev WON := List D → G → KD → Prop

/-- an exception's own dict -/
def ExcRep (H : Hp) (st : Sto) (dx : Addr) (d : D) : Prop := ∃ v, H dx = some (.xd [("value", v)]) ∧ Rep H st d v
def Upd (σ : L2.St) (s0 : Sto) (H0 : Hp) (K : KD) (Q : VK) : Prop := ∀ d g v H, K d g → Step s0 H0 g.st H → EnvRep g σ H → Rep H g.st d v → Q v H
def UpA (σ : L2.St) (s0 : Sto) (H0 : Hp) (K : List D → G → Prop) (Q : List V → Hp → Prop) : Prop := ∀ ds g vs H, K ds g → Step s0 H0 g.st H → EnvRep g σ H → RepL H g.st ds vs → Q vs H
def UpT (σ : L2.St) (s0 : Sto) (H0 : Hp) (K : Bool → G → Prop) (Q : Bool → Hp → Prop) : Prop := ∀ b g H, K b g → Step s0 H0 g.st H → EnvRep g σ H → Q b H
def UpX (W : WX) (σ : L2.St) (s0 : Sto) (H0 : Hp) (X : XD) : Prop := ∀ C d g dx H, X C d g → Step s0 H0 g.st H → EnvRep g σ H → ExcRep H g.st dx d → W (.ref C) (some dx) σ H
section
variable {σ : L2.St} {s0 s1 : Sto} {H0 H1 : Hp} {W : WX}
theorem Upd.on {K : KD} {Q : VK} (u : Upd σ s0 H0 K Q) (s : Step s0 H0 s1 H1) : Upd σ s1 H1 K Q := fun d g v H k t e r => u d g v H k (s.trans t) e r
theorem UpA.on {K : List D → G → Prop} {Q : List V → Hp → Prop} (u : UpA σ s0 H0 K Q) (s : Step s0 H0 s1 H1) : UpA σ s1 H1 K Q := fun d g v H k t e r => u d g v H k (s.trans t) e r
theorem UpT.on {K : Bool → G → Prop} {Q : Bool → Hp → Prop} (u : UpT σ s0 H0 K Q) (s : Step s0 H0 s1 H1) : UpT σ s1 H1 K Q := fun b g H k t e => u b g H k (s.trans t) e
theorem UpX.on {X : XD} (u : UpX W σ s0 H0 X) (s : Step s0 H0 s1 H1) : UpX W σ s1 H1 X := fun C d g dx H k t e r => u C d g dx H k (s.trans t) e r
end
def liftE (W : WX) (w : WE) : TE := fun σ H Q => ∃ g K X, EnvRep g σ H ∧ w g K X ∧ Upd σ g.st H K Q ∧ UpX W σ g.st H X
def liftA (W : WX) (w : WA) : TA := fun σ H Q => ∃ g K X, EnvRep g σ H ∧ w g K X ∧ UpA σ g.st H K Q ∧ UpX W σ g.st H X
def liftT (W : WX) (w : WT) : TT := fun σ H Q => ∃ g K X, EnvRep g σ H ∧ w g K X ∧ UpT σ g.st H K Q ∧ UpX W σ g.st H X
abbrev DE (X : Cx) (W : WX) (e : Expr) (w : WE) : Prop := PE X e (liftE W w)
abbrev DA (X : Cx) (W : WX) (es : List Expr) (w : WA) : Prop := PA X es (liftA W w)
abbrev DT (X : Cx) (W : WX) (e : Expr) (w : WT) : Prop := PT X e (liftT W w)

section
variable {X : Cx} {W : WX}
theorem _root_.L2.PE.imp {e : Expr} {t t' : TE} (h : PE X e t) (i : ∀ σ H Q, t' σ H Q → t σ H Q) : PE X e t' := ⟨fun pins s σ H Q I q => h.run pins s σ H Q I (i σ H Q q)⟩
theorem _root_.L2.PT.imp {e : Expr} {t t' : TT} (h : PT X e t) (i : ∀ σ H Q, t' σ H Q → t σ H Q) : PT X e t' := ⟨fun pins s σ H Q I q => h.run pins s σ H Q I (i σ H Q q)⟩
theorem _root_.L2.PA.imp {e : List Expr} {t t' : TA} (h : PA X e t) (i : ∀ σ H Q, t' σ H Q → t σ H Q) : PA X e t' := ⟨fun pos pins s σ H Q I q => h.run pos pins s σ H Q I (i σ H Q q)⟩
theorem _root_.L2.PS.imp {e : Stmt} {t t' : TS} (h : PS X e t) (i : ∀ D σ H, t' D σ H → t D σ H) : PS X e t' := ⟨fun pins s σ H D I q => h.run pins s σ H D I (i D σ H q)⟩
theorem _root_.L2.PSs.imp {e : List Stmt} {t t' : TS} (h : PSs X e t) (i : ∀ D σ H, t' D σ H → t D σ H) : PSs X e t' := ⟨fun pins s σ H D I q => h.run pins s σ H D I (i D σ H q)⟩

/-! ### names, constants -/
def wVar (i : Nat) : WE := fun g K _ => match getS g.sl i with | some d => K d g | none => False
def wC (d : D) : WE := fun g K _ => K d g
theorem de_var (i : Nat) {x : Str} {pos : Pos} (hN : X.N[i]? = some x := by rfl) (hv : Vis X.env.scope x := by first | exact Or.inl rfl | exact Or.inr (Or.inl rfl) | exact Or.inr (Or.inr rfl)) (hd : (x == ("__debug__" : Str)) = false := by decide)
    (hcd : (x == ("__classdict__" : Str)) = false := by decide) : DE X W (.Name x pos) (wVar i) := (pe_var hN hv hd hcd).imp fun σ H Q ⟨g, K, _, E, w, U, _⟩ => by
  unfold wVar at w
  cases e : getS g.sl i with
  | none => rw [e] at w; exact w.elim
  | some d =>
    rw [e] at w
    obtain ⟨v, h1, h2⟩ := E.sl i d e
    exact ⟨v, h1, U d g v H w Step.refl E h2⟩
/-- the rule of every constant -/
theorem de_c {e : Expr} {v : V} {d : D} (h : PE X e (tC v)) (r : ∀ H st, Rep H st d v) : DE X W e (wC d) := h.imp fun σ H Q ⟨g, K, _, E, w, U, _⟩ => U d g v H w Step.refl E (r H g.st)
theorem de_int {i : Int} {j pos} : DE X W (.Constant (.int i) j pos) (wC (.int i)) := de_c pe_int fun _ _ => .int i
theorem de_bl {b : Bool} {j pos} : DE X W (.Constant (.bool b) j pos) (wC (.bl b)) := de_c pe_bl fun _ _ => .bl b
theorem de_non {j pos} : DE X W (.Constant .none j pos) (wC .non) := de_c pe_non fun _ _ => .non
theorem de_str {x : Str} {j pos} : DE X W (.Constant (.str x) j pos) (wC (.str x)) := de_c pe_str fun _ _ => .str x
/-- a module's int -/
theorem de_gint {x : Str} {i : Int} {pos : Pos} (hm : ∃ t, X.mg x = some (.int i t)) (hg : Gl X x := by rfl) (hd : (x == ("__debug__" : Str)) = false := by decide) : DE X W (.Name x pos) (wC (.int i)) :=
  let ⟨t, h⟩ := hm; de_c (v := .int i) (pe_glob hg h ⟨t, rfl⟩ hd) fun _ _ => .int i
theorem de_gstr {x z : Str} {pos : Pos} (hm : ∃ t, X.mg x = some (.str z t)) (hg : Gl X x := by rfl) (hd : (x == ("__debug__" : Str)) = false := by decide) : DE X W (.Name x pos) (wC (.str z)) :=
  let ⟨t, h⟩ := hm; de_c (v := .str z) (pe_glob hg h ⟨t, rfl⟩ hd) fun _ _ => .str z

/-! ### two operands -/
def wOp2 (w : WO2) (wa wb : WE) : WE := fun g K X => wa g (fun a g1 => wb g1 (fun b g2 => w a b g2 K) X) X
def wOp1 (w : WO1) (wa : WE) : WE := fun g K X => wa g (fun a g1 => w a g1 K) X
def SO2 (r : R2) (w : WO2) : Prop := ∀ {a b : D} {x y : V} {g : G} {σ : L2.St} {H : Hp} {K : KD} {Q : VK}, EnvRep g σ H → Rep H g.st a x → Rep H g.st b y → w a b g K → Upd σ g.st H K Q → r x y H Q
def SO1 (r : V → Hp → VK → Prop) (w : WO1) : Prop := ∀ {a : D} {x : V} {g : G} {σ : L2.St} {H : Hp} {K : KD} {Q : VK}, EnvRep g σ H → Rep H g.st a x → w a g K → Upd σ g.st H K Q → r x H Q
def SON (r : List V → Hp → VK → Prop) (w : WON) : Prop := ∀ {a : List D} {x : List V} {g : G} {σ : L2.St} {H : Hp} {K : KD} {Q : VK}, EnvRep g σ H → RepL H g.st a x → w a g K → Upd σ g.st H K Q → r x H Q
theorem seq2 {r : R2} {w : WO2} {wa wb : WE} (s : SO2 r w) {σ : L2.St} {H : Hp} {Q : VK} (h : liftE W (wOp2 w wa wb) σ H Q) :
    liftE W wa σ H fun x H1 => liftE W wb σ H1 fun y H2 => r x y H2 Q := by
  obtain ⟨g, K, Xd, E, h, U, UX⟩ := h
  exact ⟨g, _, Xd, E, h, fun a g1 x H1 h1 S1 E1 R1 => ⟨g1, _, Xd, E1, h1, fun b g2 y H2 h2 S2 E2 R2 => s E2 (R1.step S2) R2 h2 (U.on (S1.trans S2)), UX.on S1⟩, UX⟩
theorem seq1 {r : V → Hp → VK → Prop} {w : WO1} {wa : WE} (s : SO1 r w) {σ : L2.St} {H : Hp} {Q : VK} (h : liftE W (wOp1 w wa) σ H Q) :
    liftE W wa σ H fun x H1 => r x H1 Q := by
  obtain ⟨g, K, Xd, E, h, U, UX⟩ := h
  exact ⟨g, _, Xd, E, h, fun a g1 x H1 h1 S1 E1 R1 => s E1 R1 h1 (U.on S1), UX⟩
variable {a b c : Expr} {wa wb wc : WE} {pos : Pos}
theorem de_op {op : Operator} {r : R2} {w : WO2} (o : OpR X (binaryOp op) r) (s : SO2 r w) (ha : DE X W a wa) (hb : DE X W b wb) : DE X W (.BinOp a op b pos) (wOp2 w wa wb) :=
  (pe_op o ha hb).imp fun _ _ _ h => seq2 s h
theorem de_cmp {op : CmpOp} {r : R2} {w : WO2} (o : OpR X (compareOp op) r) (s : SO2 r w) (ha : DE X W a wa) (hb : DE X W b wb) (hm : behindInMarks op b = false := by first | exact nomark _ | rfl) : DE X W (.Compare a [op] [b] pos) (wOp2 w wa wb) :=
  (pe_cmpR o ha hb hm).imp fun _ _ _ h => seq2 s h
theorem de_un {op : UnaryOp} {r : V → Hp → VK → Prop} {w : WO1} (o : UnR X (unaryOp op) r) (s : SO1 r w) (ha : DE X W a wa) : DE X W (.UnaryOp op a pos) (wOp1 w wa) :=
  (pe_un o ha).imp fun _ _ _ h => seq1 s h
/-- a test from a value -/
def wB (w : WE) : WT := fun g K X => w g (fun d g1 => match d with | .bl b => K b g1 | _ => False) X
theorem liftB {w : WE} {σ : L2.St} {H : Hp} {Q : Bool → Hp → Prop} (h : liftT W (wB w) σ H Q) : liftE W w σ H fun x H' => ∃ k, x = .bl k ∧ Q k H' := by
  obtain ⟨g, K, Xd, E, h, U, UX⟩ := h
  refine ⟨g, _, Xd, E, h, fun a g1 x H1 h1 S1 E1 R1 => ?_, UX⟩
  cases a <;> first | exact h1.elim | skip
  cases R1
  exact ⟨_, rfl, U _ g1 H1 h1 S1 E1⟩
theorem dt_cmp {op : CmpOp} {r : R2} {w : WO2} (o : OpR X (compareOp op) r) (s : SO2 r w) (ha : DE X W a wa) (hb : DE X W b wb) (hm : behindInMarks op b = false := by first | exact nomark _ | rfl) : DT X W (.Compare a [op] [b] pos) (wB (wOp2 w wa wb)) :=
  (pt_cmpR o ha hb hm).imp fun σ H Q h => by
    obtain ⟨g, K, Xd, E, h, U, UX⟩ := h
    refine seq2 s ⟨g, _, Xd, E, h, fun a g1 x H1 h1 S1 E1 R1 => ?_, UX⟩
    cases a <;> first | exact h1.elim | skip
    cases R1
    exact ⟨_, rfl, U _ g1 H1 h1 S1 E1⟩
/-- a op b op' c -/
def wChain (w w' : WO2) (wa wb wc : WE) : WE := fun g K X => wa g (fun a g1 => wb g1 (fun b g2 => w a b g2 fun k g3 => match k with | .bl true => wc g3 (fun c g4 => w' b c g4 K) X | .bl false => K (.bl false) g3 | _ => False) X) X
theorem seqChain {r r' : R2} {w w' : WO2} (s : SO2 r w) (s' : SO2 r' w') {σ : L2.St} {H : Hp} {Q : VK} (h : liftE W (wChain w w' wa wb wc) σ H Q) : tChain r r' (liftE W wa) (liftE W wb) (liftE W wc) σ H Q := by
  obtain ⟨g, K, Xd, E, h, U, UX⟩ := h
  refine ⟨g, _, Xd, E, h, fun a g1 x H1 h1 S1 E1 R1 => ⟨g1, _, Xd, E1, h1, fun b g2 y H2 h2 S2 E2 R2 => s E2 (R1.step S2) R2 h2 fun k g3 z H3 h3 S3 E3 R3 => ?_, UX.on S1⟩, UX⟩
  have S : Step g.st H g3.st H3 := S1.trans (S2.trans S3)
  cases k <;> first | exact h3.elim | skip
  rename_i k
  cases R3
  refine ⟨k, rfl, ?_⟩
  cases k with
  | false => rw [if_neg Bool.false_ne_true]; exact U _ g3 _ H3 h3 S E3 (.bl false)
  | true =>
    rw [if_pos rfl]
    exact ⟨g3, _, Xd, E3, h3, fun c g4 w4 H4 h4 S4 E4 R4 => s' E4 ((R2.step S3).step S4) R4 h4 (U.on (S.trans S4)), UX.on S⟩
theorem de_chain {op op' : CmpOp} {r r' : R2} {w w' : WO2} (o : OpR X (compareOp op) r) (o' : OpR X (compareOp op') r') (s : SO2 r w) (s' : SO2 r' w') (ha : DE X W a wa) (hb : DE X W b wb) (hc : DE X W c wc)
    (hm : lastMarks [op, op'] [b, c] = false := by with_unfolding_all rfl) : DE X W (.Compare a [op, op'] [b, c] pos) (wChain w w' wa wb wc) :=
  PE.imp (pe_chain o o' ha hb hc hm) fun _ _ _ h => seqChain s s' h
theorem dt_chain {op op' : CmpOp} {r r' : R2} {w w' : WO2} (o : OpR X (compareOp op) r) (o' : OpR X (compareOp op') r') (s : SO2 r w) (s' : SO2 r' w') (ha : DE X W a wa) (hb : DE X W b wb) (hc : DE X W c wc)
    (hm : lastMarks [op, op'] [b, c] = false := by with_unfolding_all rfl) : DT X W (.Compare a [op, op'] [b, c] pos) (wB (wChain w w' wa wb wc)) :=
  PT.imp (pt_chain o o' ha hb hc hm) fun σ H Q h => by
    obtain ⟨g, K, Xd, E, h, U, UX⟩ := h
    refine seqChain s s' ⟨g, _, Xd, E, h, fun a g1 x H1 h1 S1 E1 R1 => ?_, UX⟩
    cases a <;> first | exact h1.elim | skip
    cases R1
    exact ⟨_, rfl, U _ g1 H1 h1 S1 E1⟩

/-! ### truth, and, or, not, if -/
/-- a datum's truth -/
def tru (st : Sto) : D → Option Bool
  | .non => some false
  | .bl b => some b
  | .int i => some (i != 0)
  | .str x => if x.length ≤ sizeLine then some ((x.length : Int) != 0) else none
  | .tup xs => some !xs.isEmpty
  | .lst xs => some !xs.isEmpty
  | .lkd xs => some !xs.isEmpty
  | .dic xs => some !xs.isEmpty
  | .ref a => match st a with
    | some (.lst xs) => some !xs.isEmpty
    | some (.dic xs) => some !xs.isEmpty
    | _ => none
  | .ty _ => none
  | .exc _ _ _ _ => none
theorem len_empty {α β : Type} {a : List α} {b : List β} (h : a.length = b.length) : a.isEmpty = b.isEmpty := by cases a <;> cases b <;> first | rfl | cases h
theorem tru_ok {K : PySem.W.Frag} {H : Hp} {st : Sto} (r : StoRep H st) {d : D} {v : V} {k : Bool} (h : Rep H st d v) (e : tru st d = some k) : TruV K v H k := by
  cases h with
  | non => cases e; rfl
  | bl b => cases e; rfl
  | int i => cases e; rfl
  | str x =>
    have e : (if x.length ≤ sizeLine then some ((x.length : Int) != 0) else none) = some k := e
    split at e
    · cases e; exact ⟨by assumption, rfl⟩
    · cases e
  | tup n rd l => cases e; exact .inr (.inl ⟨_, .inl rd, by rw [len_empty l.length]⟩)
  | lst n rd l => cases e; exact .inl ⟨_, .inl (.inl rd), by rw [len_empty l.length]⟩
  | lkd n rd l => cases e; exact .inl ⟨_, .inl rd, by rw [len_empty l.length]⟩
  | ty n => cases e
  | exc _ _ _ => cases e
  | dic n rd l => cases e; exact .inr (.inr ⟨_, rd, by rw [len_empty l.length]⟩)
  | ref a =>
    unfold tru at e
    cases q : st a with
    | none => simp only [q] at e; cases e
    | some c =>
      have z := r a c q
      cases c with
      | lst xs =>
        simp only [q] at e; cases e
        obtain ⟨vs, h1, l⟩ := z
        exact .inl ⟨_, .inl (.inl h1), by rw [len_empty l.length]⟩
      | dic xs =>
        simp only [q] at e; cases e
        obtain ⟨vs, h1, l⟩ := z
        exact .inr (.inr ⟨_, h1, by rw [len_empty l.length]⟩)
      | obj C fs => simp only [q] at e; cases e
      | dct fs => simp only [q] at e; cases e
def wTru (w : WE) : WT := fun g K X => w g (fun d g1 => match tru g1.st d with | some b => K b g1 | none => False) X
theorem dt_truth (h : DE X W a wa) (he : ∀ whole, isTrue a X.env whole = (do let v ← whole; standAt a.pos; holding [v] (truthy v)) := by intro _; rfl) : DT X W a (wTru wa) :=
  (pt_truth h he).imp fun σ H Q h => by
    obtain ⟨g, K, Xd, E, h, U, UX⟩ := h
    refine ⟨g, _, Xd, E, h, fun a g1 x H1 h1 S1 E1 R1 => ?_, UX⟩
    replace h1 : (match tru g1.st a with | some b => K b g1 | none => False) := h1
    cases e : tru g1.st a with
    | none => rw [e] at h1; exact h1.elim
    | some b => rw [e] at h1; exact ⟨b, tru_ok E1.sto R1 e, U _ g1 H1 h1 S1 E1⟩
def wAndT (t u : WT) : WT := fun g K X => t g (fun b g1 => match b with | true => u g1 K X | false => K false g1) X
def wOrT (t u : WT) : WT := fun g K X => t g (fun b g1 => match b with | true => K true g1 | false => u g1 K X) X
def wNotT (t : WT) : WT := fun g K X => t g (fun b g1 => K (!b) g1) X
theorem _root_.L2.PW.imp {e : Expr} {t t' : TT} (h : PW X e t) (i : ∀ σ H Q, t' σ H Q → t σ H Q) : PW X e t' := ⟨fun wh pins s σ H Q I q => h.run wh pins s σ H Q I (i σ H Q q)⟩
abbrev DW (X : Cx) (W : WX) (e : Expr) (w : WT) : Prop := PW X e (liftT W w)
variable {t u : WT} {rest : List Expr}
theorem dw_and1 (h : DT X W a t) : DW X W (.BoolOp .And [a] pos) t := pw_and1 h
theorem dw_or1 (h : DT X W a t) : DW X W (.BoolOp .Or [a] pos) t := pw_or1 h
theorem dw_and (ha : DT X W a t) (hb : DW X W (.BoolOp .And (b :: rest) pos) u) : DW X W (.BoolOp .And (a :: b :: rest) pos) (wAndT t u) :=
  (pw_and ha hb).imp fun σ H Q h => by
    obtain ⟨g, K, Xd, E, h, U, UX⟩ := h
    refine ⟨g, _, Xd, E, h, fun b g1 H1 h1 S1 E1 => ?_, UX⟩
    cases b with
    | false => rw [if_neg Bool.false_ne_true]; exact U _ g1 H1 h1 S1 E1
    | true => rw [if_pos rfl]; exact ⟨g1, K, Xd, E1, h1, U.on S1, UX.on S1⟩
theorem dw_or (ha : DT X W a t) (hb : DW X W (.BoolOp .Or (b :: rest) pos) u) : DW X W (.BoolOp .Or (a :: b :: rest) pos) (wOrT t u) :=
  (pw_or ha hb).imp fun σ H Q h => by
    obtain ⟨g, K, Xd, E, h, U, UX⟩ := h
    refine ⟨g, _, Xd, E, h, fun b g1 H1 h1 S1 E1 => ?_, UX⟩
    cases b with
    | true => rw [if_pos rfl]; exact U _ g1 H1 h1 S1 E1
    | false => rw [if_neg Bool.false_ne_true]; exact ⟨g1, K, Xd, E1, h1, U.on S1, UX.on S1⟩
theorem DW.dt {e : Expr} {t : WT} (h : DW X W e t) : DT X W e t := PW.pt h
theorem dt_not (h : DT X W a t) : DT X W (.UnaryOp .Not a pos) (wNotT t) :=
  (pt_not h).imp fun σ H Q h => by
    obtain ⟨g, K, Xd, E, h, U, UX⟩ := h
    exact ⟨g, _, Xd, E, h, fun b g1 H1 h1 S1 E1 => U _ g1 H1 h1 S1 E1, UX⟩
/-- the same as values: bools alone -/
def wAndV (wa wb : WE) : WE := fun g K X => wa g (fun d g1 => match d with | .bl true => wb g1 K X | .bl false => K (.bl false) g1 | _ => False) X
def wOrV (wa wb : WE) : WE := fun g K X => wa g (fun d g1 => match d with | .bl false => wb g1 K X | .bl true => K (.bl true) g1 | _ => False) X
def wNotV (wa : WE) : WE := fun g K X => wa g (fun d g1 => match d with | .bl b => K (.bl (!b)) g1 | _ => False) X
theorem de_bool1 {op : PySem.BoolOp} {w : WE} (h : DE X W a w) : DE X W (.BoolOp op [a] pos) w := pe_one h
theorem de_and (ha : DE X W a wa) (hb : DE X W (.BoolOp .And (b :: rest) pos) wb) : DE X W (.BoolOp .And (a :: b :: rest) pos) (wAndV wa wb) :=
  (pe_and ha hb).imp fun σ H Q h => by
    obtain ⟨g, K, Xd, E, h, U, UX⟩ := h
    refine ⟨g, _, Xd, E, h, fun d g1 x H1 h1 S1 E1 R1 => ?_, UX⟩
    cases d <;> first | exact h1.elim | skip
    rename_i k
    cases R1
    refine ⟨k, rfl, ?_⟩
    cases k with
    | false => rw [if_neg Bool.false_ne_true]; exact U _ g1 _ H1 h1 S1 E1 (.bl false)
    | true => rw [if_pos rfl]; exact ⟨g1, K, Xd, E1, h1, U.on S1, UX.on S1⟩
theorem de_or (ha : DE X W a wa) (hb : DE X W (.BoolOp .Or (b :: rest) pos) wb) : DE X W (.BoolOp .Or (a :: b :: rest) pos) (wOrV wa wb) :=
  (pe_or ha hb).imp fun σ H Q h => by
    obtain ⟨g, K, Xd, E, h, U, UX⟩ := h
    refine ⟨g, _, Xd, E, h, fun d g1 x H1 h1 S1 E1 R1 => ?_, UX⟩
    cases d <;> first | exact h1.elim | skip
    rename_i k
    cases R1
    refine ⟨k, rfl, ?_⟩
    cases k with
    | true => rw [if_pos rfl]; exact U _ g1 _ H1 h1 S1 E1 (.bl true)
    | false => rw [if_neg Bool.false_ne_true]; exact ⟨g1, K, Xd, E1, h1, U.on S1, UX.on S1⟩
theorem de_not (ha : DE X W a wa) : DE X W (.UnaryOp .Not a pos) (wNotV wa) :=
  (pe_not ha).imp fun σ H Q h => by
    obtain ⟨g, K, Xd, E, h, U, UX⟩ := h
    refine ⟨g, _, Xd, E, h, fun d g1 x H1 h1 S1 E1 R1 => ?_, UX⟩
    cases d <;> first | exact h1.elim | skip
    rename_i k
    cases R1
    exact ⟨k, rfl, U _ g1 _ H1 h1 S1 E1 (.bl _)⟩
def wIf (t : WT) (wa wb : WE) : WE := fun g K X => t g (fun b g1 => match b with | true => wa g1 K X | false => wb g1 K X) X
theorem de_if (ht : DT X W c t) (ha : DE X W a wa) (hb : DE X W b wb) : DE X W (.IfExp c a b pos) (wIf t wa wb) :=
  (pe_ifExp ht ha hb).imp fun σ H Q h => by
    obtain ⟨g, K, Xd, E, h, U, UX⟩ := h
    refine ⟨g, _, Xd, E, h, fun k g1 H1 h1 S1 E1 => ?_, UX⟩
    cases k with
    | true => rw [if_pos rfl]; exact ⟨g1, K, Xd, E1, h1, U.on S1, UX.on S1⟩
    | false => rw [if_neg Bool.false_ne_true]; exact ⟨g1, K, Xd, E1, h1, U.on S1, UX.on S1⟩

/-! ### argument lists, displays, calls -/
def wNil : WA := fun g K _ => K [] g
def wCons (w : WE) (r : WA) : WA := fun g K X => w g (fun d g1 => r g1 (fun ds g2 => K (d :: ds) g2) X) X
theorem da_nil : DA X W [] wNil := pa_nil.imp fun σ H Q ⟨g, K, _, E, w, U, _⟩ => U [] g [] H w Step.refl E .nil
theorem da_cons {e : Expr} {es : List Expr} {w : WE} {r : WA} (h : DE X W e w) (hr : DA X W es r) (hs : starEach (e :: es) X.env = (false, eval e X.env) :: starEach es X.env := by rfl) : DA X W (e :: es) (wCons w r) :=
  (pa_cons h hr hs).imp fun σ H Q h => by
    obtain ⟨g, K, Xd, E, h, U, UX⟩ := h
    exact ⟨g, _, Xd, E, h, fun d g1 x H1 h1 S1 E1 R1 => ⟨g1, _, Xd, E1, h1, fun ds g2 xs H2 h2 S2 E2 R2 => U _ g2 _ H2 h2 (S1.trans S2) E2 (.cons (R1.step S2) R2), UX.on S1⟩, UX⟩
/-- a new cell, or a datum that does not change any more -/
def newC (c : Cell) (g : G) (K : KD) : Prop := ∀ a, g.st a = none → K (.ref a) ⟨g.sl, put g.st a c⟩
section
variable {g : G} {σ : L2.St} {H : Hp} {K : KD} {Q : VK} {ds : List D} {vs : List V}
theorem new_tup (E : EnvRep g σ H) (r : RepL H g.st ds vs) (k : K (.tup ds) g) (U : Upd σ g.st H K Q) : ∀ p, H p = none → Q (.ref p) (upd H p (.tup vs)) := fun p hp =>
  U _ g _ _ k (Step.new hp) (E.step (Step.new hp) (E.sto.new hp)) (.tup (E.sto.free hp) (.inl upd_same) (r.step (Step.new hp)))
theorem new_lst (E : EnvRep g σ H) (r : RepL H g.st ds vs) (k : K (.lst ds) g) (U : Upd σ g.st H K Q) : ∀ p, H p = none → Q (.ref p) (upd H p (.lst vs)) := fun p hp =>
  U _ g _ _ k (Step.new hp) (E.step (Step.new hp) (E.sto.new hp)) (.lst (E.sto.free hp) upd_same (r.step (Step.new hp)))
theorem new_lstC (E : EnvRep g σ H) (r : RepL H g.st ds vs) (k : newC (.lst ds) g K) (U : Upd σ g.st H K Q) : ∀ p, H p = none → Q (.ref p) (upd H p (.lst vs)) := fun p hp =>
  U _ ⟨g.sl, put g.st p (.lst ds)⟩ _ _ (k p (E.sto.free hp)) (Step.newc hp) (E.step (Step.newc hp) (E.sto.newc hp ⟨vs, upd_same, r.step (Step.newc hp)⟩)) (.ref p)
end
/-- what a new list becomes: a cell (true) or a datum -/
def newL (b : Bool) (ds : List D) (g : G) (K : KD) : Prop := match b with | true => newC (.lst ds) g K | false => K (.lst ds) g
theorem new_L {b : Bool} {g : G} {σ : L2.St} {H : Hp} {K : KD} {Q : VK} {ds : List D} {vs : List V} (E : EnvRep g σ H) (r : RepL H g.st ds vs) (k : newL b ds g K) (U : Upd σ g.st H K Q) : ∀ p, H p = none → Q (.ref p) (upd H p (.lst vs)) := by
  cases b with
  | true => exact new_lstC E r k U
  | false => exact new_lst E r k U
def wTup (w : WA) : WE := fun g K X => w g (fun ds g1 => ds.length ≤ sizeLine ∧ K (.tup ds) g1) X
def wLst (b : Bool) (w : WA) : WE := fun g K X => w g (fun ds g1 => ds.length ≤ sizeLine ∧ newL b ds g1 K) X
variable {es : List Expr} {w : WA}
theorem de_tup {j} (h : DA X W es w) : DE X W (.Tuple es j pos) (wTup w) := (pe_tup h).imp fun σ H Q h => by
  obtain ⟨g, K, Xd, E, h, U, UX⟩ := h
  exact ⟨g, _, Xd, E, h, fun ds g1 xs H1 h1 S1 E1 R1 => ⟨by rw [← R1.length]; exact h1.1, new_tup E1 R1 h1.2 (U.on S1)⟩, UX⟩
theorem de_lst (b : Bool) (h : DA X W es w) : DE X W (.List es pos) (wLst b w) := (pe_lst h).imp fun σ H Q h => by
  obtain ⟨g, K, Xd, E, h, U, UX⟩ := h
  exact ⟨g, _, Xd, E, h, fun ds g1 xs H1 h1 S1 E1 R1 => ⟨by rw [← R1.length]; exact h1.1, new_L E1 R1 h1.2 (U.on S1)⟩, UX⟩
/-- a call of a built-in -/
def wCB (w : WON) (wa : WA) : WE := fun g K X => wa g (fun ds g1 => w ds g1 K) X
theorem seqN {r : List V → Hp → VK → Prop} {w : WON} {wa : WA} (s : SON r w) {σ : L2.St} {H : Hp} {Q : VK} (h : liftE W (wCB w wa) σ H Q) : liftA W wa σ H fun vs H1 => r vs H1 Q := by
  obtain ⟨g, K, Xd, E, h, U, UX⟩ := h
  exact ⟨g, _, Xd, E, h, fun ds g1 xs H1 h1 S1 E1 R1 => s E1 R1 h1 (U.on S1), UX⟩
theorem de_callB {x : Str} {p : Pos} {e : Expr} {id : String} {r : List V → Hp → VK → Prop} {w : WON} {wa : WA} (hc : CallR X (.builtin id) r) (s : SON r w) (hm : X.mg x = none) (ha : DA X W (e :: es) wa) (hg : Gl X x := by rfl) (hv : bootBuiltins x = some (.builtin id) := by decide +kernel) (hn : x ≠ "__name__" := by decide) (hdb : (x == ("__debug__" : Str)) = false := by decide) (he : starEach (e :: es) X.env = (false, eval e X.env) :: starEach es X.env := by rfl) (hpl : (backTo pos (starEach es X.env)).any (·.1) = false := by rfl) :
    DE X W (.Call (.Name x p) (e :: es) [] pos) (wCB w wa) := PE.imp (pe_callB hc hg hm hv ha hn hdb he hpl) fun _ _ _ h => seqN s h
theorem de_callTy {x : Str} {p : Pos} {e : Expr} {T : String} {r : List V → Hp → VK → Prop} {w : WON} {wa : WA} (hc : CallR X (.type T) r) (s : SON r w) (hm : X.mg x = none) (ha : DA X W (e :: es) wa) (hg : Gl X x := by rfl) (hv : bootBuiltins x = some (.type T) := by decide +kernel) (hn : x ≠ "__name__" := by decide) (hdb : (x == ("__debug__" : Str)) = false := by decide) (he : starEach (e :: es) X.env = (false, eval e X.env) :: starEach es X.env := by rfl) (hpl : (backTo pos (starEach es X.env)).any (·.1) = false := by rfl) :
    DE X W (.Call (.Name x p) (e :: es) [] pos) (wCB w wa) := PE.imp (pe_callTy hc hg hm hv ha hn hdb he hpl) fun _ _ _ h => seqN s h
end
end DL

end SDLJ

section SDLS
set_option Elab.async false
set_option linter.all false
set_option maxRecDepth 100000
namespace DL
open PySem L2

structure EndsD where
  nx : G → Prop
  rt : KD
  bk : G → Prop
  ct : G → Prop
  ex : XD
abbrev WS := EndsD → G → Prop
abbrev WG := D → G → (G → Prop) → Prop
abbrev WGs := List D → G → (G → Prop) → Prop
def UpG (s0 : Sto) (H0 : Hp) (K : G → Prop) (Q : L2.St → Hp → Prop) : Prop := ∀ g σ H, K g → Step s0 H0 g.st H → EnvRep g σ H → Q σ H
def UpR (s0 : Sto) (H0 : Hp) (K : KD) (Q : VK) : Prop := ∀ d g v H, K d g → Step s0 H0 g.st H → StoRep H g.st → Rep H g.st d v → Q v H
def UpXS (W : WX) (s0 : Sto) (H0 : Hp) (X : XD) : Prop := ∀ C d g σ dx H, X C d g → Step s0 H0 g.st H → EnvRep g σ H → ExcRep H g.st dx d → W (.ref C) (some dx) σ H
structure UpS (W : WX) (s0 : Sto) (H0 : Hp) (K : EndsD) (D : Ends) : Prop where
  nx : UpG s0 H0 K.nx D.nx
  rt : UpR s0 H0 K.rt D.rt
  bk : UpG s0 H0 K.bk D.bk
  ct : UpG s0 H0 K.ct D.ct
  ex : UpXS W s0 H0 K.ex
def liftS (W : WX) (w : WS) : TS := fun D σ H => ∃ g K, EnvRep g σ H ∧ w K g ∧ UpS W g.st H K D
abbrev DS (X : Cx) (W : WX) (st : Stmt) (w : WS) : Prop := PS X st (liftS W w)
abbrev DSs (X : Cx) (W : WX) (st : List Stmt) (w : WS) : Prop := PSs X st (liftS W w)
section
variable {s0 s1 : Sto} {H0 H1 : Hp} {W : WX}
theorem UpG.on {K : G → Prop} {Q : L2.St → Hp → Prop} (u : UpG s0 H0 K Q) (s : Step s0 H0 s1 H1) : UpG s1 H1 K Q := fun g σ H k t e => u g σ H k (s.trans t) e
theorem UpR.on {K : KD} {Q : VK} (u : UpR s0 H0 K Q) (s : Step s0 H0 s1 H1) : UpR s1 H1 K Q := fun d g v H k t e r => u d g v H k (s.trans t) e r
theorem UpXS.on {X : XD} (u : UpXS W s0 H0 X) (s : Step s0 H0 s1 H1) : UpXS W s1 H1 X := fun C d g σ dx H k t e r => u C d g σ dx H k (s.trans t) e r
theorem UpS.on {K : EndsD} {D : Ends} (u : UpS W s0 H0 K D) (s : Step s0 H0 s1 H1) : UpS W s1 H1 K D := ⟨u.nx.on s, u.rt.on s, u.bk.on s, u.ct.on s, u.ex.on s⟩
theorem UpXS.x {X : XD} (u : UpXS W s0 H0 X) (σ : L2.St) : UpX W σ s0 H0 X := fun C d g dx H k t e r => u C d g σ dx H k t e r
end
section
variable {X : Cx} {W : WX} {st : Stmt} {rest body : List Stmt} {pos : Pos} {e : Expr} {w : WS} {we : WE}
/-! ### blocks -/
def wSkip : WS := fun K g => K.nx g
def wSeq (a b : WS) : WS := fun K g => a { K with nx := b K } g
theorem dss_nil : DSs X W [] wSkip := pss_nil.imp fun D σ H ⟨g, K, E, h, U⟩ => U.nx g σ H h Step.refl E
theorem seqS {a b : WS} {D : Ends} {σ : L2.St} {H : Hp} (h : liftS W (wSeq a b) D σ H) : tSeq (liftS W a) (liftS W b) D σ H := by
  obtain ⟨g, K, E, h, U⟩ := h
  exact ⟨g, _, E, h, ⟨fun g1 σ1 H1 k s e => ⟨g1, K, e, k, U.on s⟩, U.rt, U.bk, U.ct, U.ex⟩⟩
theorem dss_cons {a b : WS} (h1 : DS X W st a) (h2 : DSs X W rest b) : DSs X W (st :: rest) (wSeq a b) := (pss_cons h1 h2).imp fun _ _ _ h => seqS h
theorem dss_one {a : WS} (h1 : DS X W st a) : DSs X W [st] a := pss_one h1
def wBrk : WS := fun K g => K.bk g
def wCnt : WS := fun K g => K.ct g
theorem ds_pass : DS X W (.Pass pos) wSkip := ps_pass.imp fun D σ H ⟨g, K, E, h, U⟩ => U.nx g σ H h Step.refl E
theorem ds_break : DS X W (.Break pos) wBrk := ps_break.imp fun D σ H ⟨g, K, E, h, U⟩ => U.bk g σ H h Step.refl E
theorem ds_continue : DS X W (.Continue pos) wCnt := ps_continue.imp fun D σ H ⟨g, K, E, h, U⟩ => U.ct g σ H h Step.refl E
/-- a string alone -/
theorem ds_doc {x j pos pos'} : DS X W (.Expr (.Constant (.str x) j pos) pos') wSkip := ps_doc.imp fun D σ H ⟨g, K, E, h, U⟩ => U.nx g σ H h Step.refl E
def wExpr (we : WE) : WS := fun K g => we g (fun _ g1 => K.nx g1) K.ex
theorem ds_expr (h : DE X W e we) (hs : swapsWith e none pos.line X.env = pure false := by rfl) : DS X W (.Expr e pos) (wExpr we) := (ps_expr h hs).imp fun D σ H ⟨g, K, E, h, U⟩ =>
  ⟨g, _, _, E, h, fun d g1 v H1 k s e r => U.nx g1 σ H1 k s e, U.ex.x σ⟩
def wRet (we : WE) : WS := fun K g => we g K.rt K.ex
theorem ds_ret (h : DE X W e we) : DS X W (.Return (some e) pos) (wRet we) := (ps_ret h).imp fun D σ H ⟨g, K, E, h, U⟩ =>
  ⟨g, _, _, E, h, fun d g1 v H1 k s e r => U.rt d g1 v H1 k s e.sto r, U.ex.x σ⟩
def wRetN : WS := fun K g => K.rt .non g
theorem ds_retN : DS X W (.Return none pos) wRetN := ps_retN.imp fun D σ H ⟨g, K, E, h, U⟩ => U.rt _ g _ H h Step.refl E.sto .non
def wIfS (t : WT) (a b : WS) : WS := fun K g => t g (fun k g1 => match k with | true => a K g1 | false => b K g1) K.ex
theorem ds_if {c : Expr} {a b : List Stmt} {t : WT} {wa wb : WS} (hc : DT X W c t) (ha : DSs X W a wa) (hb : DSs X W b wb) : DS X W (.If c a b pos) (wIfS t wa wb) := (ps_if hc ha hb).imp fun D σ H ⟨g, K, E, h, U⟩ =>
  ⟨g, _, _, E, h, fun k g1 H1 h1 s e => by
    cases k with
    | true => rw [if_pos rfl]; exact ⟨g1, K, e, h1, U.on s⟩
    | false => rw [if_neg Bool.false_ne_true]; exact ⟨g1, K, e, h1, U.on s⟩, U.ex.x σ⟩
/-- code that is not reached -/
def wNever : WS := fun _ _ => False
theorem dss_never : DSs X W rest wNever := ⟨fun _ _ _ _ _ _ h => by obtain ⟨_, _, _, h, _⟩ := h; exact h.elim⟩
theorem ds_never : DS X W st wNever := ⟨fun _ _ _ _ _ _ h => by obtain ⟨_, _, _, h, _⟩ := h; exact h.elim⟩
/-! ### a cell is given up -/
def frz (g : G) (d : D) (K : KD) : Prop := match d with
  | .ref a => (match g.st a with
    | some (.lst ds) => K (.lst ds) ⟨g.sl, drop g.st a⟩
    | some (.dic ds) => K (.dic ds) ⟨g.sl, drop g.st a⟩
    | _ => K (.ref a) g)
  | d => K d g
def wFrz (we : WE) : WE := fun g K X => we g (fun d g1 => frz g1 d K) X
theorem frz_ok {g : G} {σ : L2.St} {H : Hp} {d : D} {v : V} {K : KD} {Q : VK} (E : EnvRep g σ H) (r : Rep H g.st d v) (k : frz g d K) (U : Upd σ g.st H K Q) : Q v H := by
  cases d with
  | ref a =>
    cases r
    unfold frz at k
    cases e : g.st a with
    | none => simp only [e] at k; exact U _ g _ H k Step.refl E (.ref a)
    | some c =>
      have z := E.sto a c e
      cases c with
      | lst ds =>
        simp only [e] at k
        obtain ⟨vs, h, l⟩ := z
        exact U _ _ _ H k Step.frz (E.step Step.frz E.sto.frz) (.lst drop_same h (l.step Step.frz))
      | dic ds =>
        simp only [e] at k
        obtain ⟨vs, h, l⟩ := z
        exact U _ _ _ H k Step.frz (E.step Step.frz E.sto.frz) (.dic drop_same h (l.step Step.frz))
      | obj C fs => simp only [e] at k; exact U _ g _ H k Step.refl E (.ref a)
      | dct fs => simp only [e] at k; exact U _ g _ H k Step.refl E (.ref a)
  | _ => exact U _ g _ H k Step.refl E r
theorem de_frz (h : DE X W e we) : DE X W e (wFrz we) := PE.imp h fun σ H Q ⟨g, K, Xd, E, h, U, UX⟩ =>
  ⟨g, _, Xd, E, h, fun d g1 v H1 k s e r => frz_ok e r k (U.on s), UX⟩
/-- the cell that slot i holds -/
def wFrzS (i : Nat) (w : WS) : WS := fun K g => match getS g.sl i with
  | some d => frz g d fun d' g' => w K ⟨setS g'.sl i d', g'.st⟩
  | none => False
theorem setS_same_len (l : List (Option D)) (i : Nat) (d : D) : (setS l i d).length = l.length := setS_length l i d
theorem frzS_ok {i : Nat} {D : Ends} {σ : L2.St} {H : Hp} (h : liftS W (wFrzS i w) D σ H) : liftS W w D σ H := by
  obtain ⟨g, K, E, h, U⟩ := h
  unfold wFrzS at h
  cases e : getS g.sl i with
  | none => simp only [e] at h
  | some d =>
    simp only [e] at h
    obtain ⟨v, hv, r⟩ := E.sl i d e
    refine frz_ok (Q := fun v' H' => v' = v → H' = H → liftS W w D σ H) E r h (fun d' g' v' H' k s E' r' ev eH => ?_) rfl rfl
    subst ev; subst eH
    refine ⟨⟨setS g'.sl i d', g'.st⟩, K, ⟨E'.sto, (setS_length _ _ _).trans E'.len, fun j x hx => ?_⟩, k, U.on s⟩
    rcases getS_setS _ _ _ _ _ hx with ⟨rfl, rfl, _⟩ | ⟨_, hx⟩
    · exact ⟨_, hv, r'⟩
    · exact E'.sl j x hx
theorem dss_frz (i : Nat) (h : DSs X W rest w) : DSs X W rest (wFrzS i w) := PSs.imp h fun _ _ _ q => frzS_ok q
theorem ds_frz (i : Nat) (h : DS X W st w) : DS X W st (wFrzS i w) := PS.imp h fun _ _ _ q => frzS_ok q

/-! ### targets -/
/-- vs: the slots that it may store -/
def liftG (vs : List Nat) (w : WG) : TG := fun v σ H Q => ∃ g d K, EnvRep g σ H ∧ Rep H g.st d v ∧ w d g K ∧ ∀ g' σ' H', K g' → Step g.st H g'.st H' → EnvRep g' σ' H' → wipe σ' vs = wipe σ vs → Q σ' H'
def liftGs (vs : List Nat) (w : WGs) : TGs := fun v σ H Q => ∃ g d K, EnvRep g σ H ∧ RepL H g.st d v ∧ w d g K ∧ ∀ g' σ' H', K g' → Step g.st H g'.st H' → EnvRep g' σ' H' → wipe σ' vs = wipe σ vs → Q σ' H'
abbrev DG (X : Cx) (vs : List Nat) (e : Expr) (w : WG) : Prop := PG X e (liftG vs w)
abbrev DGs (X : Cx) (vs : List Nat) (e : List Expr) (w : WGs) : Prop := PGs X e (liftGs vs w)
theorem _root_.L2.PG.imp {e : Expr} {t t' : TG} (h : PG X e t) (i : ∀ v σ H Q, t' v σ H Q → t v σ H Q) : PG X e t' := ⟨fun pins s σ H v u Q I r q => h.run pins s σ H v u Q I r (i v σ H Q q)⟩
theorem _root_.L2.PGs.imp {e : List Expr} {t t' : TGs} (h : PGs X e t) (i : ∀ v σ H Q, t' v σ H Q → t v σ H Q) : PGs X e t' := ⟨fun pins s σ H v u Q I r q => h.run pins s σ H v u Q I r (i v σ H Q q)⟩
theorem wipe_set {σ : L2.St} {i : Nat} {o : Option V} : ∀ {vs : List Nat}, i ∈ vs → wipe (σ.set i o) vs = wipe σ vs
  | v :: vs, h => by
    unfold wipe
    rcases List.mem_cons.mp h with rfl | h
    · have key : ∀ (us : List Nat) (τ : L2.St), (wipe (τ.set i o) us).set i none = (wipe τ us).set i none := by
        intro us
        induction us with
        | nil => intro τ; unfold wipe; rw [List.set_set]
        | cons u us ih =>
          intro τ
          unfold wipe
          by_cases hu : u = i
          · subst hu; rw [List.set_set, List.set_set]; exact ih τ
          · rw [List.set_comm _ _ hu, ih τ, List.set_comm _ _ hu]
      exact key vs σ
    · rw [wipe_set h]
def wName (i : Nat) : WG := fun d g K => K ⟨setS g.sl i d, g.st⟩
theorem dg_name {vs : List Nat} (i : Nat) {x : Str} (hN : X.N.Nodup) (hi : X.N[i]? = some x := by rfl) (hx : Loc X.env.scope x := by first | exact Or.inl rfl | exact Or.inr rfl) (hm : i ∈ vs := by decide)
    (hf : X.fn x = true ∨ X.env.scope.names.lookup x = some .local := by first | exact .inl rfl | exact .inr rfl | assumption) : DG X vs (.Name x pos) (wName i) :=
  (pg_name hN hi hx hf).imp fun v σ H Q ⟨g, d, K, E, r, k, q⟩ => q _ _ H k Step.refl (E.set i r) (wipe_set hm)
def wGNil : WGs := fun ds g K => match ds with | [] => K g | _ :: _ => False
def wGCons (a : WG) (b : WGs) : WGs := fun ds g K => match ds with | [] => False | d :: ds => a d g fun g1 => b ds g1 K
theorem dgs_nil {vs : List Nat} : DGs X vs [] wGNil := pgs_nil.imp fun v σ H Q ⟨g, d, K, E, r, k, q⟩ => by
  cases r with
  | nil => exact ⟨rfl, q g σ H k Step.refl E rfl⟩
  | cons _ _ => exact k.elim
theorem dgs_cons {vs : List Nat} {e : Expr} {es : List Expr} {a : WG} {b : WGs} (h1 : DG X vs e a) (h2 : DGs X vs es b) (hs : (assignEach (e :: es) X.env).map (·.2) = assign e X.env :: (assignEach es X.env).map (·.2) := by rfl) : DGs X vs (e :: es) (wGCons a b) :=
  (pgs_cons h1 h2 hs).imp fun v σ H Q ⟨g, d, K, E, r, k, q⟩ => by
    cases r with
    | nil => exact k.elim
    | cons r l => exact ⟨_, _, rfl, g, _, _, E, r, k, fun g1 σ1 H1 k1 s1 E1 w1 => ⟨g1, _, K, E1, l.step s1, k1, fun g2 σ2 H2 k2 s2 E2 w2 => q g2 σ2 H2 k2 (s1.trans s2) E2 (w2.trans w1)⟩⟩
/-- (a, b, ..) = a tuple -/
def wGTup (n : Nat) (b : WGs) : WG := fun d g K => match d with | .tup ds => ds.length = n ∧ b ds g K | _ => False
theorem dg_tup {vs : List Nat} {es : List Expr} {k : Nat} {b : WGs} {n : Nat} (hc : X.calm = true) (h : DGs X vs es b) (hn : (assignEach es X.env).length = n := by rfl) (hst : (assignEach es X.env).findIdx? (·.1) = none := by rfl) : DG X vs (.Tuple es k pos) (wGTup n b) :=
  (pg_tup hc h hn hst).imp fun v σ H Q ⟨g, d, K, E, r, k, q⟩ => by
    cases r with
    | tup n2 rd l =>
      obtain ⟨hl, k⟩ := k
      exact ⟨_, _, rfl, .inl rd, by rw [← hl, l.length], g, _, K, E, l, k, q⟩
    | _ => exact k.elim
/-- target = value -/
def wAsg (we : WE) (wg : WG) : WS := fun K g => we g (fun d g1 => wg d g1 K.nx) K.ex
theorem ds_asg {tg : Expr} {vs : List Nat} {wg : WG} (he : DE X W e we) (hg : DG X vs tg wg) (hs : swapsWithSole [tg] e pos.line X.env = pure false := by rfl) (hw : swappedStores [tg] e X.env = pure none := by rfl)
    (h1 : (assignEach [tg] X.env).map (·.2) = [assign tg X.env] := by rfl) : DS X W (.Assign [tg] e pos) (wAsg we wg) := (ps_asg he hg hs hw h1).imp fun D σ H ⟨g, K, E, h, U⟩ =>
  ⟨g, _, _, E, h, fun d g1 v H1 k s e r => ⟨g1, d, _, e, r, k, fun g2 σ2 H2 k2 s2 e2 _ => U.nx g2 σ2 H2 k2 (s.trans s2) e2⟩, U.ex.x σ⟩
def wSet (i : Nat) (we : WE) : WS := fun K g => we g (fun d g1 => K.nx ⟨setS g1.sl i d, g1.st⟩) K.ex
theorem ds_set (i : Nat) {x : Str} {pos' : Pos} (hN : X.N.Nodup) (he : DE X W e we) (hi : X.N[i]? = some x := by rfl) (hx : Loc X.env.scope x := by first | exact Or.inl rfl | exact Or.inr rfl) (hs : swapsWith e (some (.Name x pos')) pos.line X.env = pure false := by rfl)
    (hf : X.fn x = true ∨ X.env.scope.names.lookup x = some .local := by first | exact .inl rfl | exact .inr rfl | assumption) : DS X W (.Assign [.Name x pos'] e pos) (wSet i we) :=
  (ps_set hN hi hx he hs hf).imp fun D σ H ⟨g, K, E, h, U⟩ =>
    ⟨g, _, _, E, h, fun d g1 v H1 k s e r => U.nx _ _ H1 k s (e.set i r), U.ex.x σ⟩
end

/-! ### what is walked -/
/-- an iterator of HandS over data -/
structure IterOk (J : It) (items : List D) (ok : Sto → Prop) (src : Sto → Hp → Prop) : Prop where
  keep : ∀ {st st' : Sto} {H H' : Hp}, src st H → Step st H st' H' → src st' H'
  go : ∀ {i : Nat} {st : Sto} {H : Hp}, src st H → ok st → StoRep H st → i < items.length → J.go i H
  yld : ∀ {i : Nat} {st : Sto} {H : Hp} {x : V} {H' : Hp}, src st H → ok st → StoRep H st → J.yld i H x H' → ∀ d, items[i]? = some d → Step st H st H' ∧ StoRep H' st ∧ Rep H' st d x
  stop : ∀ {i : Nat} {st : Sto} {H : Hp}, src st H → ok st → StoRep H st → items.length ≤ i → J.stop i H
abbrev KI := List D → (Sto → Prop) → G → Prop
abbrev WI := G → KI → XD → Prop
def liftI (W : WX) (w : WI) : TI := fun σ H R => ∃ g K X, EnvRep g σ H ∧ w g K X ∧ (∀ items ok g' H' J src, K items ok g' → Step g.st H g'.st H' → EnvRep g' σ H' → IterOk J items ok src → src g'.st H' → R J H') ∧ UpX W σ g.st H X
abbrev DI (X : Cx) (W : WX) (tg e : Expr) (w : WI) : Prop := PI X tg e (liftI W w)
theorem _root_.L2.PI.imp {X : Cx} {tg e : Expr} {t t' : TI} (h : PI X tg e t) (i : ∀ σ H Q, t' σ H Q → t σ H Q) : PI X tg e t' := ⟨fun pins s σ H Q I q => h.run pins s σ H Q I (i σ H Q q)⟩
def always : Sto → Prop := fun _ => True
/-- the walk of a for -/
def loopD (ok : Sto → Prop) (wg : WG) (wb : WS) (K : EndsD) : List D → G → Prop
  | [], g => ok g.st ∧ K.nx g
  | x :: xs, g => ok g.st ∧ wg x g fun g2 => wb { K with nx := loopD ok wg wb K xs, ct := loopD ok wg wb K xs, bk := K.nx } g2
def wFor (wi : WI) (wg : WG) (wb : WS) : WS := fun K g => wi g (fun items ok g1 => loopD ok wg wb K items g1) K.ex
section
variable {X : Cx} {W : WX} {tg iter : Expr} {body : List Stmt} {pos : Pos} {vs : List Nat} {wi : WI} {wg : WG} {wb : WS}
theorem loopD_ok {ok : Sto → Prop} {K : EndsD} {x : D} {xs : List D} {g : G} : loopD ok wg wb K (x :: xs) g = (ok g.st ∧ wg x g fun g2 => wb { K with nx := loopD ok wg wb K xs, ct := loopD ok wg wb K xs, bk := K.nx } g2) := rfl
theorem loopD_st {ok : Sto → Prop} {K : EndsD} {xs : List D} {g : G} (h : loopD ok wg wb K xs g) : ok g.st := by
  cases xs with
  | nil => exact h.1
  | cons x xs => exact h.1
theorem ds_for (hp : PassesOwn (model X.prog X.w) X.A X.env X.xe) (hc : X.calm = true) (hi : DI X W tg iter wi) (hg : DG X vs tg wg) (hb : DSs X W body wb) (hs : ∀ x, foldedSetIterable iter X.env x = pure x := by intro _; rfl) :
    DS X W (.For tg iter body [] pos) (wFor wi wg wb) := (ps_for hp hc hi hg hb hs).imp fun D σ H ⟨g, K, E, h, U⟩ => by
  refine ⟨g, _, _, E, h, fun items ok g1 H1 J src k s1 E1 J1 S1 => ?_, U.ex.x σ⟩
  refine ⟨fun i m σ2 H2 => m = items.length - i ∧ ∃ g2, EnvRep g2 σ2 H2 ∧ Step g.st H g2.st H2 ∧ src g2.st H2 ∧ loopD ok wg wb K (items.drop i) g2, ⟨items.length, by simp, g1, E1, s1, S1, by simpa using k⟩, ?_⟩
  rintro i m σ2 H2 ⟨rfl, g2, E2, s2, S2, k2⟩
  have hok := loopD_st k2
  rcases Nat.lt_or_ge i items.length with hlt | hge
  · refine .inr ⟨J1.go S2 hok E2.sto hlt, fun σ' H' => ∃ g', EnvRep g' σ' H' ∧ Step g.st H g'.st H' ∧ src g'.st H' ∧ loopD ok wg wb K (items.drop (i + 1)) g', fun σ' H' q => ⟨items.length - (i + 1), by omega, rfl, q⟩, fun x H' hy => ?_⟩
    have hd : items[i]? = some items[i] := by simp [hlt]
    rw [List.drop_eq_getElem_cons hlt] at k2
    obtain ⟨s3, r3, rx⟩ := J1.yld S2 hok E2.sto hy _ hd
    have E3 := E2.step s3 r3
    have S3 := J1.keep S2 s3
    refine ⟨g2, _, _, E3, rx, k2.2, fun g4 σ4 H4 k4 s4 E4 _ => ?_⟩
    have s24 : Step g.st H g4.st H4 := s2.trans (s3.trans s4)
    have S4 := J1.keep S3 s4
    refine ⟨g4, _, E4, k4, ⟨?_, U.rt.on s24, U.nx.on s24, ?_, U.ex.on s24⟩⟩
    · exact fun g5 σ5 H5 k5 s5 E5 => ⟨g5, E5, s24.trans s5, J1.keep S4 s5, k5⟩
    · exact fun g5 σ5 H5 k5 s5 E5 => ⟨g5, E5, s24.trans s5, J1.keep S4 s5, k5⟩
  · rw [List.drop_eq_nil_of_le hge] at k2
    exact .inl ⟨J1.stop S2 hok E2.sto hge, U.nx g2 σ2 H2 k2.2 s2 E2⟩
/-- while: at most n turns -/
def whileD (t : WT) (wb : WS) (K : EndsD) : Nat → G → Prop
  | 0, _ => False
  | n + 1, g => t g (fun b g1 => match b with | true => wb { K with nx := whileD t wb K n, ct := whileD t wb K n, bk := K.nx } g1 | false => K.nx g1) K.ex
def wWhile (t : WT) (wb : WS) : WS := fun K g => ∃ n, whileD t wb K n g
theorem ds_while {c : Expr} {t : WT} (hp : PassesOwn (model X.prog X.w) X.A X.env X.xe) (hc : DT X W c t) (hb : DSs X W body wb) : DS X W (.While c body [] pos) (wWhile t wb) := (ps_while hp hc hb).imp fun D σ H ⟨g, K, E, h, U⟩ => by
  obtain ⟨n, h⟩ := h
  refine ⟨fun m σ2 H2 => ∃ g2, EnvRep g2 σ2 H2 ∧ Step g.st H g2.st H2 ∧ whileD t wb K m g2, ⟨n, g, E, Step.refl, h⟩, ?_⟩
  rintro m σ2 H2 ⟨g2, E2, s2, k2⟩
  cases m with
  | zero => exact k2.elim
  | succ m =>
    refine ⟨g2, _, _, E2, k2, fun b g3 H3 k3 s3 E3 => ?_, (U.ex.on s2).x σ2⟩
    have s23 := s2.trans s3
    cases b with
    | false => exact iteF (U.nx g3 σ2 H3 k3 s23 E3)
    | true =>
      refine iteT ?_
      refine ⟨fun σ' H' => ∃ g', EnvRep g' σ' H' ∧ Step g.st H g'.st H' ∧ whileD t wb K m g', fun σ' H' q => ⟨m, by omega, q⟩, g3, _, E3, k3, ⟨?_, U.rt.on s23, U.nx.on s23, ?_, U.ex.on s23⟩⟩
      · exact fun g5 σ5 H5 k5 s5 E5 => ⟨g5, E5, s23.trans s5, k5⟩
      · exact fun g5 σ5 H5 k5 s5 E5 => ⟨g5, E5, s23.trans s5, k5⟩
end
end DL

end SDLS

section SDLI
set_option Elab.async false
set_option linter.all false
set_option maxRecDepth 100000
namespace DL
open PySem L2
/-! ### the kinds of arguments -/
def asInt (d : D) (f : Int → Prop) : Prop := match d with | .int i => f i | _ => False
def asStr (d : D) (f : Str → Prop) : Prop := match d with | .str i => f i | _ => False
def asBl (d : D) (f : Bool → Prop) : Prop := match d with | .bl i => f i | _ => False
def asTup (d : D) (f : List D → Prop) : Prop := match d with | .tup i => f i | _ => False
def arg1 (ds : List D) (f : D → Prop) : Prop := match ds with | [a] => f a | _ => False
def arg2 (ds : List D) (f : D → D → Prop) : Prop := match ds with | [a, b] => f a b | _ => False
def arg3 (ds : List D) (f : D → D → D → Prop) : Prop := match ds with | [a, b, c] => f a b c | _ => False
def opt {α : Type} (o : Option α) (f : α → Prop) : Prop := match o with | some a => f a | none => False
theorem asInt_ok {d : D} {f : Int → Prop} (h : asInt d f) : ∃ i, d = .int i ∧ f i := by cases d <;> first | exact ⟨_, rfl, h⟩ | exact h.elim
theorem asStr_ok {d : D} {f : Str → Prop} (h : asStr d f) : ∃ i, d = .str i ∧ f i := by cases d <;> first | exact ⟨_, rfl, h⟩ | exact h.elim
theorem asBl_ok {d : D} {f : Bool → Prop} (h : asBl d f) : ∃ i, d = .bl i ∧ f i := by cases d <;> first | exact ⟨_, rfl, h⟩ | exact h.elim
theorem asTup_ok {d : D} {f : List D → Prop} (h : asTup d f) : ∃ i, d = .tup i ∧ f i := by cases d <;> first | exact ⟨_, rfl, h⟩ | exact h.elim
theorem arg1_ok {ds : List D} {f : D → Prop} (h : arg1 ds f) : ∃ a, ds = [a] ∧ f a := by
  match ds, h with
  | [a], h => exact ⟨a, rfl, h⟩
theorem arg2_ok {ds : List D} {f : D → D → Prop} (h : arg2 ds f) : ∃ a b, ds = [a, b] ∧ f a b := by
  match ds, h with
  | [a, b], h => exact ⟨a, b, rfl, h⟩
theorem arg3_ok {ds : List D} {f : D → D → D → Prop} (h : arg3 ds f) : ∃ a b c, ds = [a, b, c] ∧ f a b c := by
  match ds, h with
  | [a, b, c], h => exact ⟨a, b, c, rfl, h⟩
theorem opt_ok {α : Type} {o : Option α} {f : α → Prop} (h : opt o f) : ∃ a, o = some a ∧ f a := by
  cases o with
  | none => exact h.elim
  | some a => exact ⟨a, rfl, h⟩
/-! ### iterators over data -/
/-- a source that is a list, as a datum or as a cell -/
def lstAt (st : Sto) : D → Option (List D × (Sto → Prop))
  | .lst ds => some (ds, always)
  | .lkd ds => some (ds, always)
  | .ref a => match st a with
    | some (.lst ds) => some (ds, fun st => st a = some (.lst ds))
    | _ => none
  | _ => none
/-- the list at a -/
structure LSrc (ds : List D) (ok : Sto → Prop) (a : Addr) (st : Sto) (H : Hp) : Prop where
  at_ : ok st → StoRep H st → ∃ vs, Rd H a (.lst vs) ∧ RepL H st ds vs
theorem lstAt_src {st : Sto} {H : Hp} {d : D} {v : V} {ds : List D} {ok : Sto → Prop} (R : StoRep H st) (r : Rep H st d v) (e : lstAt st d = some (ds, ok)) :
    ∃ a, v = .ref a ∧ ok st ∧ (∃ vs, Rd H a (.lst vs)) ∧ ∃ src : Sto → Hp → Prop, src st H ∧ (∀ {s s' : Sto} {h h' : Hp}, src s h → Step s h s' h' → src s' h') ∧ ∀ {s h}, src s h → ok s → StoRep h s → ∃ vs, Rd h a (.lst vs) ∧ RepL h s ds vs := by
  cases r with
  | @lst a ds' vs n rd l =>
    cases e
    replace rd : Rd H a (.lst vs) := .inl rd
    exact ⟨a, rfl, trivial, ⟨vs, rd⟩, fun s h => s a = none ∧ Rd h a (.lst vs) ∧ RepL h s ds vs, ⟨n, rd, l⟩, fun q t => ⟨(t.rd q.1 q.2.1).2, (t.rd q.1 q.2.1).1, q.2.2.step t⟩, fun q _ _ => ⟨vs, q.2.1, q.2.2⟩⟩
  | @lkd a ds' vs n rd l =>
    cases e
    exact ⟨a, rfl, trivial, ⟨vs, rd⟩, fun s h => s a = none ∧ Rd h a (.lst vs) ∧ RepL h s ds vs, ⟨n, rd, l⟩, fun q t => ⟨(t.rd q.1 q.2.1).2, (t.rd q.1 q.2.1).1, q.2.2.step t⟩, fun q _ _ => ⟨vs, q.2.1, q.2.2⟩⟩
  | ref a =>
    unfold lstAt at e
    cases q : st a with
    | none => simp only [q] at e; cases e
    | some c =>
      cases c with
      | lst xs =>
        simp only [q] at e; cases e
        have z := R a _ q
        obtain ⟨vs, h1, l⟩ := z
        exact ⟨a, rfl, q, ⟨vs, .inl h1⟩, fun _ _ => True, trivial, fun _ _ => trivial, fun _ h R => by
          obtain ⟨vs, h1, l⟩ := R a _ h
          exact ⟨vs, .inl h1, l⟩⟩
      | dic xs => simp only [q] at e; cases e
      | obj C fs => simp only [q] at e; cases e
      | dct fs => simp only [q] at e; cases e
  | _ => cases e
theorem rd_lst {H : Hp} {a : Addr} {xs ys : List V} (h : Rd H a (.lst xs)) (h' : Rd H a (.lst ys)) : xs = ys := by
  rcases h with h | ⟨o, h⟩ <;> rcases h' with h' | ⟨o', h'⟩ <;> rw [h] at h' <;> cases h' <;> rfl
theorem rd_tup {H : Hp} {a : Addr} {xs ys : List V} (h : Rd H a (.tup xs)) (h' : Rd H a (.tup ys)) : xs = ys := by
  rcases h with h | ⟨o, h⟩ <;> rcases h' with h' | ⟨o', h'⟩ <;> rw [h] at h' <;> cases h' <;> rfl
theorem get_lt {α : Type} {xs : List α} {i : Nat} (h : i < xs.length) : ∃ x, xs[i]? = some x := ⟨xs[i], by simp [h]⟩
section
variable {K : PySem.W.Frag} {ds : List D} {ok : Sto → Prop} {src : Sto → Hp → Prop} {a : Addr}
theorem iter_lst (keep : ∀ {s s' : Sto} {h h' : Hp}, src s h → Step s h s' h' → src s' h') (at_ : ∀ {s h}, src s h → ok s → StoRep h s → ∃ vs, Rd h a (.lst vs) ∧ RepL h s ds vs) : IterOk (Itl K a) ds ok src where
  keep := keep
  go := fun s o R hi => by
    obtain ⟨vs, rd, l⟩ := at_ s o R
    obtain ⟨x, hx⟩ := get_lt (xs := vs) (by rw [← l.length]; exact hi)
    exact ⟨vs, x, .inl rd, hx⟩
  yld := fun s o R y d hd => by
    obtain ⟨vs, rd, l⟩ := at_ s o R
    obtain ⟨rfl, y⟩ := y
    obtain ⟨v, hv, r⟩ := l.get hd
    have e := (y vs (.inl rd)).symm.trans hv
    cases e
    exact ⟨Step.refl, R, r⟩
  stop := fun s o R hi => by
    obtain ⟨vs, rd, l⟩ := at_ s o R
    exact ⟨vs, .inl rd, by rw [← l.length]; exact hi⟩
theorem iter_tup (keep : ∀ {s s' : Sto} {h h' : Hp}, src s h → Step s h s' h' → src s' h') (at_ : ∀ {s h}, src s h → ∃ vs, Rd h a (.tup vs) ∧ RepL h s ds vs) : IterOk (Itt K a) ds ok src where
  keep := keep
  go := fun s o R hi => by
    obtain ⟨vs, rd, l⟩ := at_ s
    obtain ⟨x, hx⟩ := get_lt (xs := vs) (by rw [← l.length]; exact hi)
    exact ⟨vs, x, .inl rd, hx⟩
  yld := fun s o R y d hd => by
    obtain ⟨vs, rd, l⟩ := at_ s
    obtain ⟨rfl, y⟩ := y
    obtain ⟨v, hv, r⟩ := l.get hd
    have e := (y vs (.inl rd)).symm.trans hv
    cases e
    exact ⟨Step.refl, R, r⟩
  stop := fun s o R hi => by
    obtain ⟨vs, rd, l⟩ := at_ s
    exact ⟨vs, .inl rd, by rw [← l.length]; exact hi⟩
end
/-- the signs of a text -/
def signs (x : Str) : List D := x.cps.toList.map fun c => .str ⟨#[c]⟩
theorem signs_length (x : Str) : (signs x).length = x.cps.size := by unfold signs; simp
theorem iter_str {x : Str} : IterOk (Its x) (signs x) always (fun _ _ => True) where
  keep := fun _ _ => trivial
  go := fun _ _ _ hi => by rw [signs_length] at hi; exact hi
  yld := fun _ _ R y d hd => by
    obtain ⟨rfl, c, hc, rfl⟩ := y
    have e : d = .str ⟨#[c]⟩ := by
      unfold signs at hd
      rw [List.getElem?_map, Array.getElem?_toList, hc] at hd
      exact (Option.some.inj hd).symm
    subst e
    exact ⟨Step.refl, R, .str _⟩
  stop := fun _ _ _ hi => by rw [signs_length] at hi; exact hi
/-- any of a list, a tuple, a text -/
def itAny (st : Sto) (d : D) : Option (List D × (Sto → Prop)) := match d with
  | .tup ds => some (ds, always)
  | .str x => some (signs x, always)
  | d => lstAt st d
def wIt (we : WE) : WI := fun g K X => we g (fun d g1 => opt (itAny g1.st d) fun p => K p.1 p.2 g1) X
section
variable {X : Cx} {W : WX} {tg e : Expr} {we : WE} {pos p : Pos}
def iAny (K : PySem.W.Frag) (te : TE) : TI := fun σ H R => te σ H fun x H1 => (∃ a, x = .ref a ∧ (∃ xs, SqL K H1 a xs) ∧ R (Itl K a) H1) ∨ (∃ a, x = .ref a ∧ (∃ xs, SqT K H1 a xs) ∧ R (Itt K a) H1) ∨ ∃ z, x = .str z ∧ R (Its z) H1
theorem pi_any {te : TE} (h : PE X e te) : PI X tg e (iAny X.K te) := by
  constructor
  intro pins s σ H R I hw
  refine thn (h.run pins s σ H _ I hw) ?_
  rintro v s1 ⟨x, H1, I1, rx, q⟩
  have fr : ∀ b ∈ [s1.heap.objs.size], FpOk X pins H1 b := fun b hb => by
    rw [List.mem_singleton.mp hb]
    exact I1.fpOk (Nat.le_refl _) (I1.hok.fresh (Nat.le_refl _))
  rcases q with ⟨a, rfl, ⟨xs, hq⟩, q⟩ | ⟨a, rfl, ⟨xs, hq⟩, q⟩ | ⟨z, rfl, q⟩
  · cases rx
    obtain ⟨its, _, pl, _⟩ := I1.list hq
    exact wpAny_pyIter_list pl.isList ⟨_, _, _, _, H1, rfl, I1.kept (t' := s1.toks) fun b o e => Heap.get?_push_of_some _ e, turn_list a _, ⟨_, Heap.get?_push_size _ rfl, rfl, rfl⟩, fr, q⟩
  · cases rx
    obtain ⟨its, _, pl, _⟩ := I1.tuple hq
    exact wpAny_pyIter_tuple (show s1.heap.IsTuple a its.toArray from pl) ⟨_, _, _, _, H1, rfl, I1.kept (t' := s1.toks) fun b o e => Heap.get?_push_of_some _ e, turn_tuple a _, ⟨_, Heap.get?_push_size _ rfl, rfl, rfl⟩, fr, q⟩
  · obtain ⟨t, rfl⟩ := rx
    cases ha : z.cps.all (· < 128)
    · exact wpAny_pyIter_wide ha (pi_one (tk := s1.toks) I1 _ (turn_str _ z t "str_iterator" (.inr rfl)) ⟨_, Heap.get?_push_size _ rfl, rfl, rfl⟩ q)
    · exact wpAny_pyIter_ascii ha (pi_one (tk := s1.toks) I1 _ (turn_str _ z t "str_ascii_iterator" (.inl rfl)) ⟨_, Heap.get?_push_size _ rfl, rfl, rfl⟩ q)
theorem itAny_ok {K : PySem.W.Frag} {σ : L2.St} {g : G} {H : Hp} {d : D} {x : V} {ds : List D} {ok : Sto → Prop} {R : It → Hp → Prop} (E : EnvRep g σ H) (r : Rep H g.st d x) (e : itAny g.st d = some (ds, ok)) (q : ∀ J src, IterOk J ds ok src → src g.st H → R J H) :
    (∃ a, x = .ref a ∧ (∃ xs, SqL K H a xs) ∧ R (Itl K a) H) ∨ (∃ a, x = .ref a ∧ (∃ xs, SqT K H a xs) ∧ R (Itt K a) H) ∨ ∃ z, x = .str z ∧ R (Its z) H := by
  cases d with
  | tup ds' =>
    cases r with
    | @tup a _ vs n rd l =>
      cases e
      exact .inr (.inl ⟨a, rfl, ⟨vs, .inl rd⟩, q _ (fun s h => s a = none ∧ Rd h a (.tup vs) ∧ RepL h s ds vs) (iter_tup (fun q t => ⟨(t.rd q.1 q.2.1).2, (t.rd q.1 q.2.1).1, q.2.2.step t⟩) fun q => ⟨vs, q.2.1, q.2.2⟩) ⟨n, rd, l⟩⟩)
  | str z =>
    cases r
    cases e
    exact .inr (.inr ⟨z, rfl, q _ _ iter_str trivial⟩)
  | _ =>
    obtain ⟨a, rfl, _, ⟨vs, rd⟩, src, hs, keep, at_⟩ := lstAt_src E.sto r e
    exact .inl ⟨a, rfl, ⟨vs, .inl rd⟩, q _ src (iter_lst keep at_) hs⟩
theorem di_any (h : DE X W e we) : DI X W tg e (wIt we) := (pi_any h).imp fun σ H R ⟨g, K, Xd, E, h, q, UX⟩ => by
  refine ⟨g, _, Xd, E, h, fun d g1 x H1 k s E1 r => ?_, UX⟩
  obtain ⟨⟨ds, ok⟩, e, k⟩ := opt_ok k
  exact itAny_ok E1 r e fun J src hJ hs => q _ _ g1 H1 J src k s E1 hJ hs
/-! ### range -/
def rngL (lo : Int) (n : Nat) : List D := (List.range n).map fun (i : Nat) => D.int (lo + (i : Int))
theorem rngL_length (lo : Int) (n : Nat) : (rngL lo n).length = n := by unfold rngL; simp
theorem iter_rng {lo : Int} {n : Nat} : IterOk (Itr lo n) (rngL lo n) always (fun _ _ => True) where
  keep := fun _ _ => trivial
  go := fun _ _ _ hi => by rw [rngL_length] at hi; exact hi
  yld := fun _ _ R y d hd => by
    obtain ⟨rfl, rfl⟩ := y
    unfold rngL at hd
    rw [List.getElem?_map] at hd
    obtain ⟨j, hj, rfl⟩ := Option.map_eq_some_iff.mp hd
    obtain ⟨hl, e⟩ := List.getElem?_eq_some_iff.mp hj
    rw [List.getElem_range] at e
    subst e
    exact ⟨Step.refl, R, .int _⟩
  stop := fun _ _ _ hi => by rw [rngL_length] at hi; exact hi
/-- within what a range takes -/
def Rng (j : Int) : Prop := -(2 ^ 62) ≤ j ∧ j < 2 ^ 62
def wRng1 (wa : WA) : WI := fun g K X => wa g (fun ds g1 => arg1 ds fun a => asInt a fun j => Rng j ∧ K (rngL 0 j.toNat) always g1) X
def wRng2 (wa : WA) : WI := fun g K X => wa g (fun ds g1 => arg2 ds fun a b => asInt a fun i => asInt b fun j => (Rng i ∧ Rng j) ∧ K (rngL i (j - i).toNat) always g1) X
theorem repL_1 {H : Hp} {st : Sto} {a : D} {vs : List V} (h : RepL H st [a] vs) : ∃ x, vs = [x] ∧ Rep H st a x := by
  cases h with
  | cons r l => cases l; exact ⟨_, rfl, r⟩
theorem repL_2 {H : Hp} {st : Sto} {a b : D} {vs : List V} (h : RepL H st [a, b] vs) : ∃ x y, vs = [x, y] ∧ Rep H st a x ∧ Rep H st b y := by
  cases h with
  | cons r l =>
    obtain ⟨y, rfl, q⟩ := repL_1 l
    exact ⟨_, y, rfl, r, q⟩
theorem repL_3 {H : Hp} {st : Sto} {a b c : D} {vs : List V} (h : RepL H st [a, b, c] vs) : ∃ x y z, vs = [x, y, z] ∧ Rep H st a x ∧ Rep H st b y ∧ Rep H st c z := by
  cases h with
  | cons r l =>
    obtain ⟨y, z, rfl, q⟩ := repL_2 l
    exact ⟨_, y, z, rfl, r, q⟩
theorem di_range1 {a : Expr} {wa : WA} (hm : X.mg "range" = none) (ha : DA X W [a] wa) (hg : Gl X "range" := by rfl) (hs : starEach [a] X.env = [(false, eval a X.env)] := by rfl) : DI X W tg (.Call (.Name "range" p) [a] [] pos) (wRng1 wa) :=
  (pi_range1 hg hm ha hs).imp fun σ H R ⟨g, K, Xd, E, h, q, UX⟩ => by
  refine ⟨g, _, Xd, E, h, fun ds g1 xs H1 k s E1 r => ?_, UX⟩
  obtain ⟨a, rfl, k⟩ := arg1_ok k
  obtain ⟨j, rfl, k⟩ := asInt_ok k
  obtain ⟨x, rfl, rx⟩ := repL_1 r
  obtain rfl : x = V.int j := by cases rx; rfl
  exact ⟨j, rfl, k.1.1, k.1.2, q _ _ g1 H1 _ _ k.2 s E1 iter_rng trivial⟩
theorem di_range2 {a b : Expr} {wa : WA} (hm : X.mg "range" = none) (ha : DA X W [a, b] wa) (hg : Gl X "range" := by rfl) (hs : starEach [a, b] X.env = [(false, eval a X.env), (false, eval b X.env)] := by rfl) (hs2 : starEach [b] X.env = [(false, eval b X.env)] := by rfl) :
    DI X W tg (.Call (.Name "range" p) [a, b] [] pos) (wRng2 wa) :=
  (pi_range2 hg hm ha hs hs2).imp fun σ H R ⟨g, K, Xd, E, h, q, UX⟩ => by
  refine ⟨g, _, Xd, E, h, fun ds g1 xs H1 k s E1 r => ?_, UX⟩
  obtain ⟨a, b, rfl, k⟩ := arg2_ok k
  obtain ⟨i, rfl, k⟩ := asInt_ok k
  obtain ⟨j, rfl, k⟩ := asInt_ok k
  obtain ⟨x, y, rfl, rx, ry⟩ := repL_2 r
  obtain rfl : x = V.int i := by cases rx; rfl
  obtain rfl : y = V.int j := by cases ry; rfl
  exact ⟨i, j, rfl, ⟨k.1.1.1, k.1.1.2, k.1.2.1, k.1.2.2⟩, q _ _ g1 H1 _ _ k.2 s E1 iter_rng trivial⟩
/-! ### enumerate, zip, reversed -/
def pairsN : Nat → List D → List D
  | _, [] => []
  | n, d :: ds => .tup [.int (n : Int), d] :: pairsN (n + 1) ds
theorem pairsN_length : ∀ (n : Nat) (ds : List D), (pairsN n ds).length = ds.length
  | _, [] => rfl
  | n, _ :: ds => by rw [pairsN, List.length_cons, List.length_cons, pairsN_length]
theorem pairsN_get : ∀ (n : Nat) (ds : List D) (i : Nat) (d : D), (pairsN n ds)[i]? = some d → ∃ x, ds[i]? = some x ∧ d = .tup [.int ((n + i : Nat) : Int), x]
  | _, [], i, d, h => by simp [pairsN] at h
  | n, x :: ds, 0, d, h => by simp [pairsN] at h; exact ⟨x, rfl, by rw [← h]; rfl⟩
  | n, x :: ds, i + 1, d, h => by
    obtain ⟨y, h1, h2⟩ := pairsN_get (n + 1) ds i d (by simpa [pairsN] using h)
    exact ⟨y, by simpa using h1, by rw [h2, show n + 1 + i = n + (i + 1) by omega]⟩
theorem new_step {H : Hp} {st : Sto} {T : Addr} {o : HO} (R : StoRep H st) (h : H T = none) : Step st H st (upd H T o) ∧ StoRep (upd H T o) st := ⟨Step.new h, R.new h⟩
theorem iter_enum {K : PySem.W.Frag} {ds : List D} {ok : Sto → Prop} {src : Sto → Hp → Prop} {a : Addr} (keep : ∀ {s s' : Sto} {h h' : Hp}, src s h → Step s h s' h' → src s' h') (at_ : ∀ {s h}, src s h → ok s → StoRep h s → ∃ vs, Rd h a (.lst vs) ∧ RepL h s ds vs) :
    IterOk (Ite K a) (pairsN 0 ds) ok src where
  keep := keep
  go := fun s o R hi => by
    obtain ⟨vs, rd, l⟩ := at_ s o R
    rw [pairsN_length] at hi
    obtain ⟨x, hx⟩ := get_lt (xs := vs) (by rw [← l.length]; exact hi)
    exact ⟨vs, x, .inl rd, hx⟩
  yld := fun {i0 _ _ _ _} s o R y d hd => by
    obtain ⟨vs, rd, l⟩ := at_ s o R
    obtain ⟨x, hx, rfl⟩ := pairsN_get _ _ _ _ hd
    obtain ⟨T, z, rfl, hT, rfl, hz⟩ := y
    obtain ⟨v, hv, r⟩ := l.get hx
    have e := (hz vs (.inl rd)).symm.trans hv
    cases e
    have n := new_step R (o := .tup [.int ((i0 : Nat) : Int), z]) hT
    refine ⟨n.1, n.2, .tup (R.free hT) (.inl upd_same) (.cons ?_ (.cons (r.step n.1) .nil))⟩
    rw [Nat.zero_add]
    exact .int _
  stop := fun s o R hi => by
    obtain ⟨vs, rd, l⟩ := at_ s o R
    rw [pairsN_length] at hi
    exact ⟨vs, .inl rd, by rw [← l.length]; exact hi⟩
def wEnum (wa : WA) : WI := fun g K X => wa g (fun xs g1 => arg1 xs fun d => opt (lstAt g1.st d) fun p => K (pairsN 0 p.1) p.2 g1) X
theorem di_enum {wa : WA} {elts : List Expr} {kk : Nat} {tpos : Pos} (hm : X.mg "enumerate" = none) (ha : DA X W [e] wa) (hg : Gl X "enumerate" := by rfl) (hs : starEach [e] X.env = [(false, eval e X.env)] := by rfl) :
    DI X W (.Tuple elts kk tpos) (.Call (.Name "enumerate" p) [e] [] pos) (wEnum wa) := (pi_enum hg hm ha hs).imp fun σ H R ⟨g, K, Xd, E, h, q, UX⟩ => by
  refine ⟨g, _, Xd, E, h, fun xs g1 vs H1 k s E1 r => ?_, UX⟩
  obtain ⟨d, rfl, k⟩ := arg1_ok k
  obtain ⟨⟨ds, ok⟩, e, k⟩ := opt_ok k
  obtain ⟨x, rfl, rx⟩ := repL_1 r
  obtain ⟨a, rfl, _, ⟨vs, rd⟩, src, hs, keep, at_⟩ := lstAt_src E1.sto rx e
  exact ⟨a, vs, rfl, .inl rd, q _ _ g1 H1 _ src k s E1 (iter_enum keep at_) hs⟩
end
end DL

end SDLI

section SDLG
set_option Elab.async false
set_option linter.all false
set_option maxRecDepth 100000
namespace DL
open PySem L2
/-! ### defs that are called where nothing is being shown -/
/-- as FnOk, asked only where no object's text is being made -/
structure FnG (P : Program) (w : World) (K : PySem.W.Frag) (mg : Str → Option Value) (base : Heap) (k : Nat) (f : Addr) (fd : FuncData) (ps : List Str) (sp : Sp) : Prop where
  len : ∀ vs H Q E, sp vs H Q E → vs.length = ps.length
  run : ∀ (A : Around) (outer : List Env) (s : Shared) (H : Hp) (args : Args) (us : List Value) (vs : List V) (Q : VK) (E : XK), A.guards = some [] → Room k A → Env0 P w K mg base A outer s H → BindsTo s fd args (ps.zip us) → Vals vs us → sp vs H Q E →
    codeAny (model P w) A (.call (.ref f) args) (CR (L2.CX P w) outer P w H s Q E) s
section
variable {P : Program} {w : World} {K : PySem.W.Frag} {mg : Str → Option Value} {base : Heap} {k : Nat} {f : Addr} {fd : FuncData} {ps : List Str} {sp : Sp}
theorem FnG.of (F : FnOk P w K mg base (L2.CX P w) k f fd ps sp) : FnG P w K mg base k f fd ps sp := ⟨F.len, fun A outer s H args us vs Q E _ => F.run A outer s H args us vs Q E⟩
theorem FnG.mono {j : Nat} (F : FnG P w K mg base j f fd ps sp) (h : j ≤ k) : FnG P w K mg base k f fd ps sp := ⟨F.len, fun A outer s H args us vs Q E g hr => F.run A outer s H args us vs Q E g (hr.mono h)⟩
theorem FnG.imp {sp' : Sp} (F : FnG P w K mg base k f fd ps sp) (h : ∀ vs H Q E, sp' vs H Q E → sp vs H Q E) : FnG P w K mg base k f fd ps sp' :=
  ⟨fun vs H Q E q => F.len vs H Q E (h _ _ _ _ q), fun A outer s H args us vs Q E g hr he hb hv hs => F.run A outer s H args us vs Q E g hr he hb hv (h _ _ _ _ hs)⟩
/-- by its body, at its place in the written part -/
theorem fnG_at {x qual : Str} {prs : Arguments} {bd : List Stmt} {sc : Scope} {dV kV doc pm cdv ct oc : Value} {an od : Option Addr} {osl : Array (Option Value)} {N : List Str} (lk : K.lookup f = some ⟨oc, od, .func (PySem.W.fnOf x qual prs bd sc dV kV doc pm an cdv ct), osl⟩) (hcd : PySem.W.codeIn K cdv qual = true) (S : FnScope N ps sc)
    (len : ∀ vs H Q E, sp vs H Q E → vs.length = ps.length)
    (body : ∀ (cdv : Value) (A : Around) (outer : List Env) (s : Shared) (H : Hp) (vs : List V) (Q : VK) (E : XK), A.guards = some [] → Room k (A.deeper (PyProof.Rows.envOfC qual sc s.heap.objs.size f cdv)) → sp vs H Q E →
      ∃ t, PSs (cxOf (L2.CX P w) P w K mg base N qual sc f cdv A outer s H E) bd t ∧ t { nx := fun _ H' => Q .non H', rt := Q } (L2.start N vs) H) : FnG P w K mg base (k + 1) f (PySem.W.fnOf x qual prs bd sc dV kV doc pm an cdv ct) ps sp := by
  refine ⟨len, ?_⟩
  intro A outer s H args us vs Q E hG room e0 bnd rel want
  have base_s : ∀ b o, base.get? b = some o → s.heap.get? b = some o := fun b o e => (e0.bs b o e).1
  have KX := e0.mod.kin.keeps base_s
  have kinds : ∀ y ∈ ps.zip us, sc.names.lookup y.1 = some .local ∨ (sc.names.lookup y.1 = some .cell ∧ ((PySem.cellsFrom (s.heap.objs.size + 1) sc.names []).lookup y.1).isSome = true) := by
    rintro ⟨n, v⟩ hy
    exact (S.par n (List.of_mem_zip hy).1).imp id fun q => ⟨q, PySem.W.cellsFrom_some _ _ _ (.inl q)⟩
  refine codeAny_call_function room.depth (KX _ _ lk) rfl S.co S.gen rfl (PySem.W.codeRec_of KX hcd) (bnd _ _ _ _ ?_)
  refine wpAny_newFunctionEnv_cells S.kind kinds ?_
  rintro env rfl s1 x
  refine ⟨(e0.mod.nolimit.keeps base_s).keeps x.toInCall.keep, codeAny_func ?_⟩
  obtain ⟨t, ht, hq⟩ := body cdv A outer s H vs Q E hG (room.deeper _) want
  have I0 := inv_start S room.hd e0 (len _ _ _ _ want) rel x (CX := L2.CX P w) (qual := qual) (f := f) (cd := cdv) (E := E)
  refine wpAny_mono (ht.run [] s1 (L2.start N vs) H _ I0 hq) ?_ fun e s' hs => hs
  intro fl s' hs
  have fin : ∀ {σ' : L2.St} {H' : Hp} {v : V} {u : Value}, Inv (cxOf (L2.CX P w) P w K mg base N qual sc f cdv A outer s H E) [] σ' H' s' → RelV v u → Q v H' → CE outer P w H s Q u s' := fun J r q => ⟨_, _, J.os, J.bare, J.base, J.hok, r, q⟩
  match fl, hs with
  | .ret _, hs => obtain ⟨_, _, _, J, r, q⟩ := hs; exact fin J r q
  | .next, hs => obtain ⟨_, _, J, q⟩ := hs; exact fin (v := V.non) J rfl q
  | .brk, hs => obtain ⟨_, _, _, q⟩ := hs; exact q.elim
  | .cont, hs => obtain ⟨_, _, _, q⟩ := hs; exact q.elim
end
section
variable {X : Cx} {k : Nat} {f C : Addr} {fd : FuncData} {ps : List Str} {sp : Sp} {E : L2.St → XK} {x m : Str} {p pos apos : Pos} {e o : Expr} {es : List Expr} {t : TA} {to : TE}
theorem runG {pins : List (Addr × Obj)} {σ : L2.St} {H : Hp} {s : Shared} {Q : VK} {us : List Value} {vs : List V} (F : FnG X.prog X.w X.K X.mg X.base k f fd ps sp) (hG : X.A.guards = some []) (room : Room k X.A) (bnd : Binds X.K fd ps []) (pass : PassesAt (L2.CX X.prog X.w) X σ (E σ))
    (I : Inv X pins σ H s) (rel : Vals vs us) (want : sp vs H Q (E σ)) : wpAny (model X.prog X.w) X.A (call (.ref f) us) (EP X pins σ Q) X.xe s := by
  have b0 := bnd s us I.kIn (by rw [List.append_nil, ← Paired.length rel]; exact F.len _ _ _ _ want)
  rw [List.append_nil] at b0
  refine wpAny_call (codeAny_mono (F.run X.A X.stack s H ⟨us, []⟩ us vs Q (E σ) hG room I.env0 b0 rel want) ?_)
  intro res s' done
  match res, done with
  | .error er, done => exact pass pins H s er s' I done
  | .ok (.ret _), done => exact I.after done
theorem pe_callG (F : FnG X.prog X.w X.K X.mg X.base k f fd ps sp) (hG : X.A.guards = some []) (room : Room k X.A) (hg : Gl X x) (hm : X.mg x = some (.ref f)) (hk : PySem.W.keepIn X.K (.ref f) = true) (bnd : Binds X.K fd ps []) (pass : ∀ σ, PassesAt (L2.CX X.prog X.w) X σ (E σ))
    (ha : PA X (e :: es) t) (hdb : (x == ("__debug__" : Str)) = false := by decide) (he : starEach (e :: es) X.env = (false, eval e X.env) :: starEach es X.env := by rfl) (hpl : (backTo pos (starEach es X.env)).any (·.1) = false := by rfl) :
    PE X (.Call (.Name x p) (e :: es) [] pos) (tCallS sp E t) := by
  constructor
  intro pins s σ H Q I h
  refine wpAny_Call_Name_kw (ld_glob I hg hm ?_ hdb)
  refine PySem.W.callWith_K (h₀ := X.base) I.ok.mod.kin hk (thn (ha.run pos pins s σ H _ I h) ?_) he hpl
  rintro us s1 ⟨vs, H1, I1, rv, q⟩
  exact ⟨I1.kIn, runG F hG room bnd (pass σ) I1 rv q⟩
def tMakeS (C : Addr) (sp : Sp) (E : L2.St → XK) (t : TA) : TE := fun σ H Q => t σ H fun vs H1 => ∀ y dx, H1 y = none → H1 dx = none → dx ≠ y → sp (.ref y :: vs) (upd (upd H1 dx (.own y)) y (.ins C dx [])) (fun v H2 => v = .non ∧ Q (.ref y) H2) (E σ)
theorem runMakeS {pins : List (Addr × Obj)} {σ : L2.St} {H : Hp} {s : Shared} {Q : VK} {us : List Value} {vs : List V} (M : Mk X.K C f) (F : FnG X.prog X.w X.K X.mg X.base k f fd ps sp) (hG : X.A.guards = some []) (room : Room (k + 1) X.A) (bnd : Binds X.K fd ps [])
    (pass : ∀ σ, PassesAt (L2.CX X.prog X.w) X σ (E σ)) (I : Inv X pins σ H s) (rv : Vals vs us) (hyp : ∀ y dx, H y = none → H dx = none → dx ≠ y → sp (.ref y :: vs) (upd (upd H dx (.own y)) y (.ins C dx [])) (fun v H2 => v = .non ∧ Q (.ref y) H2) (E σ)) :
    wpAny (model X.prog X.w) X.A (call (.ref C) us) (EP X pins σ Q) X.xe s := by
  have f1 := I.hok.fresh (Nat.le_succ s.heap.objs.size)
  have f0 := I.hok.fresh (Nat.le_refl s.heap.objs.size)
  generalize hn : s.heap.objs.size = n at f1 f0
  have want := hyp (n + 1) n f1 f0 (Nat.ne_of_lt (Nat.lt_succ_self n))
  have J := Inv.made (C := C) I
  rw [hn] at J
  have vals : Vals (V.ref (n + 1) :: vs) (Value.ref (n + 1) :: us) := .cons rfl rv
  have len : (Value.ref (n + 1) :: us).length = ps.length := by rw [← Paired.length vals]; exact F.len _ _ _ _ want
  have b0 := bnd _ (Value.ref (n + 1) :: us) J.kIn (by rw [List.append_nil]; exact len)
  rw [List.append_nil] at b0
  have g1 : (X.A.under (.builtin "type.__call__" ⟨.ref C :: us, []⟩)).guards = some [] := by
    unfold Around.under
    simp only [hG]
    first | rfl | decide | (simp [pushGuards, Code.guards, Code.isGuard]; done)
  have core := F.run _ X.stack _ _ ⟨Value.ref (n + 1) :: us, []⟩ (Value.ref (n + 1) :: us) _ _ (E σ) g1 (room.make C us []) (J.env0.make C us []) b0 vals want
  refine wpAny_call (make_map (f := f) I.kIn M.makes M.init (beq_iff_eq.mp M.fn) ?_)
  rw [hn]
  refine codeAny_mono core fun res s' done => ?_
  match res, done with
  | .error er, done => exact pass σ pins _ _ er s' J done
  | .ok (.ret u), done =>
    obtain ⟨v, H', I3, r3, ev, q3⟩ := J.after done
    subst ev
    exact ⟨r3, ⟨V.ref (n + 1), H', I3, rfl, q3⟩⟩
theorem pe_makeS (M : Mk X.K C f) (F : FnG X.prog X.w X.K X.mg X.base k f fd ps sp) (hG : X.A.guards = some []) (room : Room (k + 1) X.A) (hg : Gl X x) (hm : X.mg x = some (.ref C)) (bnd : Binds X.K fd ps []) (pass : ∀ σ, PassesAt (L2.CX X.prog X.w) X σ (E σ))
    (ha : PA X (e :: es) t) (hdb : (x == ("__debug__" : Str)) = false := by decide) (he : starEach (e :: es) X.env = (false, eval e X.env) :: starEach es X.env := by rfl) (hpl : (backTo pos (starEach es X.env)).any (·.1) = false := by rfl) :
    PE X (.Call (.Name x p) (e :: es) [] pos) (tMakeS C sp E t) := by
  constructor
  intro pins s σ H Q I h
  refine wpAny_Call_Name_kw (ld_glob I hg hm ?_ hdb)
  refine PySem.W.callWith_K (h₀ := X.base) I.ok.mod.kin M.kp (thn (ha.run pos pins s σ H _ I h) ?_) he hpl
  rintro us s1 ⟨vs, H1, I1, rv, q⟩
  exact ⟨I1.kIn, runMakeS M F hG room bnd pass I1 rv q⟩
def tMethS (C : Addr) (m : Str) (sp : Sp) (E : L2.St → XK) (to : TE) (t : TA) : TE := fun σ H Q => to σ H fun x H1 => ∃ a dx fs, x = .ref a ∧ H1 a = some (.ins C dx fs) ∧ fs.lookup m = none ∧ t σ H1 fun vs H2 => sp (x :: vs) H2 Q (E σ)
theorem pe_methA {pl : Sem Bool} (ho : PE X o to) (c : Cls X.K C) (hm : Meth X.K C m f) (F : FnG X.prog X.w X.K X.mg X.base k f fd ps sp) (hG : X.A.guards = some []) (room : Room k X.A) (bnd : Binds X.K fd ps []) (pass : ∀ σ, PassesAt (L2.CX X.prog X.w) X σ (E σ)) (ha : PA X (e :: es) t)
    (hst : starEach (e :: es) X.env = (false, eval e X.env) :: starEach es X.env := by rfl) (hpl : (backTo pos (starEach es X.env)).any (·.1) = false := by rfl)
    (ht : eval (.Call (.Attribute o m apos) (e :: es) [] pos) X.env = (do
      let ov ← eval o X.env
      standAt apos.atName
      let (f, first) ← holding [ov] (getMethod ov m pl)
      callWith pos f first (backTo pos (starEach (e :: es) X.env)) (backToKw pos (keywordEach [] X.env))) := by rfl) :
    PE X (.Call (.Attribute o m apos) (e :: es) [] pos) (tMethS C m sp E to t) := by
  constructor
  intro pins s σ H Q I h
  refine PySem.W.methodCall_KW (pl := pl) (thn (ho.run pins s σ H _ I h) ?_) ht
  rintro u s1 ⟨x, H1, I1, rx, a, dx, fs, rfl, ea, no, q⟩
  obtain rfl : u = Value.ref a := rx
  refine getmeth_ok I1 ea c hm no (PySem.W.callWith_K (first := [.ref a]) (h₀ := X.base) I.ok.mod.kin hm.kp (thn (ha.run pos pins s1 σ H1 _ I1 q) ?_) hst hpl)
  rintro us s2 ⟨vs, H2, I2, rv, q2⟩
  exact ⟨I2.kIn, runG (us := .ref a :: us) (vs := .ref a :: vs) F hG room bnd (pass σ) I2 (.cons rfl rv) q2⟩
theorem pe_methA0 {pl : Sem Bool} (ho : PE X o to) (c : Cls X.K C) (hm : Meth X.K C m f) (F : FnG X.prog X.w X.K X.mg X.base k f fd ps sp) (hG : X.A.guards = some []) (room : Room k X.A) (bnd : Binds X.K fd ps []) (pass : ∀ σ, PassesAt (L2.CX X.prog X.w) X σ (E σ))
    (ht : eval (.Call (.Attribute o m apos) [] [] pos) X.env = (do
      let ov ← eval o X.env
      standAt apos.atName
      let (f, first) ← holding [ov] (getMethod ov m pl)
      callWith pos f first (backTo pos (starEach [] X.env)) (backToKw pos (keywordEach [] X.env))) := by rfl) :
    PE X (.Call (.Attribute o m apos) [] [] pos) (tMethS C m sp E to tNil) := by
  constructor
  intro pins s σ H Q I h
  refine PySem.W.methodCall_KW (pl := pl) (thn (ho.run pins s σ H _ I h) ?_) ht
  rintro u s1 ⟨x, H1, I1, rx, a, dx, fs, rfl, ea, no, q⟩
  obtain rfl : u = Value.ref a := rx
  exact getmeth_ok I1 ea c hm no (PySem.W.callWith_K0 (first := [.ref a]) I1.kIn hm.kp (runG (us := [.ref a]) (vs := [.ref a]) F hG room bnd (pass σ) I1 (.cons rfl .nil) q))
end
end DL

end SDLG

section SDLF
set_option Elab.async false
set_option linter.all false
set_option maxRecDepth 100000
namespace DL
open PySem L2
/-! ### defs -/
abbrev CT := List D → Sto → (D → Sto → Prop) → (Addr → D → Sto → Prop) → Prop
def liftSp (n : Nat) (ct : CT) : Sp := fun vs H Q E => vs.length = n ∧ ∃ ds st Kd Kx, RepL H st ds vs ∧ StoRep H st ∧ ct ds st Kd Kx ∧
  (∀ d st' v H', Kd d st' → Step st H st' H' → StoRep H' st' → Rep H' st' d v → Q v H') ∧
  (∀ C d st' dx H', Kx C d st' → Step st H st' H' → StoRep H' st' → ExcRep H' st' dx d → E (.ref C) (some dx) H')
def startD : Nat → List D → List (Option D)
  | 0, _ => []
  | n + 1, [] => none :: startD n []
  | n + 1, d :: ds => some d :: startD n ds
theorem startD_length : ∀ (n : Nat) (ds : List D), (startD n ds).length = n
  | 0, _ => rfl
  | n + 1, [] => by rw [startD, List.length_cons, startD_length]
  | n + 1, _ :: ds => by rw [startD, List.length_cons, startD_length]
theorem startD_nil : ∀ (n i : Nat) (d : D), getS (startD n []) i ≠ some d
  | 0, _, _ => nofun
  | n + 1, 0, _ => nofun
  | n + 1, i + 1, d => startD_nil n i d
theorem startD_get : ∀ (n : Nat) (ds : List D) (i : Nat) (d : D), getS (startD n ds) i = some d → ds[i]? = some d
  | 0, _, _, _, h => by cases h
  | n + 1, [], i, d, h => absurd h (startD_nil (n + 1) i d)
  | n + 1, _ :: _, 0, _, h => h
  | n + 1, _ :: ds, i + 1, d, h => by
    have := startD_get n ds i d h
    simpa using this
theorem start_env {N : List Str} {ds : List D} {vs : List V} {st : Sto} {H : Hp} (l : RepL H st ds vs) (R : StoRep H st) (hl : vs.length ≤ N.length) : EnvRep ⟨startD N.length ds, st⟩ (L2.start N vs) H :=
  ⟨R, by
    show (startD N.length ds).length = (L2.start N vs).length
    rw [startD_length]
    unfold L2.start
    rw [List.length_append, List.length_map, List.length_replicate]
    omega, fun i d h => by
    have h1 := startD_get _ _ _ _ h
    obtain ⟨v, hv, r⟩ := l.get h1
    refine ⟨v, ?_, r⟩
    unfold L2.start
    have hi : i < vs.length := (List.getElem?_eq_some_iff.mp hv).1
    rw [List.getElem?_append_left (by simpa using hi), List.getElem?_map, hv]
    rfl⟩
/-- what is wanted behind a body -/
def endsOf (Kd : D → Sto → Prop) (Kx : Addr → D → Sto → Prop) : EndsD := ⟨fun g => Kd .non g.st, fun d g => Kd d g.st, fun _ => False, fun _ => False, fun C d g => Kx C d g.st⟩
abbrev Wx (E : XK) : WX := fun cls d _ H => E cls d H
section
variable {P : Program} {w : World} {K : PySem.W.Frag} {mg : Str → Option Value} {base : Heap}
abbrev DFn (P : Program) (w : World) (K : PySem.W.Frag) (mg : Str → Option Value) (base : Heap) (k : Nat) (f : Addr) (fd : FuncData) (ps : List Str) (ct : CT) : Prop := FnG P w K mg base k f fd ps (liftSp ps.length ct)
/-- a weaker promise -/
theorem DFn.imp {k : Nat} {f : Addr} {fd : FuncData} {ps : List Str} {ct ct' : CT} (F : DFn P w K mg base k f fd ps ct) (h : ∀ ds st Kd Kx, ct' ds st Kd Kx → ct ds st Kd Kx) : DFn P w K mg base k f fd ps ct' :=
  FnG.imp F fun vs H Q E ⟨hl, ds, st, Kd, Kx, l, R, c, q, qx⟩ => ⟨hl, ds, st, Kd, Kx, l, R, h _ _ _ _ c, q, qx⟩
end
section
variable {X : Cx} {W : WX} {k : Nat} {f : Addr} {fd : FuncData} {ps : List Str} {ct : CT} {x : Str} {p pos apos : Pos} {e o : Expr} {es : List Expr} {wa : WA} {we : WE}
/-- f(..) -/
def wCall (n : Nat) (ct : CT) (wa : WA) : WE := fun g K X => wa g (fun ds g1 => ds.length = n ∧ ct ds g1.st (fun d st => K d ⟨g1.sl, st⟩) (fun C d st => X C d ⟨g1.sl, st⟩)) X
theorem call_sp {σ : L2.St} {g : G} {H : Hp} {ds : List D} {vs : List V} {K : KD} {Xd : XD} {Q : VK} (E : EnvRep g σ H) (l : RepL H g.st ds vs) (hn : ds.length = ps.length)
    (h : ct ds g.st (fun d st => K d ⟨g.sl, st⟩) (fun C d st => Xd C d ⟨g.sl, st⟩)) (U : Upd σ g.st H K Q) (UX : UpX W σ g.st H Xd) : liftSp ps.length ct vs H Q (L2.WE W σ) :=
  ⟨by rw [← l.length, hn], ds, g.st, _, _, l, E.sto, h, fun d st v H' k s R r => U d ⟨g.sl, st⟩ v H' k s (E.step s R) r, fun C d st dx H' k s R r => UX C d ⟨g.sl, st⟩ dx H' k s (E.step s R) r⟩
theorem de_call (F : FnG X.prog X.w X.K X.mg X.base k f fd ps (liftSp ps.length ct)) (hG : X.A.guards = some []) (hr : Room k X.A) (hm : X.mg x = some (.ref f)) (hk : PySem.W.keepIn X.K (.ref f) = true) (hb : Binds X.K fd ps []) (tk : Takes X W)
    (ha : DA X W (e :: es) wa) (hg : Gl X x := by rfl) (hdb : (x == ("__debug__" : Str)) = false := by decide) (he : starEach (e :: es) X.env = (false, eval e X.env) :: starEach es X.env := by rfl) (hpl : (backTo pos (starEach es X.env)).any (·.1) = false := by rfl) :
    DE X W (.Call (.Name x p) (e :: es) [] pos) (wCall ps.length ct wa) := (pe_callG F hG hr hg hm hk hb (fun σ => passAt tk σ) ha hdb he hpl).imp fun σ H Q ⟨g, K, Xd, E, h, U, UX⟩ =>
  ⟨g, _, Xd, E, h, fun ds g1 vs H1 k s E1 l => call_sp E1 l k.1 k.2 (U.on s) (UX.on s), UX⟩
end
/-! ### an exception of one's own, with a value -/
/-- __init__(self, value): self.value = value -/
def spXI (K : PySem.W.Frag) : Sp := fun vs H Q _ => ∃ (a C : Addr) (v : V), vs = [.ref a, v] ∧ OexC K C ∧ PySem.W.findIn K (.ref C) "value" = some none ∧ H a = some (exo a C none) ∧
  ∀ dx, H dx = none → dx ≠ a → Q .non (upd (upd H dx (exd dx [("value", v)])) a (exo a C (some dx)))
theorem okXI {P : Program} {w : World} {K : PySem.W.Frag} {mg : Str → Option Value} {base : Heap} {qual : Str} {st : Stmt} {f : Addr} {fd : FuncData} (F : Fun K "__init__" qual st f fd) (S : FnScope ["self", "value"] ["self", "value"] (defScope st))
    {p1 p2 p3 p4 : Pos} (hb : defBody st = [.Assign [.Attribute (.Name "self" p1) "value" p2] (.Name "value" p3) p4])
    (v1 : (defScope st).names.lookup ("self" : Str) = some .local) (v2 : (defScope st).names.lookup ("value" : Str) = some .local) : FnOk P w K mg base (L2.CX P w) 1 f fd ["self", "value"] (spXI K) := by
  refine F.okX S (fun vs H Q E h => ?_) (fun cdv A outer s H vs Q E hr h => ?_)
  · obtain ⟨a, C, v, rfl, _⟩ := h
    rfl
  · obtain ⟨a, C, v, rfl, T, no, ha, q⟩ := h
    rw [hb]
    refine ⟨_, pss_one (ps_ost (pe_var (i := 0) rfl (.inl v1)) (pe_var (i := 1) rfl (.inl v2))), ?_⟩
    exact ⟨v, rfl, .ref a, rfl, a, C, rfl, T, no, .inl ⟨ha, fun dx h1 h2 => q dx h1 h2⟩⟩
/-- what is known of the class x, at C; fI: the __init__ that it has -/
structure ExT (K : PySem.W.Frag) (mg : Str → Option Value) (x : Str) (C fI : Addr) : Prop where
  gC : mg x = some (.ref C)
  T : OexC K C
  iC : PySem.W.findIn K (.ref C) "__init__" = some (some (.ref fI))
  tI : PySem.W.typeIn K (.ref fI) = some (.type "function")
  no : PySem.W.findIn K (.ref C) "value" = some none
section
variable {X : Cx} {W : WX} {k : Nat} {f C : Addr} {fd : FuncData} {x : Str} {p pos pos2 : Pos} {e : Expr} {es : List Expr} {wa : WA}
def wRaise (C : Addr) (wa : WA) : WS := fun K g => wa g (fun ds g1 => arg1 ds fun d => K.ex C d g1) K.ex
theorem del_upd {H : Hp} {a dx : Addr} {fs : List (Str × V)} {o1 o2 o3 : HO} (h : H a = none) (ne : dx ≠ a) (u : HO) : upd (L2.del (upd (upd (upd H a o1) dx o2) a o3) a) dx u = upd H dx u := by
  funext b
  by_cases e : b = dx
  · subst e; rw [upd_same, upd_same]
  · rw [upd_ne e, upd_ne e]
    by_cases e2 : b = a
    · subst e2; rw [L2.del_same, h]
    · rw [L2.del_ne e2, upd_ne e2, upd_ne e, upd_ne e2]
theorem ds_raise (hc : X.calm = true) (tk : Takes X W) (T : ExT X.K X.mg x C f) (F : FnOk X.prog X.w X.K X.mg X.base (L2.CX X.prog X.w) k f fd ["self", "value"] (spXI X.K)) (hr : Room (k + 1) X.A) (hb : Binds X.K fd ["self", "value"] [])
    (ha : DA X W (e :: es) wa) (hg : Gl X x := by rfl) (hdb : (x == ("__debug__" : Str)) = false := by decide) (he : starEach (e :: es) X.env = (false, eval e X.env) :: starEach es X.env := by rfl) (hpl : (backTo pos (starEach es X.env)).any (·.1) = false := by rfl) :
    DS X W (.Raise (some (.Call (.Name x p) (e :: es) [] pos)) none pos2) (wRaise C wa) :=
  (ps_raise hc tk (pmk_oex T.T T.iC T.tI F hr hb .nil passL hg T.gC ha hdb he hpl)).imp fun D σ H ⟨g, K, E, h, U⟩ => by
  refine ⟨g, _, K.ex, E, h, fun ds g1 vs H1 k s E1 l => ?_, U.ex.x σ⟩
  obtain ⟨d, rfl, k⟩ := arg1_ok k
  obtain ⟨v, rfl, r⟩ := repL_1 l
  refine ⟨by show 1 ≤ 1000; decide, fun a ha => ⟨a, C, v, rfl, T.T, T.no, upd_same, fun dx hdx ne => ⟨rfl, dx, [("value", v)], upd_same, ?_, ?_, ?_⟩⟩⟩
  · rw [upd_ne ne, upd_same]
  · rw [upd_ne ne] at hdx; exact hdx
  · have hd1 : H1 dx = none := by rw [upd_ne ne] at hdx; exact hdx
    rw [del_upd (fs := []) ha ne]
    have n := new_step E1.sto (o := .xd [("value", v)]) hd1
    exact U.ex C d g1 σ dx _ k (s.trans n.1) (E1.step n.1 n.2) ⟨v, upd_same, r.step n.1⟩
end
end DL

end SDLF

section SDLO
set_option Elab.async false
set_option linter.all false
set_option maxRecDepth 100000
namespace DL
open PySem L2
/-! ### operators by data -/
section
variable {X : Cx}
theorem CallR.or {f : Value} {r r' : List V → Hp → VK → Prop} (h : CallR X f r) (h' : CallR X f r') : CallR X f (fun x H Q => r x H Q ∨ r' x H Q) := fun pins s σ H xs us Q I rx q => by
  rcases q with q | q
  · exact h pins s σ H xs us Q I rx q
  · exact h' pins s σ H xs us Q I rx q
/-- a tracked list -/
def tlst (st : Sto) : D → Option (List D)
  | .lst ds => some ds
  | .ref a => match st a with
    | some (.lst ds) => some ds
    | _ => none
  | _ => none
theorem tlst_ok {st : Sto} {H : Hp} {d : D} {v : V} {ds : List D} (R : StoRep H st) (r : Rep H st d v) (e : tlst st d = some ds) : ∃ a vs, v = .ref a ∧ H a = some (.lst vs) ∧ RepL H st ds vs := by
  cases r with
  | lst n rd l => cases e; exact ⟨_, _, rfl, rd, l⟩
  | ref a =>
    unfold tlst at e
    cases q : st a with
    | none => simp only [q] at e; cases e
    | some c =>
      cases c with
      | lst xs =>
        simp only [q] at e; cases e
        obtain ⟨vs, h1, l⟩ := R a _ q
        exact ⟨a, vs, rfl, h1, l⟩
      | dic xs => simp only [q] at e; cases e
      | obj C fs => simp only [q] at e; cases e
      | dct fs => simp only [q] at e; cases e
  | _ => cases e
/-- a list or a tuple, to be read -/
def seqAt (st : Sto) : D → Option (List D)
  | .tup ds => some ds
  | .lkd ds => some ds
  | d => tlst st d
theorem seqAt_ok {K : PySem.W.Frag} {st : Sto} {H : Hp} {d : D} {v : V} {ds : List D} (R : StoRep H st) (r : Rep H st d v) (e : seqAt st d = some ds) : ∃ p vs, v = .ref p ∧ (SqL K H p vs ∨ SqT K H p vs) ∧ RepL H st ds vs := by
  cases d with
  | tup xs => cases r with
    | tup n rd l => cases e; exact ⟨_, _, rfl, .inr (.inl rd), l⟩
  | lkd xs => cases r with
    | lkd n rd l => cases e; exact ⟨_, _, rfl, .inl (.inl rd), l⟩
  | _ => obtain ⟨a, vs, rfl, h, l⟩ := tlst_ok R r e; exact ⟨a, vs, rfl, .inl (SqL.of h), l⟩
/-- a list, to be read -/
def lseqAt (st : Sto) : D → Option (List D)
  | .lkd ds => some ds
  | d => tlst st d
theorem lseqAt_ok {K : PySem.W.Frag} {st : Sto} {H : Hp} {d : D} {v : V} {ds : List D} (R : StoRep H st) (r : Rep H st d v) (e : lseqAt st d = some ds) : ∃ p vs, v = .ref p ∧ SqL K H p vs ∧ RepL H st ds vs := by
  cases d with
  | lkd xs => cases r with
    | lkd n rd l => cases e; exact ⟨_, _, rfl, .inl rd, l⟩
  | _ => obtain ⟨a, vs, rfl, h, l⟩ := tlst_ok R r e; exact ⟨a, vs, rfl, SqL.of h, l⟩

/-- ints in, one out -/
def oI (C : Int → Int → Prop) (f : Int → Int → Int) : WO2 := fun x y g K => asInt x fun i => asInt y fun j => C i j ∧ K (.int (f i j)) g
theorem so_I {C : Int → Int → Prop} {f : Int → Int → Int} : SO2 (rI C fun i j => .int (f i j)) (oI C f) := fun {a b x y g σ H K Q} E ra rb w U => by
  obtain ⟨i, rfl, w1⟩ := asInt_ok w
  obtain ⟨j, rfl, w2⟩ := asInt_ok w1
  cases ra; cases rb
  exact ⟨i, j, rfl, rfl, w2.1, U _ g _ H w2.2 Step.refl E (.int _)⟩
def oI0 (f : Int → Int → Int) : WO2 := fun x y g K => asInt x fun i => asInt y fun j => K (.int (f i j)) g
theorem so_I0 {f : Int → Int → Int} : SO2 (rI0 fun i j => .int (f i j)) (oI0 f) := fun {a b x y g σ H K Q} E ra rb w U => by
  obtain ⟨i, rfl, w1⟩ := asInt_ok w
  obtain ⟨j, rfl, w2⟩ := asInt_ok w1
  cases ra; cases rb
  exact ⟨i, j, rfl, rfl, U _ g _ H w2 Step.refl E (.int _)⟩
def oCI (f : Int → Int → Bool) : WO2 := fun x y g K => asInt x fun i => asInt y fun j => K (.bl (f i j)) g
theorem so_CI {f : Int → Int → Bool} : SO2 (rI0 fun i j => .bl (f i j)) (oCI f) := fun {a b x y g σ H K Q} E ra rb w U => by
  obtain ⟨i, rfl, w1⟩ := asInt_ok w
  obtain ⟨j, rfl, w2⟩ := asInt_ok w1
  cases ra; cases rb
  exact ⟨i, j, rfl, rfl, U _ g _ H w2 Step.refl E (.bl _)⟩
theorem SO2.or {r r' : R2} {w : WO2} (h : SO2 r w) : SO2 (fun x y H Q => r x y H Q ∨ r' x y H Q) w := fun E ra rb q U => .inl (h E ra rb q U)
theorem SO2.orr {r r' : R2} {w : WO2} (h : SO2 r' w) : SO2 (fun x y H Q => r x y H Q ∨ r' x y H Q) w := fun E ra rb q U => .inr (h E ra rb q U)
def oAdd (b : Bool) : WO2 := fun x y g K => match x with
  | .int i => asInt y fun j => K (.int (i + j)) g
  | .str s => asStr y fun t => s.length + t.length ≤ sizeLine ∧ K (.str (s ++ t)) g
  | .tup xs => asTup y fun ys => xs.length + ys.length ≤ sizeLine ∧ K (.tup (xs ++ ys)) g
  | x => opt (tlst g.st x) fun xs => opt (tlst g.st y) fun ys => xs.length + ys.length ≤ sizeLine ∧ newL b (xs ++ ys) g K
abbrev rAddD (K : PySem.W.Frag) : R2 := fun x y H Q => rI0 (fun i j => .int (i + j)) x y H Q ∨ (fun (x y : V) (H : Hp) (Q : VK) => (∃ i j, x = .str i ∧ y = .str j ∧ i.length + j.length ≤ sizeLine ∧ Q (.str (i ++ j)) H) ∨ (rCatA K x y H Q ∨ rCat x y H Q)) x y H Q
theorem op_addD : OpR X (binaryOp .Add) (rAddD X.K) := op_add.or (op_add_str.or (op_catA.or op_cat))
theorem so_add {K : PySem.W.Frag} {b : Bool} : SO2 (rAddD K) (oAdd b) := fun {a c x y g σ H Kd Q} E ra rb w U => by
  have lists : ∀ a', (opt (tlst g.st a') fun xs => opt (tlst g.st c) fun ys => xs.length + ys.length ≤ sizeLine ∧ newL b (xs ++ ys) g Kd) → Rep H g.st a' x → rCat x y H Q := fun a' w ra => by
    obtain ⟨xs, e1, w⟩ := opt_ok w
    obtain ⟨ys, e2, hl, k⟩ := opt_ok w
    obtain ⟨p, vs, rfl, h1, l1⟩ := tlst_ok E.sto ra e1
    obtain ⟨q, ws, rfl, h2, l2⟩ := tlst_ok E.sto rb e2
    exact ⟨p, q, vs, ws, rfl, rfl, h1, h2, by rw [← l1.length, ← l2.length]; exact hl, new_L E (l1.append l2) k U⟩
  cases a with
  | int i =>
    obtain ⟨j, rfl, w1⟩ := asInt_ok w
    cases ra; cases rb
    exact .inl ⟨i, j, rfl, rfl, U _ g _ H w1 Step.refl E (.int _)⟩
  | str s =>
    obtain ⟨j, rfl, w1⟩ := asStr_ok w
    cases ra; cases rb
    exact .inr (.inl ⟨s, j, rfl, rfl, w1.1, U _ g _ H w1.2 Step.refl E (.str _)⟩)
  | tup xs =>
    obtain ⟨ys, rfl, hl, k⟩ := asTup_ok w
    cases ra with
    | @tup p _ vs n1 h1 l1 =>
      cases rb with
      | @tup q _ ws n2 h2 l2 =>
        refine .inr (.inr (.inl ⟨p, q, vs, ws, rfl, rfl, .inl h1, .inl h2, by rw [← l1.length, ← l2.length]; exact hl, ?_⟩))
        refine ⟨fun e => ?_, fun _ e => ?_, fun _ _ => ?_⟩
        · subst e
          cases l1
          exact U _ g _ H k Step.refl E (.tup n2 h2 l2)
        · subst e
          cases l2
          rw [List.append_nil] at k
          exact U _ g _ H k Step.refl E (.tup n1 h1 l1)
        · exact new_tup E (l1.append l2) k U
  | _ =>
    refine .inr (.inr (.inr (lists _ ?_ ra)))
    exact w
def MulOk (i j : Int) : Prop := CMul i j ∨ CMulW i j
theorem op_mulD : OpR X (binaryOp .Mult) (rI MulOk fun i j => .int (i * j)) := opI fun _ _ _ _ _ _ _ hc q => PyProof.Rows.mul_int q (hc.elim CMul.ok CMulW.ok)
def PowOk (i j : Int) : Prop := 0 ≤ j ∧ (Builtin.Int.intBits i : Int) * j ≤ 2 ^ 27
theorem op_powD : OpR X (binaryOp .Pow) (rI PowOk fun i j => .int (i ^ j.toNat)) := opI fun _ _ _ _ _ _ _ hc q => PyProof.Rows.pow_int hc.1 hc.2 q

/-! ### comparisons -/
/-- an order of ints or of texts -/
def oOrd (f : Int → Int → Bool) (h : Str → Str → Bool) : WO2 := fun x y g K => match x with
  | .int i => asInt y fun j => K (.bl (f i j)) g
  | .str s => asStr y fun t => K (.bl (h s t)) g
  | _ => False
theorem so_ord {f : Int → Int → Bool} {h : Str → Str → Bool} : SO2 (fun x y H Q => rI0 (fun i j => .bl (f i j)) x y H Q ∨ (fun (x y : V) (H : Hp) (Q : VK) => ∃ i j, x = .str i ∧ y = .str j ∧ Q (.bl (h i j)) H) x y H Q) (oOrd f h) := fun {a c x y g σ H Kd Q} E ra rb w U => by
  cases a with
  | int i =>
    obtain ⟨j, rfl, w1⟩ := asInt_ok w
    cases ra; cases rb
    exact .inl ⟨i, j, rfl, rfl, U _ g _ H w1 Step.refl E (.bl _)⟩
  | str s =>
    obtain ⟨j, rfl, w1⟩ := asStr_ok w
    cases ra; cases rb
    exact .inr ⟨s, j, rfl, rfl, U _ g _ H w1 Step.refl E (.bl _)⟩
  | _ => exact w.elim
theorem op_ltD : OpR X (compareOp .Lt) (fun x y H Q => rI0 (fun i j => .bl (decide (i < j))) x y H Q ∨ (fun (x y : V) (H : Hp) (Q : VK) => ∃ i j, x = .str i ∧ y = .str j ∧ Q (.bl (decide (i.cps.toList < j.cps.toList))) H) x y H Q) := op_lt.or op_lt_str
theorem op_leD : OpR X (compareOp .LtE) (fun x y H Q => rI0 (fun i j => .bl (decide (i ≤ j))) x y H Q ∨ (fun (x y : V) (H : Hp) (Q : VK) => ∃ i j, x = .str i ∧ y = .str j ∧ Q (.bl (!decide (j.cps.toList < i.cps.toList))) H) x y H Q) := op_le.or op_le_str
theorem op_gtD : OpR X (compareOp .Gt) (fun x y H Q => rI0 (fun i j => .bl (decide (j < i))) x y H Q ∨ (fun (x y : V) (H : Hp) (Q : VK) => ∃ i j, x = .str i ∧ y = .str j ∧ Q (.bl (decide (j.cps.toList < i.cps.toList))) H) x y H Q) := op_gt.or op_gt_str
theorem op_geD : OpR X (compareOp .GtE) (fun x y H Q => rI0 (fun i j => .bl (decide (j ≤ i))) x y H Q ∨ (fun (x y : V) (H : Hp) (Q : VK) => ∃ i j, x = .str i ∧ y = .str j ∧ Q (.bl (!decide (i.cps.toList < j.cps.toList))) H) x y H Q) := op_ge.or op_ge_str
abbrev oLt : WO2 := oOrd (fun i j => decide (i < j)) fun i j => decide (i.cps.toList < j.cps.toList)
abbrev oLe : WO2 := oOrd (fun i j => decide (i ≤ j)) fun i j => !decide (j.cps.toList < i.cps.toList)
abbrev oGt : WO2 := oOrd (fun i j => decide (j < i)) fun i j => decide (j.cps.toList < i.cps.toList)
abbrev oGe : WO2 := oOrd (fun i j => decide (j ≤ i)) fun i j => !decide (i.cps.toList < j.cps.toList)
/-! data without cells, as the library has them -/
mutual
def pyD : D → Option PyData
  | .non => some .none
  | .bl b => some (.bool b)
  | .int i => some (.int i)
  | .str x => some (.str x)
  | .tup xs => (pyL xs).map .tuple
  | .lst xs => (pyL xs).map .list
  | .lkd xs => (pyL xs).map .list
  | .dic _ => none
  | .ref _ => none
  | .ty _ => none
  | .exc _ _ _ _ => none
def pyL : List D → Option (List PyData)
  | [] => some []
  | x :: xs => match pyD x, pyL xs with
    | some a, some b => some (a :: b)
    | _, _ => none
end
def pyT (st : Sto) : D → Option PyData
  | .ref a => match st a with
    | some (.lst xs) => (pyL xs).map .list
    | _ => none
  | d => pyD d
mutual
theorem dp_of {K : PySem.W.Frag} {H : Hp} {st : Sto} : ∀ {d : D} {v : V} {p : PyData}, Rep H st d v → pyD d = some p → Dp K H v p
  | _, _, _, .non, e => by cases e; exact .non
  | _, _, _, .bl b, e => by cases e; exact .bl b
  | _, _, _, .int i, e => by cases e; exact .int i
  | _, _, _, .str x, e => by cases e; exact .str x
  | _, _, _, .ref a, e => by cases e
  | _, _, _, .ty n, e => by cases e
  | _, _, _, .exc _ _ _, e => by cases e
  | _, _, _, .tup n rd l, e => by
    obtain ⟨ps, h, rfl⟩ := Option.map_eq_some_iff.mp e
    exact .tup (.inl rd) (dpAll_of l h)
  | _, _, _, .lst n rd l, e => by
    obtain ⟨ps, h, rfl⟩ := Option.map_eq_some_iff.mp e
    exact .lst (.inl (.inl rd)) (dpAll_of l h)
  | _, _, _, .lkd n rd l, e => by
    obtain ⟨ps, h, rfl⟩ := Option.map_eq_some_iff.mp e
    exact .lst (.inl rd) (dpAll_of l h)
  | _, _, _, .dic n rd l, e => by cases e
theorem dpAll_of {K : PySem.W.Frag} {H : Hp} {st : Sto} : ∀ {ds : List D} {vs : List V} {ps : List PyData}, RepL H st ds vs → pyL ds = some ps → DpAll K H vs ps
  | _, _, _, .nil, e => by cases e; exact .nil
  | d :: ds, v :: vs, ps, .cons r l, e => by
    have e : (match pyD d, pyL ds with | some a, some b => some (a :: b) | _, _ => none) = some ps := e
    cases h1 : pyD d with
    | none => rw [h1] at e; cases e
    | some a =>
      cases h2 : pyL ds with
      | none => rw [h1, h2] at e; cases e
      | some b =>
        rw [h1, h2] at e
        cases e
        exact .cons (dp_of r h1) (dpAll_of l h2)
end
theorem dpT_of {K : PySem.W.Frag} {H : Hp} {st : Sto} (R : StoRep H st) {d : D} {v : V} {p : PyData} (r : Rep H st d v) (e : pyT st d = some p) : Dp K H v p := by
  cases d with
  | ref a =>
    cases r
    unfold pyT at e
    cases q : st a with
    | none => simp only [q] at e; cases e
    | some c =>
      cases c with
      | lst xs =>
        simp only [q] at e
        obtain ⟨ps, h, rfl⟩ := Option.map_eq_some_iff.mp e
        obtain ⟨vs, h1, l⟩ := R a _ q
        exact .lst (SqL.of h1) (dpAll_of l h)
      | dic xs => simp only [q] at e; cases e
      | obj C fs => simp only [q] at e; cases e
      | dct fs => simp only [q] at e; cases e
  | _ => exact dp_of r e
/-- == of plain values -/
def eqS : D → D → Option Bool
  | .int i, .int j => some (decide (i = j))
  | .str x, .str y => some (decide (x = y))
  | .bl a, .bl b => some (decide (a = b))
  | .non, .non => some true
  | .non, .int _ => some false | .int _, .non => some false | .non, .bl _ => some false | .bl _, .non => some false | .non, .str _ => some false | .str _, .non => some false
  | .int _, .str _ => some false | .str _, .int _ => some false | .bl _, .str _ => some false | .str _, .bl _ => some false
  | _, _ => none
theorem dec_inj {α β : Type} [DecidableEq α] [DecidableEq β] {f : α → β} {a b : α} (h : ∀ x y, f x = f y → x = y) : decide (f a = f b) = decide (a = b) := by
  by_cases e : a = b
  · subst e; simp
  · rw [decide_eq_false e, decide_eq_false fun q => e (h _ _ q)]
theorem eqS_ok {H : Hp} {st : Sto} {a b : D} {x y : V} {k : Bool} (ra : Rep H st a x) (rb : Rep H st b y) (e : eqS a b = some k) : scal x y = true ∧ decide (x = y) = k := by
  cases ra <;> cases rb <;> first | (cases e; done) | (cases e; exact ⟨rfl, rfl⟩) | skip
  · cases e; exact ⟨rfl, dec_inj fun _ _ q => V.bl.inj q⟩
  · cases e; exact ⟨rfl, dec_inj fun _ _ q => V.int.inj q⟩
  · cases e; exact ⟨rfl, dec_inj fun _ _ q => V.str.inj q⟩
def eqD (st : Sto) (x y : D) (f : Bool → Prop) : Prop := match eqS x y with
  | some b => f b
  | none => opt (pyT st x) fun p => opt (pyT st y) fun q => (SeqAt.shaped p = true ∧ SeqAt.shaped q = true) ∧ f (PyData.eqv p q)
def oEq : WO2 := fun x y g K => eqD g.st x y fun b => K (.bl b) g
def oNe : WO2 := fun x y g K => eqD g.st x y fun b => K (.bl (!b)) g
theorem op_eqA (hu : X.A.units + 64 < cLine) : OpR X (compareOp .Eq) (fun x y H Q => rEq x y H Q ∨ rEqD X.K x y H Q) := op_eq.or (op_eqD hu)
theorem op_neA (hu : X.A.units + 64 < cLine) : OpR X (compareOp .NotEq) (fun x y H Q => rNe x y H Q ∨ rNeD X.K x y H Q) := op_ne.or (op_neD hu)
theorem so_eq {K : PySem.W.Frag} : SO2 (fun x y H Q => rEq x y H Q ∨ rEqD K x y H Q) oEq := fun {a c x y g σ H Kd Q} E ra rb w U => by
  unfold oEq eqD at w
  cases e : eqS a c with
  | some k =>
    rw [e] at w
    obtain ⟨h1, h2⟩ := eqS_ok ra rb e
    exact .inl ⟨h1, by rw [h2]; exact U _ g _ H w Step.refl E (.bl _)⟩
  | none =>
    rw [e] at w
    obtain ⟨p, e1, w⟩ := opt_ok w
    obtain ⟨q, e2, w⟩ := opt_ok w
    exact .inr ⟨p, q, dpT_of E.sto ra e1, dpT_of E.sto rb e2, w.1.1, w.1.2, U _ g _ H w.2 Step.refl E (.bl _)⟩
theorem so_ne {K : PySem.W.Frag} : SO2 (fun x y H Q => rNe x y H Q ∨ rNeD K x y H Q) oNe := fun {a c x y g σ H Kd Q} E ra rb w U => by
  unfold oNe eqD at w
  cases e : eqS a c with
  | some k =>
    rw [e] at w
    obtain ⟨h1, h2⟩ := eqS_ok ra rb e
    exact .inl ⟨h1, by rw [h2]; exact U _ g _ H w Step.refl E (.bl _)⟩
  | none =>
    rw [e] at w
    obtain ⟨p, e1, w⟩ := opt_ok w
    obtain ⟨q, e2, w⟩ := opt_ok w
    exact .inr ⟨p, q, dpT_of E.sto ra e1, dpT_of E.sto rb e2, w.1.1, w.1.2, U _ g _ H w.2 Step.refl E (.bl _)⟩
/-- is None -/
def isN : D → Bool
  | .non => true
  | _ => false
theorem isN_ok {H : Hp} {st : Sto} {d : D} {v : V} (r : Rep H st d v) : decide (v = V.non) = isN d := by cases r <;> rfl
def oIsN (neg : Bool) : WO2 := fun x y g K => match y with | .non => K (.bl (if neg then !isN x else isN x)) g | _ => False
theorem so_isN : SO2 (fun x y H Q => y = V.non ∧ Q (.bl (decide (x = V.non))) H) (oIsN false) := fun {a c x y g σ H Kd Q} E ra rb w U => by
  cases c <;> first | exact w.elim | skip
  cases rb
  exact ⟨rfl, by rw [isN_ok ra]; exact U _ g _ H w Step.refl E (.bl _)⟩
theorem so_notN : SO2 (fun x y H Q => y = V.non ∧ Q (.bl (!decide (x = V.non))) H) (oIsN true) := fun {a c x y g σ H Kd Q} E ra rb w U => by
  cases c <;> first | exact w.elim | skip
  cases rb
  exact ⟨rfl, by rw [isN_ok ra]; exact U _ g _ H w Step.refl E (.bl _)⟩
/-! ### in a list or a tuple of plain values -/
def flatD : D → Bool
  | .non => true
  | .bl _ => true
  | .int _ => true
  | .str _ => true
  | _ => false
def eqF : D → D → Bool
  | .non, .non => true
  | .bl a, .bl b => a == b
  | .bl a, .int b => (if a then 1 else 0) == b
  | .int a, .bl b => a == (if b then 1 else 0)
  | .int a, .int b => a == b
  | .str a, .str b => a == b
  | _, _ => false
theorem flat_ok {H : Hp} {st : Sto} {d : D} {v : V} (r : Rep H st d v) : flatV v = flatD d := by cases r <;> rfl
theorem eqF_ok {H : Hp} {st : Sto} {d e : D} {v u : V} (r : Rep H st d v) (q : Rep H st e u) : eqV v u = eqF d e := by cases r <;> cases q <;> rfl
theorem allFlat_ok {H : Hp} {st : Sto} : ∀ {ds : List D} {vs : List V}, RepL H st ds vs → vs.all flatV = ds.all flatD
  | _, _, .nil => rfl
  | _, _, .cons r l => by rw [List.all_cons, List.all_cons, flat_ok r, allFlat_ok l]
theorem anyEq_ok {H : Hp} {st : Sto} {x : D} {u : V} (q : Rep H st x u) : ∀ {ds : List D} {vs : List V}, RepL H st ds vs → inV u vs = ds.any fun y => eqF y x
  | _, _, .nil => rfl
  | _, _, .cons r l => by
    have := anyEq_ok q l
    unfold inV at this ⊢
    rw [List.any_cons, List.any_cons, eqF_ok r q, this]
def oIn (neg : Bool) : WO2 := fun x y g K => opt (seqAt g.st y) fun ys => (flatD x = true ∧ ys.all flatD = true) ∧ K (.bl (if neg then !(ys.any fun z => eqF z x) else ys.any fun z => eqF z x)) g
theorem so_in {K : PySem.W.Frag} {neg : Bool} : SO2 (rIn K neg) (oIn neg) := fun {a c x y g σ H Kd Q} E ra rb w U => by
  obtain ⟨ys, e, w⟩ := opt_ok w
  obtain ⟨p, vs, rfl, h, l⟩ := seqAt_ok (K := K) E.sto rb e
  refine ⟨p, vs, rfl, h, by rw [flat_ok ra]; exact w.1.1, by rw [allFlat_ok l]; exact w.1.2, ?_⟩
  rw [anyEq_ok ra l]
  exact U _ g _ H w.2 Step.refl E (.bl _)
end
end DL

end SDLO

section SDLB
set_option Elab.async false
set_option linter.all false
set_option maxRecDepth 100000
namespace DL
open PySem L2
/-! ### calls of built-ins by data -/
section
variable {X : Cx}
def lenOf (st : Sto) : D → Option Nat
  | .str x => if x.length ≤ sizeLine then some x.length else none
  | .dic kvs => some kvs.length
  | .ref a => match st a with
    | some (.lst xs) => some xs.length
    | some (.dic xs) => some xs.length
    | some (.dct xs) => some xs.length
    | _ => none
  | d => (seqAt st d).map List.length
def oLen : WON := fun ds g K => arg1 ds fun d => opt (lenOf g.st d) fun n => K (.int n) g
abbrev rLenD (K : PySem.W.Frag) : List V → Hp → VK → Prop := fun xs H Q => (∃ x n, xs = [x] ∧ LenV K x H n ∧ Q (.int n) H) ∨ (∃ a kvs, xs = [V.ref a] ∧ H a = some (.dK kvs) ∧ Q (.int kvs.length) H) ∨ rLenT xs H Q
theorem call_lenA : CallR X (.builtin "len") (rLenD X.K) := CallR.or call_len (CallR.or call_lenD call_len_dT)
theorem son_len {K : PySem.W.Frag} : SON (rLenD K) oLen := fun {a x g σ H Kd Q} E l w U => by
  obtain ⟨d, rfl, w⟩ := arg1_ok w
  obtain ⟨n, e, k⟩ := opt_ok w
  obtain ⟨v, rfl, r⟩ := repL_1 l
  have fin : Q (.int n) H := U _ g _ H k Step.refl E (.int _)
  have seq : ∀ {d}, Rep H g.st d v → (seqAt g.st d).map List.length = some n → rLenD K [v] H Q := fun r e => by
    obtain ⟨xs, e1, rfl⟩ := Option.map_eq_some_iff.mp e
    obtain ⟨p, vs, rfl, h, l⟩ := seqAt_ok (K := K) E.sto r e1
    exact .inl ⟨_, _, rfl, h.elim (fun h => .inl ⟨vs, h, l.length⟩) (fun h => .inr ⟨vs, h, l.length⟩), fin⟩
  cases d with
  | str z =>
    cases r
    replace e : (if z.length ≤ sizeLine then some z.length else none) = some n := e
    by_cases hz : z.length ≤ sizeLine
    · rw [if_pos hz] at e; cases e
      exact .inl ⟨_, _, rfl, ⟨hz, rfl⟩, fin⟩
    · rw [if_neg hz] at e; cases e
  | dic kvs =>
    cases r with
    | dic n1 h lk =>
      cases e
      exact .inr (.inl ⟨_, _, rfl, h, by rw [← lk.length]; exact fin⟩)
  | ref a =>
    cases r
    unfold lenOf at e
    cases q : g.st a with
    | none => simp only [q] at e; cases e
    | some c =>
      have z := E.sto a c q
      cases c with
      | lst xs =>
        simp only [q] at e; cases e
        obtain ⟨vs, h1, l⟩ := z
        exact .inl ⟨_, _, rfl, .inl ⟨vs, SqL.of h1, l.length⟩, fin⟩
      | dic xs =>
        simp only [q] at e; cases e
        obtain ⟨vs, h1, lk⟩ := z
        exact .inr (.inl ⟨_, _, rfl, h1, by rw [← lk.length]; exact fin⟩)
      | obj C fs => simp only [q] at e; cases e
      | dct xs =>
        simp only [q] at e; cases e
        obtain ⟨vs, h1, lk⟩ := z
        exact .inr (.inr ⟨_, _, rfl, h1, by rw [← lk.length]; exact fin⟩)
  | _ => exact seq r e

/-- the built-in type of a datum -/
def kindOf (st : Sto) : D → Option String
  | .non => some "NoneType"
  | .bl _ => some "bool"
  | .int _ => some "int"
  | .str _ => some "str"
  | .tup _ => some "tuple"
  | .lst _ => some "list"
  | .lkd _ => some "list"
  | .dic _ => some "dict"
  | .ref a => match st a with
    | some (.lst _) => some "list"
    | some (.dic _) => some "dict"
    | _ => none
  | .ty _ => none
  | .exc _ _ _ _ => none
theorem kind_ok {K : PySem.W.Frag} {st : Sto} {H : Hp} {d : D} {v : V} {t : String} (R : StoRep H st) (r : Rep H st d v) (e : kindOf st d = some t) : TyX K H v (.type t) := by
  cases r with
  | non => cases e; exact .base .non
  | bl b => cases e; exact .base (.bl b)
  | int i => cases e; exact .base (.int i)
  | str x => cases e; exact .base (.str x)
  | tup n rd l =>
    cases e
    rcases rd with rd | ⟨o, rd⟩
    · exact .base (.tup rd)
    · exact .fTuple rd
  | lst n rd l => cases e; exact .base (.lst rd)
  | lkd n rd l =>
    cases e
    rcases rd with rd | ⟨o, rd⟩
    · exact .base (.lst rd)
    · exact .base (.frz rd)
  | dic n rd l => cases e; exact .base (.dK rd)
  | ty n => cases e
  | exc _ _ _ => cases e
  | ref a =>
    unfold kindOf at e
    cases q : st a with
    | none => simp only [q] at e; cases e
    | some c =>
      have z := R a c q
      cases c with
      | lst xs => simp only [q] at e; cases e; obtain ⟨vs, h1, l⟩ := z; exact .base (.lst h1)
      | dic xs => simp only [q] at e; cases e; obtain ⟨vs, h1, l⟩ := z; exact .base (.dK h1)
      | obj C fs => simp only [q] at e; cases e
      | dct fs => simp only [q] at e; cases e
/-- isinstance(x, T), T a built-in type; x no instance of one's own -/
def oIsT : WON := fun ds g K => arg2 ds fun d c => match c with
  | .ty T => opt (kindOf g.st d) fun k => opt (kitB k T) fun b => K (.bl b) g
  | _ => False
theorem son_isT {K : PySem.W.Frag} : SON (rIsi K) oIsT := fun {a x g σ H Kd Q} E l w U => by
  obtain ⟨d, c, rfl, w⟩ := arg2_ok w
  obtain ⟨v, u, rfl, r1, r2⟩ := repL_2 l
  cases c with
  | ty T =>
    cases r2
    obtain ⟨k, e1, w⟩ := opt_ok w
    obtain ⟨b, e2, w⟩ := opt_ok w
    exact ⟨v, _, _, _, b, rfl, .ty T, kind_ok E.sto r1 e1, kit_ty e2, U _ g _ H w Step.refl E (.bl _)⟩
  | _ => exact w.elim
theorem de_ty {W : WX} {x : Str} {T : String} {pos : Pos} (hm : X.mg x = none) (hg : Gl X x := by rfl) (hv : bootBuiltins x = some (.type T) := by decide +kernel) (hn : x ≠ "__name__" := by decide) (hd : (x == ("__debug__" : Str)) = false := by decide) :
    DE X W (.Name x pos) (wC (.ty T)) := de_c (v := .ty T) (pe_bltn hg hm hv rfl hn hd) fun _ _ => .ty T
/-- ints -/
def oAbs : WON := fun ds g K => arg1 ds fun d => asInt d fun i => K (.int (if i < 0 then -i else i)) g
theorem son_abs : SON (fun xs H Q => ∃ i, xs = [.int i] ∧ Q (.int (if i < 0 then -i else i)) H) oAbs := fun {a x g σ H Kd Q} E l w U => by
  obtain ⟨d, rfl, w⟩ := arg1_ok w
  obtain ⟨i, rfl, w1⟩ := asInt_ok w
  obtain ⟨v, rfl, r⟩ := repL_1 l
  obtain rfl : v = .int i := by cases r; rfl
  exact ⟨i, rfl, U _ g _ H w1 Step.refl E (.int _)⟩
def o2I (f : Int → Int → Int) : WON := fun ds g K => arg2 ds fun a b => asInt a fun i => asInt b fun j => K (.int (f i j)) g
theorem son_2I {f : Int → Int → Int} : SON (fun xs H Q => ∃ i j, xs = [.int i, .int j] ∧ Q (.int (f i j)) H) (o2I f) := fun {a x g σ H Kd Q} E l w U => by
  obtain ⟨a, b, rfl, w⟩ := arg2_ok w
  obtain ⟨i, rfl, w1⟩ := asInt_ok w
  obtain ⟨j, rfl, w2⟩ := asInt_ok w1
  obtain ⟨v, u, rfl, r1, r2⟩ := repL_2 l
  obtain rfl : v = .int i := by cases r1; rfl
  obtain rfl : u = .int j := by cases r2; rfl
  exact ⟨i, j, rfl, U _ g _ H w2 Step.refl E (.int _)⟩
abbrev oMax2 : WON := o2I fun i j => if j > i then j else i
abbrev oMin2 : WON := o2I fun i j => if j < i then j else i
/-- int(x) of an int, a bool, a text -/
def oInt : WON := fun ds g K => arg1 ds fun d => match d with
  | .int i => K (.int i) g
  | .bl b => K (.int (if b then 1 else 0)) g
  | .str x => opt (PySem.intText? x) fun n => x.length ≤ 640 ∧ K (.int n) g
  | _ => False
abbrev rIntD : List V → Hp → VK → Prop := fun xs H Q => ((∃ i, xs = [.int i] ∧ Q (.int i) H) ∨ ∃ k, xs = [.bl k] ∧ Q (.int (if k then 1 else 0)) H) ∨ (∃ a n, xs = [.str a] ∧ PySem.intText? a = some n ∧ a.length ≤ 640 ∧ Q (.int n) H)
theorem call_intA : CallR X (.type "int") rIntD := CallR.or call_int1 call_int_str
theorem son_int : SON rIntD oInt := fun {a x g σ H Kd Q} E l w U => by
  obtain ⟨d, rfl, w⟩ := arg1_ok w
  obtain ⟨v, rfl, r⟩ := repL_1 l
  cases d <;> first | exact w.elim | skip
  · cases r; exact .inl (.inr ⟨_, rfl, U _ g _ H w Step.refl E (.int _)⟩)
  · cases r; exact .inl (.inl ⟨_, rfl, U _ g _ H w Step.refl E (.int _)⟩)
  · cases r
    obtain ⟨n, e, h, w⟩ := opt_ok w
    exact .inr ⟨_, n, rfl, e, h, U _ g _ H w Step.refl E (.int _)⟩
/-- str(x) of an int, a text -/
def oStr : WON := fun ds g K => arg1 ds fun d => match d with
  | .int i => i.natAbs.log2 < 1920 ∧ K (.str (toString i)) g
  | .str x => K (.str x) g
  | _ => False
abbrev rStrD : List V → Hp → VK → Prop := fun xs H Q => (∃ i, xs = [.int i] ∧ i.natAbs.log2 < 1920 ∧ Q (.str (toString i)) H) ∨ (∃ a, xs = [.str a] ∧ Q (.str a) H)
theorem call_strA : CallR X (.type "str") rStrD := CallR.or call_str_int SkE.call_str_str
theorem son_str : SON rStrD oStr := fun {a x g σ H Kd Q} E l w U => by
  obtain ⟨d, rfl, w⟩ := arg1_ok w
  obtain ⟨v, rfl, r⟩ := repL_1 l
  cases d <;> first | exact w.elim | skip
  · cases r; exact .inl ⟨_, rfl, w.1, U _ g _ H w.2 Step.refl E (.str _)⟩
  · cases r; exact .inr ⟨_, rfl, U _ g _ H w Step.refl E (.str _)⟩
/-- repr(x) of data -/
def ReprOk (p : PyData) : Prop := p.showable = true ∧ p.hasDict = false ∧ p.depth ≤ 64 ∧ p.shown.length ≤ sizeLine
abbrev rReprD (K : PySem.W.Frag) : List V → Hp → VK → Prop := fun xs H Q => ∃ x p, xs = [x] ∧ Dp K H x p ∧ ReprOk p ∧ Q (.str p.shown) H
theorem call_reprA (hg : X.A.guards = some []) (hu : X.A.units + 66 < cLine) : CallR X (.builtin "repr") (rReprD X.K) := fun pins s σ H xs us Q I r h => by
  obtain ⟨x, p, rfl, dp, ⟨h1, h2, h3, h4⟩, q⟩ := h
  cases r with
  | cons r l =>
    cases l
    rename_i u
    obtain ⟨as, rd⟩ := Dp.reads I p x u dp r
    cases p with
    | dict kvs => cases h2
    | list ps =>
      obtain ⟨a, rfl⟩ : ∃ a, u = .ref a := by cases rd; exact ⟨_, rfl⟩
      refine repr_of_reads' rd h1 (fun z => by rw [h2] at z; cases z) hg (by have := hu; omega) (fun _ _ z => z) (fun h' t tk k => ?_) h4
      exact ⟨.str _, H, I.kept (t' := tk) k, ⟨t, rfl⟩, q⟩
    | tuple ps =>
      obtain ⟨a, rfl⟩ : ∃ a, u = .ref a := by cases rd; exact ⟨_, rfl⟩
      refine repr_of_reads' rd h1 (fun z => by rw [h2] at z; cases z) hg (by have := hu; omega) (fun _ _ z => z) (fun h' t tk k => ?_) h4
      exact ⟨.str _, H, I.kept (t' := tk) k, ⟨t, rfl⟩, q⟩
    | none => cases rd; exact PySem.P.repr_of_none ⟨.str _, H, I.tok _, ⟨_, rfl⟩, q⟩
    | bool b => cases rd; exact PySem.P.repr_of_bool ⟨.str _, H, I.tok _, ⟨_, rfl⟩, by cases b <;> exact q⟩
    | int i => cases rd; exact PySem.P.repr_of_int (of_decide_eq_true h1) ⟨.str _, H, I.tok _, ⟨_, rfl⟩, q⟩
    | str z => cases rd; exact PySem.P.repr_of_str ⟨.str _, H, I.tok _, ⟨_, rfl⟩, q⟩ h4
def oRepr : WON := fun ds g K => arg1 ds fun d => opt (pyT g.st d) fun p => ReprOk p ∧ K (.str p.shown) g
theorem son_repr {K : PySem.W.Frag} : SON (rReprD K) oRepr := fun {a x g σ H Kd Q} E l w U => by
  obtain ⟨d, rfl, w⟩ := arg1_ok w
  obtain ⟨p, e, ok, w⟩ := opt_ok w
  obtain ⟨v, rfl, r⟩ := repL_1 l
  exact ⟨v, p, rfl, dpT_of E.sto r e, ok, U _ g _ H w Step.refl E (.str _)⟩
end
end DL

end SDLB

section SDLM
set_option Elab.async false
set_option linter.all false
set_option maxRecDepth 100000
namespace DL
open PySem L2
/-! ### sequences by data -/
section
variable {X : Cx} {W : WX}
/-- list(x) of a list or a tuple; b: a cell -/
def oList (b : Bool) : WON := fun ds g K => arg1 ds fun d => opt (seqAt g.st d) fun xs => newL b xs g K
theorem son_list {K : PySem.W.Frag} {b : Bool} : SON (fun xs H Q => ∃ p ys, xs = [.ref p] ∧ (SqL K H p ys ∨ SqT K H p ys) ∧ ∀ l, H l = none → Q (.ref l) (upd H l (.lst ys))) (oList b) := fun {a x g σ H Kd Q} E l w U => by
  obtain ⟨d, rfl, w⟩ := arg1_ok w
  obtain ⟨xs, e, w⟩ := opt_ok w
  obtain ⟨v, rfl, r⟩ := repL_1 l
  obtain ⟨p, vs, rfl, h, l2⟩ := seqAt_ok (K := K) E.sto r e
  exact ⟨p, vs, rfl, h, new_L E l2 w U⟩
/-- tuple(x) of a list or a tuple -/
def oTuple : WON := fun ds g K => arg1 ds fun d => opt (seqAt g.st d) fun xs => K (.tup xs) g
theorem son_tuple {K : PySem.W.Frag} : SON (fun xs H Q => ∃ p ys, xs = [.ref p] ∧ ((SqL K H p ys ∧ ∀ l, H l = none → Q (.ref l) (upd H l (.tup ys))) ∨ (SqT K H p ys ∧ Q (.ref p) H))) oTuple := fun {a x g σ H Kd Q} E l w U => by
  obtain ⟨d, rfl, w1⟩ := arg1_ok w
  obtain ⟨xs, e, w2⟩ := opt_ok w1
  obtain ⟨v, rfl, r⟩ := repL_1 l
  cases d with
  | tup ys =>
    cases r with
    | tup n rd l2 =>
      cases e
      exact ⟨_, _, rfl, .inr ⟨.inl rd, U _ g _ H w2 Step.refl E (.tup n rd l2)⟩⟩
  | _ =>
    obtain ⟨p, vs, rfl, h, l2⟩ := lseqAt_ok (K := K) E.sto r e
    exact ⟨p, vs, rfl, .inl ⟨h, new_tup E l2 w2 U⟩⟩
/-- a list of ints, of bools -/
def asInts : List D → Option (List Int)
  | [] => some []
  | d :: ds => match d, asInts ds with
    | .int i, some r => some (i :: r)
    | _, _ => none
def asBls : List D → Option (List Bool)
  | [] => some []
  | d :: ds => match d, asBls ds with
    | .bl i, some r => some (i :: r)
    | _, _ => none
def asStrs : List D → Option (List Str)
  | [] => some []
  | d :: ds => match d, asStrs ds with
    | .str i, some r => some (i :: r)
    | _, _ => none
theorem asInts_eq : ∀ {ds : List D} {ns : List Int}, asInts ds = some ns → ds = ns.map D.int
  | [], ns, h => by cases h; rfl
  | d :: ds, ns, h => by
    cases d <;> first | (cases h; done) | skip
    rename_i i
    unfold asInts at h
    cases e : asInts ds with
    | none => simp only [e] at h; cases h
    | some r => simp only [e] at h; cases h; rw [asInts_eq e]; rfl
theorem asBls_eq : ∀ {ds : List D} {ns : List Bool}, asBls ds = some ns → ds = ns.map D.bl
  | [], ns, h => by cases h; rfl
  | d :: ds, ns, h => by
    cases d <;> first | (cases h; done) | skip
    rename_i i
    unfold asBls at h
    cases e : asBls ds with
    | none => simp only [e] at h; cases h
    | some r => simp only [e] at h; cases h; rw [asBls_eq e]; rfl
theorem asStrs_eq : ∀ {ds : List D} {ns : List Str}, asStrs ds = some ns → ds = ns.map D.str
  | [], ns, h => by cases h; rfl
  | d :: ds, ns, h => by
    cases d <;> first | (cases h; done) | skip
    rename_i i
    unfold asStrs at h
    cases e : asStrs ds with
    | none => simp only [e] at h; cases h
    | some r => simp only [e] at h; cases h; rw [asStrs_eq e]; rfl
theorem asInts_map (ns : List Int) : asInts (ns.map D.int) = some ns := by induction ns with | nil => rfl | cons n ns ih => simp only [List.map_cons, asInts, ih]
theorem asBls_map (ns : List Bool) : asBls (ns.map D.bl) = some ns := by induction ns with | nil => rfl | cons n ns ih => simp only [List.map_cons, asBls, ih]
theorem asStrs_map (ns : List Str) : asStrs (ns.map D.str) = some ns := by induction ns with | nil => rfl | cons n ns ih => simp only [List.map_cons, asStrs, ih]
theorem repL_map {α : Type} {H : Hp} {st : Sto} {f : α → D} {h : α → V} (inv : ∀ a v, Rep H st (f a) v → v = h a) : ∀ {ns : List α} {vs : List V}, RepL H st (ns.map f) vs → vs = ns.map h
  | [], vs, l => by cases l; rfl
  | n :: ns, vs, l => by
    rw [List.map_cons] at l
    cases l with
    | cons r l => rw [inv _ _ r, repL_map inv l]; rfl
theorem repL_ints {H : Hp} {st : Sto} {ns : List Int} {vs : List V} (l : RepL H st (ns.map D.int) vs) : vs = ns.map V.int := repL_map (fun _ _ r => by cases r; rfl) l
theorem repL_bls {H : Hp} {st : Sto} {ns : List Bool} {vs : List V} (l : RepL H st (ns.map D.bl) vs) : vs = ns.map V.bl := repL_map (fun _ _ r => by cases r; rfl) l
theorem repL_strs {H : Hp} {st : Sto} {ns : List Str} {vs : List V} (l : RepL H st (ns.map D.str) vs) : vs = ns.map V.str := repL_map (fun _ _ r => by cases r; rfl) l
def oSum : WON := fun ds g K => arg1 ds fun d => opt (lseqAt g.st d) fun xs => opt (asInts xs) fun ns => K (.int ns.sum) g
theorem son_sum {K : PySem.W.Frag} : SON (rSum K) oSum := fun {a x g σ H Kd Q} E l w U => by
  obtain ⟨d, rfl, w⟩ := arg1_ok w
  obtain ⟨xs, e, w⟩ := opt_ok w
  obtain ⟨ns, e2, w⟩ := opt_ok w
  obtain ⟨v, rfl, r⟩ := repL_1 l
  obtain ⟨p, vs, rfl, h, l2⟩ := lseqAt_ok (K := K) E.sto r e
  rw [asInts_eq e2] at l2
  rw [repL_ints l2] at h
  exact ⟨p, ns, rfl, h, U _ g _ H w Step.refl E (.int _)⟩
def oAll : WON := fun ds g K => arg1 ds fun d => opt (lseqAt g.st d) fun xs => opt (asBls xs) fun ns => K (.bl (ns.all id)) g
theorem son_all {K : PySem.W.Frag} : SON (rAll K) oAll := fun {a x g σ H Kd Q} E l w U => by
  obtain ⟨d, rfl, w⟩ := arg1_ok w
  obtain ⟨xs, e, w⟩ := opt_ok w
  obtain ⟨ns, e2, w⟩ := opt_ok w
  obtain ⟨v, rfl, r⟩ := repL_1 l
  obtain ⟨p, vs, rfl, h, l2⟩ := lseqAt_ok (K := K) E.sto r e
  rw [asBls_eq e2] at l2
  rw [repL_bls l2] at h
  exact ⟨p, ns, rfl, h, U _ g _ H w Step.refl E (.bl _)⟩
def oAny : WON := fun ds g K => arg1 ds fun d => opt (lseqAt g.st d) fun xs => opt (asBls xs) fun ns => K (.bl (ns.any id)) g
theorem son_any {K : PySem.W.Frag} : SON (rAny K) oAny := fun {a x g σ H Kd Q} E l w U => by
  obtain ⟨d, rfl, w⟩ := arg1_ok w
  obtain ⟨xs, e, w⟩ := opt_ok w
  obtain ⟨ns, e2, w⟩ := opt_ok w
  obtain ⟨v, rfl, r⟩ := repL_1 l
  obtain ⟨p, vs, rfl, h, l2⟩ := lseqAt_ok (K := K) E.sto r e
  rw [asBls_eq e2] at l2
  rw [repL_bls l2] at h
  exact ⟨p, ns, rfl, h, U _ g _ H w Step.refl E (.bl _)⟩
/-! ### subscripts -/
def oIx : WO2 := fun x y g K => asInt y fun i => match x with
  | .str z => z.length ≤ sizeLine ∧ opt (atI z.cps.toList i) fun c => K (.str ⟨#[c]⟩) g
  | x => opt (seqAt g.st x) fun xs => opt (atI xs i) fun d => K d g
theorem atI_ok {H : Hp} {st : Sto} {ds : List D} {vs : List V} {i : Int} {d : D} (l : RepL H st ds vs) (e : atI ds i = some d) : ∃ v, atI vs i = some v ∧ Rep H st d v := by
  unfold atI at e ⊢
  rw [← l.length]
  obtain ⟨j, e1, e2⟩ := Option.bind_eq_some_iff.mp e
  obtain ⟨v, h1, r⟩ := l.get e2
  exact ⟨v, by rw [e1]; exact h1, r⟩
theorem so_ix {K : PySem.W.Frag} : SO2 (rIx K) oIx := fun {a c x y g σ H Kd Q} E ra rb w U => by
  obtain ⟨i, rfl, w⟩ := asInt_ok w
  cases rb
  have seq : ∀ {a}, Rep H g.st a x → (opt (seqAt g.st a) fun xs => opt (atI xs i) fun d => Kd d g) → rIx K x (.int i) H Q := fun ra w => by
    obtain ⟨xs, e, w⟩ := opt_ok w
    obtain ⟨d, e2, w⟩ := opt_ok w
    obtain ⟨p, vs, rfl, h, l⟩ := seqAt_ok (K := K) E.sto ra e
    obtain ⟨v, e3, r⟩ := atI_ok l e2
    have fin : Q v H := U d g v H w Step.refl E r
    rcases h with h | h
    · exact .inl ⟨p, vs, i, v, rfl, rfl, h, e3, fin⟩
    · exact .inr (.inl ⟨p, vs, i, v, rfl, rfl, h, e3, fin⟩)
  cases a with
  | str z =>
    cases ra
    obtain ⟨hz, w⟩ := w
    obtain ⟨c, e, w⟩ := opt_ok w
    exact .inr (.inr ⟨z, i, c, rfl, rfl, hz, e, U _ g _ H w Step.refl E (.str _)⟩)
  | _ => exact seq ra w
theorem de_ix {a b : Expr} {wa wb : WE} {pos : Pos} (ha : DE X W a wa) (hb : DE X W b wb) (hs : PlainIx b := by exact fun _ _ => rfl) : DE X W (.Subscript a b pos) (wOp2 oIx wa wb) :=
  (pe_ix ix_seq ha hb hs).imp fun _ _ _ h => seq2 so_ix h
/-- a[lo:hi] -/
abbrev WP := G → (Option Int → G → Prop) → XD → Prop
def liftP (W : WX) (w : WP) : TO := fun σ H Q => ∃ g K X, EnvRep g σ H ∧ w g K X ∧ (∀ o g' H', K o g' → Step g.st H g'.st H' → EnvRep g' σ H' → Q o H') ∧ UpX W σ g.st H X
abbrev DP (X : Cx) (W : WX) (e : Option Expr) (w : WP) : Prop := PO X e (liftP W w)
def wPN : WP := fun g K _ => K none g
def wPS (we : WE) : WP := fun g K X => we g (fun d g1 => asInt d fun i => K (some i) g1) X
theorem _root_.L2.PO.imp {e : Option Expr} {t t' : TO} (h : PO X e t) (i : ∀ σ H Q, t' σ H Q → t σ H Q) : PO X e t' := ⟨fun pins s σ H Q I q => h.run pins s σ H Q I (i σ H Q q)⟩
theorem dp_none : DP X W none wPN := po_none.imp fun σ H Q ⟨g, K, Xd, E, w, q, UX⟩ => q none g H w Step.refl E
theorem dp_some {e : Expr} {we : WE} (h : DE X W e we) : DP X W (some e) (wPS we) := (po_some h).imp fun σ H Q ⟨g, K, Xd, E, w, q, UX⟩ => by
  refine ⟨g, _, Xd, E, w, fun d g1 v H1 k s E1 r => ?_, UX⟩
  obtain ⟨i, rfl, k⟩ := asInt_ok k
  cases r
  exact ⟨i, rfl, q _ g1 H1 k s E1⟩
def cutD (xs : List D) (lo hi : Option Int) : List D := (xs.drop (HT.sIx xs.length 0 lo)).take (HT.sIx xs.length xs.length hi - HT.sIx xs.length 0 lo)
theorem cutD_ok {H : Hp} {st : Sto} {ds : List D} {vs : List V} (l : RepL H st ds vs) (lo hi : Option Int) : RepL H st (cutD ds lo hi) (cutV vs lo hi) := by
  unfold cutD cutV
  rw [l.length]
  exact (l.drop _).take _
def oSl (b : Bool) (x : D) (lo hi : Option Int) (g : G) (K : KD) : Prop := match x with
  | .str z => z.length ≤ sizeLine ∧ K (.str (cutS z lo hi)) g
  | .tup xs => ¬ (HT.sIx xs.length 0 lo = 0 ∧ HT.sIx xs.length xs.length hi = xs.length) ∧ K (.tup (cutD xs lo hi)) g
  | x => opt (lseqAt g.st x) fun xs => newL b (cutD xs lo hi) g K
def wSl (b : Bool) (we : WE) (wl wh : WP) : WE := fun g K X => we g (fun d g1 => wl g1 (fun lo g2 => wh g2 (fun hi g3 => oSl b d lo hi g3 K) X) X) X
abbrev rSlA (K : PySem.W.Frag) : V → Option Int → Option Int → Hp → VK → Prop := fun x lo hi H Q => rSlL K x lo hi H Q ∨ (fun x lo hi H Q => rSlT K x lo hi H Q ∨ rSlS x lo hi H Q) x lo hi H Q
theorem sl_all : SlR X (rSlA X.K) := sl_list.or (sl_tup.or sl_str)
theorem sl_ok {K : PySem.W.Frag} {b : Bool} {d : D} {x : V} {lo hi : Option Int} {g : G} {σ : L2.St} {H : Hp} {Kd : KD} {Q : VK} (E : EnvRep g σ H) (r : Rep H g.st d x) (w : oSl b d lo hi g Kd) (U : Upd σ g.st H Kd Q) : rSlA K x lo hi H Q := by
  cases d with
  | str z => cases r; exact .inr (.inr ⟨z, rfl, w.1, U _ g _ H w.2 Step.refl E (.str _)⟩)
  | tup xs =>
    cases r with
    | @tup p _ vs n rd l =>
      refine .inr (.inl ⟨p, vs, rfl, .inl rd, ?_, new_tup E (cutD_ok l lo hi) w.2 U⟩)
      rw [← l.length]
      exact w.1
  | _ =>
    unfold oSl at w
    obtain ⟨xs, e, w2⟩ := opt_ok w
    obtain ⟨p, vs, rfl, h, l⟩ := lseqAt_ok (K := K) E.sto r e
    exact .inl ⟨p, vs, rfl, h, new_L E (cutD_ok l lo hi) w2 U⟩
theorem de_sl (b : Bool) {e : Expr} {lo hi : Option Expr} {we : WE} {wl wh : WP} {pos p2 : Pos} (he : DE X W e we) (hl : DP X W lo wl) (hh : DP X W hi wh) : DE X W (.Subscript e (.Slice lo hi none p2) pos) (wSl b we wl wh) :=
  (pe_slice sl_all he hl hh).imp fun σ H Q ⟨g, K, Xd, E, h, U, UX⟩ =>
    ⟨g, _, Xd, E, h, fun d g1 x H1 k1 s1 E1 r1 => ⟨g1, _, Xd, E1, k1, fun o g2 H2 k2 s2 E2 => ⟨g2, _, Xd, E2, k2, fun o2 g3 H3 k3 s3 E3 => sl_ok E3 ((r1.step s2).step s3) k3 (U.on (s1.trans (s2.trans s3))), UX.on (s1.trans s2)⟩, UX.on s1⟩, UX⟩
/-! ### methods of built-in types -/
abbrev WM := D → List D → G → KD → Prop
def SM (r : V → List V → Hp → VK → Prop) (w : WM) : Prop := ∀ {d : D} {ds : List D} {x : V} {xs : List V} {g : G} {σ : L2.St} {H : Hp} {K : KD} {Q : VK}, EnvRep g σ H → Rep H g.st d x → RepL H g.st ds xs → w d ds g K → Upd σ g.st H K Q → r x xs H Q
/-- the receiver's type T -/
def isT (T : String) (st : Sto) (d : D) : Prop := match d with
  | .str _ => T = "str"
  | .int _ => T = "int"
  | .lst _ => T = "list"
  | .lkd _ => T = "list"
  | .dic _ => T = "dict"
  | .ref a => match st a with
    | some (.lst _) => T = "list"
    | some (.dic _) => T = "dict"
    | _ => False
  | _ => False
theorem isT_ok {K : PySem.W.Frag} {T : String} {st : Sto} {H : Hp} {d : D} {v : V} (R : StoRep H st) (r : Rep H st d v) (h : isT T st d) : tyV K T v H := by
  cases r with
  | str x => exact h
  | int i => exact h
  | lst n rd l => exact .inl ⟨h, _, SqL.of rd⟩
  | lkd n rd l => exact .inl ⟨h, _, .inl rd⟩
  | dic n rd l => exact .inr (.inr (.inl ⟨h, .inl ⟨_, rd⟩⟩))
  | ref a =>
    unfold isT at h
    cases q : st a with
    | none => simp only [q] at h
    | some c =>
      have z := R a c q
      cases c with
      | lst xs => simp only [q] at h; obtain ⟨vs, h1, l⟩ := z; exact .inl ⟨h, vs, SqL.of h1⟩
      | dic xs => simp only [q] at h; obtain ⟨vs, h1, l⟩ := z; exact .inr (.inr (.inl ⟨h, .inl ⟨vs, h1⟩⟩))
      | obj C fs => simp only [q] at h
      | dct fs => simp only [q] at h
  | _ => exact h.elim
def wBM (T : String) (w : WM) (we : WE) (wa : WA) : WE := fun g K X => we g (fun d g1 => isT T g1.st d ∧ wa g1 (fun ds g2 => w d ds g2 K) X) X
def wBM0 (T : String) (w : WM) (we : WE) : WE := fun g K X => we g (fun d g1 => isT T g1.st d ∧ w d [] g1 K) X
variable {T id : String} {name : Str} {o e : Expr} {es : List Expr} {apos cpos : Pos} {r : V → List V → Hp → VK → Prop} {w : WM} {we : WE} {wa : WA}
theorem de_bm (pa : PlainAttrs T) (slot : Slot T name id) (hty : typeOf (.builtin id) = pure (.type "method_descriptor")) (hm : MtR X id r) (s : SM r w) (ho : DE X W o we) (ha : DA X W (e :: es) wa)
    (hbase : attributeBase o name X.env (eval o X.env) = eval o X.env := by rfl)
    (hfew : ((backTo cpos (starEach (e :: es) X.env)).all (fun x => !x.1) && (backToKw cpos (keywordEach [] X.env)).all (fun x => x.1.isSome)
      && decide ((e :: es).length + ([] : List Keyword).length + (if ([] : List Keyword).isEmpty then 0 else 1) < 30)) = true := by rfl)
    (hline : (apos.endLine == cpos.line) = true := by rfl) (hs : starEach (e :: es) X.env = (false, eval e X.env) :: starEach es X.env := by rfl) (hplain : (backTo cpos (starEach es X.env)).any (·.1) = false := by rfl) :
    DE X W (.Call (.Attribute o name apos) (e :: es) [] cpos) (wBM T w we wa) := (pe_bm pa slot hty hm ho ha hbase hfew hline hs hplain).imp fun σ H Q ⟨g, K, Xd, E, h, U, UX⟩ =>
  ⟨g, _, Xd, E, h, fun d g1 x H1 k1 s1 E1 r1 => ⟨isT_ok E1.sto r1 k1.1, g1, _, Xd, E1, k1.2, fun ds g2 xs H2 k2 s2 E2 l2 => s E2 (r1.step s2) l2 k2 (U.on (s1.trans s2)), UX.on s1⟩, UX⟩
theorem de_bm0 (pa : PlainAttrs T) (slot : Slot T name id) (hty : typeOf (.builtin id) = pure (.type "method_descriptor")) (hm : MtR X id r) (s : SM r w) (ho : DE X W o we)
    (hbase : attributeBase o name X.env (eval o X.env) = eval o X.env := by rfl) (hline : (apos.endLine == cpos.line) = true := by rfl) :
    DE X W (.Call (.Attribute o name apos) [] [] cpos) (wBM0 T w we) := (pe_bm0 pa slot hty hm ho hbase hline).imp fun σ H Q ⟨g, K, Xd, E, h, U, UX⟩ =>
  ⟨g, _, Xd, E, h, fun d g1 x H1 k1 s1 E1 r1 => ⟨isT_ok E1.sto r1 k1.1, s E1 r1 .nil k1.2 (U.on s1)⟩, UX⟩
/-- a cell's list is changed -/
def cellL (d : D) (st : Sto) (f : Addr → List D → Prop) : Prop := match d with
  | .ref a => (match st a with | some (.lst xs) => f a xs | _ => False)
  | _ => False
theorem cellL_ok {d : D} {st : Sto} {f : Addr → List D → Prop} (h : cellL d st f) : ∃ a xs, d = .ref a ∧ st a = some (.lst xs) ∧ f a xs := by
  cases d with
  | ref a =>
    unfold cellL at h
    cases q : st a with
    | none => simp only [q] at h
    | some c =>
      cases c with
      | lst xs => simp only [q] at h; exact ⟨a, xs, rfl, q, h⟩
      | _ => simp only [q] at h
  | _ => exact h.elim
theorem wr_lst {g : G} {σ : L2.St} {H : Hp} {a : Addr} {c : Cell} {ds : List D} {vs : List V} (E : EnvRep g σ H) (q : g.st a = some c) (l : RepL H g.st ds vs) :
    Step g.st H (put g.st a (.lst ds)) (upd H a (.lst vs)) ∧ EnvRep ⟨g.sl, put g.st a (.lst ds)⟩ σ (upd H a (.lst vs)) :=
  ⟨Step.wr q, E.step (Step.wr q) (E.sto.wr q ⟨vs, upd_same, l.step (Step.wr q)⟩)⟩
def oAppend : WM := fun d ds g K => cellL d g.st fun a xs => arg1 ds fun x => xs.length < sizeLine ∧ K .non ⟨g.sl, put g.st a (.lst (xs ++ [x]))⟩
theorem sm_append : SM rAppend oAppend := fun {d ds x xs g σ H K Q} E r l w U => by
  obtain ⟨a, ys, rfl, q, w⟩ := cellL_ok w
  obtain ⟨y, rfl, hl, k⟩ := arg1_ok w
  obtain ⟨v, rfl, rv⟩ := repL_1 l
  cases r
  obtain ⟨vs, h1, l1⟩ := E.sto a _ q
  have z := wr_lst E q (l1.append (.cons rv .nil))
  exact ⟨a, vs, v, rfl, rfl, h1, by rw [← l1.length]; exact hl, U _ _ _ _ k z.1 z.2 .non⟩
def oExtend : WM := fun d ds g K => cellL d g.st fun a xs => arg1 ds fun x => opt (tlst g.st x) fun ys => xs.length + ys.length ≤ sizeLine ∧ K .non ⟨g.sl, put g.st a (.lst (xs ++ ys))⟩
theorem sm_extend : SM rExtend oExtend := fun {d ds x xs g σ H K Q} E r l w U => by
  obtain ⟨a, ys, rfl, q, w⟩ := cellL_ok w
  obtain ⟨y, rfl, w⟩ := arg1_ok w
  obtain ⟨zs, e, hl, k⟩ := opt_ok w
  obtain ⟨v, rfl, rv⟩ := repL_1 l
  cases r
  obtain ⟨vs, h1, l1⟩ := E.sto a _ q
  obtain ⟨p, us, rfl, h2, l2⟩ := tlst_ok E.sto rv e
  have z := wr_lst E q (l1.append l2)
  exact ⟨a, p, vs, us, rfl, rfl, h1, h2, by rw [← l1.length, ← l2.length]; exact hl, U _ _ _ _ k z.1 z.2 .non⟩
def oPopAt : WM := fun d ds g K => cellL d g.st fun a xs => arg1 ds fun x => asInt x fun i => (-(2 ^ 63) ≤ i ∧ i < 2 ^ 63) ∧ opt (seqIndex? i xs.length) fun k => opt xs[k]? fun y => K y ⟨g.sl, put g.st a (.lst (xs.eraseIdx k))⟩
theorem sm_popAt : SM rPopAt oPopAt := fun {d ds x xs g σ H K Q} E r l w U => by
  obtain ⟨a, ys, rfl, q, w⟩ := cellL_ok w
  obtain ⟨y, rfl, w1⟩ := arg1_ok w
  obtain ⟨i, rfl, hi, w2⟩ := asInt_ok w1
  obtain ⟨j, e1, w3⟩ := opt_ok w2
  obtain ⟨y, e2, k⟩ := opt_ok w3
  obtain ⟨v, rfl, rv⟩ := repL_1 l
  obtain rfl : v = .int i := by cases rv; rfl
  cases r
  obtain ⟨vs, h1, l1⟩ := E.sto a _ q
  obtain ⟨u, h2, ru⟩ := l1.get e2
  have z := wr_lst E q (l1.eraseIdx j)
  exact ⟨a, vs, i, j, u, rfl, rfl, h1, hi.1, hi.2, by rw [← l1.length]; exact e1, h2, U _ _ _ _ k z.1 z.2 (ru.step z.1)⟩
/-- texts -/
def oS0 (f : Str → Bool) : WM := fun d ds g K => asStr d fun x => ds = [] ∧ K (.bl (f x)) g
theorem sm_S0 {f : Str → Bool} : SM (fun x xs H Q => ∃ a, x = .str a ∧ xs = [] ∧ True ∧ Q (.bl (f a)) H) (oS0 f) := fun {d ds x xs g σ H K Q} E r l w U => by
  obtain ⟨z, rfl, rfl, k⟩ := asStr_ok w
  cases r; cases l
  exact ⟨z, rfl, rfl, trivial, U _ g _ H k Step.refl E (.bl _)⟩
def oS1 (f : Str → Str → Bool) : WM := fun d ds g K => asStr d fun x => arg1 ds fun y => asStr y fun z => K (.bl (f x z)) g
theorem sm_S1 {f : Str → Str → Bool} : SM (fun x xs H Q => ∃ a b, x = .str a ∧ xs = [.str b] ∧ Q (.bl (f a b)) H) (oS1 f) := fun {d ds x xs g σ H K Q} E r l w U => by
  obtain ⟨z, rfl, w1⟩ := asStr_ok w
  obtain ⟨y, rfl, w2⟩ := arg1_ok w1
  obtain ⟨u, rfl, k⟩ := asStr_ok w2
  obtain ⟨v, rfl, rv⟩ := repL_1 l
  obtain rfl : v = .str u := by cases rv; rfl
  cases r
  exact ⟨z, u, rfl, rfl, U _ g _ H k Step.refl E (.bl _)⟩
def oSplit (b : Bool) : WM := fun d ds g K => asStr d fun x => arg1 ds fun y => asStr y fun z => ((z.length == 0) = false ∧ x.length + 2 ≤ sizeLine) ∧ newL b ((Txt.split x z).map D.str) g K
theorem sm_split {b : Bool} : SM (fun x xs H Q => ∃ a b, x = .str a ∧ xs = [.str b] ∧ (b.length == 0) = false ∧ a.length + 2 ≤ sizeLine ∧ rNewStrs (Txt.split a b) H Q) (oSplit b) := fun {d ds x xs g σ H K Q} E r l w U => by
  obtain ⟨z, rfl, w1⟩ := asStr_ok w
  obtain ⟨y, rfl, w2⟩ := arg1_ok w1
  obtain ⟨u, rfl, h, k⟩ := asStr_ok w2
  obtain ⟨v, rfl, rv⟩ := repL_1 l
  obtain rfl : v = .str u := by cases rv; rfl
  cases r
  exact ⟨z, u, rfl, rfl, h.1, h.2, new_L E (RepL.strs _) k U⟩
def oJoin : WM := fun d ds g K => asStr d fun x => arg1 ds fun y => opt (seqAt g.st y) fun xs => opt (asStrs xs) fun ys => (ys.map (·.length)).sum + ys.length * x.length ≤ 16777216 ∧ K (.str (Txt.join x ys)) g
theorem sm_join {K : PySem.W.Frag} : SM (fun x xs H Q => ∃ a p, ∃ ys : List Str, x = .str a ∧ xs = [.ref p] ∧ (SqL K H p (ys.map V.str) ∨ SqT K H p (ys.map V.str)) ∧ (ys.map (·.length)).sum + ys.length * a.length ≤ 16777216 ∧ Q (.str (Txt.join a ys)) H) oJoin := fun {d ds x xs g σ H Kd Q} E r l w U => by
  obtain ⟨z, rfl, w1⟩ := asStr_ok w
  obtain ⟨y, rfl, w2⟩ := arg1_ok w1
  obtain ⟨xs, e1, w3⟩ := opt_ok w2
  obtain ⟨ys, e2, h, k⟩ := opt_ok w3
  obtain ⟨v, rfl, rv⟩ := repL_1 l
  cases r
  obtain ⟨p, vs, rfl, hq, l2⟩ := seqAt_ok (K := K) E.sto rv e1
  rw [asStrs_eq e2] at l2
  rw [repL_strs l2] at hq
  exact ⟨z, p, ys, rfl, rfl, hq, h, U _ g _ H k Step.refl E (.str _)⟩
end
end DL

end SDLM

section SDLC
set_option Elab.async false
set_option linter.all false
set_option maxRecDepth 100000
namespace DL
open PySem L2
/-! ### comprehensions -/
def clrS : List (Option D) → Nat → List (Option D)
  | [], _ => []
  | _ :: r, 0 => none :: r
  | x :: r, n + 1 => x :: clrS r n
def wipeS (sl : List (Option D)) : List Nat → List (Option D)
  | [] => sl
  | v :: vs => clrS (wipeS sl vs) v
theorem clrS_length : ∀ (l : List (Option D)) (n : Nat), (clrS l n).length = l.length
  | [], _ => rfl
  | _ :: _, 0 => rfl
  | _ :: r, n + 1 => by rw [clrS, List.length_cons, List.length_cons, clrS_length r n]
theorem wipeS_length (sl : List (Option D)) : ∀ vs : List Nat, (wipeS sl vs).length = sl.length
  | [] => rfl
  | v :: vs => by rw [wipeS, clrS_length, wipeS_length sl vs]
theorem getS_clrS : ∀ (l : List (Option D)) (n m : Nat) (x : D), getS (clrS l n) m = some x → m ≠ n ∧ getS l m = some x
  | [], _, _, _, h => by cases h
  | _ :: _, 0, 0, _, h => by cases h
  | _ :: _, 0, m + 1, _, h => ⟨nofun, h⟩
  | _ :: _, n + 1, 0, _, h => ⟨nofun, h⟩
  | _ :: r, n + 1, m + 1, x, h => let ⟨a, b⟩ := getS_clrS r n m x h; ⟨fun z => a (Nat.succ.inj z), b⟩
theorem getS_wipeS (sl : List (Option D)) (m : Nat) (x : D) : ∀ vs : List Nat, getS (wipeS sl vs) m = some x → m ∉ vs ∧ getS sl m = some x
  | [], h => ⟨by simp, h⟩
  | v :: vs, h => by
    obtain ⟨a, b⟩ := getS_clrS _ _ _ _ h
    obtain ⟨c, d⟩ := getS_wipeS sl m x vs b
    exact ⟨by simp [a, c], d⟩
theorem EnvRep.wipe {g : G} {σ : L2.St} {H : Hp} (e : EnvRep g σ H) (vs : List Nat) : EnvRep ⟨wipeS g.sl vs, g.st⟩ (L2.wipe σ vs) H :=
  ⟨e.sto, by
    show (wipeS g.sl vs).length = (L2.wipe σ vs).length
    rw [wipeS_length, wipe_length]; exact e.len, fun i d h => by
    obtain ⟨a, b⟩ := getS_wipeS _ _ _ _ h
    obtain ⟨v, h1, r⟩ := e.sl i d b
    exact ⟨v, by rw [wipe_out a]; exact h1, r⟩⟩
theorem wipe_sub {σ : L2.St} {vs : List Nat} : ∀ {us : List Nat}, (∀ u ∈ us, u ∈ vs) → L2.wipe (L2.wipe σ us) vs = L2.wipe σ vs
  | [], _ => rfl
  | u :: us, h => by
    show L2.wipe ((L2.wipe σ us).set u none) vs = L2.wipe σ vs
    rw [wipe_set (h u (by simp)), wipe_sub fun x hx => h x (by simp [hx])]
def noX : XD := fun _ _ _ => False
abbrev W0 : WX := fun _ _ _ _ => False
theorem upX0 {σ : L2.St} {st : Sto} {H : Hp} : UpX W0 σ st H noX := fun _ _ _ _ _ h => h.elim
def wYes : WT := fun g K _ => K true g
def lcD (ok : Sto → Prop) (wg : WG) (wt : WT) (we : WE) (sl : List (Option D)) (p : Addr) (K : List D → Sto → Prop) : List D → List D → Sto → Prop
  | [], acc, st => ok st ∧ st p = some (.lst acc) ∧ K acc st
  | x :: xs, acc, st => ok st ∧ wg x ⟨sl, st⟩ fun g2 => wt g2 (fun b g3 => match b with
    | true => we g3 (fun d g4 => g4.st p = some (.lst acc) ∧ acc.length < sizeLine ∧ lcD ok wg wt we sl p K xs (acc ++ [d]) (put g4.st p (.lst (acc ++ [d])))) noX
    | false => lcD ok wg wt we sl p K xs acc g3.st) noX
def lcEnd (b : Bool) (K : KD) (sl : List (Option D)) (p : Addr) (acc : List D) (st : Sto) : Prop := match b with
  | true => K (.ref p) ⟨sl, st⟩
  | false => K (.lst acc) ⟨sl, drop st p⟩
def wLc (b : Bool) (vs : List Nat) (wi : WI) (wg : WG) (wt : WT) (we : WE) : WE := fun g K X => wi g (fun items ok g1 => ∀ p, g1.st p = none →
  lcD ok wg wt we (wipeS g1.sl vs) p (lcEnd b K g1.sl p) items [] (put g1.st p (.lst []))) X
theorem lcD_st {ok : Sto → Prop} {wg : WG} {wt : WT} {we : WE} {sl : List (Option D)} {p : Addr} {K : List D → Sto → Prop} {xs acc : List D} {st : Sto} (h : lcD ok wg wt we sl p K xs acc st) : ok st := by
  cases xs with
  | nil => exact h.1
  | cons x xs => exact h.1
section
variable {X : Cx} {W : WX} {tg iter elt : Expr} {ifs : List Expr} {pos : Pos} {vs : List Nat} {wi : WI} {wg : WG} {wt : WT} {we : WE}
abbrev DTs (X : Cx) (W : WX) (es : List Expr) (w : WT) : Prop := PTs X es (liftT W w)
theorem _root_.L2.PTs.imp {e : List Expr} {t t' : TT} (h : PTs X e t) (i : ∀ σ H Q, t' σ H Q → t σ H Q) : PTs X e t' := ⟨fun pins s σ H Q I q => h.run pins s σ H Q I (i σ H Q q)⟩
theorem dts_nil : DTs X W [] wYes := pts_nil.imp fun σ H Q ⟨g, K, Xd, E, w, U, _⟩ => U true g H w Step.refl E
theorem dts_one {c : Expr} {t : WT} (h : DT X W c t) : DTs X W [c] t := pts_one h
theorem lc_ok {b : Bool} {σ : L2.St} {H : Hp} {Q : VK} (h : liftE W (wLc b vs wi wg wt we) σ H Q) : tLc (liftI W wi) (liftG vs wg) (liftT W0 wt) (liftE W0 we) vs σ H Q := by
  obtain ⟨g, K, Xd, E, h, U, UX⟩ := h
  refine ⟨g, _, Xd, E, h, fun items ok g1 H1 J src k s1 E1 J1 S1 p hp => ?_, UX⟩
  have k1 := k p (E1.sto.free hp)
  have sn : Step g1.st H1 (put g1.st p (.lst [])) (upd H1 p (.lst [])) := Step.newc hp
  have En : EnvRep ⟨g1.sl, put g1.st p (.lst [])⟩ σ (upd H1 p (.lst [])) := E1.step sn (E1.sto.newc hp ⟨[], upd_same, .nil⟩)
  refine ⟨fun i m H2 => m = items.length - i ∧ ∃ acc st, EnvRep ⟨g1.sl, st⟩ σ H2 ∧ Step g.st H st H2 ∧ src st H2 ∧ lcD ok wg wt we (wipeS g1.sl vs) p (lcEnd b K g1.sl p) (items.drop i) acc st, ⟨items.length, by simp, [], _, En, s1.trans sn, J1.keep S1 sn, by simpa using k1⟩, ?_⟩
  rintro i m H2 ⟨rfl, acc, st, E2, s2, S2, k2⟩
  have hok := lcD_st k2
  rcases Nat.lt_or_ge i items.length with hlt | hge
  · refine .inr ⟨J1.go S2 hok E2.sto hlt, fun H' => ∃ acc st', EnvRep ⟨g1.sl, st'⟩ σ H' ∧ Step g.st H st' H' ∧ src st' H' ∧ lcD ok wg wt we (wipeS g1.sl vs) p (lcEnd b K g1.sl p) (items.drop (i + 1)) acc st', fun H' q => ⟨items.length - (i + 1), by omega, rfl, q⟩, fun x H' hy => ?_⟩
    have hd : items[i]? = some items[i] := by simp [hlt]
    rw [List.drop_eq_getElem_cons hlt] at k2
    obtain ⟨s3, r3, rx⟩ := J1.yld S2 hok E2.sto hy _ hd
    have E3 : EnvRep ⟨g1.sl, st⟩ σ H' := E2.step s3 r3
    refine ⟨⟨wipeS g1.sl vs, st⟩, _, _, E3.wipe vs, rx, k2.2, fun g4 σ4 H4 k4 s4 E4 w4 => ⟨?_, g4, _, noX, E4, k4, fun c g5 H5 k5 s5 E5 => ?_, upX0⟩⟩
    · rw [w4]; exact wipe_sub fun _ h => h
    have s35 : Step st H2 g5.st H5 := s3.trans (s4.trans s5)
    cases c with
    | false =>
      exact iteF ⟨acc, g5.st, E2.step s35 E5.sto, s2.trans s35, J1.keep S2 s35, k5⟩
    | true =>
      refine iteT ⟨g5, _, noX, E5, k5, fun d g6 y H6 k6 s6 E6 r6 => ?_, upX0⟩
      obtain ⟨hp6, hl6, k6⟩ := k6
      obtain ⟨us, h6, l6⟩ := E6.sto p _ hp6
      have s36 := s35.trans s6
      have sw : Step g6.st H6 (put g6.st p (.lst (acc ++ [d]))) (upd H6 p (.lst (us ++ [y]))) := Step.wr hp6
      have rw6 : StoRep (upd H6 p (.lst (us ++ [y]))) (put g6.st p (.lst (acc ++ [d]))) := E6.sto.wr hp6 ⟨_, upd_same, (l6.append (.cons r6 .nil)).step sw⟩
      have s37 := s36.trans sw
      exact ⟨us, h6, by rw [← l6.length]; exact hl6, acc ++ [d], _, E2.step s37 rw6, s2.trans s37, J1.keep S2 s37, k6⟩
  · rw [List.drop_eq_nil_of_le hge] at k2
    obtain ⟨_, hp2, k2⟩ := k2
    refine .inl ⟨J1.stop S2 hok E2.sto hge, ?_⟩
    cases b with
    | true => exact U (.ref p) _ _ H2 k2 s2 E2 (.ref p)
    | false =>
      obtain ⟨us, h6, l6⟩ := E2.sto p _ hp2
      exact U (.lst acc) ⟨g1.sl, drop st p⟩ _ H2 k2 (s2.trans Step.frz) (E2.step Step.frz E2.sto.frz) (.lst drop_same h6 (l6.step Step.frz))
theorem de_lc (b : Bool) {scope : Scope} {own : List (Str × Nat)} (hc : X.calm = true) (hN : X.N.Nodup) (ok : BlkOk X.N X.env.scope scope own) (hi : DI X W tg iter wi)
    (hg : ∀ (s : Shared) (H : Hp) (C : Addr) (cl : List (Str × Addr)) (fp : List Addr), DG (X.blk s H scope (PySem.compEnvC scope cl C X.env) fp) (own.map (·.2)) tg wg)
    (ht : ∀ (s : Shared) (H : Hp) (C : Addr) (cl : List (Str × Addr)) (fp : List Addr), DTs (X.blk s H scope (PySem.compEnvC scope cl C X.env) fp) W0 ifs wt)
    (he : ∀ (s : Shared) (H : Hp) (C : Addr) (cl : List (Str × Addr)) (fp : List Addr), DE (X.blk s H scope (PySem.compEnvC scope cl C X.env) fp) W0 elt we)
    (hs : ∀ x, foldedSetIterable iter X.env x = pure x := by intro _; rfl) :
    DE X W (.ListComp elt [⟨tg, iter, ifs, 0⟩] scope pos) (wLc b (own.map (·.2)) wi wg wt we) :=
  (pe_lc (own := own) hc hN hi ok hg ht he hs).imp fun _ _ _ h => lc_ok h
end
end DL

end SDLC

section SDLX
set_option Elab.async false
set_option linter.all false
set_option maxRecDepth 100000
namespace DL
open PySem L2
/-! ### instances -/
/-- a cell that is an instance -/
def cellO (d : D) (st : Sto) (f : Addr → Addr → List (Str × D) → Prop) : Prop := match d with
  | .ref a => (match st a with | some (.obj C fs) => f a C fs | _ => False)
  | _ => False
theorem cellO_ok {d : D} {st : Sto} {f : Addr → Addr → List (Str × D) → Prop} (h : cellO d st f) : ∃ a C fs, d = .ref a ∧ st a = some (.obj C fs) ∧ f a C fs := by
  cases d with
  | ref a =>
    unfold cellO at h
    cases q : st a with
    | none => simp only [q] at h
    | some c =>
      cases c with
      | obj C fs => simp only [q] at h; exact ⟨a, C, fs, rfl, q, h⟩
      | _ => simp only [q] at h
  | _ => exact h.elim
theorem RepF.lookup {H : Hp} {st : Sto} {f : Str} : ∀ {fs : List (Str × D)} {vs : List (Str × V)}, RepF H st fs vs → (∀ d, fs.lookup f = some d → ∃ v, vs.lookup f = some v ∧ Rep H st d v) ∧ (fs.lookup f = none → vs.lookup f = none)
  | _, _, .nil => ⟨fun _ h => (by cases h), fun _ => rfl⟩
  | (k, d) :: fs, _, @RepF.cons _ _ _ _ v _ _ r l => by
    have ih := RepF.lookup (f := f) l
    by_cases e : (f == k) = true
    · constructor
      · intro d' h
        simp only [List.lookup, e] at h
        cases h
        exact ⟨v, by simp only [List.lookup, e], r⟩
      · intro h
        simp only [List.lookup, e] at h
        cases h
    · have e : (f == k) = false := by simpa using e
      simp only [List.lookup, e]
      exact ih
def putFD (f : Str) (v : D) : List (Str × D) → List (Str × D)
  | [] => [(f, v)]
  | (g, x) :: r => if g = f then (g, v) :: r else (g, x) :: putFD f v r
theorem RepF.put {H : Hp} {st : Sto} {f : Str} {d : D} {v : V} (r : Rep H st d v) : ∀ {fs : List (Str × D)} {vs : List (Str × V)}, RepF H st fs vs → RepF H st (putFD f d fs) (putF f v vs)
  | _, _, .nil => .cons r .nil
  | (k, _) :: _, _, .cons q l => by
    show RepF H st (if k = f then _ else _) (if k = f then _ else _)
    by_cases e : k = f
    · rw [if_pos e, if_pos e]; exact .cons r l
    · rw [if_neg e, if_neg e]; exact .cons q (RepF.put r l)
theorem RepF.length {H : Hp} {st : Sto} : ∀ {fs : List (Str × D)} {vs : List (Str × V)}, RepF H st fs vs → fs.length = vs.length
  | _, _, .nil => rfl
  | _, _, .cons _ l => by rw [List.length_cons, List.length_cons, RepF.length l]
section
variable {X : Cx} {W : WX} {k : Nat} {f C : Addr} {fd : FuncData} {ps : List Str} {ct : CT} {x m : Str} {p pos apos pos' : Pos} {e o : Expr} {es : List Expr} {wa : WA} {we wo : WE}
/-- C(..): a new instance, then __init__ -/
def wMake (C : Addr) (n : Nat) (ct : CT) (wa : WA) : WE := fun g K X => wa g (fun ds g1 => ds.length + 1 = n ∧ ∀ a, g1.st a = none → ct (.ref a :: ds) (put g1.st a (.obj C [])) (fun d st => d = .non ∧ K (.ref a) ⟨g1.sl, st⟩) (fun C' d st => X C' d ⟨g1.sl, st⟩)) X
theorem de_make (M : Mk X.K C f) (F : FnG X.prog X.w X.K X.mg X.base k f fd ps (liftSp ps.length ct)) (hG : X.A.guards = some []) (hr : Room (k + 1) X.A) (hm : X.mg x = some (.ref C)) (hb : Binds X.K fd ps []) (tk : Takes X W) (ha : DA X W (e :: es) wa)
    (hg : Gl X x := by rfl) (hdb : (x == ("__debug__" : Str)) = false := by decide) (he : starEach (e :: es) X.env = (false, eval e X.env) :: starEach es X.env := by rfl) (hpl : (backTo pos (starEach es X.env)).any (·.1) = false := by rfl) :
    DE X W (.Call (.Name x p) (e :: es) [] pos) (wMake C ps.length ct wa) := (pe_makeS M F hG hr hg hm hb (fun σ => passAt tk σ) ha hdb he hpl).imp fun σ H Q ⟨g, K, Xd, E, h, U, UX⟩ => by
  refine ⟨g, _, Xd, E, h, fun ds g1 vs H1 k1 s1 E1 l1 y dx hy hdx ne => ?_, UX⟩
  obtain ⟨hn, k2⟩ := k1
  have hy' : upd H1 dx (.own y) y = none := by rw [upd_ne (Ne.symm ne)]; exact hy
  have sa : Step g1.st H1 g1.st (upd H1 dx (.own y)) := Step.new hdx
  have sb : Step g1.st (upd H1 dx (.own y)) (put g1.st y (.obj C [])) (upd (upd H1 dx (.own y)) y (.ins C dx [])) := Step.newc hy'
  have R2 : StoRep (upd (upd H1 dx (.own y)) y (.ins C dx [])) (put g1.st y (.obj C [])) := (E1.sto.new hdx).newc hy' ⟨dx, [], upd_same, .nil⟩
  have s12 := sa.trans sb
  refine ⟨by rw [List.length_cons, ← l1.length]; exact hn, .ref y :: ds, _, _, _, .cons (.ref y) (l1.step s12), R2, k2 y (E1.sto.free hy), fun d st v H' kd s R r => ?_, fun C' d st dx' H' kd s R r => ?_⟩
  · obtain ⟨rfl, kd⟩ := kd
    cases r
    exact ⟨rfl, U (.ref y) ⟨g1.sl, st⟩ _ H' kd (s1.trans (s12.trans s)) (E1.step (s12.trans s) R) (.ref y)⟩
  · exact UX C' d ⟨g1.sl, st⟩ dx' H' kd (s1.trans (s12.trans s)) (E1.step (s12.trans s) R) r
/-- o.m(..) of an instance of the class at C -/
def wMeth (C : Addr) (m : Str) (n : Nat) (ct : CT) (wo : WE) (wa : WA) : WE := fun g K X => wo g (fun d g1 => cellO d g1.st fun a C' fs => (C' = C ∧ fs.lookup m = none) ∧ wa g1 (fun ds g2 => ds.length + 1 = n ∧ ct (d :: ds) g2.st (fun d st => K d ⟨g2.sl, st⟩) (fun C d st => X C d ⟨g2.sl, st⟩)) X) X
theorem meth_ok {σ : L2.St} {H : Hp} {Q : VK} {t : TA} (ht : ∀ σ H Q, liftA W wa σ H Q → t σ H Q) (h : liftE W (wMeth C m ps.length ct wo wa) σ H Q) : tMethS C m (liftSp ps.length ct) (L2.WE W) (liftE W wo) t σ H Q := by
  obtain ⟨g, K, Xd, E, h, U, UX⟩ := h
  refine ⟨g, _, Xd, E, h, fun d g1 v H1 k1 s1 E1 r1 => ?_, UX⟩
  obtain ⟨a, C', fs, rfl, q, ⟨rfl, no⟩, k2⟩ := cellO_ok k1
  cases r1
  obtain ⟨dx, vs, ea, lf⟩ := E1.sto a _ q
  refine ⟨a, dx, vs, rfl, ea, (RepF.lookup lf).2 no, ht _ _ _ ⟨g1, _, Xd, E1, k2, fun ds g2 us H2 k3 s2 E2 l2 => ?_, UX.on s1⟩⟩
  exact call_sp (ps := ps) E2 (.cons (.ref a) l2) k3.1 k3.2 (U.on (s1.trans s2)) (UX.on (s1.trans s2))
theorem de_meth {pl : Sem Bool} (ho : DE X W o wo) (c : Cls X.K C) (hm : Meth X.K C m f) (F : FnG X.prog X.w X.K X.mg X.base k f fd ps (liftSp ps.length ct)) (hG : X.A.guards = some []) (hr : Room k X.A) (hb : Binds X.K fd ps []) (tk : Takes X W) (ha : DA X W (e :: es) wa)
    (hst : starEach (e :: es) X.env = (false, eval e X.env) :: starEach es X.env := by rfl) (hpl : (backTo pos (starEach es X.env)).any (·.1) = false := by rfl)
    (ht : eval (.Call (.Attribute o m apos) (e :: es) [] pos) X.env = (do
      let ov ← eval o X.env
      standAt apos.atName
      let (f, first) ← holding [ov] (getMethod ov m pl)
      callWith pos f first (backTo pos (starEach (e :: es) X.env)) (backToKw pos (keywordEach [] X.env))) := by rfl) :
    DE X W (.Call (.Attribute o m apos) (e :: es) [] pos) (wMeth C m ps.length ct wo wa) := (pe_methA (pl := pl) ho c hm F hG hr hb (fun σ => passAt tk σ) ha hst hpl ht).imp fun _ _ _ h => meth_ok (fun _ _ _ h => h) h
theorem de_meth0 {pl : Sem Bool} (ho : DE X W o wo) (c : Cls X.K C) (hm : Meth X.K C m f) (F : FnG X.prog X.w X.K X.mg X.base k f fd ps (liftSp ps.length ct)) (hG : X.A.guards = some []) (hr : Room k X.A) (hb : Binds X.K fd ps []) (tk : Takes X W)
    (ht : eval (.Call (.Attribute o m apos) [] [] pos) X.env = (do
      let ov ← eval o X.env
      standAt apos.atName
      let (f, first) ← holding [ov] (getMethod ov m pl)
      callWith pos f first (backTo pos (starEach [] X.env)) (backToKw pos (keywordEach [] X.env))) := by rfl) :
    DE X W (.Call (.Attribute o m apos) [] [] pos) (wMeth C m ps.length ct wo wNil) := (pe_methA0 (pl := pl) ho c hm F hG hr hb (fun σ => passAt tk σ) ht).imp fun _ _ _ h => meth_ok (fun σ H Q ⟨g, K, Xd, E, w, U, _⟩ => U [] g [] H w Step.refl E .nil) h
/-- o.f -/
def wFld (C : Addr) (f : Str) (wo : WE) : WE := fun g K X => wo g (fun d g1 => cellO d g1.st fun a C' fs => C' = C ∧ opt (fs.lookup f) fun v => K v g1) X
theorem de_fld {f : Str} (c : Cls X.K C) (n : NoAttr X.K C f) (ho : DE X W o wo) (hb : attributeBase o f X.env (eval o X.env) = eval o X.env := by rfl) : DE X W (.Attribute o f pos) (wFld C f wo) :=
  (pe_fld ho hb).imp fun σ H Q ⟨g, K, Xd, E, h, U, UX⟩ => by
  refine ⟨g, _, Xd, E, h, fun d g1 v H1 k1 s1 E1 r1 => ?_, UX⟩
  obtain ⟨a, C', fs, rfl, q, rfl, k2⟩ := cellO_ok k1
  obtain ⟨y, e, k3⟩ := opt_ok k2
  cases r1
  obtain ⟨dx, vs, ea, lf⟩ := E1.sto a _ q
  obtain ⟨u, hu, ru⟩ := (RepF.lookup (f := f) lf).1 y e
  exact ⟨a, C', dx, vs, u, rfl, ea, c, n, hu, U y g1 u H1 k3 s1 E1 ru⟩
/-- o.f = e -/
def wSetF (C : Addr) (f : Str) (we wo : WE) : WS := fun K g => we g (fun y g1 => wo g1 (fun d g2 => cellO d g2.st fun a C' fs => (C' = C ∧ fs.length < 1000) ∧ K.nx ⟨g2.sl, put g2.st a (.obj C (putFD f y fs))⟩) K.ex) K.ex
theorem ds_fld {f : Str} (c : Cls X.K C) (n : NoAttr X.K C f) (ho : DE X W o wo) (he : DE X W e we) (hs : swapsWith e (some (.Attribute o f pos')) pos.line X.env = pure false := by rfl) : DS X W (.Assign [.Attribute o f pos'] e pos) (wSetF C f we wo) :=
  (ps_fld ho he hs).imp fun D σ H ⟨g, K, E, h, U⟩ => by
  refine ⟨g, _, K.ex, E, h, fun y g1 v H1 k1 s1 E1 r1 => ⟨g1, _, K.ex, E1, k1, fun d g2 u H2 k2 s2 E2 r2 => ?_, (U.ex.on s1).x σ⟩, U.ex.x σ⟩
  obtain ⟨a, C', fs, rfl, q, ⟨rfl, hl⟩, k3⟩ := cellO_ok k2
  cases r2
  obtain ⟨dx, vs, ea, lf⟩ := E2.sto a _ q
  have sw : Step g2.st H2 (put g2.st a (.obj C' (putFD f y fs))) (upd H2 a (.ins C' dx (putF f v vs))) := Step.wr q
  refine ⟨a, C', dx, vs, rfl, ea, c, n, by rw [← lf.length]; exact hl, U.nx _ σ _ k3 (s1.trans (s2.trans sw)) (E2.step sw (E2.sto.wr q ⟨dx, _, upd_same, ((lf.put (r1.step s2)).step sw)⟩))⟩
end
end DL

end SDLX

section SDLD
set_option Elab.async false
set_option linter.all false
set_option maxRecDepth 100000
namespace DL
open PySem L2
/-! ### dicts with ints and texts as keys -/
def keyD : D → Option Key
  | .int i => some (.inl i)
  | .str x => some (.inr x)
  | _ => none
theorem keyD_ok {H : Hp} {st : Sto} {d : D} {v : V} {k : Key} (r : Rep H st d v) (e : keyD d = some k) : v = kV k := by
  cases r with
  | int i => cases e; rfl
  | str x => cases e; rfl
  | _ => cases e
def valD (kvs : List (Key × D)) (k : Key) : Option D := (kvs.find? fun kv => decide (kv.1 = k)).map (·.2)
def putKD (kvs : List (Key × D)) (k : Key) (v : D) : List (Key × D) :=
  if (kvs.any fun kv => decide (kv.1 = k)) = true then kvs.map (fun kv => if kv.1 = k then (kv.1, v) else kv) else kvs ++ [(k, v)]
def mergeD (kvs more : List (Key × D)) : List (Key × D) := more.foldl (fun acc kv => putKD acc kv.1 kv.2) kvs
section
variable {H : Hp} {st : Sto}
theorem RepK.val {k : Key} : ∀ {ds : List (Key × D)} {vs : List (Key × V)}, RepK H st ds vs → (∀ d, valD ds k = some d → ∃ v, valV vs k = some v ∧ Rep H st d v) ∧ (valD ds k = none → valV vs k = none)
  | _, _, .nil => ⟨fun _ h => (by cases h), fun _ => rfl⟩
  | _, _, @RepK.cons _ _ j d v ds vs r l => by
    have ih := RepK.val (k := k) l
    by_cases e : j = k
    · refine ⟨fun x h => ⟨v, valV_pos e, ?_⟩, fun h => ?_⟩
      · have z : valD ((j, d) :: ds) k = some d := by simp [valD, List.find?_cons, e]
        rw [z] at h; cases h; exact r
      · have z : valD ((j, d) :: ds) k = some d := by simp [valD, List.find?_cons, e]
        rw [z] at h; cases h
    · have z : valD ((j, d) :: ds) k = valD ds k := by simp [valD, List.find?_cons, e]
      rw [z, valV_neg e]
      exact ih
theorem RepK.any {k : Key} : ∀ {ds : List (Key × D)} {vs : List (Key × V)}, RepK H st ds vs → (ds.any fun kv => decide (kv.1 = k)) = vs.any fun kv => decide (kv.1 = k)
  | _, _, .nil => rfl
  | _, _, .cons r l => by rw [List.any_cons, List.any_cons, RepK.any l]
theorem RepK.append : ∀ {ds es : List (Key × D)} {vs ws : List (Key × V)}, RepK H st ds vs → RepK H st es ws → RepK H st (ds ++ es) (vs ++ ws)
  | _, _, _, _, .nil, r => r
  | _, _, _, _, .cons a l, r => .cons a (RepK.append l r)
theorem RepK.mapPut {k : Key} {d : D} {v : V} (r : Rep H st d v) : ∀ {ds : List (Key × D)} {vs : List (Key × V)}, RepK H st ds vs → RepK H st (ds.map fun kv => if kv.1 = k then (kv.1, d) else kv) (vs.map fun kv => if kv.1 = k then (kv.1, v) else kv)
  | _, _, .nil => .nil
  | _, _, @RepK.cons _ _ j _ _ _ _ q l => by
    rw [List.map_cons, List.map_cons]
    by_cases e : j = k
    · simp only [e, if_true]; exact .cons r (RepK.mapPut r l)
    · simp only [e, if_false]; exact .cons q (RepK.mapPut r l)
theorem RepK.put {k : Key} {d : D} {v : V} (r : Rep H st d v) {ds : List (Key × D)} {vs : List (Key × V)} (l : RepK H st ds vs) : RepK H st (putKD ds k d) (putK vs k v) := by
  unfold putKD putK
  rw [l.any]
  split
  · exact l.mapPut r
  · exact l.append (.cons r .nil)
theorem RepK.merge : ∀ {es : List (Key × D)} {ws : List (Key × V)} {ds : List (Key × D)} {vs : List (Key × V)}, RepK H st es ws → RepK H st ds vs → RepK H st (mergeD ds es) (mergeK vs ws)
  | _, _, _, _, .nil, l => l
  | _, _, _, _, @RepK.cons _ _ _ _ _ es ws r m, l => RepK.merge (es := es) (ws := ws) m (l.put r)
end
/-- a dict, to be read -/
def dicAt (st : Sto) : D → Option (List (Key × D))
  | .dic kvs => some kvs
  | .ref a => match st a with
    | some (.dic kvs) => some kvs
    | _ => none
  | _ => none
theorem dicAt_ok {st : Sto} {H : Hp} {d : D} {v : V} {kvs : List (Key × D)} (R : StoRep H st) (r : Rep H st d v) (e : dicAt st d = some kvs) : ∃ a vs, v = .ref a ∧ H a = some (.dK vs) ∧ RepK H st kvs vs := by
  cases r with
  | dic n rd l => cases e; exact ⟨_, _, rfl, rd, l⟩
  | ref a =>
    unfold dicAt at e
    cases q : st a with
    | none => simp only [q] at e; cases e
    | some c =>
      cases c with
      | dic xs =>
        simp only [q] at e; cases e
        obtain ⟨vs, h1, l⟩ := R a _ q
        exact ⟨a, vs, rfl, h1, l⟩
      | lst xs => simp only [q] at e; cases e
      | obj C fs => simp only [q] at e; cases e
      | dct fs => simp only [q] at e; cases e
  | _ => cases e
def cellD (d : D) (st : Sto) (f : Addr → List (Key × D) → Prop) : Prop := match d with
  | .ref a => (match st a with | some (.dic xs) => f a xs | _ => False)
  | _ => False
theorem cellD_ok {d : D} {st : Sto} {f : Addr → List (Key × D) → Prop} (h : cellD d st f) : ∃ a xs, d = .ref a ∧ st a = some (.dic xs) ∧ f a xs := by
  cases d with
  | ref a =>
    unfold cellD at h
    cases q : st a with
    | none => simp only [q] at h
    | some c =>
      cases c with
      | dic xs => simp only [q] at h; exact ⟨a, xs, rfl, q, h⟩
      | _ => simp only [q] at h
  | _ => exact h.elim
/-- a new dict -/
def newD (b : Bool) (ds : List (Key × D)) (g : G) (K : KD) : Prop := match b with | true => newC (.dic ds) g K | false => K (.dic ds) g
theorem new_D {b : Bool} {g : G} {σ : L2.St} {H : Hp} {K : KD} {Q : VK} {ds : List (Key × D)} {vs : List (Key × V)} (E : EnvRep g σ H) (r : RepK H g.st ds vs) (k : newD b ds g K) (U : Upd σ g.st H K Q) : ∀ p, H p = none → Q (.ref p) (upd H p (.dK vs)) := fun p hp => by
  cases b with
  | true => exact U (.ref p) ⟨g.sl, put g.st p (.dic ds)⟩ _ _ (k p (E.sto.free hp)) (Step.newc hp) (E.step (Step.newc hp) (E.sto.newc hp ⟨vs, upd_same, r.step (Step.newc hp)⟩)) (.ref p)
  | false => exact U _ g _ _ k (Step.new hp) (E.step (Step.new hp) (E.sto.new hp)) (.dic (E.sto.free hp) upd_same (r.step (Step.new hp)))
section
variable {X : Cx} {W : WX} {o i e value : Expr} {wo wi we wv : WE} {pos pos' apos cpos : Pos}
def wDNew (b : Bool) : WE := fun g K _ => newD b [] g K
theorem de_dnew (b : Bool) : DE X W (.Dict [] [] pos) (wDNew b) := pe_dnewK.imp fun σ H Q ⟨g, K, Xd, E, h, U, _⟩ => new_D E .nil h U
/-- d[k] -/
def wDGet (wo wi : WE) : WE := fun g K X => wo g (fun d g1 => wi g1 (fun y g2 => opt (dicAt g2.st d) fun kvs => opt (keyD y) fun k => opt (valD kvs k) fun v => K v g2) X) X
theorem de_dget (hu : X.A.units + 1 < cLine) (ho : DE X W o wo) (hi : DE X W i wi) (hs : NoSl i := by exact fun _ _ => rfl) : DE X W (.Subscript o i pos) (wDGet wo wi) := (pe_dget hu ho hi hs).imp fun σ H Q ⟨g, K, Xd, E, h, U, UX⟩ =>
  ⟨g, _, Xd, E, h, fun d g1 x H1 k1 s1 E1 r1 => ⟨g1, _, Xd, E1, k1, fun y g2 u H2 k2 s2 E2 r2 => by
    obtain ⟨kvs, e1, k3⟩ := opt_ok k2
    obtain ⟨k, e2, k4⟩ := opt_ok k3
    obtain ⟨v, e3, k5⟩ := opt_ok k4
    obtain ⟨a, vs, rfl, ha, l⟩ := dicAt_ok E2.sto (r1.step s2) e1
    obtain ⟨w, h1, rw⟩ := (l.val (k := k)).1 v e3
    obtain rfl := keyD_ok r2 e2
    exact ⟨a, w, rfl, by rw [← h1]; exact DGet.k ha, U v g2 w H2 k5 (s1.trans s2) E2 rw⟩, UX.on s1⟩, UX⟩
theorem dget_ok {st : Sto} {H : Hp} {d y : D} {x u : V} {kvs : List (Key × D)} {k : Key} (R : StoRep H st) (r1 : Rep H st d x) (r2 : Rep H st y u) (e1 : dicAt st d = some kvs) (e2 : keyD y = some k) :
    ∃ a o, x = .ref a ∧ DGet H a u o ∧ o.isSome = (valD kvs k).isSome ∧ (∀ v, valD kvs k = some v → ∃ w, o = some w ∧ Rep H st v w) ∧ (valD kvs k = none → o = none) ∧ IsD H a := by
  obtain ⟨a, vs, rfl, ha, l⟩ := dicAt_ok R r1 e1
  obtain rfl := keyD_ok r2 e2
  obtain ⟨p1, p2⟩ := l.val (k := k)
  refine ⟨a, _, rfl, DGet.k ha, ?_, p1, p2, .inl ⟨vs, .inl ha⟩⟩
  cases e : valD kvs k with
  | none => rw [p2 e]; rfl
  | some v => obtain ⟨w, h, _⟩ := p1 v e; rw [h]; rfl
/-- k in d -/
def wDIn (neg : Bool) (wi wo : WE) : WE := fun g K X => wi g (fun y g1 => wo g1 (fun d g2 => opt (dicAt g2.st d) fun kvs => opt (keyD y) fun k => K (.bl (if neg then !(valD kvs k).isSome else (valD kvs k).isSome)) g2) X) X
theorem din_ok {neg : Bool} {σ : L2.St} {H : Hp} {Q : VK} (h : liftE W (wDIn neg wi wo) σ H Q) : liftE W wi σ H fun y H1 => liftE W wo σ H1 fun x H2 => ∃ a o, x = .ref a ∧ DGet H2 a y o ∧ Q (.bl (if neg then !o.isSome else o.isSome)) H2 := by
  obtain ⟨g, K, Xd, E, h, U, UX⟩ := h
  refine ⟨g, _, Xd, E, h, fun y g1 u H1 k1 s1 E1 r1 => ⟨g1, _, Xd, E1, k1, fun d g2 x H2 k2 s2 E2 r2 => ?_, UX.on s1⟩, UX⟩
  obtain ⟨kvs, e1, k3⟩ := opt_ok k2
  obtain ⟨k, e2, k4⟩ := opt_ok k3
  obtain ⟨a, ov, rfl, hg, hs, _, _, _⟩ := dget_ok E2.sto r2 (r1.step s2) e1 e2
  exact ⟨a, ov, rfl, hg, by rw [hs]; exact U _ g2 _ H2 k4 (s1.trans s2) E2 (.bl _)⟩
theorem de_din (hu : X.A.units + 1 < cLine) (hi : DE X W i wi) (ho : DE X W o wo) (h1 : behindInMarks .In o = false := by rfl) : DE X W (.Compare i [.In] [o] pos) (wDIn false wi wo) := (pe_cmp (pc_din hu hi ho) h1).imp fun _ _ _ h => din_ok h
theorem de_dnin (hu : X.A.units + 1 < cLine) (hi : DE X W i wi) (ho : DE X W o wo) (h1 : behindInMarks .NotIn o = false := by rfl) : DE X W (.Compare i [.NotIn] [o] pos) (wDIn true wi wo) := (pe_cmp (pc_dnotin hu hi ho) h1).imp fun _ _ _ h => din_ok h
theorem bq_ok {w : WE} {σ : L2.St} {H : Hp} {Q : Bool → Hp → Prop} {t : TE} (ht : ∀ Q, liftE W w σ H Q → t σ H Q) (h : liftT W (wB w) σ H Q) : tB t σ H Q := ht _ (liftB h)
theorem dt_din (hu : X.A.units + 1 < cLine) (hi : DE X W i wi) (ho : DE X W o wo) (h1 : behindInMarks .In o = false := by rfl) : DT X W (.Compare i [.In] [o] pos) (wB (wDIn false wi wo)) := (pt_cmp (pc_din hu hi ho) h1).imp fun σ H Q h => bq_ok (fun _ h => din_ok (neg := false) h) h
theorem dt_dnin (hu : X.A.units + 1 < cLine) (hi : DE X W i wi) (ho : DE X W o wo) (h1 : behindInMarks .NotIn o = false := by rfl) : DT X W (.Compare i [.NotIn] [o] pos) (wB (wDIn true wi wo)) := (pt_cmp (pc_dnotin hu hi ho) h1).imp fun σ H Q h => bq_ok (fun _ h => din_ok (neg := true) h) h
/-- d[k] = v -/
def wDPut (wo wi wv : WE) : WS := fun K g => wv g (fun v g1 => wo g1 (fun d g2 => wi g2 (fun y g3 => cellD d g3.st fun a kvs => opt (keyD y) fun k => kvs.length < sizeLine ∧ K.nx ⟨g3.sl, put g3.st a (.dic (putKD kvs k v))⟩) K.ex) K.ex) K.ex
theorem ds_dput (hu : X.A.units + 1 < cLine) (ho : DE X W o wo) (hi : DE X W i wi) (hv : DE X W value wv) (hs : swapsWith value (some (.Subscript o i pos')) pos.line X.env = pure false := by rfl) : DS X W (.Assign [.Subscript o i pos'] value pos) (wDPut wo wi wv) :=
  (ps_dput hu ho hi hv hs).imp fun D σ H ⟨g, K, E, h, U⟩ => by
  refine ⟨g, _, K.ex, E, h, fun v g1 w H1 k1 s1 E1 r1 => ⟨g1, _, K.ex, E1, k1, fun d g2 x H2 k2 s2 E2 r2 => ⟨g2, _, K.ex, E2, k2, fun y g3 u H3 k3 s3 E3 r3 => ?_, (U.ex.on (s1.trans s2)).x σ⟩, (U.ex.on s1).x σ⟩, U.ex.x σ⟩
  obtain ⟨a, kvs, rfl, q, k4⟩ := cellD_ok k3
  obtain ⟨k, e2, hl, k5⟩ := opt_ok k4
  obtain rfl := keyD_ok r3 e2
  cases r2
  obtain ⟨vs, ha, l⟩ := E3.sto a _ q
  have sw : Step g3.st H3 (put g3.st a (.dic (putKD kvs k v))) (upd H3 a (.dK (putK vs k w))) := Step.wr q
  exact ⟨a, _, rfl, DPut.k ha (by rw [← l.length]; exact hl), U.nx _ σ _ k5 (s1.trans (s2.trans (s3.trans sw))) (E3.step sw (E3.sto.wr q ⟨_, upd_same, (l.put ((r1.step s2).step s3)).step sw⟩))⟩
/-- d.get(k), d.get(k, x) -/
def wDGet1 (wo wi : WE) : WE := fun g K X => wo g (fun d g1 => (dicAt g1.st d).isSome = true ∧ wi g1 (fun y g2 => opt (dicAt g2.st d) fun kvs => opt (keyD y) fun k => K ((valD kvs k).getD .non) g2) X) X
theorem de_dget1 (hu : X.A.units + 1 < cLine) (ho : DE X W o wo) (hi : DE X W e wi) (m : M1 X o "get" apos e cpos := by exact ⟨rfl, rfl, rfl, rfl⟩) : DE X W (.Call (.Attribute o "get" apos) [e] [] cpos) (wDGet1 wo wi) := (pe_dget1 hu ho hi m).imp fun σ H Q ⟨g, K, Xd, E, h, U, UX⟩ =>
  ⟨g, _, Xd, E, h, fun d g1 x H1 k1 s1 E1 r1 => by
    obtain ⟨kvs0, e0⟩ := Option.isSome_iff_exists.mp k1.1
    obtain ⟨a, vs, rfl, ha, _⟩ := dicAt_ok E1.sto r1 e0
    refine ⟨a, rfl, .inl ⟨vs, .inl ha⟩, g1, _, Xd, E1, k1.2, fun y g2 u H2 k2 s2 E2 r2 => ?_, UX.on s1⟩
    obtain ⟨kvs, e1, k3⟩ := opt_ok k2
    obtain ⟨k, e2, k4⟩ := opt_ok k3
    obtain ⟨a', ov, ea, hg, _, p1, p2, _⟩ := dget_ok E2.sto (r1.step s2) r2 e1 e2
    cases ea
    refine ⟨ov, hg, ?_⟩
    cases e : valD kvs k with
    | none => rw [p2 e]; rw [e] at k4; exact U _ g2 _ H2 k4 (s1.trans s2) E2 .non
    | some v => obtain ⟨w, ew, rw'⟩ := p1 v e; rw [ew]; rw [e] at k4; exact U _ g2 _ H2 k4 (s1.trans s2) E2 rw', UX⟩
/-- a display with pairs -/
abbrev WPs := G → (List (D × D) → G → Prop) → XD → Prop
def wPNil : WPs := fun g K _ => K [] g
def wPCons (wk wv : WE) (r : WPs) : WPs := fun g K X => wk g (fun k g1 => wv g1 (fun v g2 => r g2 (fun ps g3 => K ((k, v) :: ps) g3) X) X) X
inductive RepP (H : Hp) (st : Sto) : List (D × D) → List (V × V) → Prop
  | nil : RepP H st [] []
  | cons {a b : D} {x y : V} {ds : List (D × D)} {vs : List (V × V)} : Rep H st a x → Rep H st b y → RepP H st ds vs → RepP H st ((a, b) :: ds) ((x, y) :: vs)
def liftPs (W : WX) (w : WPs) (t : L2.St → Hp → (List (V × V) → Hp → Prop) → Prop) : Prop := ∀ σ H Q, (∃ g K X, EnvRep g σ H ∧ w g K X ∧ (∀ ds g' vs H', K ds g' → Step g.st H g'.st H' → EnvRep g' σ H' → RepP H' g'.st ds vs → Q vs H') ∧ UpX W σ g.st H X) → t σ H Q
structure DPs (X : Cx) (W : WX) (pos : Pos) (keys : List (Option Expr)) (values : List Expr) (w : WPs) : Prop where
  run : ∃ trs, PPs X pos keys values trs ∧ liftPs W w (tPairs trs)
theorem dps_nil : DPs X W pos [] [] wPNil := ⟨[], pps_nil, fun σ H Q ⟨g, K, Xd, E, h, U, _⟩ => U [] g [] H h Step.refl E .nil⟩
theorem dps_cons {k v : Expr} {ks : List (Option Expr)} {vs : List Expr} {wk wv : WE} {r : WPs} (hk : DE X W k wk) (hv : DE X W v wv) (hr : DPs X W pos ks vs r) : DPs X W pos (some k :: ks) (v :: vs) (wPCons wk wv r) := by
  obtain ⟨trs, h, q⟩ := hr
  refine ⟨_, pps_cons hk hv h, fun σ H Q ⟨g, K, Xd, E, h, U, UX⟩ => ?_⟩
  refine ⟨g, _, Xd, E, h, fun a g1 x H1 k1 s1 E1 r1 => ⟨g1, _, Xd, E1, k1, fun b g2 y H2 k2 s2 E2 r2 => q σ H2 _ ⟨g2, _, Xd, E2, k2, fun ds g3 vs H3 k3 s3 E3 r3 => ?_, UX.on (s1.trans s2)⟩, UX.on s1⟩, UX⟩
  exact U _ g3 _ H3 k3 (s1.trans (s2.trans s3)) E3 (.cons ((r1.step s2).step s3) (r2.step s3) r3)
def keysD : List (D × D) → Option (List (Key × D))
  | [] => some []
  | (a, b) :: r => match keyD a, keysD r with
    | some k, some ks => some ((k, b) :: ks)
    | _, _ => none
theorem keysD_ok {H : Hp} {st : Sto} : ∀ {ds : List (D × D)} {vs : List (V × V)} {kds : List (Key × D)}, RepP H st ds vs → keysD ds = some kds → ∃ kvs, vs = kvs.map (fun kv => (kV kv.1, kv.2)) ∧ RepK H st kds kvs
  | _, _, kds, .nil, e => by cases e; exact ⟨[], rfl, .nil⟩
  | _, _, kds, @RepP.cons _ _ a b x y ds vs r1 r2 l, e => by
    unfold keysD at e
    cases e1 : keyD a with
    | none => simp only [e1] at e; cases e
    | some k =>
      cases e2 : keysD ds with
      | none => simp only [e1, e2] at e; cases e
      | some ks =>
        simp only [e1, e2] at e; cases e
        obtain ⟨kvs, rfl, l2⟩ := keysD_ok l e2
        obtain rfl := keyD_ok r1 e1
        exact ⟨(k, y) :: kvs, rfl, .cons r2 l2⟩
def wDisp (b : Bool) (wp : WPs) : WE := fun g K X => ∀ p, g.st p = none → wp ⟨g.sl, put g.st p (.dic [])⟩ (fun ps g2 => g2.st p = some (.dic []) ∧ opt (keysD ps) fun kds => kds.length ≤ 15 ∧
  match b with | true => K (.ref p) ⟨g2.sl, put g2.st p (.dic (mergeD [] kds))⟩ | false => K (.dic (mergeD [] kds)) ⟨g2.sl, drop g2.st p⟩) X
theorem de_disp (b : Bool) {keys : List (Option Expr)} {values : List Expr} {wp : WPs} (h : DPs X W pos keys values wp) (hall : keys.all (·.isSome) = true := by rfl) (hl : keys.length = values.length := by rfl) (h0 : keys ≠ [] := by exact fun z => nomatch z) (h15 : keys.length ≤ 15 := by decide) :
    DE X W (.Dict keys values pos) (wDisp b wp) := by
  obtain ⟨trs, hp, q⟩ := h
  refine (pe_disp hp hall hl h0 h15).imp fun σ H Q ⟨g, K, Xd, E, h, U, UX⟩ p hp => ?_
  have sn : Step g.st H (put g.st p (.dic [])) (upd H p (.dK [])) := Step.newc hp
  have En : EnvRep ⟨g.sl, put g.st p (.dic [])⟩ σ (upd H p (.dK [])) := E.step sn (E.sto.newc hp ⟨[], upd_same, .nil⟩)
  refine q σ _ _ ⟨_, _, Xd, En, h p (E.sto.free hp), fun ps g2 vs H2 k2 s2 E2 l2 => ?_, UX.on sn⟩
  obtain ⟨hp2, k3⟩ := k2
  obtain ⟨kds, ek, h15', k4⟩ := opt_ok k3
  obtain ⟨kvs, rfl, l3⟩ := keysD_ok l2 ek
  obtain ⟨us, hu, lu⟩ := E2.sto p _ hp2
  cases lu
  refine ⟨hu, kvs, rfl, by rw [← l3.length]; exact h15', ?_⟩
  have sw : Step g2.st H2 (put g2.st p (.dic (mergeD [] kds))) (upd H2 p (.dK (mergeK [] kvs))) := Step.wr hp2
  have lm : RepK (upd H2 p (.dK (mergeK [] kvs))) (put g2.st p (.dic (mergeD [] kds))) (mergeD [] kds) (mergeK [] kvs) := (RepK.merge l3 .nil).step sw
  have Rw := E2.sto.wr hp2 (o := .dK (mergeK [] kvs)) (c' := .dic (mergeD [] kds)) ⟨_, upd_same, lm⟩
  have s3 := sn.trans (s2.trans sw)
  cases b with
  | true => exact U (.ref p) ⟨g2.sl, _⟩ _ _ k4 s3 (E2.step sw Rw) (.ref p)
  | false =>
    have hd : drop g2.st p = drop (put g2.st p (.dic (mergeD [] kds))) p := by
      funext x
      by_cases ex : x = p
      · subst ex; rw [drop_same, drop_same]
      · rw [drop_ne ex, drop_ne ex, put_ne ex]
    rw [hd] at k4
    exact U _ ⟨g2.sl, _⟩ _ _ k4 (s3.trans Step.frz) ((E2.step sw Rw).step Step.frz Rw.frz) (.dic drop_same upd_same (lm.step Step.frz))
end
end DL

end SDLD

section SDLH
set_option Elab.async false
set_option linter.all false
set_option maxRecDepth 100000
namespace DL
open PySem L2
/-! ### what a head tells -/
abbrev Fr := PySem.W.Frag
/-- the function object at p -/
def fdOf (K : Fr) (p : Str × Option Str) : FuncData := match K.lookup (He.fAd K p) with
  | some ⟨_, _, .func fd, _⟩ => fd
  | _ => default
theorem fdOf_ok {K : Fr} {p : Str × Option Str} {x q : Str} {ps : Arguments} {b : List Stmt} {sc : Scope} {dv : List V} {kw : List (Str × V)} (h : ∃ fd, FunD K x q ps b sc dv kw (He.fAd K p) fd) : FunD K x q ps b sc dv kw (He.fAd K p) (fdOf K p) := by
  obtain ⟨fd, F⟩ := h
  obtain ⟨oc, od, dV, kV, doc, pm, an, cdv, ct, osl, e, lk, _⟩ := F.ex
  have : fdOf K p = fd := by unfold fdOf; rw [lk]
  rw [this]
  exact F
abbrev Ob : Type := Bool × List He.FnW
def obB (fs : List (Fr → Bool)) (fn : List He.DefD) (K : Fr) : Ob := (fs.all (fun f => f K) && fn.all fun d => d.ok K, fn.map fun d => He.fnW K d.at_)
def vlB (fn : List He.DefD) : Ob := (true, fn.map He.DefD.val)
def obBG (n : Nat) (fs : List (Fr → Bool)) (fn : List He.DefD) (g : Addr → Option Obj) : Ob := obB fs fn (He.frG g (He.asD g n))
def hkB (n : Nat) (fs : List (Fr → Bool)) (fn : List He.DefD) : PySem.W.Hook :=
  { α := Ob, obs := fun z => obBG n fs fn z.heap.get?, val := fun _ => vlB fn, says := fun _ hp => ∃ K : Fr, K.In hp ∧ obB fs fn K = vlB fn, of := fun _ _ q => ⟨_, He.frG_in, q⟩,
    keeps := fun _ _ _ ⟨K, i, c⟩ k => ⟨K, PySem.W.Frag.In.keeps i k, c⟩ }
theorem obBG_eq {n : Nat} {fs : List (Fr → Bool)} {fn : List He.DefD} {g : Addr → Option Obj} {s : Shared} (h : ∀ a, g a = s.heap.get? a) : obBG n fs fn g = (hkB n fs fn).obs s := by
  obtain rfl : g = s.heap.get? := funext h
  rfl
/-- all that is known of the written part -/
structure Known (fs : List (Fr → Bool)) (fn : List He.DefD) (K : Fr) (mg : Str → Option Value) : Prop where
  says : obB fs fn K = vlB fn
  hp : ∃ h : Heap, K.In h ∧ h.Ns mainGlobals mg
section
variable {fs : List (Fr → Bool)} {fn : List He.DefD} {K : Fr} {mg : Str → Option Value}
theorem Known.parts (c : Known fs fn K mg) : (∀ f ∈ fs, f K = true) ∧ (∀ d ∈ fn, d.ok K = true) ∧ fn.map (fun d => He.fnW K d.at_) = fn.map He.DefD.val := by
  obtain ⟨h1, h2⟩ := Prod.mk.inj c.says
  obtain ⟨h3, h4⟩ := Bool.and_eq_true_iff.mp h1
  exact ⟨List.all_eq_true.mp h3, List.all_eq_true.mp h4, h2⟩
theorem Known.fact (c : Known fs fn K mg) (i : Nat) {f : Fr → Bool} (h : fs[i]? = some f := by rfl) : f K = true := c.parts.1 f (List.mem_of_getElem? h)
theorem Known.dfn (c : Known fs fn K mg) (i : Nat) {d : He.DefD} (h : fn[i]? = some d := by rfl) : FunD K d.name d.qual d.params d.body d.scope (d.dvs K) (d.kws K) (He.fAd K d.at_) (fdOf K d.at_) := by
  obtain ⟨_, h4, h2⟩ := c.parts
  have e := congrArg (fun l => l[i]?) h2
  simp only [List.getElem?_map, h, Option.map_some, Option.some.injEq] at e
  exact fdOf_ok (He.DefD.funD e (h4 d (List.mem_of_getElem? h)))
theorem Known.tail {f : Fr → Bool} (c : Known (f :: fs) fn K mg) : Known fs fn K mg := by
  obtain ⟨h1, h2⟩ := Prod.mk.inj c.says
  refine ⟨?_, c.hp⟩
  unfold obB vlB
  rw [h2]
  have h3 : ((f :: fs).all (fun f => f K) && fn.all fun d => d.ok K) = true := h1
  rw [List.all_cons, Bool.and_assoc] at h3
  rw [(Bool.and_eq_true_iff.mp h3).2]
abbrev fGlo (x : Str) : Fr → Bool := fun K => (He.Fa.glo x).ok K
abbrev fFree (x : Str) : Fr → Bool := fun K => (He.Fa.free x).ok K
abbrev fInt (x : Str) (i : Int) : Fr → Bool := fun K => (He.Fa.int x i).ok K
abbrev fStr (x z : Str) : Fr → Bool := fun K => (He.Fa.str x z).ok K
abbrev fCls (x : Str) : Fr → Bool := fun K => (He.Fa.cls x).ok K
abbrev fNoat (x f : Str) : Fr → Bool := fun K => (He.Fa.noat x f).ok K
abbrev fMeth (x m : Str) : Fr → Bool := fun K => (He.Fa.meth x m).ok K
abbrev fMkr (x : Str) : Fr → Bool := fun K => (He.Fa.mkr x).ok K
theorem Known.glo (c : Known fs fn K mg) (i : Nat) {x : Str} (h : fs[i]? = some (fGlo x) := by rfl) : mg x = some (.ref (He.ga K x)) := by
  obtain ⟨hp, X, G⟩ := c.hp
  exact He.glo_ok X G (c.fact i h)
theorem Known.free (c : Known fs fn K mg) (i : Nat) {x : Str} (h : fs[i]? = some (fFree x) := by rfl) : mg x = none := by
  obtain ⟨hp, X, G⟩ := c.hp
  exact He.free_ok X G (c.fact i h)
theorem Known.int (c : Known fs fn K mg) (i : Nat) {x : Str} {j : Int} (h : fs[i]? = some (fInt x j) := by rfl) : ∃ t, mg x = some (.int j t) := by
  obtain ⟨hp, X, G⟩ := c.hp
  exact He.int_ok X G (c.fact i h)
theorem Known.str (c : Known fs fn K mg) (i : Nat) {x z : Str} (h : fs[i]? = some (fStr x z) := by rfl) : ∃ t, mg x = some (.str z t) := by
  obtain ⟨hp, X, G⟩ := c.hp
  exact He.str_ok X G (c.fact i h)
theorem Known.cls (c : Known fs fn K mg) (i : Nat) {x : Str} (h : fs[i]? = some (fCls x) := by rfl) : Cls K (He.ga K x) := He.cls_ok (c.fact i h)
theorem Known.noat (c : Known fs fn K mg) (i : Nat) {x f : Str} (h : fs[i]? = some (fNoat x f) := by rfl) : NoAttr K (He.ga K x) f := He.noat_ok (c.fact i h)
theorem Known.meth (c : Known fs fn K mg) (i : Nat) {x m : Str} (h : fs[i]? = some (fMeth x m) := by rfl) : Meth K (He.ga K x) m (He.ma K (He.ga K x) m) := He.meth_ok (c.fact i h)
theorem Known.mkr (c : Known fs fn K mg) (i : Nat) {x : Str} (h : fs[i]? = some (fMkr x) := by rfl) : Mk K (He.ga K x) (He.ma K (He.ga K x) "__init__") := He.mkr_ok (c.fact i h)
end
/-! ### own exceptions -/
def exShape (C : Addr) : Obj → Bool
  | ⟨.type "type", _, .cls ⟨_, _, .ref C' :: bm, _, _, true, _, _, _, _, false⟩, ⟨[_, _, _, _, some (.builtin n), _]⟩⟩ => C' == C && (n == "ValueError.__new__" && PySem.HandSPX.refsVE bm)
  | _ => false
theorem exShape_ok {C : Addr} {o : Obj} (h : exShape C o = true) : ∃ nm q N bs bm sn sub ab col dd k0 k1 k2 k3 k5, o = excClassObj nm q C N bs bm true sn sub ab col dd k0 k1 k2 k3 k5 "ValueError.__new__" ∧ PySem.HandSPX.refsVE bm = true := by
  unfold exShape at h
  split at h
  · simp only [Bool.and_eq_true, beq_iff_eq] at h
    obtain ⟨rfl, rfl, h⟩ := h
    exact ⟨_, _, _, _, _, _, _, _, _, _, _, _, _, _, _, rfl, h⟩
  · cases h
def exB (K : Fr) (C : Addr) : Bool := (match K.lookup C with | some o => exShape C o | none => false) && (He.eqO (PySem.W.findIn K (.ref C) "__setattr__") (some (some (.builtin "object.__setattr__"))) &&
  (decide (PySem.W.subIn K (.ref C) (.type "BaseException") = some true) && (decide (PySem.W.typeIn K (.ref C) = some (.type "type")) && PySem.W.keepIn K (.ref C))))
theorem exB_ok {K : Fr} {C : Addr} (h : exB K C = true) : OexC K C := by
  unfold exB at h
  simp only [Bool.and_eq_true, decide_eq_true_eq] at h
  obtain ⟨h1, h2, h3, h4, h5⟩ := h
  refine ⟨?_, He.eqO_ok h2, h3, h4, h5⟩
  cases q : K.lookup C with
  | none => rw [q] at h1; cases h1
  | some o =>
    rw [q] at h1
    obtain ⟨nm, qn, N, bs, bm, sn, sub, ab, col, dd, k0, k1, k2, k3, k5, e, r⟩ := exShape_ok h1
    exact ⟨nm, qn, N, bs, bm, sn, sub, ab, col, dd, k0, k1, k2, k3, k5, by rw [e], r⟩
/-- the class x is an exception of one's own whose __init__ is the class b's -/
def fExc (x b : Str) : Fr → Bool := fun K => exB K (He.ga K x) && (He.eqO (PySem.W.findIn K (.ref (He.ga K x)) "__init__") (some (some (.ref (He.ma K (He.ga K b) "__init__")))) &&
  (decide (PySem.W.typeIn K (.ref (He.ma K (He.ga K b) "__init__")) = some (.type "function")) && He.eqO (PySem.W.findIn K (.ref (He.ga K x)) "value") (some none)))
theorem Known.exc {fs : List (Fr → Bool)} {fn : List He.DefD} {K : Fr} {mg : Str → Option Value} (c : Known fs fn K mg) (i : Nat) {x b : Str} (g : mg x = some (.ref (He.ga K x))) (h : fs[i]? = some (fExc x b) := by rfl) : ExT K mg x (He.ga K x) (He.ma K (He.ga K b) "__init__") := by
  have q := c.fact i h
  unfold fExc at q
  simp only [Bool.and_eq_true, decide_eq_true_eq] at q
  obtain ⟨h1, h2, h3, h4⟩ := q
  exact ⟨g, exB_ok h1, He.eqO_ok h2, h3, He.eqO_ok h4⟩
/-! ### defs -/
section
variable {P : Program} {w : World} {K : Fr} {mg : Str → Option Value} {base : Heap} {k : Nat} {f : Addr} {fd : FuncData} {ps : List Str} {sp : Sp}
theorem okGF {x qual : Str} {prs : Arguments} {bd : List Stmt} {sc : Scope} {dv : List V} {kw : List (Str × V)} {N : List Str} (F : FunD K x qual prs bd sc dv kw f fd) (S : FnScope N ps sc) (len : ∀ vs H Q E, sp vs H Q E → vs.length = ps.length)
    (body : ∀ (cdv : Value) (A : Around) (outer : List Env) (s : Shared) (H : Hp) (vs : List V) (Q : VK) (E : XK), A.guards = some [] → Room k (A.deeper (PyProof.Rows.envOfC qual sc s.heap.objs.size f cdv)) → sp vs H Q E →
      ∃ t, PSs (cxOf (L2.CX P w) P w K mg base N qual sc f cdv A outer s H E) bd t ∧ t { nx := fun _ H' => Q .non H', rt := Q } (L2.start N vs) H) : FnG P w K mg base (k + 1) f fd ps sp := by
  obtain ⟨oc, od, dV, kV, doc, pm, an, cdv, ct, osl, rfl, lk, hcd, _, _⟩ := F.ex
  exact fnG_at lk hcd S len body
abbrev cxF (P : Program) (w : World) (K : Fr) (mg : Str → Option Value) (base : Heap) (N : List Str) (qual : Str) (sc : Scope) (f : Addr) (cdv : Value) (A : Around) (outer : List Env) (s : Shared) (H : Hp) (E : XK) : Cx := cxOf (L2.CX P w) P w K mg base N qual sc f cdv A outer s H E
/-- THE RULE for a def -/
theorem okF {x qual : Str} {prs : Arguments} {bd : List Stmt} {sc : Scope} {dv : List V} {kw : List (Str × V)} {N : List Str} {ct : CT} {wb : WS} (F : FunD K x qual prs bd sc dv kw f fd) (S : FnScope N ps sc)
    (hb : ∀ (cdv : Value) (A : Around) (outer : List Env) (s : Shared) (H : Hp) (E : XK), (cxF P w K mg base N qual sc f cdv A outer s H E).A.guards = some [] → Room k (cxF P w K mg base N qual sc f cdv A outer s H E).A → Takes (cxF P w K mg base N qual sc f cdv A outer s H E) (Wx E) →
      PassesOwn (model P w) (cxF P w K mg base N qual sc f cdv A outer s H E).A (cxF P w K mg base N qual sc f cdv A outer s H E).env (cxF P w K mg base N qual sc f cdv A outer s H E).xe → DSs (cxF P w K mg base N qual sc f cdv A outer s H E) (Wx E) bd wb)
    (hc : ∀ ds s Kd Kx, ds.length = ps.length → ct ds s Kd Kx → wb (endsOf Kd Kx) ⟨startD N.length ds, s⟩) : DFn P w K mg base (k + 1) f fd ps ct := by
  refine okGF F S (fun vs H Q E h => h.1) fun cdv A outer s H vs Q E hG hr h => ⟨_, hb cdv A outer s H E hG hr (takes_of rfl rfl rfl rfl) PassesOwn.leaving, ?_⟩
  obtain ⟨hl, ds, st0, Kd, Kx, l, R, h, q, qx⟩ := h
  have hN : ps.length ≤ N.length := by have := congrArg List.length S.pre; rw [List.length_take] at this; omega
  refine ⟨_, endsOf Kd Kx, start_env l R (by omega), hc ds st0 Kd Kx (by rw [l.length, hl]) h, ?_⟩
  exact ⟨fun g σ H' k s e => q _ g.st _ H' k s e.sto .non, fun d g v H' k s e r => q d g.st v H' k s e r, fun g σ H' k _ _ => k.elim, fun g σ H' k _ _ => k.elim, fun C d g σ dx H' k s e r => qx C d g.st dx H' k s e.sto r⟩
end
end DL

end SDLH

section SDLE
set_option Elab.async false
set_option linter.all false
set_option maxRecDepth 100000
namespace DL
open PySem L2
section
variable {X : Cx} {W : WX} {a b c e : Expr} {wa wb wc we : WE} {pos : Pos}
/-! ### -x -/
def oNeg : WO1 := fun x g K => asInt x fun i => K (.int (-i)) g
theorem so_neg : SO1 (rU fun i => .int (-i)) oNeg := fun {a x g σ H K Q} E r w U => by
  obtain ⟨i, rfl, w⟩ := asInt_ok w
  cases r
  exact ⟨i, rfl, U _ g _ H w Step.refl E (.int _)⟩
theorem de_neg (ha : DE X W a wa) : DE X W (.UnaryOp .USub a pos) (wOp1 oNeg wa) := de_un un_neg so_neg ha
/-! ### x, y = a, b -/
def wPar (i j : Nat) (wa : WA) : WS := fun K g => wa g (fun ds g1 => arg2 ds fun x y => K.nx ⟨setS (setS g1.sl i x) j y, g1.st⟩) K.ex
theorem ds_par (i j : Nat) {x y : Str} {px py pt : Pos} {kt k2 pt2} {w : WA} (hc : X.calm = true) (hN : X.N.Nodup) (ha : DA X W [a, b] w) (hi : X.N[i]? = some x := by rfl) (hj : X.N[j]? = some y := by rfl) (hij : i ≠ j := by decide)
    (hx : X.env.scope.names.lookup x = some .local := by rfl) (hy : X.env.scope.names.lookup y = some .local := by rfl)
    (hw : swappedStores [.Tuple [.Name x px, .Name y py] kt pt] (.Tuple [a, b] k2 pt2) X.env = pure (some [x, y]) := by rfl)
    (hs : swapsWithSole [.Tuple [.Name x px, .Name y py] kt pt] (.Tuple [a, b] k2 pt2) pos.line X.env = pure false := by rfl) :
    DS X W (.Assign [.Tuple [.Name x px, .Name y py] kt pt] (.Tuple [a, b] k2 pt2) pos) (wPar i j w) := (ps_par hc hN hi hj hij hx hy ha hw hs).imp fun D σ H ⟨g, K, E, h, U⟩ => by
  refine ⟨g, _, K.ex, E, h, fun ds g1 vs H1 k1 s1 E1 l1 => ?_, U.ex.x σ⟩
  obtain ⟨d1, d2, rfl, k1⟩ := arg2_ok k1
  obtain ⟨v1, v2, rfl, r1, r2⟩ := repL_2 l1
  exact ⟨v1, v2, rfl, U.nx _ _ H1 k1 s1 ((E1.set (i := i) r1).set (i := j) r2)⟩
/-! ### f'..' -/
def oFmt : WO1 := fun x g K => match x with
  | .str y => y.length ≤ sizeLine ∧ K (.str y) g
  | .int i => i.natAbs.log2 < 1920 ∧ K (.str (toString i)) g
  | _ => False
theorem de_fmt (h : DE X W e we) : DE X W (.FormattedValue e (-1) none pos) (wOp1 oFmt we) := (pe_fmt h).imp fun σ H Q ⟨g, K, Xd, E, h, U, UX⟩ => by
  refine ⟨g, _, Xd, E, h, fun d g1 v H1 k1 s1 E1 r1 => ?_, UX⟩
  cases d with
  | str y => cases r1; exact .inl ⟨y, rfl, k1.1, U _ g1 _ H1 k1.2 s1 E1 (.str _)⟩
  | int i => cases r1; exact .inr ⟨i, rfl, k1.1, U _ g1 _ H1 k1.2 s1 E1 (.str _)⟩
  | _ => exact k1.elim
inductive DJ (X : Cx) (W : WX) : List Expr → List WE → Prop where
  | nil : DJ X W [] []
  | cons {e : Expr} {w : WE} {es : List Expr} {ws : List WE} (h : DE X W e w) (r : DJ X W es ws) : DJ X W (e :: es) (w :: ws)
theorem DJ.pj {es : List Expr} {ws : List WE} (h : DJ X W es ws) : PJ X es (ws.map (liftE W)) := by
  induction h with
  | nil => exact .nil
  | cons h _ ih => exact .cons h ih
def wJs : List WE → Str → G → (Str → G → Prop) → XD → Prop
  | [], acc, g, K, _ => K acc g
  | w :: ws, acc, g, K, X => w g (fun d g1 => asStr d fun y => (acc ++ y).length ≤ sizeLine ∧ wJs ws (acc ++ y) g1 K X) X
theorem js_ok {Q : Str → Hp → Prop} {σ : L2.St} {Xd : XD} {K : Str → G → Prop} : ∀ {ws : List WE} {acc : Str} {g : G} {H : Hp}, EnvRep g σ H → wJs ws acc g K Xd → (∀ y g1 H1, K y g1 → Step g.st H g1.st H1 → EnvRep g1 σ H1 → Q y H1) → UpX W σ g.st H Xd → tJs (ws.map (liftE W)) acc σ H Q
  | [], acc, g, H, E, k, q, _ => q acc g H k Step.refl E
  | w :: ws, acc, g, H, E, k, q, UX => by
    refine ⟨g, _, Xd, E, k, fun d g1 v H1 k1 s1 E1 r1 => ?_, UX⟩
    obtain ⟨y, rfl, hz, k2⟩ := asStr_ok k1
    cases r1
    exact ⟨y, rfl, hz, js_ok E1 k2 (fun z g2 H2 k3 s3 E3 => q z g2 H2 k3 (s1.trans s3) E3) (UX.on s1)⟩
def wJoin (ws : List WE) : WE := fun g K X => wJs ws Str.empty g (fun y g1 => K (.str y) g1) X
theorem de_joined {v1 v2 : Expr} {rest : List Expr} {ws : List WE} (h : DJ X W (v1 :: v2 :: rest) ws) : DE X W (.JoinedStr (v1 :: v2 :: rest) pos) (wJoin ws) := (pe_joined h.pj).imp fun σ H Q ⟨g, K, Xd, E, h, U, UX⟩ =>
  js_ok E h (fun y g1 H1 k s E1 => U (.str y) g1 _ H1 k s E1 (.str y)) UX
theorem de_joined1 (h : DE X W e we) : DE X W (.JoinedStr [e] pos) we := pe_joined1 h
/-! ### xs[::-1] -/
def wRev (b : Bool) (we : WE) : WE := fun g K X => we g (fun d g1 => opt (lseqAt g1.st d) fun xs => newL b xs.reverse g1 K) X
theorem de_rev (b : Bool) {k : Nat} {p1 p2 p3 : Pos} (h : DE X W e we) : DE X W (.Subscript e (.Slice none none (some (.UnaryOp .USub (.Constant (.int 1) k p1) p2)) p3) pos) (wRev b we) := (pe_revL h).imp fun σ H Q ⟨g, K, Xd, E, h, U, UX⟩ => by
  refine ⟨g, _, Xd, E, h, fun d g1 v H1 k1 s1 E1 r1 => ?_, UX⟩
  obtain ⟨xs, q, k2⟩ := opt_ok k1
  obtain ⟨p, vs, rfl, hs, l⟩ := lseqAt_ok (K := X.K) E1.sto r1 q
  exact ⟨p, vs, rfl, hs, new_L E1 (RepL.reverse l) k2 (U.on s1)⟩
end
/-! ### y = [.. for ..] -/
section
variable {X : Cx} {W : WX} {tg iter elt : Expr} {ifs : List Expr} {pos spos py : Pos} {wi : WI} {wg : WG} {wt : WT} {we : WE}
theorem ds_setLc (b : Bool) (i : Nat) {y : Str} {scope : Scope} {own : List (Str × Nat)} (hc : X.calm = true) (hN : X.N.Nodup) (ok : BlkOk X.N X.env.scope scope own) (hi : DI X W tg iter wi)
    (hg : ∀ (s : Shared) (H : Hp) (C : Addr) (cl : List (Str × Addr)) (fp : List Addr), DG (X.blk s H scope (PySem.compEnvC scope cl C X.env) fp) (own.map (·.2)) tg wg)
    (ht : ∀ (s : Shared) (H : Hp) (C : Addr) (cl : List (Str × Addr)) (fp : List Addr), DTs (X.blk s H scope (PySem.compEnvC scope cl C X.env) fp) W0 ifs wt)
    (he : ∀ (s : Shared) (H : Hp) (C : Addr) (cl : List (Str × Addr)) (fp : List Addr), DE (X.blk s H scope (PySem.compEnvC scope cl C X.env) fp) W0 elt we)
    (hy : X.N[i]? = some y := by rfl) (hyl : X.env.scope.names.lookup y = some .local := by rfl) (hk : X.env.scope.kind = .function := by rfl) (hl : (py.line == pos.line) = true := by rfl)
    (ha : (scope.names.any fun (n, k) => n == y && (k == .local || k == .cell)) = false := by decide +kernel) (hs : ∀ x, foldedSetIterable iter X.env x = pure x := by intro _; rfl) :
    DS X W (.Assign [.Name y py] (.ListComp elt [⟨tg, iter, ifs, 0⟩] scope pos) spos) (wSet i (wLc b (own.map (·.2)) wi wg wt we)) :=
  (ps_setLc (own := own) hc hN hy hyl (sw_true hk hyl hl ha) hi ok hg ht he hs).imp fun D σ H ⟨g, K, E, h, U⟩ =>
    lc_ok (b := b) (W := W) ⟨g, _, K.ex, E, h, fun d g1 v H1 k s1 E1 r1 => U.nx _ _ H1 k s1 (E1.set i r1), U.ex.x σ⟩
end
/-! ### {k: v for ..} -/
def dcD (ok : Sto → Prop) (wg : WG) (wt : WT) (wk wv : WE) (sl : List (Option D)) (p : Addr) (K : List (Key × D) → Sto → Prop) : List D → List (Key × D) → Sto → Prop
  | [], acc, st => ok st ∧ st p = some (.dic acc) ∧ K acc st
  | x :: xs, acc, st => ok st ∧ wg x ⟨sl, st⟩ fun g2 => wt g2 (fun b g3 => match b with
    | true => wk g3 (fun y g4 => wv g4 (fun d g5 => g5.st p = some (.dic acc) ∧ opt (keyD y) fun k => acc.length < sizeLine ∧ dcD ok wg wt wk wv sl p K xs (putKD acc k d) (put g5.st p (.dic (putKD acc k d)))) noX) noX
    | false => dcD ok wg wt wk wv sl p K xs acc g3.st) noX
def dcEnd (b : Bool) (K : KD) (sl : List (Option D)) (p : Addr) (acc : List (Key × D)) (st : Sto) : Prop := match b with
  | true => K (.ref p) ⟨sl, st⟩
  | false => K (.dic acc) ⟨sl, drop st p⟩
def wDc (b : Bool) (vs : List Nat) (wi : WI) (wg : WG) (wt : WT) (wk wv : WE) : WE := fun g K X => wi g (fun items ok g1 => ∀ p, g1.st p = none →
  dcD ok wg wt wk wv (wipeS g1.sl vs) p (dcEnd b K g1.sl p) items [] (put g1.st p (.dic []))) X
theorem dcD_st {ok : Sto → Prop} {wg : WG} {wt : WT} {wk wv : WE} {sl : List (Option D)} {p : Addr} {K : List (Key × D) → Sto → Prop} {xs : List D} {acc : List (Key × D)} {st : Sto} (h : dcD ok wg wt wk wv sl p K xs acc st) : ok st := by
  cases xs with
  | nil => exact h.1
  | cons x xs => exact h.1
section
variable {X : Cx} {W : WX} {tg iter kx vx : Expr} {ifs : List Expr} {pos : Pos} {vs : List Nat} {wi : WI} {wg : WG} {wt : WT} {wk wv : WE}
theorem RepK.length' {H : Hp} {st : Sto} : ∀ {ds : List (Key × D)} {vs : List (Key × V)}, RepK H st ds vs → ds.length = vs.length
  | _, _, .nil => rfl
  | _, _, .cons _ l => by rw [List.length_cons, List.length_cons, RepK.length' l]
theorem dc_ok {b : Bool} {σ : L2.St} {H : Hp} {Q : VK} (h : liftE W (wDc b vs wi wg wt wk wv) σ H Q) : tDc (liftI W wi) (liftG vs wg) (liftT W0 wt) (liftE W0 wk) (liftE W0 wv) vs σ H Q := by
  obtain ⟨g, K, Xd, E, h, U, UX⟩ := h
  refine ⟨g, _, Xd, E, h, fun items ok g1 H1 J src k s1 E1 J1 S1 p hp => ?_, UX⟩
  have k1 := k p (E1.sto.free hp)
  have sn : Step g1.st H1 (put g1.st p (.dic [])) (upd H1 p (.dK [])) := Step.newc hp
  have En : EnvRep ⟨g1.sl, put g1.st p (.dic [])⟩ σ (upd H1 p (.dK [])) := E1.step sn (E1.sto.newc hp ⟨[], upd_same, .nil⟩)
  refine ⟨fun i m H2 => m = items.length - i ∧ ∃ acc st, EnvRep ⟨g1.sl, st⟩ σ H2 ∧ Step g.st H st H2 ∧ src st H2 ∧ dcD ok wg wt wk wv (wipeS g1.sl vs) p (dcEnd b K g1.sl p) (items.drop i) acc st, ⟨items.length, by simp, [], _, En, s1.trans sn, J1.keep S1 sn, by simpa using k1⟩, ?_⟩
  rintro i m H2 ⟨rfl, acc, st, E2, s2, S2, k2⟩
  have hok := dcD_st k2
  rcases Nat.lt_or_ge i items.length with hlt | hge
  · refine .inr ⟨J1.go S2 hok E2.sto hlt, fun H' => ∃ acc st', EnvRep ⟨g1.sl, st'⟩ σ H' ∧ Step g.st H st' H' ∧ src st' H' ∧ dcD ok wg wt wk wv (wipeS g1.sl vs) p (dcEnd b K g1.sl p) (items.drop (i + 1)) acc st', fun H' q => ⟨items.length - (i + 1), by omega, rfl, q⟩, fun x H' hy => ?_⟩
    have hd : items[i]? = some items[i] := by simp [hlt]
    rw [List.drop_eq_getElem_cons hlt] at k2
    obtain ⟨s3, r3, rx⟩ := J1.yld S2 hok E2.sto hy _ hd
    have E3 : EnvRep ⟨g1.sl, st⟩ σ H' := E2.step s3 r3
    refine ⟨⟨wipeS g1.sl vs, st⟩, _, _, E3.wipe vs, rx, k2.2, fun g4 σ4 H4 k4 s4 E4 w4 => ⟨?_, g4, _, noX, E4, k4, fun c g5 H5 k5 s5 E5 => ?_, upX0⟩⟩
    · rw [w4]; exact wipe_sub fun _ h => h
    have s35 : Step st H2 g5.st H5 := s3.trans (s4.trans s5)
    cases c with
    | false =>
      exact iteF ⟨acc, g5.st, E2.step s35 E5.sto, s2.trans s35, J1.keep S2 s35, k5⟩
    | true =>
      refine iteT ⟨g5, _, noX, E5, k5, fun y g6 u H6 k6 s6 E6 r6 => ⟨g6, _, noX, E6, k6, fun d g7 z H7 k7 s7 E7 r7 => ?_, upX0⟩, upX0⟩
      obtain ⟨hp7, k7⟩ := k7
      obtain ⟨ky, ek, hl7, k8⟩ := opt_ok k7
      obtain ⟨us, h7, l7⟩ := E7.sto p _ hp7
      have s37 := s35.trans (s6.trans s7)
      have sw : Step g7.st H7 (put g7.st p (.dic (putKD acc ky d))) (upd H7 p (.dK (putK us ky z))) := Step.wr hp7
      have rw7 : StoRep (upd H7 p (.dK (putK us ky z))) (put g7.st p (.dic (putKD acc ky d))) := E7.sto.wr hp7 ⟨_, upd_same, (RepK.put r7 l7).step sw⟩
      have s38 := s37.trans sw
      refine ⟨us, ky, keyD_ok (r6.step s7) ek, h7, by rw [← l7.length']; exact hl7, _, _, E2.step s38 rw7, s2.trans s38, J1.keep S2 s38, k8⟩
  · rw [List.drop_eq_nil_of_le hge] at k2
    obtain ⟨_, hp2, k2⟩ := k2
    refine .inl ⟨J1.stop S2 hok E2.sto hge, ?_⟩
    cases b with
    | true => exact U (.ref p) _ _ H2 k2 s2 E2 (.ref p)
    | false =>
      obtain ⟨us, h6, l6⟩ := E2.sto p _ hp2
      exact U (.dic acc) ⟨g1.sl, drop st p⟩ _ H2 k2 (s2.trans Step.frz) (E2.step Step.frz E2.sto.frz) (.dic drop_same h6 (l6.step Step.frz))
theorem de_dc (b : Bool) {scope : Scope} {own : List (Str × Nat)} (hc : X.calm = true) (hN : X.N.Nodup) (ok : BlkOk X.N X.env.scope scope own) (hi : DI X W tg iter wi)
    (hg : ∀ (s : Shared) (H : Hp) (C : Addr) (cl : List (Str × Addr)) (fp : List Addr), DG (X.blk s H scope (PySem.compEnvC scope cl C X.env) fp) (own.map (·.2)) tg wg)
    (ht : ∀ (s : Shared) (H : Hp) (C : Addr) (cl : List (Str × Addr)) (fp : List Addr), DTs (X.blk s H scope (PySem.compEnvC scope cl C X.env) fp) W0 ifs wt)
    (hk : ∀ (s : Shared) (H : Hp) (C : Addr) (cl : List (Str × Addr)) (fp : List Addr), DE (X.blk s H scope (PySem.compEnvC scope cl C X.env) fp) W0 kx wk)
    (he : ∀ (s : Shared) (H : Hp) (C : Addr) (cl : List (Str × Addr)) (fp : List Addr), DE (X.blk s H scope (PySem.compEnvC scope cl C X.env) fp) W0 vx wv)
    (hs : ∀ x, foldedSetIterable iter X.env x = pure x := by intro _; rfl) :
    DE X W (.DictComp kx vx [⟨tg, iter, ifs, 0⟩] scope pos) (wDc b (own.map (·.2)) wi wg wt wk wv) :=
  (pe_dc (own := own) hc hN hi ok hg ht hk he hs).imp fun _ _ _ h => dc_ok h
end
end DL

end SDLE

section SDLT
set_option Elab.async false
set_option linter.all false
set_option maxRecDepth 100000
namespace DL
open PySem PySem.Spec PyProof.Rows L2
/-! ### isinstance of an error that has a dict -/
section
variable {prog : Program} {w : World} {A : Around} {E : Value → Shared → Prop} {s : Shared} {K : Fr} {x D : Addr} {ox : Obj} {od : Option Obj}
theorem classBind (C : ExcC K D) : PySem.W.findObj K D od "__class__" = some (.bind (.builtin "getset_descriptor.__get__") (.builtin "object.__class__")) := by
  obtain ⟨cd, hc, _⟩ := PySem.W.any_some C.hd
  unfold PySem.W.findObj; rw [hc, Option.bind_some, C.ha, Option.bind_some]
  simp [C.hn, C.ht]
theorem classOf {Q : Option Value → Shared → Prop} (C : ExcC K D) (X : K.In s.heap) (I : PySem.W.InstAt s.heap x ox D od) (h : Q (some (.ref D)) { s with toks := s.toks + 1 }) : wpAny (model prog w) A (getAttr? (.ref x) "__class__") Q E s := by
  have fb := classBind (od := od) C
  obtain ⟨hp, gs, dr, tk, os⟩ := s
  have lt := I.type (M := model prog w); have la := PySem.W.looks_findIn (M := model prog w) X C.hg; have lg := PySem.W.looks_findIn (M := model prog w) X C.hk
  have lf := PySem.W.looks_find (M := model prog w) X I fb
  have ls : PySem.W.Looks (model prog w) hp (isInstance (.ref x) (.type "BaseException")) true := lt.andThen (PySem.W.looks_subIn X C.hs)
  have n2 : (Value.builtin "BaseException.__getattribute__" == Value.builtin "object.__getattribute__") = false := by decide +kernel
  have n1 : (onTheHeap (Value.ref D) && Value.builtin "BaseException.__getattribute__" == Value.builtin "object.__getattribute__") = false := by rw [n2] <;> rfl
  have n0 : (false && onTheHeap (Value.builtin "BaseException.__getattribute__")) = false := by rfl
  unfold getAttr? getAttrBy? getAttrBy; refine wpAny_bind (wpAny_mkText (wpAny_bind (wpAny_attempt (wpAny_holding (wpAny_bind (lt.at (wpAny_bind (la.at ?_))))))))
  show wpAny _ _ (if (onTheHeap (Value.ref D) && Value.builtin "BaseException.__getattribute__" == Value.builtin "object.__getattribute__") = true then _ else _) _ _ _; rw [n1, if_neg Bool.false_ne_true]
  unfold getAttrByItsOwn hookBefore; refine wpAny_bind ?_; rw [if_pos (show onTheHeap (Value.ref D) = true by rfl)]; refine lg.at ?_
  refine wpAny_bind (wpAny_attempt (wpAny_holding ?_)); unfold callGetattribute; rw [n0, if_neg Bool.false_ne_true]
  unfold boundAndCalled; rw [PySem.F.excAttr_ValueError.ga.bind (.ref x)]; refine wpAny_bind (wpAny_pure ?_)
  show wpAny _ _ (call (.builtin "BaseException.__getattribute__") [.ref x, .str "__class__" tk]) _ _ ⟨hp, gs, dr, tk + 1, os⟩
  refine wpAny_call (codeAny_call_builtin PySem.F.excAttr_ValueError.ga.plain PySem.F.entry_bexc_ga (@PySem.W.check_slot (model prog w) _ _ ⟨hp, gs, dr, tk + 1, os⟩ "BaseException.__getattribute__" "BaseException" "__getattribute__" (.ref x) [.str "__class__" tk] [] _ (by decide +kernel) (by decide +kernel) ls (PySem.F.args_bexc_ga (.ref x) (.str "__class__" tk)) ?_))
  unfold Builtin.«object.__getattribute__»; refine wpAny_bind (wpAny_of_eq (a := ((Value.ref x : Value), [Value.str "__class__" tk])) (by first | rfl | (simp only [slotArgs]; rfl)) ?_)
  refine wpAny_bind (wpAny_pure (wpAny_bind (lt.at (wpAny_bind (lf.at ?_)))))
  show wpAny _ _ (holding [Value.builtin "object.__class__"] (call (.builtin "getset_descriptor.__get__") [.builtin "object.__class__", .ref x, .ref D]) >>= ret) _ _ ⟨hp, gs, dr, tk + 1, os⟩
  refine wpAny_bind (wpAny_holding (wpAny_call (PySem.W.class_get (s := ⟨hp, gs, dr, tk + 1, os⟩) (ox := ox) (od := od) X I C.hm (wpAny_pure ?_))))
  show wpAny _ _ (handedOut (.ref D)) _ _ ⟨hp, gs, dr, tk + 1, os⟩
  rw [PySem.W.handedOut_of (v := .ref D) rfl]; first | exact wpAny_pure (wpAny_pure h) | exact wpAny_pure h | exact wpAny_pure (wpAny_bind (wpAny_pure (wpAny_pure h)))
theorem kitD (C : ExcC K D) : PySem.W.KitX K (.ref x) (.ref D) (fun h => ∃ od, PySem.W.InstAt h x ox D od) := by
  refine ⟨fun _ _ _ ⟨_, I⟩ => I.type, fun M hp X _ => ?_, fun hp tp dd its n sl X htp => ?_, fun X ⟨_, I⟩ k => classOf C X I k⟩
  · obtain ⟨cd, hc, _⟩ := PySem.W.any_some C.hd
    unfold PySem.W.clsIn at hc; split at hc
    · rename_i ho; intro A' Q' E' s' k q
      unfold isType loadHead; exact wpAny_bind (wpAny_loadPart (k _ _ (X _ _ ho)) (wpAny_pure q))
    · cases hc
  · show (Value.ref D == Value.ref tp) = false
    rw [beq_eq_false_iff_ne]; intro z; cases z
    obtain ⟨cd, hc, _⟩ := PySem.W.any_some C.hd
    unfold PySem.W.clsIn at hc; split at hc
    · rename_i ho; have z := (X _ _ ho).symm.trans htp; cases z
    · cases hc
end
/-- all that an error class must say -/
structure XOk (K : Fr) (C : Addr) : Prop where
  f : XfC K C
  e : ExcC K C
  no : PySem.W.findIn K (.ref C) "value" = some none
def xoB (K : Fr) (C : Addr) : Bool := xfB K C && (He.eqO (PySem.W.findIn K (.ref C) "value") (some none) && (He.eqO (PySem.W.findIn K (.ref C) "__class__") (some (some (.builtin "object.__class__"))) &&
  (He.eqO (PySem.W.specialIn K (.builtin "object.__class__") "__get__") (some (some (.builtin "getset_descriptor.__get__"))) && (decide (PySem.W.takesIn K (.builtin "object.__class__") = some true) && decide (PySem.W.mroIn K C (.type "object") = some true)))))
theorem xoB_ok {K : Fr} {C : Addr} (h : xoB K C = true) : XOk K C := by
  unfold xoB at h
  simp only [Bool.and_eq_true, decide_eq_true_eq] at h
  obtain ⟨h1, h2, h3, h4, h5, h6⟩ := h
  have f := xfB_ok h1
  exact ⟨f, ⟨f.ga, f.gg, f.exC, f.hdC, He.eqO_ok h3, He.eqO_ok h4, h5, h6⟩, He.eqO_ok h2⟩
def fXo (x : Str) : Fr → Bool := fun K => xoB K (He.ga K x)
def fXm (x y : Str) (b : Bool) : Fr → Bool := fun K => decide (PySem.W.exmOne K (.ref (He.ga K x)) (.ref (He.ga K y)) = some b)
def fKit (x y : Str) (b : Bool) : Fr → Bool := fun K => decide (PySem.W.kitOne K (.ref (He.ga K x)) (.ref (He.ga K y)) = some b)
section
variable {fs : List (Fr → Bool)} {fn : List He.DefD} {K : Fr} {mg : Str → Option Value}
theorem Known.xo (c : Known fs fn K mg) (i : Nat) {x : Str} (h : fs[i]? = some (fXo x) := by rfl) : XOk K (He.ga K x) := xoB_ok (c.fact i h)
theorem Known.xm (c : Known fs fn K mg) (i : Nat) {x y : Str} {b : Bool} (h : fs[i]? = some (fXm x y b) := by rfl) : PySem.W.exmOne K (.ref (He.ga K x)) (.ref (He.ga K y)) = some b := of_decide_eq_true (c.fact i h)
theorem Known.kit (c : Known fs fn K mg) (i : Nat) {x y : Str} {b : Bool} (h : fs[i]? = some (fKit x y b) := by rfl) : PySem.W.kitOne K (.ref (He.ga K x)) (.ref (He.ga K y)) = some b := of_decide_eq_true (c.fact i h)
end
section
variable {X : Cx} {Y : WX} {a C dx : Addr} {oe : Obj} {pn : List (Addr × Obj)} {e : Expr} {es : List Expr} {we : WE} {wa : WA} {pos p : Pos}
/-- caught.value in the suite -/
def wXf (a C dx : Addr) (we : WE) : WE := fun g K Xd => we g (fun y g1 => ∃ d, y = .exc a C dx d ∧ K d g1) Xd
theorem de_xf (T : XOk X.K C) (hz : Zc (.ref C) (some dx) oe) (hf : ∃ vs, oe.data = .fields vs) (he : DE (X.suite a ((a, oe) :: pn)) Y e we) (hb : attributeBase e "value" X.env (eval e X.env) = eval e X.env := by rfl) :
    DE (X.suite a ((a, oe) :: pn)) Y (.Attribute e "value" pos) (wXf a C dx we) := (pe_xf T.f T.no hz hf he hb).imp fun σ H Q ⟨g, K, Xd, E, h, U, UX⟩ => by
  refine ⟨g, _, Xd, E, h, fun d g1 v H1 k1 s1 E1 r1 => ?_, UX⟩
  obtain ⟨d', rfl, k2⟩ := k1
  cases r1 with
  | exc n r q => exact ⟨rfl, rfl, dx, _, _, rfl, r, rfl, U d' g1 _ H1 k2 s1 E1 q⟩
/-- isinstance(caught, Y) in the suite -/
def oIsX (K : Fr) (a C dx : Addr) : WON := fun ds g Kd => arg2 ds fun y c => (∃ d, y = .exc a C dx d) ∧ match c with
  | .ref D => ∃ b, PySem.W.kitOne K (.ref C) (.ref D) = some b ∧ Kd (.bl b) g
  | .ty T => ∃ b, PySem.W.kitOne K (.ref C) (.type T) = some b ∧ Kd (.bl b) g
  | _ => False
theorem call_isX (C' : ExcC X.K C) (hz : Zc (.ref C) (some dx) oe) (hf : ∃ vs, oe.data = .fields vs) : CallR (X.suite a ((a, oe) :: pn)) (.builtin "isinstance") (fun xs H Q => ∃ (c : V) (cv : Value) (b : Bool) (v : V), xs = [.ref a, c] ∧ H dx = some (.xd [("value", v)]) ∧ (∀ u, RelV c u → u = cv) ∧ PySem.W.kitOne X.K (.ref C) cv = some b ∧ Q (.bl b) H) := by
  rintro pins s σ H xs us Q I r ⟨c, cv, b, v, rfl, hdx, hcv, q, k⟩
  obtain ⟨u1, u2, rfl, rx, rt⟩ : ∃ u1 u2, us = [u1, u2] ∧ RelV (.ref a) u1 ∧ RelV c u2 := by
    cases r with
    | cons rx rr => cases rr with
      | cons rt rr => cases rr; exact ⟨_, _, rfl, rx, rt⟩
  cases rx
  obtain rfl := hcv _ rt
  have hget := (I.pin (a, oe) (List.mem_append.mpr (.inl List.mem_cons_self))).1
  obtain ⟨vs, hv⟩ := hf
  have hx : ObjOk X.prog X.w H s.heap dx (.xd [("value", v)]) := I.hok dx _ hdx
  obtain ⟨mA, hns, _⟩ := hx
  obtain ⟨od, ho, _⟩ := lookIn_ns hns
  have J : PySem.W.InstAt s.heap a oe C (some od) := ⟨hget, hz.1, by unfold PySem.W.notCls; rw [hv] <;> rfl, by rw [hz.2]; exact ho⟩
  exact PySem.W.kia_one (kitD C') I.kIn ⟨_, J⟩ q (fun z => nomatch z) fun tk => ⟨.bl b, H, I.kept (t' := tk) fun _ _ z => z, rfl, k⟩
theorem son_isX {K : Fr} : SON (fun xs H Q => ∃ (c : V) (cv : Value) (b : Bool) (v : V), xs = [.ref a, c] ∧ H dx = some (.xd [("value", v)]) ∧ (∀ u, RelV c u → u = cv) ∧ PySem.W.kitOne K (.ref C) cv = some b ∧ Q (.bl b) H) (oIsX K a C dx) := fun {ds x g σ H Kd Q} E l w U => by
  obtain ⟨y, c, rfl, ⟨d, rfl⟩, w1⟩ := arg2_ok w
  obtain ⟨v1, v2, rfl, r1, r2⟩ := repL_2 l
  cases r1 with
  | exc n r q =>
    cases c with
    | ref D =>
      obtain ⟨b, h, k⟩ := w1
      cases r2
      exact ⟨.ref D, .ref D, b, _, rfl, r, fun u hu => hu, h, U _ g _ H k Step.refl E (.bl _)⟩
    | ty T =>
      obtain ⟨b, h, k⟩ := w1
      cases r2
      exact ⟨.ty T, .type T, b, _, rfl, r, fun u hu => hu, h, U _ g _ H k Step.refl E (.bl _)⟩
    | _ => exact w1.elim
/-- a class by its name, as a value -/
theorem de_cls {W : WX} {x : Str} {C : Addr} (hm : X.mg x = some (.ref C)) (hg : Gl X x := by rfl) (hd : (x == ("__debug__" : Str)) = false := by decide) : DE X W (.Name x pos) (wC (.ref C)) := de_c (v := .ref C) (pe_glob hg hm rfl hd) fun _ _ => .ref C
end
/-! ### try: .. except X as n: suite -/
section
variable {X : Cx} {W : WX} {x n : Str} {c : Value} {body suite : List Stmt} {b₀ : Stmt} {np pos pos' : Pos} {wb : WS} {ws : Addr → Addr → Addr → WS}
/-- the ends behind the suite: the name goes -/
def goneE (i : Nat) (K : EndsD) : EndsD := { nx := fun g => K.nx ⟨clrS g.sl i, g.st⟩, rt := K.rt, bk := fun g => K.bk ⟨clrS g.sl i, g.st⟩, ct := fun g => K.ct ⟨clrS g.sl i, g.st⟩, ex := noX }
def wTry (K0 : Fr) (c : Value) (i : Nat) (wb : WS) (ws : Addr → Addr → Addr → WS) : WS := fun K g => wb { K with ex := fun C d g1 => XOk K0 C ∧ ∃ b, PySem.W.exmOne K0 (.ref C) c = some b ∧
  (b = true → ∀ a dx, g1.st a = none → g1.st dx = none → ws a C dx (goneE i K) ⟨setS g1.sl i (.exc a C dx d), g1.st⟩) ∧ (b = false → K.ex C d g1) } g
theorem EnvRep.clr {g : G} {σ : L2.St} {H : Hp} (e : EnvRep g σ H) (i : Nat) : EnvRep ⟨clrS g.sl i, g.st⟩ (σ.set i none) H := e.wipe [i]
theorem ds_try (i : Nat) (hN : X.N.Nodup) (hc : Names X x c) (tk : Takes X W)
    (hb : ∀ (V : WX) (pn : List (Addr × Obj)) (xe : Value → Shared → Prop), Takes (X.tr pn xe) V → PassesOwn (model X.prog X.w) X.A X.env xe → DSs (X.tr pn xe) V body wb)
    (hsu : ∀ (a C dx : Addr) (oe : Obj) (pn : List (Addr × Obj)), XOk X.K C → Zc (.ref C) (some dx) oe → (∃ vs, oe.data = .fields vs) → DSs (X.suite a ((a, oe) :: pn)) W0 (b₀ :: suite) (ws a C dx))
    (hi : X.N[i]? = some n := by rfl) (hln : X.env.kindOf n = some .local := by rfl) (hs : X.stack = X.env :: X.outer := by rfl) (hf : X.env.frame = some X.env.locals := by rfl) :
    DS X W (.Try body [.ExceptHandler (some (.Name x np)) (some n) (b₀ :: suite) pos'] [] [] pos) (wTry X.K c i wb ws) := by
  refine (ps_try_as (ts := fun a cls d D σ H => ∃ C dx, cls = .ref C ∧ d = some dx ∧ XOk X.K C ∧ liftS W0 (ws a C dx) D σ H) hs hf hN hi hln hc tk (fun V pn xe h1 h2 => hb V pn xe h1 h2) fun a oe cls d pn hz hf => ?_).imp fun D σ H ⟨g, K, E, h, U⟩ => ?_
  · constructor
    rintro pins s σ H D I ⟨C, dx, rfl, rfl, xo, h⟩
    exact (hsu a C dx oe pn xo hz hf).run pins s σ H D I h
  · refine ⟨g, _, E, h, U.nx, U.rt, U.bk, U.ct, fun C d g1 σ1 dx H1 k1 s1 E1 r1 => ?_⟩
    obtain ⟨xo, b, e, k2, k3⟩ := k1
    refine ⟨b, e, fun hb a ha => ⟨C, dx, rfl, rfl, xo, ?_⟩, fun hb => U.ex C d g1 σ1 dx H1 (k3 hb) s1 E1 r1⟩
    obtain ⟨v, hx, rv⟩ := r1
    have nd : g1.st dx = none := by
      cases q : g1.st dx with
      | none => rfl
      | some cl =>
        have z := E1.sto dx cl q
        cases cl with
        | lst xs => obtain ⟨vs, h1, _⟩ := z; rw [hx] at h1; cases h1
        | dic xs => obtain ⟨vs, h1, _⟩ := z; rw [hx] at h1; cases h1
        | obj C' fs => obtain ⟨y, vs, h1, _⟩ := z; rw [hx] at h1; cases h1
        | dct xs => obtain ⟨vs, h1, _⟩ := z; rw [hx] at h1; cases h1
    refine ⟨⟨setS g1.sl i (.exc a C dx d), g1.st⟩, goneE i K, E1.set i (d := .exc a C dx d) (v := .ref a) (.exc nd hx rv), k2 hb a dx (E1.sto.free ha) nd, ?_⟩
    have U1 := U.on s1
    exact ⟨fun g2 σ2 H2 k s2 E2 => U1.nx _ _ H2 k s2 (E2.clr i), U1.rt, fun g2 σ2 H2 k s2 E2 => U1.bk _ _ H2 k s2 (E2.clr i), fun g2 σ2 H2 k s2 E2 => U1.ct _ _ H2 k s2 (E2.clr i), fun C d g2 σ2 dx2 H2 k _ _ _ => k.elim⟩
end
end DL

end SDLT

section SDLK
set_option Elab.async false
set_option linter.all false
set_option maxRecDepth 100000
namespace DL
open PySem L2
theorem _root_.L2.Room.units1 {k : Nat} {A : Around} (r : Room k A) : A.units + 1 < cLine := by have := r.un; omega
theorem _root_.L2.Room.units66 {k : Nat} {A : Around} (r : Room k A) : A.units + 66 < cLine := by have := r.un; omega
section
variable {X : Cx} {W : WX} {a b c e o : Expr} {es : List Expr} {wa wb wc we wo wi wv : WE} {wl : WA} {pos p : Pos}
/-! ### numbers -/
def DivOk (i j : Int) : Prop := CDiv i j ∨ CDivW i j
theorem op_fdivD : OpR X (binaryOp .FloorDiv) (rI DivOk fun i j => .int (i / j)) := fun pins s σ H x y v u Q I rx ry h => by
  obtain ⟨i, j, rfl, rfl, hc, q⟩ := h
  rcases hc with hc | hc
  · exact op_fdiv pins s σ H _ _ v u Q I rx ry ⟨i, j, rfl, rfl, hc, q⟩
  · exact op_fdivW pins s σ H _ _ v u Q I rx ry ⟨i, j, rfl, rfl, hc, q⟩
def ModOk (_ j : Int) : Prop := 0 < j
theorem op_modD : OpR X (binaryOp .Mod) (rI ModOk fun i j => .int (i % j)) := op_mod
/-! ### x * n, x a text -/
def mulS (x : Str) (n : Int) : Str := if n < 1 then Str.empty else if (n == 1 || x.length == 0) = true then x else ⟨(List.replicate n.toNat x.cps).foldl (· ++ ·) #[]⟩
theorem fold_size {x : Array Nat} : ∀ (n : Nat) (acc : Array Nat), ((List.replicate n x).foldl (· ++ ·) acc).size = acc.size + x.size * n
  | 0, acc => by simp
  | n + 1, acc => by rw [List.replicate_succ, List.foldl_cons, fold_size n, Array.size_append, Nat.mul_succ]; omega
theorem mulS_length {x : Str} {n : Nat} : (⟨(List.replicate n x.cps).foldl (· ++ ·) #[]⟩ : Str).length = x.length * n := by
  show ((List.replicate n x.cps).foldl (· ++ ·) #[]).size = x.cps.size * n
  rw [fold_size]; simp
def MulS (x : Str) (n : Int) : Prop := n < 1000000 ∧ -1000000 < n ∧ x.length * n.toNat ≤ sizeLine
def rMulS : R2 := fun x y H Q => ∃ i j, x = .str i ∧ y = .int j ∧ MulS i j ∧ Q (.str (mulS i j)) H
theorem op_strmul : OpR X (binaryOp .Mult) rMulS := fun pins s σ H x y v u Q I rx ry h => by
  obtain ⟨i, j, rfl, rfl, ⟨h1, h2, h3⟩, q⟩ := h
  obtain ⟨t, rfl⟩ := rx
  obtain ⟨t', rfl⟩ := ry
  have e1 : (decide (j < -(2 ^ 63 : Int)) || decide (j ≥ 2 ^ 63)) = false := by
    rw [decide_eq_false (by omega), decide_eq_false (by omega)]; rfl
  refine P.mul_str e1 (fun a b => ?_) (fun a b => ?_) ?_
  · have hj : 1 ≤ j := by omega
    have hs : i.length ≤ sizeLine := Nat.le_trans (Nat.le_mul_of_pos_right _ (by omega)) h3
    rw [sizeLine_eq] at hs
    intro z
    have z' : (2 ^ 63 - 1 : Int) / j < (i.length : Int) := z
    have h5 : (2 ^ 63 - 1 : Int) < (i.length : Int) * j := by
      have := Int.lt_mul_of_ediv_lt (by omega : (0 : Int) < j) z'
      exact this
    have h6 : (i.length : Int) * j = ((i.length * j.toNat : Nat) : Int) := by
      have : (j.toNat : Int) = j := Int.toNat_of_nonneg (by omega)
      rw [Int.natCast_mul, this]
    rw [h6] at h5
    rw [sizeLine_eq] at h3
    omega
  · unfold PySem.Builtin.Str.tooLong
    exact decide_eq_false (Nat.not_lt.mpr h3)
  · unfold mulS at q
    by_cases a : j < 1
    · rw [if_pos a] at q ⊢; exact ⟨by decide, .str _, H, I.tok _, ⟨_, rfl⟩, q⟩
    · rw [if_neg a] at q ⊢
      by_cases b : (j == 1 || i.length == 0) = true
      · rw [if_pos b] at q ⊢; exact ⟨.str _, H, I.tok _, ⟨_, rfl⟩, q⟩
      · rw [if_neg b] at q ⊢; exact ⟨by rw [mulS_length]; exact h3, .str _, H, I.tok _, ⟨_, rfl⟩, q⟩
def oStrMul : WO2 := fun x y g K => asStr x fun i => asInt y fun j => MulS i j ∧ K (.str (mulS i j)) g
theorem so_strmul : SO2 rMulS oStrMul := fun {a b x y g σ H K Q} E ra rb w U => by
  obtain ⟨i, rfl, w1⟩ := asStr_ok w
  obtain ⟨j, rfl, w2⟩ := asInt_ok w1
  cases ra; cases rb
  exact ⟨i, j, rfl, rfl, w2.1, U _ g _ H w2.2 Step.refl E (.str _)⟩
/-! ### a sign in a text -/
def inSt (i j : Str) : Bool := !(Builtin.Str.occurrences j i 0 j.length 1).isEmpty
def oInS (neg : Bool) : WO2 := fun x y g K => asStr x fun i => asStr y fun j => K (.bl (if neg then !inSt i j else inSt i j)) g
theorem so_inS : SO2 (fun x y H Q => ∃ i j, x = .str i ∧ y = .str j ∧ Q (.bl (!(Builtin.Str.occurrences j i 0 j.length 1).isEmpty)) H) (oInS false) := fun {a b x y g σ H K Q} E ra rb w U => by
  obtain ⟨i, rfl, w1⟩ := asStr_ok w
  obtain ⟨j, rfl, w2⟩ := asStr_ok w1
  cases ra; cases rb
  exact ⟨i, j, rfl, rfl, U _ g _ H w2 Step.refl E (.bl _)⟩
theorem so_ninS : SO2 (fun x y H Q => ∃ i j, x = .str i ∧ y = .str j ∧ Q (.bl (!(!(Builtin.Str.occurrences j i 0 j.length 1).isEmpty))) H) (oInS true) := fun {a b x y g σ H K Q} E ra rb w U => by
  obtain ⟨i, rfl, w1⟩ := asStr_ok w
  obtain ⟨j, rfl, w2⟩ := asStr_ok w1
  cases ra; cases rb
  exact ⟨i, j, rfl, rfl, U _ g _ H w2 Step.refl E (.bl _)⟩
/-! ### not x, by truth -/
def wNotT' (t : WT) : WE := fun g K X => t g (fun b g1 => K (.bl (!b)) g1) X
theorem de_notT (h : DE X W a wa) : DE X W (.UnaryOp .Not a pos) (wNotT' (wTru wa)) := (pe_notT h).imp fun σ H Q ⟨g, K, Xd, E, h, U, UX⟩ => by
  refine ⟨g, _, Xd, E, h, fun d g1 v H1 k1 s1 E1 r1 => ?_, UX⟩
  cases q : tru g1.st d with
  | none => simp only [q] at k1
  | some b => simp only [q] at k1; exact ⟨b, tru_ok E1.sto r1 q, U _ g1 _ H1 k1 s1 E1 (.bl _)⟩
/-! ### x or y, x and y, by truth -/
def wOrT' (wa wb : WE) : WE := fun g K X => wa g (fun d g1 => match tru g1.st d with | some true => K d g1 | some false => wb g1 K X | none => False) X
def wAndT' (wa wb : WE) : WE := fun g K X => wa g (fun d g1 => match tru g1.st d with | some false => K d g1 | some true => wb g1 K X | none => False) X
/-! ### list(range(n)) -/
theorem rep_rng {H : Hp} {st : Sto} (i : Int) : ∀ n : Nat, RepL H st (rngL i n) ((List.range n).map fun k => V.int (i + (k : Nat))) := fun n => by
  unfold rngL
  generalize List.range n = l
  induction l with
  | nil => exact .nil
  | cons k l ih => exact .cons (.int _) ih
def wListRange (b : Bool) (wa : WA) : WE := fun g K X => wa g (fun ds g1 => arg1 ds fun d => asInt d fun n => RgOk 0 n ∧ newL b (rngL 0 n.toNat) g1 K) X
theorem de_listRange (b : Bool) {pl pr : Pos} {we : WE} (hc : X.calm = true) (hl : X.mg "list" = none) (hr : X.mg "range" = none) (he : DE X W e we) (gl : Gl X "list" := by rfl) (gr : Gl X "range" := by rfl)
    (na : starEach [e] X.env = (false, eval e X.env) :: starEach [] X.env := by rfl) (nb : starEach [.Call (.Name "range" pr) [e] [] p] X.env = (false, eval (.Call (.Name "range" pr) [e] [] p) X.env) :: starEach [] X.env := by rfl) :
    DE X W (.Call (.Name "list" pl) [.Call (.Name "range" pr) [e] [] p] [] pos) (wListRange b (wCons we wNil)) := (pe_listRg hc gl hl (prg_1 gr hr he na) nb).imp fun σ H Q ⟨g, K, Xd, E, h, U, UX⟩ => by
  refine ⟨g, _, Xd, E, h, fun d g1 v H1 k1 s1 E1 r1 => ?_, UX⟩
  have k2 : asInt d fun n => RgOk 0 n ∧ newL b (rngL 0 n.toNat) g1 K := k1
  obtain ⟨n, rfl, ok, k3⟩ := asInt_ok k2
  cases r1
  refine ⟨n, rfl, ok, new_L E1 (ds := rngL 0 n.toNat) ?_ k3 (U.on s1)⟩
  unfold rgV
  rw [Int.sub_zero]
  exact rep_rng 0 n.toNat
/-! ### x, y, z = a, b, c -/
def wPar3 (i j k : Nat) (wa : WA) : WS := fun K g => wa g (fun ds g1 => arg3 ds fun x y z => K.nx ⟨setS (setS (setS g1.sl i x) j y) k z, g1.st⟩) K.ex
theorem ds_par3 (i j k : Nat) {x y z : Str} {px py pz pt : Pos} {kt k2 pt2} {w : WA} (hc : X.calm = true) (hN : X.N.Nodup) (ha : DA X W [a, b, c] w) (hi : X.N[i]? = some x := by rfl) (hj : X.N[j]? = some y := by rfl) (hk : X.N[k]? = some z := by rfl)
    (hij : i ≠ j := by decide) (hik : i ≠ k := by decide) (hjk : j ≠ k := by decide)
    (hx : X.env.scope.names.lookup x = some .local := by rfl) (hy : X.env.scope.names.lookup y = some .local := by rfl) (hz : X.env.scope.names.lookup z = some .local := by rfl)
    (hw : swappedStores [.Tuple [.Name x px, .Name y py, .Name z pz] kt pt] (.Tuple [a, b, c] k2 pt2) X.env = pure (some [x, y, z]) := by rfl)
    (hs : swapsWithSole [.Tuple [.Name x px, .Name y py, .Name z pz] kt pt] (.Tuple [a, b, c] k2 pt2) pos.line X.env = pure false := by rfl) :
    DS X W (.Assign [.Tuple [.Name x px, .Name y py, .Name z pz] kt pt] (.Tuple [a, b, c] k2 pt2) pos) (wPar3 i j k w) := (ps_par3 hc hN hi hj hk hij hik hjk hx hy hz ha hw hs).imp fun D σ H ⟨g, K, E, h, U⟩ => by
  refine ⟨g, _, K.ex, E, h, fun ds g1 vs H1 k1 s1 E1 l1 => ?_, U.ex.x σ⟩
  obtain ⟨d1, d2, d3, rfl, k1⟩ := arg3_ok k1
  obtain ⟨v1, v2, v3, rfl, r1, r2, r3⟩ := repL_3 l1
  exact ⟨v1, v2, v3, rfl, U.nx _ _ H1 k1 s1 (((E1.set i r1).set j r2).set k r3)⟩
/-! ### xs[i] = v -/
def wLPut (wo wi wv : WE) : WS := fun K g => wv g (fun v g1 => wo g1 (fun d g2 => wi g2 (fun y g3 => cellL d g3.st fun a xs => asInt y fun i => opt (ixN xs.length i) fun j => K.nx ⟨g3.sl, put g3.st a (.lst (xs.set j v))⟩) K.ex) K.ex) K.ex
theorem ds_lput {i : Expr} {pos' : Pos} (ho : DE X W o wo) (hi : DE X W i wi) (hv : DE X W e wv) (hs : swapsWithSole [.Subscript o i pos'] e pos.line X.env = pure false := by rfl) (hw : swappedStores [.Subscript o i pos'] e X.env = pure none := by rfl)
    (ha : ∀ v, assign (.Subscript o i pos') X.env v = (do
      let ov ← holding [v] (eval o X.env)
      let iv ← holding [v, ov] (eval i X.env)
      standAt pos'
      holding [v, ov, iv] (setItem ov iv v)
      release [v, ov, iv] []) := by intro _; rfl) : DS X W (.Assign [.Subscript o i pos'] e pos) (wLPut wo wi wv) :=
  (ps_asg hv (pg_sub ho hi set_list ha) hs hw).imp fun D σ H ⟨g, K, E, h, U⟩ => by
  refine ⟨g, _, K.ex, E, h, fun v g1 x H1 k1 s1 E1 r1 => ⟨g1, _, K.ex, E1, k1, fun d g2 y H2 k2 s2 E2 r2 => ⟨g2, _, K.ex, E2, k2, fun n g3 z H3 k3 s3 E3 r3 => ?_, ((U.ex.on s1).on s2).x σ⟩, (U.ex.on s1).x σ⟩, U.ex.x σ⟩
  obtain ⟨a, xs, rfl, q, k4⟩ := cellL_ok k3
  obtain ⟨m, rfl, k5⟩ := asInt_ok k4
  obtain ⟨j, ej, k6⟩ := opt_ok k5
  cases r2.step s3
  cases r3
  obtain ⟨vs, ea, l⟩ := E3.sto a _ q
  have rv := (r1.step s2).step s3
  obtain ⟨sw, R'⟩ := wr_lst (ds := xs.set j v) (vs := vs.set j x) E3 q (RepL.set rv j l)
  exact ⟨a, vs, m, j, rfl, rfl, ea, by rw [← l.length]; exact ej, U.nx _ σ _ k6 (s1.trans (s2.trans (s3.trans sw))) R'⟩
/-! ### f() -/
theorem pe_call0G {k : Nat} {f : Addr} {fd : FuncData} {ps : List Str} {sp : Sp} {E : L2.St → XK} {x : Str} (F : FnG X.prog X.w X.K X.mg X.base k f fd ps sp) (hG : X.A.guards = some []) (room : Room k X.A) (hg : Gl X x) (hm : X.mg x = some (.ref f)) (hk : PySem.W.keepIn X.K (.ref f) = true) (bnd : Binds X.K fd ps [])
    (pass : ∀ σ, PassesAt (L2.CX X.prog X.w) X σ (E σ)) (hdb : (x == ("__debug__" : Str)) = false := by decide) : PE X (.Call (.Name x p) [] [] pos) (tCallS sp E tNil) := by
  constructor
  intro pins s σ H Q I h
  refine wpAny_Call_Name_kw (ld_glob I hg hm ?_ hdb)
  exact PySem.W.callWith_K0 I.kIn hk (runG (us := []) (vs := []) F hG room bnd (pass σ) I .nil h)
theorem de_call0 {k : Nat} {f : Addr} {fd : FuncData} {ct : CT} {x : Str} (F : FnG X.prog X.w X.K X.mg X.base k f fd [] (liftSp 0 ct)) (hG : X.A.guards = some []) (hr : Room k X.A) (hm : X.mg x = some (.ref f)) (hk : PySem.W.keepIn X.K (.ref f) = true) (hb : Binds X.K fd [] []) (tk : Takes X W)
    (hg : Gl X x := by rfl) (hdb : (x == ("__debug__" : Str)) = false := by decide) : DE X W (.Call (.Name x p) [] [] pos) (wCall 0 ct wNil) := (pe_call0G F hG hr hg hm hk hb (fun σ => passAt tk σ) hdb).imp fun σ H Q ⟨g, K, Xd, E, h, U, UX⟩ =>
  call_sp (ps := []) E .nil rfl h.2 U UX
end
/-! ### isinstance, with instances and classes of one's own -/
structure ICls (K : Fr) (C : Addr) : Prop where
  cl : Cls K C
  ha : PySem.W.findIn K (.ref C) "__class__" = some (some (.builtin "object.__class__"))
  hn : PySem.W.specialIn K (.builtin "object.__class__") "__get__" = some (some (.builtin "getset_descriptor.__get__"))
  ht : PySem.W.takesIn K (.builtin "object.__class__") = some true
  hm : PySem.W.mroIn K C (.type "object") = some true
def icB (K : Fr) (C : Addr) : Bool := He.eqO (PySem.W.findIn K (.ref C) "__class__") (some (some (.builtin "object.__class__"))) && (He.eqO (PySem.W.specialIn K (.builtin "object.__class__") "__get__") (some (some (.builtin "getset_descriptor.__get__"))) &&
  (decide (PySem.W.takesIn K (.builtin "object.__class__") = some true) && decide (PySem.W.mroIn K C (.type "object") = some true)))
theorem icB_ok {K : Fr} {C : Addr} (c : Cls K C) (h : icB K C = true) : ICls K C := by
  unfold icB at h
  simp only [Bool.and_eq_true, decide_eq_true_eq] at h
  obtain ⟨h1, h2, h3, h4⟩ := h
  exact ⟨c, He.eqO_ok h1, He.eqO_ok h2, h3, h4⟩
def fIc (x : Str) : Fr → Bool := fun K => (He.Fa.cls x).ok K && icB K (He.ga K x)
def fKitT (t : String) (y : Str) (b : Bool) : Fr → Bool := fun K => decide (PySem.W.kitOne K (.type t) (.ref (He.ga K y)) = some b)
def fKitO (x : Str) (t : String) (b : Bool) : Fr → Bool := fun K => decide (PySem.W.kitOne K (.ref (He.ga K x)) (.type t) = some b)
section
variable {fs : List (Fr → Bool)} {fn : List He.DefD} {K : Fr} {mg : Str → Option Value}
theorem Known.ic (c : Known fs fn K mg) (i : Nat) {x : Str} (h : fs[i]? = some (fIc x) := by rfl) : ICls K (He.ga K x) := by
  have q := c.fact i h
  unfold fIc at q
  obtain ⟨q1, q2⟩ := Bool.and_eq_true_iff.mp q
  exact icB_ok (He.cls_ok q1) q2
theorem Known.kitT (c : Known fs fn K mg) (i : Nat) {t : String} {y : Str} {b : Bool} (h : fs[i]? = some (fKitT t y b) := by rfl) : PySem.W.kitOne K (.type t) (.ref (He.ga K y)) = some b := of_decide_eq_true (c.fact i h)
theorem Known.kitO (c : Known fs fn K mg) (i : Nat) {x : Str} {t : String} {b : Bool} (h : fs[i]? = some (fKitO x t b) := by rfl) : PySem.W.kitOne K (.ref (He.ga K x)) (.type t) = some b := of_decide_eq_true (c.fact i h)
end
/-- what the datum is of: a built-in type, an own class -/
def ofD (K : Fr) (st : Sto) (d : D) (f : Value → Prop) : Prop := match kindOf st d with
  | some t => f (.type t)
  | none => cellO d st fun _ C _ => ICls K C ∧ f (.ref C)
def clsD (c : D) (f : Value → Prop) : Prop := match c with
  | .ty T => f (.type T)
  | .ref D => f (.ref D)
  | _ => False
def oIsI (K : Fr) : WON := fun ds g Kd => arg2 ds fun d c => ofD K g.st d fun t => clsD c fun u => ∃ b, PySem.W.kitOne K t u = some b ∧ Kd (.bl b) g
theorem son_isI {K : Fr} : SON (rIsi K) (oIsI K) := fun {a x g σ H Kd Q} E l w U => by
  obtain ⟨d, c, rfl, w1⟩ := arg2_ok w
  obtain ⟨v, u, rfl, r1, r2⟩ := repL_2 l
  obtain ⟨t, ty, w2⟩ : ∃ t, TyX K H v t ∧ clsD c fun u => ∃ b, PySem.W.kitOne K t u = some b ∧ Kd (.bl b) g := by
    unfold ofD at w1
    cases q : kindOf g.st d with
    | some t => rw [q] at w1; exact ⟨_, kind_ok E.sto r1 q, w1⟩
    | none =>
      rw [q] at w1
      obtain ⟨a, C, fs, rfl, hc, ic, w3⟩ := cellO_ok w1
      cases r1
      obtain ⟨dx, vs, ea, _⟩ := E.sto a _ hc
      exact ⟨_, .base (.ins ea ic.cl ic.ha ic.hn ic.ht ic.hm), w3⟩
  cases c with
  | ty T => obtain ⟨b, e, k⟩ := w2; cases r2; exact ⟨v, _, t, _, b, rfl, .ty T, ty, e, U _ g _ H k Step.refl E (.bl _)⟩
  | ref D => obtain ⟨b, e, k⟩ := w2; cases r2; exact ⟨v, _, t, _, b, rfl, .own D, ty, e, U _ g _ H k Step.refl E (.bl _)⟩
  | _ => exact w2.elim
/-! ### an exception's __init__, by its place in the written part -/
theorem okXF {P : Program} {w : World} {K : Fr} {mg : Str → Option Value} {base : Heap} {x qual : Str} {prs : Arguments} {bd : List Stmt} {sc : Scope} {dv : List V} {kw : List (Str × V)} {f : Addr} {fd : FuncData} (F : FunD K x qual prs bd sc dv kw f fd)
    (S : FnScope ["self", "value"] ["self", "value"] sc) {p1 p2 p3 p4 : Pos} (hb : bd = [.Assign [.Attribute (.Name "self" p1) "value" p2] (.Name "value" p3) p4])
    (v1 : sc.names.lookup ("self" : Str) = some .local) (v2 : sc.names.lookup ("value" : Str) = some .local) : FnOk P w K mg base (L2.CX P w) 1 f fd ["self", "value"] (spXI K) := by
  refine F.ok S (fun vs H Q E h => ?_) (fun cdv A outer s H vs Q E hr h => ?_)
  · obtain ⟨a, C, v, rfl, _⟩ := h
    rfl
  · obtain ⟨a, C, v, rfl, T, no, ha, q⟩ := h
    rw [hb]
    refine ⟨_, pss_one (ps_ost (pe_var (i := 0) rfl (.inl v1)) (pe_var (i := 1) rfl (.inl v2))), ?_⟩
    exact ⟨v, rfl, .ref a, rfl, a, C, rfl, T, no, .inl ⟨ha, fun dx h1 h2 => q dx h1 h2⟩⟩
end DL

end SDLK

section SDLL
set_option Elab.async false
set_option linter.all false
set_option maxRecDepth 100000
namespace DL
open PySem PySem.Spec PyProof.Rows L2
/-! ### the law is called -/
def noLst (K : Fr) : Bool := K.all fun p => !(p.2.cls == .type "list")
theorem noLst_ok {K : Fr} (h : noLst K = true) {a : Addr} {o : Obj} (e : K.lookup a = some o) : o.cls ≠ .type "list" := fun z => by
  have : ∀ l : Fr, l.all (fun p => !(p.2.cls == .type "list")) = true → l.lookup a = some o → False := by
    intro l
    induction l with
    | nil => intro _ q; cases q
    | cons p l ih =>
      intro ha q
      obtain ⟨h1, h2⟩ := Bool.and_eq_true_iff.mp (List.all_cons ▸ ha)
      obtain ⟨b, ob⟩ := p
      by_cases t : (a == b) = true
      · simp only [List.lookup, t] at q
        cases q
        rw [z] at h1
        simp at h1
      · have t' : (a == b) = false := by simpa using t
        simp only [List.lookup, t'] at q
        exact ih h2 q
  exact this K h e
/-- the heap in which the script alone is told of, locked -/
def scriptH (a : Addr) (o : Obj) (ns : List Int) : Hp := fun b => if b = a then some (.frz o (.lst (ns.map V.int))) else none
def none_ : Sto := fun _ => none
theorem rep_ints {H : Hp} {st : Sto} : ∀ ns : List Int, RepL H st (ns.map D.int) (ns.map V.int)
  | [] => .nil
  | n :: ns => .cons (.int n) (rep_ints ns)
theorem run_law {P : Program} {w : World} {K : Fr} {mg mb : Str → Option Value} {k : Nat} {fa a : Addr} {fd : FuncData} {x : Str} {ct : CT} {s1 : Shared} {its : List Value} {ns : List Int}
    (kin : K.In s1.heap) (nol : noLst K = true) (gl : s1.heap.Ns mainGlobals mg) (bl : s1.heap.Ns builtinsNs mb) (bb : ∀ y : Str, y ≠ "__name__" → mb y = bootBuiltins y) (nl : s1.heap.NoLimit) (ng : s1.gens = #[])
    (at_ : s1.heap.get? a = some { cls := .type "list", data := .seq its.toArray }) (iar : IntsAre its ns) (sz : ns.length ≤ sizeLine) (room : Room k callerA)
    (F : ∀ base : Heap, K.In base → base.Ns mainGlobals mg → DFn P w K mg base k fa fd [x] ct) (bind : ∀ (s : Shared) (u : Value), BindsTo s fd ⟨[u], []⟩ [(x, u)])
    (want : ct [.lkd (ns.map D.int)] none_ (fun d _ => d = .bl true) fun _ _ _ => False) :
    codeAny (model P w) callerA (.call (.ref fa) ⟨[.ref a], []⟩) (fun r z => r = .ok (.ret (.bool true)) ∧ OldK s1.heap z.heap ∧ z.os = s1.os ∧ AllBare z.gens) s1 := by
  generalize ho : ({ cls := .type "list", data := .seq its.toArray } : Obj) = o at at_
  have nk : K.lookup a = none := by
    cases q : K.lookup a with
    | none => rfl
    | some u =>
      have e := (kin a u q).symm.trans at_
      cases e
      exact absurd (by rw [← ho]) (noLst_ok nol q)
  have hA : scriptH a o ns a = some (.frz o (.lst (ns.map V.int))) := if_pos rfl
  have hB : ∀ {b : Addr}, b ≠ a → scriptH a o ns b = none := fun h => if_neg h
  have keep : ∀ {b : Addr} {ob : Obj}, s1.heap.get? b = some ob → b ≠ a → (hidT s1.heap (scriptH a o ns)).get? b = some ob := fun e n => hidT_get e (hB n)
  have ns_ : ∀ {b : Addr} {m : Str → Option Value}, s1.heap.Ns b m → (hidT s1.heap (scriptH a o ns)).Ns b m := fun {b m} h => by
    obtain ⟨ob, es, ep, e, d, r⟩ := h
    refine ⟨ob, es, ep, keep e (fun z => ?_), d, r⟩
    subst z
    have e' := e.symm.trans at_
    cases e'
    rw [← ho] at d
    cases d
  have kinB : K.In (hidT s1.heap (scriptH a o ns)) := fun b ob e => keep (kin b ob e) fun z => by subst z; rw [nk] at e; cases e
  have modB : Mod K mg (hidT s1.heap (scriptH a o ns)) := ⟨kinB, ns_ gl, ⟨mb, ns_ bl, bb⟩, by obtain ⟨mc, h1, h2⟩ := nl; exact ⟨mc, ns_ h1, h2⟩⟩
  have hok : HOk P w (scriptH a o ns) s1.heap := fun b u z => by
    by_cases e : b = a
    · subst e
      rw [hA] at z
      cases z
      exact ⟨at_, by rw [List.length_map]; exact sz, its, _, vals_ints iar, by rw [at_, ← ho]⟩
    · rw [hB e] at z; cases z
  have start : Env0 P w K mg (hidT s1.heap (scriptH a o ns)) callerA [] s1 (scriptH a o ns) := ⟨rfl, modB, fun b ob e => of_hidT e, Nat.le_of_eq (hidT_size _ _), trivial, fun b hb => absurd hb (List.not_mem_nil), hok, .of_eq ng⟩
  have sp : liftSp [x].length ct [.ref a] (scriptH a o ns) (fun v _ => v = .bl true) (fun _ _ _ => False) :=
    ⟨rfl, _, none_, _, _, .cons (.lkd (a := a) rfl (.inr ⟨o, hA⟩) (rep_ints ns)) .nil, (fun b c z => by cases z), want, (fun d st' v H' e _ _ r => by have e' : d = .bl true := e; subst e'; cases r; rfl), fun _ _ _ _ _ h _ _ _ => h.elim⟩
  refine codeAny_mono ((F _ kinB (ns_ gl)).run callerA [] s1 (scriptH a o ns) ⟨[.ref a], []⟩ [.ref a] [.ref a] _ _ rfl room start (bind s1 (.ref a)) (.cons rfl .nil) sp) ?_
  intro r z hz
  match r, hz with
  | .error e, hz =>
    obtain ⟨_, _, _, _, _, _, _, _, _, _, _, _, q⟩ := hz
    exact q.elim
  | .ok (.ret u), hz =>
    obtain ⟨v, H', os, bare, un, hok', r', q⟩ := hz
    subst q
    obtain rfl : u = Value.bool true := r'
    refine ⟨rfl, OldK.of_keep fun b ob e => ?_, os, bare⟩
    by_cases n : b = a
    · subst n
      have z2 := un.frzs b o _ hA
      obtain ⟨e2, _⟩ := hok' b _ z2
      rw [at_] at e
      cases e
      exact e2
    · exact un.keep b ob e (hB n) (by intro y; exact absurd y (List.not_mem_nil)) (by simp)
/-- what a head leaves, by a promise over data -/
theorem walk_data {l : PySem.W.OpenLaw} {n k : Nat} {q : Program} {loose : List Str} {XP : (Str → Option Value) → Heap → Prop} {YP : World → Heap → Prop} {d : DefRec} {ct : CT} {x : Str} (hn : l.most = some n) (hn2 : n ≤ sizeLine) (hdf : d.params.defaults = []) (room : Room k callerA)
    (F : ∀ (w : World) (mg : Str → Option Value) (fa : Addr) (h : Heap), YP w h → h.Ns mainGlobals mg → mg d.name = some (.ref fa) → ∃ (K : Fr) (fd : FuncData), K.In h ∧ noLst K = true ∧ (∀ (s : Shared) (u : Value), BindsTo s fd ⟨[u], []⟩ [(x, u)]) ∧ ∀ base : Heap, K.In base → base.Ns mainGlobals mg → DFn l.prog w K mg base k fa fd [x] ct)
    (want : ∀ ns : List Int, ns.length ≤ n → (∀ z ∈ ns, Builtin.Int.intBits z ≤ 1048576) → ct [.lkd (ns.map D.int)] none_ (fun v _ => v = .bl true) fun _ _ _ => False) :
    PySem.W.WalkO q loose XP YP l.row.toRowW d [] (fun f vs => PySem.call f vs) := by
  refine Att.attach_callB hn hdf fun w s0 s1 mg mb fa o pm cd doc a its ns G Y ho hd hcd hmg hobj hi hlen hbt hg => ?_
  obtain ⟨K, fd, kin, nol, hb, hF⟩ := F w mg fa _ Y G.T.g hmg
  exact run_law kin nol G.T.g G.T.b G.T.builtins G.T.nolimit hg hobj hi (Nat.le_trans hlen hn2) room hF hb (want ns hlen hbt)
end DL

end SDLL

section SDLU
set_option Elab.async false
set_option linter.all false
set_option maxRecDepth 100000
namespace DL
open PySem PySem.Spec PyProof.Rows L2
/-! ### enumerate of a tuple -/
set_option maxHeartbeats 1000000 in
theorem enumT_new (t : Addr) (items : Array Value) :
    Meets (Builtin.«enumerate.__new__» ⟨[.type "enumerate", .ref t], []⟩) (fun _ R z => z.heap.IsTuple t items ∧
      R (.ok (.ret (.ref (z.heap.push { cls := .type "tuple_iterator", data := .fields #[.ref t, .int 0 0] }).objs.size))) { z with heap := (z.heap.push { cls := .type "tuple_iterator", data := .fields #[.ref t, .int 0 0] }).push { cls := .type "enumerate", data := .fields #[.none, .bool false, .ref z.heap.objs.size, rawInt 0, .none, .none] } }) :=
  .of_wp fun prog w A R z hz => by
    obtain ⟨hp, gs, dr, tk, os⟩ := z
    obtain ⟨ht, fin⟩ := hz
    have sb := sub_enumerate
    have go : ∀ {A' : Around} {E : Value → Shared → Prop} {Q : Value → Shared → Prop}, Q (.ref hp.objs.size) ⟨hp.push { cls := .type "tuple_iterator", data := .fields #[.ref t, .int 0 0] }, gs, dr, tk, os⟩ → wpAny (model prog w) A' (pyIter (.ref t)) Q E ⟨hp, gs, dr, tk, os⟩ :=
      fun q => (begins_tuple t items).iter prog w _ _ ⟨hp, gs, dr, tk, os⟩ _ ht q
    wp_walk using go
    refine wpAny_stack_any (fun _ => wpAny_pure ?_)
    split
    · rename_i cl _ _ _ _ _
      cases (cl == Value.type "enumerate") <;> (wp_walk using go; exact ⟨_, rfl, fin⟩)
    · wp_walk using go
      exact ⟨_, rfl, fin⟩
section
variable {prog : Program} {w : World} {A : Around} {E : Value → Shared → Prop} {s : Shared}
theorem enumT_call {t : Addr} {items : Array Value} {Q : Value → Shared → Prop} (ht : s.heap.IsTuple t items)
    (h : ∀ h', IsEnum h' (s.heap.objs.size + 1) s.heap.objs.size 0 .none → h'.IsTupleIter s.heap.objs.size t 0 → h'.objs.size = s.heap.objs.size + 2 → (∀ b o, s.heap.get? b = some o → h'.get? b = some o) → Q (.ref (s.heap.objs.size + 1)) { s with heap := h' }) :
    wpAny (model prog w) A (call (.type "enumerate") [.ref t]) Q E s := by
  refine callType_new F.called_enumerate (by decide) (F.typeCall_enumerate_1 _) (F.newCall_enumerate_1 _) (fun _ => F.args_object_init_2 _ _) F.entry_enumerate_new (enumT_new t items) ⟨ht, ?_⟩
  have z : (s.heap.push { cls := .type "tuple_iterator", data := .fields #[.ref t, .int 0 0] }).objs.size = s.heap.objs.size + 1 := by exact Heap.size_push ..
  show _ ∧ _; rw [z]
  have en : IsEnum ((s.heap.push { cls := .type "tuple_iterator", data := .fields #[.ref t, .int 0 0] }).push { cls := .type "enumerate", data := .fields #[.none, .bool false, .ref s.heap.objs.size, rawInt 0, .none, .none] }) (s.heap.objs.size + 1) s.heap.objs.size 0 .none := by
    have q := Heap.get?_push_size (s.heap.push { cls := .type "tuple_iterator", data := .fields #[.ref t, .int 0 0] }) (o := { cls := .type "enumerate", data := .fields #[.none, .bool false, .ref s.heap.objs.size, rawInt 0, .none, .none] }) rfl
    rw [z] at q; exact q
  exact ⟨⟨_, en, rfl⟩, h _ en ⟨_, Heap.get?_push_of_some _ (Heap.get?_push_size _ rfl), rfl, rfl⟩ (by rw [Heap.size_push, z]) fun b o y => Heap.get?_push_of_some _ (Heap.get?_push_of_some _ y)⟩
end
/-- the tuple at a, each item in a new pair -/
def ItEt (K : Fr) (a : Addr) : It :=
  ⟨fun i H => ∃ (xs : List V) (x : V), SqT K H a xs ∧ xs[i]? = some x, fun i H v H' => ∃ T x, v = .ref T ∧ H T = none ∧ H' = upd H T (.tup [.int (i : Nat), x]) ∧ ∀ xs, SqT K H a xs → xs[i]? = some x, fun i H => ∃ xs : List V, SqT K H a xs ∧ xs.length ≤ i⟩
theorem enum_ne {h : Heap} {e it t : Addr} {c : Int} {old : Value} {its : Array Value} (he : IsEnum h e it c old) (ht : h.IsTuple t its) : e ≠ t := fun z => by
  obtain ⟨o, ho, hc, n, hd⟩ := ht
  have q := he.symm.trans (z ▸ ho)
  cases q
  cases hd
theorem titer_ne {h : Heap} {it t : Addr} {i : Nat} {its : Array Value} (hi : h.IsTupleIter it t i) (ht : h.IsTuple t its) : t ≠ it := fun z => by
  obtain ⟨o, ho, hc, n, hd⟩ := ht
  obtain ⟨o', ho', hc', hd'⟩ := hi
  have q := ho.symm.trans (z ▸ ho')
  cases q
  rw [hd] at hd'
  cases hd'
theorem endEt {prog : Program} {w : World} {A : Around} (hh : A.handled = none) (it t : Addr) (items : Array Value) (i : Nat) (hi : items[i]? = none) :
    Draws prog w A it [it, t] i (fun _ _ => True) (fun j h => j = i ∧ h.IsTupleIter it t i ∧ h.IsTuple t items) := by
  refine ⟨fun _ _ st => ?_, fun _ _ _ st hk => ⟨st.1, st.2.1.at fun o e => hk it (by simp) o e, st.2.2.at fun o e => hk t (by simp) o e⟩, fun j s Q E hj st => absurd st.1 (Nat.ne_of_lt hj), fun s Q E st hE => wpAny_nextOf_tuple_end hh st.2.1 st.2.2 hi hE⟩
  obtain ⟨_, ⟨o, ho, _⟩, _⟩ := st
  exact ⟨o, ho⟩
theorem turnEt {P : Program} {w : World} {K : Fr} {elts : List Expr} {kk : Nat} {tpos : Pos} (a e it : Addr) :
    Turn P w K (.Tuple elts kk tpos) (ItEt K a) [e, it] e (fun i h => (∃ old, IsEnum h e it ((i : Nat) : Int) old) ∧ h.IsTupleIter it a i ∧ e ≠ it) := by
  refine ⟨by simp, fun i h st b hb => ?_, fun i h h' st k => ?_, ?_, ?_, fun A i s Q E st h => ?_⟩
  · obtain ⟨⟨old, he⟩, ⟨o, ho, hc, hd⟩, _⟩ := st
    rcases (by simpa using hb : b = e ∨ b = it) with z | z <;> rw [z]
    · exact ⟨_, he, fun v q => nomatch q⟩
    · exact ⟨o, ho, fun v q => by rw [hd] at q; cases q⟩
  · obtain ⟨⟨old, he⟩, hi, hne⟩ := st
    exact ⟨⟨old, k e (by simp) _ he⟩, hi.at fun o q => k it (by simp) o q, hne⟩
  · rintro X rfl rfl rfl hc i pins s σ H E I hf ⟨⟨old, he⟩, hit, hne⟩ ⟨xs, x, hq, hx⟩
    obtain ⟨its, rv, p, hz⟩ := I.tuple hq
    obtain ⟨u, hu, ru⟩ := rv.get hx
    have l1 : e < s.heap.objs.size := Heap.lt_size he
    have l2 : it < s.heap.objs.size := by obtain ⟨_, q, _⟩ := hit; exact Heap.lt_size q
    have net := titer_ne hit p
    have hi : i < its.toArray.size := by
      have := (List.getElem?_eq_some_iff.mp hu).1
      simpa using this
    refine wpAny_pyNext_enum_itemC (Draws.tuple (A := X.A.in1) (show X.A.in1.handled = none from I.ok.hd hc) it a net its.toArray) he ⟨hit, p⟩ hi hne (by simp [hne, enum_ne he p]) fun y h' tk hP ho st' hT hsz hk => ?_
    have ey : y = u := by
      have hP' : its.toArray[i]? = some y := hP
      rw [List.getElem?_toArray, hu] at hP'
      exact (Option.some.inj hP').symm
    subst ey
    refine ⟨_, rfl, wpAny_letOwnedTupleGo_enum (s := { s with heap := h', toks := tk + 1 }) ho fun h2 he2 sb => ?_⟩
    have hT2 : h2.get? s.heap.objs.size = some { cls := .type "tuple", data := .seq #[.int i tk, y] } := (sb.2 _ (Nat.ne_of_gt l1)).trans hT
    have nw : ObjOk X.prog X.w (upd H s.heap.objs.size (.tup [.int (i : Nat), x])) h2 s.heap.objs.size (.tup [.int (i : Nat), x]) := ⟨by show 2 ≤ sizeLine; decide, [.int i tk, y], .cons ⟨_, rfl⟩ (.cons ru .nil), ⟨_, hT2, rfl, _, rfl⟩⟩
    have I1 : Inv X pins σ (upd H s.heap.objs.size (.tup [.int (i : Nat), x])) { s with heap := h2, toks := tk + 1 } := by
      refine I.turnedNew (ch := [e, it]) (fun b ob hb q => ?_) hf (Nat.le_refl _) nw
      have n1 : b ≠ e := fun z => hb (by simp [z])
      have n2 : b ≠ it := fun z => hb (by simp [z])
      exact (sb.2 b n1).trans (hk b ob n1 n2 q)
    refine ⟨.ref s.heap.objs.size, _, I1, rfl, ⟨_, x, rfl, I.hok.fresh (Nat.le_refl _), rfl, fun ys hy => by rw [I.tuple_inj hy hq]; exact hx⟩, ⟨⟨y, ?_⟩, st'.1.at fun o q => (sb.2 it (Ne.symm hne)).trans q, hne⟩, fun b hb => ?_⟩
    · have e1 : ((i + 1 : Nat) : Int) = (i : Int) + 1 := by omega
      rw [e1]; exact he2
    · have hb' : b < s.heap.objs.size := by
        rcases (by simpa using hb : b = e ∨ b = it) with z | z <;> rw [z] <;> assumption
      rw [upd_ne (Nat.ne_of_lt hb')]
      exact (hf b hb).1
  · rintro X rfl rfl rfl hc i pins s σ H E I hf ⟨⟨old, he⟩, hit, hne⟩ ⟨xs, hq, hx⟩
    obtain ⟨its, rv, p, hz⟩ := I.tuple hq
    obtain ⟨f0, f1, f2, f3, f4, f5⟩ := hf it (by simp)
    have net := titer_ne hit p
    have hl := rv.length
    refine wpAny_pyNext_enum_endD (endEt (A := X.A.in1) (show X.A.in1.handled = none from I.ok.hd hc) it a its.toArray i (by simp; omega)) he ⟨rfl, hit, p⟩ fun h' eb => ⟨rfl, I.turned (t' := s.toks) (fun b o hb q => eb b o hb q) f0 f1 f3 f4 f5⟩
  · obtain ⟨⟨_, he⟩, _⟩ := st
    exact wpAny_pyIter_enum he h
section
variable {X : Cx} {W : WX} {e : Expr} {p pos : Pos}
def iEnumT (K : Fr) (ta : TA) : TI := fun σ H R => ta σ H fun vs H1 => ∃ a xs, vs = [.ref a] ∧ SqT K H1 a xs ∧ R (ItEt K a) H1
theorem pi_enumT {ta : TA} {tpos : Pos} {elts : List Expr} {kk : Nat} (hg : Gl X "enumerate") (hm : X.mg "enumerate" = none) (ha : PA X [e] ta) (hs : starEach [e] X.env = [(false, eval e X.env)] := by rfl) :
    PI X (.Tuple elts kk tpos) (.Call (.Name "enumerate" p) [e] [] pos) (iEnumT X.K ta) := by
  constructor
  intro pins s σ H R I h
  refine Call_ (ld_blt I hg hm boot_enumerate (PyProof.Rows.callWith_type1 (thn (ha.run pos pins s σ H _ I h) ?_) hs rfl))
  rintro us s1 ⟨vs, H1, I1, r1, a, xs, rfl, hq, q⟩
  obtain ⟨u, rfl, ru⟩ : ∃ u, us = [u] ∧ RelV (.ref a) u := by
    cases r1 with
    | cons r rr => cases rr; exact ⟨_, rfl, r⟩
  cases ru
  obtain ⟨its, rv, tp, hz⟩ := I1.tuple hq
  refine enumT_call tp fun h' he hit hsz hk => wpAny_pyIter_enum he ?_
  have I2 : Inv X pins σ H1 { s1 with heap := h' } := I1.kept (t' := s1.toks) hk
  refine ⟨s1.heap.objs.size + 1, [s1.heap.objs.size + 1, s1.heap.objs.size], _, _, H1, rfl, I2, turnEt a (s1.heap.objs.size + 1) s1.heap.objs.size, ⟨⟨.none, he⟩, hit, Nat.succ_ne_self _⟩, fun b hb => ?_, q⟩
  have hle : s1.heap.objs.size ≤ b := by
    rcases (by simpa using hb : b = s1.heap.objs.size + 1 ∨ b = s1.heap.objs.size) with z | z
    · rw [z]; exact Nat.le_succ _
    · rw [z]; exact Nat.le_refl _
  exact I1.fpOk hle (I1.hok.fresh hle)
theorem iter_enumT {K : Fr} {ds : List D} {src : Sto → Hp → Prop} {a : Addr} (keep : ∀ {s s' : Sto} {h h' : Hp}, src s h → Step s h s' h' → src s' h') (at_ : ∀ {s h}, src s h → ∃ vs, Rd h a (.tup vs) ∧ RepL h s ds vs) :
    IterOk (ItEt K a) (pairsN 0 ds) always src where
  keep := keep
  go := fun s _ R hi => by
    obtain ⟨vs, rd, l⟩ := at_ s
    rw [pairsN_length] at hi
    obtain ⟨x, hx⟩ := get_lt (xs := vs) (by rw [← l.length]; exact hi)
    exact ⟨vs, x, .inl rd, hx⟩
  yld := fun {i0 _ _ _ _} s _ R y d hd => by
    obtain ⟨vs, rd, l⟩ := at_ s
    obtain ⟨x, hx, rfl⟩ := pairsN_get _ _ _ _ hd
    obtain ⟨T, z, rfl, hT, rfl, hz⟩ := y
    obtain ⟨v, hv, r⟩ := l.get hx
    have e := (hz vs (.inl rd)).symm.trans hv
    cases e
    have n := new_step R (o := .tup [.int ((i0 : Nat) : Int), z]) hT
    refine ⟨n.1, n.2, .tup (R.free hT) (.inl upd_same) (.cons ?_ (.cons (r.step n.1) .nil))⟩
    rw [Nat.zero_add]
    exact .int _
  stop := fun s _ R hi => by
    obtain ⟨vs, rd, l⟩ := at_ s
    rw [pairsN_length] at hi
    exact ⟨vs, .inl rd, by rw [← l.length]; exact hi⟩
def wEnumT (wa : WA) : WI := fun g K X => wa g (fun xs g1 => arg1 xs fun d => asTup d fun ds => K (pairsN 0 ds) always g1) X
theorem di_enumT {wa : WA} {elts : List Expr} {kk : Nat} {tpos : Pos} (hm : X.mg "enumerate" = none) (ha : DA X W [e] wa) (hg : Gl X "enumerate" := by rfl) (hs : starEach [e] X.env = [(false, eval e X.env)] := by rfl) :
    DI X W (.Tuple elts kk tpos) (.Call (.Name "enumerate" p) [e] [] pos) (wEnumT wa) := (pi_enumT hg hm ha hs).imp fun σ H R ⟨g, K, Xd, E, h, q, UX⟩ => by
  refine ⟨g, _, Xd, E, h, fun xs g1 vs H1 k s E1 r => ?_, UX⟩
  obtain ⟨d, rfl, k1⟩ := arg1_ok k
  obtain ⟨ds, rfl, k2⟩ := asTup_ok k1
  obtain ⟨x, rfl, rx⟩ := repL_1 r
  cases rx with
  | @tup a _ ws n rd l =>
    refine ⟨a, ws, rfl, .inl rd, q _ _ g1 H1 _ (fun st h => st a = none ∧ Rd h a (.tup ws) ∧ RepL h st ds ws) k2 s E1 (iter_enumT (fun z st => ?_) fun z => ⟨ws, z.2.1, z.2.2⟩) ⟨n, rd, l⟩⟩
    obtain ⟨z1, z2, z3⟩ := z
    obtain ⟨y1, y2⟩ := st.rd z1 z2
    exact ⟨y2, y1, z3.step st⟩
end
end DL

end SDLU

section SDLV
set_option Elab.async false
set_option linter.all false
set_option maxRecDepth 100000
namespace DL
open PySem PySem.Spec PyProof.Rows L2
/-! ### keywords -/
abbrev DK (X : Cx) (W : WX) (kws : List Keyword) (w : WA) : Prop := PK X kws (liftA W w)
section
variable {X : Cx} {W : WX} {k : Nat} {f C : Addr} {fd : FuncData} {ps ks : List Str} {sp : Sp} {ct : CT} {E : L2.St → XK} {x m : Str} {p pos apos kpos : Pos} {e o : Expr} {es : List Expr} {kws : List Keyword} {we wo : WE} {wa wk : WA} {t tk0 : TA} {nm : Option Str} {g : List Value → List Value → List Value} {gV : List V → List V → List V}
theorem _root_.L2.PK.imp {kws : List Keyword} {t t' : TA} (h : PK X kws t) (i : ∀ σ H Q, t' σ H Q → t σ H Q) : PK X kws t' := ⟨fun pos pins s σ H Q I q => h.run pos pins s σ H Q I (i σ H Q q)⟩
theorem dk_nil : DK X W [] wNil := pk_nil.imp fun σ H Q ⟨g, K, _, E, w, U, _⟩ => U [] g [] H w Step.refl E .nil
theorem dk_cons (ha : DE X W e we) (hr : DK X W kws wk) : DK X W (⟨nm, e, kpos⟩ :: kws) (wCons we wk) := (pk_cons (nm := nm) (kpos := kpos) ha hr).imp fun σ H Q ⟨g, K, Xd, E, w, U, UX⟩ =>
  ⟨g, _, Xd, E, w, fun d g1 v H1 k s1 E1 r1 => ⟨g1, _, Xd, E1, k, fun ds g2 vs H2 k2 s2 E2 l2 => U (d :: ds) g2 (v :: vs) H2 k2 (s1.trans s2) E2 (.cons (r1.step s2) l2), UX.on s1⟩, UX⟩
theorem runGK {pins : List (Addr × Obj)} {σ : L2.St} {H : Hp} {s : Shared} {Q : VK} {us ws : List Value} {vs zs : List V} (F : FnG X.prog X.w X.K X.mg X.base k f fd ps sp) (hG : X.A.guards = some []) (room : Room k X.A) (hb : KBinds X.K fd ps ks g gV) (pass : PassesAt (L2.CX X.prog X.w) X σ (E σ))
    (I : Inv X pins σ H s) (r : Vals vs us) (rz : Vals zs ws) (want : sp (gV vs zs) H Q (E σ)) : wpAny (model X.prog X.w) X.A (call (.ref f) us (ks.zip ws)) (EP X pins σ Q) X.xe s := by
  have r2 := hb.rel r rz
  have b0 := hb.to s us ws I.kIn (by rw [← Paired.length r2]; exact F.len _ _ _ _ want)
  refine wpAny_call (codeAny_mono (F.run X.A X.stack s H ⟨us, ks.zip ws⟩ (g us ws) (gV vs zs) Q (E σ) hG room I.env0 b0 r2 want) ?_)
  intro res s' done
  match res, done with
  | .error er, done => exact pass pins H s er s' I done
  | .ok (.ret _), done => exact I.after done
def tCallKG (sp : Sp) (gV : List V → List V → List V) (E : L2.St → XK) (t tk : TA) : TE := fun σ H Q => t σ H fun vs H1 => tk σ H1 fun zs H2 => sp (gV vs zs) H2 Q (E σ)
/-- f(e, .., k = v, ..) -/
theorem pe_callKG (F : FnG X.prog X.w X.K X.mg X.base k f fd ps sp) (hG : X.A.guards = some []) (room : Room k X.A) (hg : Gl X x) (hm : X.mg x = some (.ref f)) (hk : PySem.W.keepIn X.K (.ref f) = true) (hb : KBinds X.K fd ps ks g gV) (pass : ∀ σ, PassesAt (L2.CX X.prog X.w) X σ (E σ))
    (ha : PA X (e :: es) t) (hkw : PK X kws tk0) (hall : (backToKw pos (keywordEach kws X.env)).all (·.1.isSome) = true := by rfl) (hks : (backToKw pos (keywordEach kws X.env)).filterMap (·.1) = ks := by rfl)
    (hdb : (x == ("__debug__" : Str)) = false := by decide) (he : starEach (e :: es) X.env = (false, eval e X.env) :: starEach es X.env := by rfl)
    (hpl : ((backTo pos (starEach (e :: es) X.env)).any (·.1) || (backToKw pos (keywordEach kws X.env)).any (·.1.isNone)) = false := by rfl) : PE X (.Call (.Name x p) (e :: es) kws pos) (tCallKG sp gV E t tk0) := by
  constructor
  intro pins s σ H Q I h
  refine wpAny_Call_Name_kw (ld_glob I hg hm ?_ hdb)
  refine PySem.W.callWith_KW (h₀ := X.base) I.ok.mod.kin hk hall (thn (ha.run pos pins s σ H _ I h) ?_) hpl he
  rintro us s1 ⟨vs, H1, I1, r, q⟩
  refine thn (hkw.run pos pins s1 σ H1 _ I1 q) ?_
  rintro ws s2 ⟨zs, H2, I2, rz, q2⟩
  refine ⟨I2.kIn, ?_⟩
  rw [hks]; exact runGK F hG room hb (pass σ) I2 r rz q2
/-- f(k = v, ..) -/
theorem pe_callK0G (F : FnG X.prog X.w X.K X.mg X.base k f fd ps sp) (hG : X.A.guards = some []) (room : Room k X.A) (hg : Gl X x) (hm : X.mg x = some (.ref f)) (hk : PySem.W.keepIn X.K (.ref f) = true) (hb : KBinds X.K fd ps ks g gV) (pass : ∀ σ, PassesAt (L2.CX X.prog X.w) X σ (E σ))
    (hkw : PK X kws tk0) (hall : (backToKw pos (keywordEach kws X.env)).all (·.1.isSome) = true := by rfl) (hks : (backToKw pos (keywordEach kws X.env)).filterMap (·.1) = ks := by rfl)
    (hdb : (x == ("__debug__" : Str)) = false := by decide)
    (hpl : ((backTo pos (starEach [] X.env)).any (·.1) || (backToKw pos (keywordEach kws X.env)).any (·.1.isNone)) = false := by rfl) : PE X (.Call (.Name x p) [] kws pos) (tCallKG sp gV E tNil tk0) := by
  constructor
  intro pins s σ H Q I h
  refine wpAny_Call_Name_kw (ld_glob I hg hm ?_ hdb)
  refine PySem.W.callWith_KW0 (h₀ := X.base) I.ok.mod.kin hk hall (thn (hkw.run pos pins s σ H _ I h) ?_) hpl
  rintro ws s2 ⟨zs, H2, I2, rz, q2⟩
  refine ⟨I2.kIn, ?_⟩
  rw [hks]; exact runGK (us := []) (vs := []) F hG room hb (pass σ) I2 .nil rz q2
end
/-- no defaults, keywords in any order -/
theorem kbOf {K : Fr} {x qual : Str} {prs : Arguments} {bd : List Stmt} {sc : Scope} {kw : List (Str × V)} {f : Addr} {fd : FuncData} {ps ks : List Str} {g : List Value → List Value → List Value} {gV : List V → List V → List V} (F : FunD K x qual prs bd sc [] kw f fd)
    (h : ∀ (kV doc pm : Value) (an : Option Addr) (cdv ct : Value) (us ws : List Value), (g us ws).length = ps.length → bindArgs (PySem.W.fnOf x qual prs bd sc .none kV doc pm an cdv ct) ⟨us, ks.zip ws⟩ = pure (ps.zip (g us ws)))
    (rel : ∀ {vs : List V} {us : List Value} {zs : List V} {ws : List Value}, Vals vs us → Vals zs ws → Vals (gV vs zs) (g us ws)) : KBinds K fd ps ks g gV := by
  obtain ⟨oc, od, dV, kV, doc, pm, an, cdv, ct, osl, rfl, lk, hcd, hD, hK⟩ := F.ex
  rcases hD with ⟨_, rfl⟩ | ⟨e, _⟩
  · exact ⟨fun s us ws _ hl => .of_eq (h kV doc pm an cdv ct us ws hl), rel⟩
  · exact absurd rfl e
/-- the given order, taken apart -/
structure Mix (g : ∀ {α : Type}, List α → List α → List α) : Prop where
  vals : ∀ {vs : List V} {us : List Value} {zs : List V} {ws : List Value}, Vals vs us → Vals zs ws → Vals (g vs zs) (g us ws)
  rep : ∀ {H : Hp} {st : Sto} {vs : List D} {us : List V} {zs : List D} {ws : List V}, RepL H st vs us → RepL H st zs ws → RepL H st (g vs zs) (g us ws)
section
variable {X : Cx} {W : WX} {k : Nat} {f C : Addr} {fd : FuncData} {ps ks : List Str} {ct : CT} {x : Str} {p pos : Pos} {e : Expr} {es : List Expr} {kws : List Keyword} {wa wk : WA} {g : ∀ {α : Type}, List α → List α → List α}
def wCallK (n : Nat) (ct : CT) (g : ∀ {α : Type}, List α → List α → List α) (wa wk : WA) : WE := fun g0 K X => wa g0 (fun ds g1 => wk g1 (fun zs g2 => (g ds zs).length = n ∧ ct (g ds zs) g2.st (fun d st => K d ⟨g2.sl, st⟩) (fun C d st => X C d ⟨g2.sl, st⟩)) X) X
theorem callK_ok (mx : Mix g) {tw tk1 : TA} (h1 : ∀ σ H Q, liftA W wa σ H Q → tw σ H Q) (h2 : ∀ σ H Q, liftA W wk σ H Q → tk1 σ H Q) {σ : L2.St} {H : Hp} {Q : VK} (h : liftE W (wCallK ps.length ct g wa wk) σ H Q) : tCallKG (liftSp ps.length ct) g (L2.WE W) tw tk1 σ H Q := by
  obtain ⟨g0, K, Xd, E, h, U, UX⟩ := h
  refine h1 _ _ _ ⟨g0, _, Xd, E, h, fun ds g1 vs H1 k1 s1 E1 l1 => h2 _ _ _ ⟨g1, _, Xd, E1, k1, fun zs g2 ws H2 k2 s2 E2 l2 => ?_, UX.on s1⟩, UX⟩
  exact call_sp E2 (mx.rep (l1.step s2) l2) k2.1 k2.2 (U.on (s1.trans s2)) (UX.on (s1.trans s2))
theorem de_callK (mx : Mix g) (F : FnG X.prog X.w X.K X.mg X.base k f fd ps (liftSp ps.length ct)) (hG : X.A.guards = some []) (hr : Room k X.A) (hm : X.mg x = some (.ref f)) (hk : PySem.W.keepIn X.K (.ref f) = true) (hb : KBinds X.K fd ps ks g g) (tk : Takes X W)
    (ha : DA X W (e :: es) wa) (hw : DK X W kws wk) (hg : Gl X x := by rfl) (hall : (backToKw pos (keywordEach kws X.env)).all (·.1.isSome) = true := by rfl) (hks : (backToKw pos (keywordEach kws X.env)).filterMap (·.1) = ks := by rfl)
    (hdb : (x == ("__debug__" : Str)) = false := by decide) (he : starEach (e :: es) X.env = (false, eval e X.env) :: starEach es X.env := by rfl)
    (hpl : ((backTo pos (starEach (e :: es) X.env)).any (·.1) || (backToKw pos (keywordEach kws X.env)).any (·.1.isNone)) = false := by rfl) : DE X W (.Call (.Name x p) (e :: es) kws pos) (wCallK ps.length ct g wa wk) :=
  (pe_callKG F hG hr hg hm hk hb (fun σ => passAt tk σ) ha hw hall hks hdb he hpl).imp fun _ _ _ h => callK_ok mx (fun _ _ _ h => h) (fun _ _ _ h => h) h
theorem de_callK0 (mx : Mix g) (F : FnG X.prog X.w X.K X.mg X.base k f fd ps (liftSp ps.length ct)) (hG : X.A.guards = some []) (hr : Room k X.A) (hm : X.mg x = some (.ref f)) (hk : PySem.W.keepIn X.K (.ref f) = true) (hb : KBinds X.K fd ps ks g g) (tk : Takes X W)
    (hw : DK X W kws wk) (hg : Gl X x := by rfl) (hall : (backToKw pos (keywordEach kws X.env)).all (·.1.isSome) = true := by rfl) (hks : (backToKw pos (keywordEach kws X.env)).filterMap (·.1) = ks := by rfl)
    (hdb : (x == ("__debug__" : Str)) = false := by decide) (hpl : ((backTo pos (starEach [] X.env)).any (·.1) || (backToKw pos (keywordEach kws X.env)).any (·.1.isNone)) = false := by rfl) : DE X W (.Call (.Name x p) [] kws pos) (wCallK ps.length ct g wNil wk) :=
  (pe_callK0G F hG hr hg hm hk hb (fun σ => passAt tk σ) hw hall hks hdb hpl).imp fun _ _ _ h => callK_ok mx (fun σ H Q ⟨g, K, _, E, w, U, _⟩ => U [] g [] H w Step.refl E .nil) (fun _ _ _ h => h) h
end
/-! ### C(k = v, ..) -/
section
variable {X : Cx} {W : WX} {k : Nat} {f C : Addr} {fd : FuncData} {ps ks : List Str} {sp : Sp} {ct : CT} {E : L2.St → XK} {x : Str} {p pos : Pos} {e : Expr} {es : List Expr} {kws : List Keyword} {wa wk : WA} {t tk0 : TA} {g : ∀ {α : Type}, List α → List α → List α}
theorem runMakeK {pins : List (Addr × Obj)} {σ : L2.St} {H : Hp} {s : Shared} {Q : VK} {us ws : List Value} {vs zs : List V} (M : Mk X.K C f) (F : FnG X.prog X.w X.K X.mg X.base k f fd ps sp) (hG : X.A.guards = some []) (room : Room (k + 1) X.A) (hb : KBinds X.K fd ps ks g g)
    (pass : ∀ σ, PassesAt (L2.CX X.prog X.w) X σ (E σ)) (I : Inv X pins σ H s) (rv : Vals vs us) (rz : Vals zs ws) (hyp : ∀ y dx, H y = none → H dx = none → dx ≠ y → sp (g (.ref y :: vs) zs) (upd (upd H dx (.own y)) y (.ins C dx [])) (fun v H2 => v = .non ∧ Q (.ref y) H2) (E σ)) :
    wpAny (model X.prog X.w) X.A (call (.ref C) us (ks.zip ws)) (EP X pins σ Q) X.xe s := by
  have f1 := I.hok.fresh (Nat.le_succ s.heap.objs.size)
  have f0 := I.hok.fresh (Nat.le_refl s.heap.objs.size)
  generalize hn : s.heap.objs.size = n at f1 f0
  have want := hyp (n + 1) n f1 f0 (Nat.ne_of_lt (Nat.lt_succ_self n))
  have J := Inv.made (C := C) I
  rw [hn] at J
  have vals := hb.rel (vs := V.ref (n + 1) :: vs) (us := Value.ref (n + 1) :: us) (.cons rfl rv) rz
  have b0 := hb.to _ (Value.ref (n + 1) :: us) ws J.kIn (by rw [← Paired.length vals]; exact F.len _ _ _ _ want)
  have g1 : (X.A.under (.builtin "type.__call__" ⟨.ref C :: us, ks.zip ws⟩)).guards = some [] := by
    unfold Around.under
    simp only [hG]
    first | rfl | decide | (simp [pushGuards, Code.guards, Code.isGuard]; done)
  have core := F.run _ X.stack _ _ ⟨Value.ref (n + 1) :: us, ks.zip ws⟩ (g (Value.ref (n + 1) :: us) ws) _ _ (E σ) g1 (room.make C us (ks.zip ws)) (J.env0.make C us (ks.zip ws)) b0 vals want
  refine wpAny_call (make_map (f := f) I.kIn M.makes M.init (beq_iff_eq.mp M.fn) ?_)
  rw [hn]
  refine codeAny_mono core fun res s' done => ?_
  match res, done with
  | .error er, done => exact pass σ pins _ _ er s' J done
  | .ok (.ret u), done =>
    obtain ⟨v, H', I3, r3, ev, q3⟩ := J.after done
    subst ev
    exact ⟨r3, ⟨V.ref (n + 1), H', I3, rfl, q3⟩⟩
def tMakeKG (C : Addr) (sp : Sp) (g : ∀ {α : Type}, List α → List α → List α) (E : L2.St → XK) (tk : TA) : TE := fun σ H Q => tk σ H fun zs H1 => ∀ y dx, H1 y = none → H1 dx = none → dx ≠ y → sp (g [.ref y] zs) (upd (upd H1 dx (.own y)) y (.ins C dx [])) (fun v H2 => v = .non ∧ Q (.ref y) H2) (E σ)
theorem pe_makeK0G (M : Mk X.K C f) (F : FnG X.prog X.w X.K X.mg X.base k f fd ps sp) (hG : X.A.guards = some []) (room : Room (k + 1) X.A) (hg : Gl X x) (hm : X.mg x = some (.ref C)) (hb : KBinds X.K fd ps ks g g) (pass : ∀ σ, PassesAt (L2.CX X.prog X.w) X σ (E σ)) (hkw : PK X kws tk0)
    (hall : (backToKw pos (keywordEach kws X.env)).all (·.1.isSome) = true := by rfl) (hks : (backToKw pos (keywordEach kws X.env)).filterMap (·.1) = ks := by rfl) (hdb : (x == ("__debug__" : Str)) = false := by decide)
    (hpl : ((backTo pos (starEach [] X.env)).any (·.1) || (backToKw pos (keywordEach kws X.env)).any (·.1.isNone)) = false := by rfl) : PE X (.Call (.Name x p) [] kws pos) (tMakeKG C sp g E tk0) := by
  constructor
  intro pins s σ H Q I h
  refine wpAny_Call_Name_kw (ld_glob I hg hm ?_ hdb)
  refine PySem.W.callWith_KW0 (h₀ := X.base) I.ok.mod.kin M.kp hall (thn (hkw.run pos pins s σ H _ I h) ?_) hpl
  rintro ws s2 ⟨zs, H2, I2, rz, q2⟩
  refine ⟨I2.kIn, ?_⟩
  rw [hks]; exact runMakeK (us := []) (vs := []) M F hG room hb pass I2 .nil rz q2
def wMakeK (C : Addr) (n : Nat) (ct : CT) (g : ∀ {α : Type}, List α → List α → List α) (wk : WA) : WE := fun g0 K X => wk g0 (fun zs g1 => ∀ a, g1.st a = none → (g [.ref a] zs).length = n ∧ ct (g [.ref a] zs) (put g1.st a (.obj C [])) (fun d st => d = .non ∧ K (.ref a) ⟨g1.sl, st⟩) (fun C' d st => X C' d ⟨g1.sl, st⟩)) X
theorem de_makeK0 (mx : Mix g) (M : Mk X.K C f) (F : FnG X.prog X.w X.K X.mg X.base k f fd ps (liftSp ps.length ct)) (hG : X.A.guards = some []) (hr : Room (k + 1) X.A) (hm : X.mg x = some (.ref C)) (hb : KBinds X.K fd ps ks g g) (tk : Takes X W) (hw : DK X W kws wk) (hg : Gl X x := by rfl)
    (hall : (backToKw pos (keywordEach kws X.env)).all (·.1.isSome) = true := by rfl) (hks : (backToKw pos (keywordEach kws X.env)).filterMap (·.1) = ks := by rfl) (hdb : (x == ("__debug__" : Str)) = false := by decide)
    (hpl : ((backTo pos (starEach [] X.env)).any (·.1) || (backToKw pos (keywordEach kws X.env)).any (·.1.isNone)) = false := by rfl) : DE X W (.Call (.Name x p) [] kws pos) (wMakeK C ps.length ct g wk) :=
  (pe_makeK0G M F hG hr hg hm hb (fun σ => passAt tk σ) hw hall hks hdb hpl).imp fun σ H Q ⟨g0, K, Xd, E, h, U, UX⟩ => by
  refine ⟨g0, _, Xd, E, h, fun zs g1 vs H1 k1 s1 E1 l1 y dx hy hdx ne => ?_, UX⟩
  have hy' : upd H1 dx (.own y) y = none := by rw [upd_ne (Ne.symm ne)]; exact hy
  have sa : Step g1.st H1 g1.st (upd H1 dx (.own y)) := Step.new hdx
  have sb : Step g1.st (upd H1 dx (.own y)) (put g1.st y (.obj C [])) (upd (upd H1 dx (.own y)) y (.ins C dx [])) := Step.newc hy'
  have R2 : StoRep (upd (upd H1 dx (.own y)) y (.ins C dx [])) (put g1.st y (.obj C [])) := (E1.sto.new hdx).newc hy' ⟨dx, [], upd_same, .nil⟩
  have s12 := sa.trans sb
  obtain ⟨hn, k2⟩ := k1 y (E1.sto.free hy)
  have lz := mx.rep (.cons (.ref y) .nil) (l1.step s12)
  refine ⟨by rw [← lz.length]; exact hn, _, _, _, _, lz, R2, k2, fun d st v H' kd s R r => ?_, fun C' d st dx' H' kd s R r => ?_⟩
  · obtain ⟨rfl, kd⟩ := kd
    cases r
    exact ⟨rfl, U (.ref y) ⟨g1.sl, st⟩ _ H' kd (s1.trans (s12.trans s)) (E1.step (s12.trans s) R) (.ref y)⟩
  · exact UX C' d ⟨g1.sl, st⟩ dx' H' kd (s1.trans (s12.trans s)) (E1.step (s12.trans s) R) r
end
end DL

end SDLV

section SDLQ
set_option Elab.async false
set_option linter.all false
set_option maxRecDepth 100000
namespace DL
open PySem PySem.Spec PyProof.Rows L2
/-! ### == by an own __eq__ -/
abbrev E00 : XK := fun _ _ _ => False
def rOwnEq (K : Fr) (C : Addr) (sp : Sp) : R2 := fun x y H Q => ∃ a dx fs tb, x = .ref a ∧ H a = some (.ins C dx fs) ∧ TyX K H y tb ∧ PySem.W.notFirst K C tb = true ∧ sp [x, y] H Q E00
section
variable {X : Cx} {k : Nat} {f C : Addr} {fd : FuncData} {ps : List Str} {sp : Sp}
theorem pass00 (σ : L2.St) : PassesAt (L2.CX X.prog X.w) X σ E00 := passAt (W := W0) takes0 σ
theorem op_ownEq (F : FnG X.prog X.w X.K X.mg X.base k f fd ps sp) (hG : X.A.guards = some []) (hr : Room k X.A) (hb : Binds X.K fd ps []) (hs : PySem.W.findIn X.K (.ref C) "__eq__" = some (some (.ref f))) (hf : PySem.W.isFn X.K (.ref f) = true) :
    OpR X (compareOp .Eq) (rOwnEq X.K C sp) := by
  rintro pins s σ H x y v u Q I rx ry ⟨a, dx, fs, tb, rfl, ha, ty, hn, q⟩
  cases (show v = Value.ref a from rx)
  obtain ⟨mA, J, _⟩ := ins_get I.hok ha
  obtain ⟨od, J, _⟩ := J.look
  obtain ⟨m, hF⟩ := I.fr
  obtain ⟨P, Z, p, _⟩ := kit_of I ry ty
  show wpAny _ _ (richCompare .Eq (.ref a) u) _ _ _
  refine PySem.W.cmp_K (op := .Eq) (tb := tb) hr.units0 hF I.ok.mod.kin J (Z.ty _ _ I.kIn p) hn hs hf ?_
  refine wpAny_mono (runG (us := [.ref a, u]) (vs := [.ref a, y]) (E := fun _ => E00) F hG hr hb (pass00 σ) I (.cons rfl (.cons ry .nil)) q) ?_ fun _ _ z => z
  rintro w s' ⟨z', H', I', rz, qz⟩
  exact SlX.cmpback rz ⟨z', H', I', rz, qz⟩
end
def oOwnEq (K : Fr) (C : Addr) (n : Nat) (ct : CT) : WO2 := fun x y g Kd => cellO x g.st fun _ C' _ => C' = C ∧ ofD K g.st y fun tb => PySem.W.notFirst K C tb = true ∧ n = 2 ∧ ct [x, y] g.st (fun d st => Kd d ⟨g.sl, st⟩) fun _ _ _ => False
theorem ofD_ty {K : Fr} {st : Sto} {H : Hp} {d : D} {v : V} {f : Value → Prop} (R : StoRep H st) (r : Rep H st d v) (h : ofD K st d f) : ∃ t, TyX K H v t ∧ f t := by
  unfold ofD at h
  cases q : kindOf st d with
  | some t => rw [q] at h; exact ⟨_, kind_ok R r q, h⟩
  | none =>
    rw [q] at h
    obtain ⟨a, C, fs, rfl, hc, ic, h2⟩ := cellO_ok h
    cases r
    obtain ⟨dx, vs, ea, _⟩ := R a _ hc
    exact ⟨_, .base (.ins ea ic.cl ic.ha ic.hn ic.ht ic.hm), h2⟩
theorem so_ownEq {K : Fr} {C : Addr} {n : Nat} {ct : CT} : SO2 (rOwnEq K C (liftSp n ct)) (oOwnEq K C n ct) := fun {d e x y g σ H Kd Q} E ra rb w U => by
  obtain ⟨a, C', fs, rfl, hc, rfl, w2⟩ := cellO_ok w
  obtain ⟨tb, ty, hn, e2, h⟩ := ofD_ty E.sto rb w2
  subst e2
  cases ra
  obtain ⟨dx, vs, ea, _⟩ := E.sto a _ hc
  refine ⟨a, dx, vs, tb, rfl, ea, ty, hn, rfl, [.ref a, e], g.st, _, _, .cons (.ref a) (.cons rb .nil), E.sto, h, fun d st v H' k s R r => U d ⟨g.sl, st⟩ v H' k s (E.step s R) r, fun _ _ _ _ _ h _ _ _ => h.elim⟩
def fEq (x : Str) : Fr → Bool := fun K => He.eqO (PySem.W.findIn K (.ref (He.ga K x)) "__eq__") (some (some (.ref (He.ma K (He.ga K x) "__eq__")))) && PySem.W.isFn K (.ref (He.ma K (He.ga K x) "__eq__"))
theorem Known.eq {fs : List (Fr → Bool)} {fn : List He.DefD} {K : Fr} {mg : Str → Option Value} (c : Known fs fn K mg) (i : Nat) {x : Str} (h : fs[i]? = some (fEq x) := by rfl) :
    PySem.W.findIn K (.ref (He.ga K x)) "__eq__" = some (some (.ref (He.ma K (He.ga K x) "__eq__"))) ∧ PySem.W.isFn K (.ref (He.ma K (He.ga K x) "__eq__")) = true := by
  have q := c.fact i h
  unfold fEq at q
  obtain ⟨h1, h2⟩ := Bool.and_eq_true_iff.mp q
  exact ⟨He.eqO_ok h1, h2⟩
end DL
namespace DL
open PySem PySem.Spec PyProof.Rows L2
/-! ### != by an own __eq__ -/
theorem nsVal_of {K : Fr} {h : Heap} {N : Addr} {m : Str → Option Value} {n : Str} {v : Value} (X : K.In h) (G : h.Ns N m) (e : PySem.W.nsIn K N n = some (some v)) : m n = some v := by
  obtain ⟨ob, es, ep, ho, hd, _, hf⟩ := G
  unfold PySem.W.nsIn at e
  split at e
  · rename_i q
    have z := (X _ _ q).symm.trans ho
    cases z; cases hd
    split at e
    · rename_i he
      cases e; rw [← hf]
      unfold nsFind findBy; rw [← Array.find?_toList, he] <;> rfl
    · split at e <;> cases e
  · cases e
def neShape (K : Fr) (C f : Addr) : Obj → Bool
  | ⟨.type "type", _, .cls ⟨_, _, .ref C' :: bm, N, _, _, _, _, _, _, false⟩, ⟨[_, _, _, _, some (.builtin _), _]⟩⟩ => C' == C && (bm == [.type "object"] && (PySem.W.nsOkIn K N && (He.eqO (PySem.W.nsIn K N "__eq__") (some (some (.ref f))) && He.eqO (PySem.W.nsIn K N "__ne__") (some none))))
  | _ => false
theorem neShape_ok {K : Fr} {C f : Addr} {o : Obj} (h : neShape K C f o = true) : ∃ nm q N bs hdct sn sub ab col dd k0 k1 k2 k3 k5 newId, o = excClassObj nm q C N bs [.type "object"] hdct sn sub ab col dd k0 k1 k2 k3 k5 newId ∧
    PySem.W.nsOkIn K N = true ∧ PySem.W.nsIn K N "__eq__" = some (some (.ref f)) ∧ PySem.W.nsIn K N "__ne__" = some none := by
  unfold neShape at h
  split at h
  · simp only [Bool.and_eq_true, beq_iff_eq] at h
    obtain ⟨rfl, rfl, h1, h2, h3⟩ := h
    exact ⟨_, _, _, _, _, _, _, _, _, _, _, _, _, _, _, _, rfl, h1, He.eqO_ok h2, He.eqO_ok h3⟩
  · cases h
def neB (K : Fr) (C f : Addr) : Bool := (match K.lookup C with | some o => neShape K C f o | none => false) && (match K.lookup f with | some o => o.cls == .type "function" | none => false)
theorem neB_at {K : Fr} {C f x : Addr} {h : Heap} {o : Obj} (X : K.In h) (q : neB K C f = true) (hx : h.get? x = some o) (hc : o.cls = .ref C) : h.OwnEqNoNe x C f "object" [.type "object"] := by
  unfold neB at q
  obtain ⟨q1, q2⟩ := Bool.and_eq_true_iff.mp q
  cases e1 : K.lookup C with
  | none => rw [e1] at q1; cases q1
  | some oC =>
    rw [e1] at q1
    cases e2 : K.lookup f with
    | none => rw [e2] at q2; cases q2
    | some of =>
      rw [e2] at q2
      obtain ⟨nm, qn, N, bs, hdct, sn, sub, ab, col, dd, k0, k1, k2, k3, k5, newId, rfl, h1, h2, h3⟩ := neShape_ok q1
      have NS : h.Ns N (h.nsMap N) := .of_isNs (PySem.W.isNs_of_in X h1)
      exact ⟨o, of, nm, qn, N, bs, hdct, sn, sub, ab, col, dd, k0, k1, k2, k3, k5, newId, h.nsMap N, some (.builtin "object.__eq__"), hx, hc, X _ _ e1, NS, nsVal_of X NS h2, X _ _ e2, beq_iff_eq.mp q2, F.cmp_object.mro, F.cmp_object.eq.lookup, PySem.W.nsMap_none_of_in X h1 h3⟩
def rOwnNe (C : Addr) (sp : Sp) : R2 := fun x y H Q => ∃ a dx fs b dy gs, x = .ref a ∧ y = .ref b ∧ H a = some (.ins C dx fs) ∧ H b = some (.ins C dy gs) ∧ sp [x, y] H (fun v H' => ∃ k, v = .bl k ∧ Q (.bl (!k)) H') E00
section
variable {X : Cx} {k : Nat} {f C : Addr} {fd : FuncData} {ps : List Str} {sp : Sp}
theorem op_ownNe (F : FnG X.prog X.w X.K X.mg X.base k f fd ps sp) (hG : X.A.guards = some []) (hr : Room (k + 1) X.A) (hb : Binds X.K fd ps []) (ne : neB X.K C f = true) :
    OpR X (compareOp .NotEq) (rOwnNe C sp) := by
  rintro pins s σ H x y v u Q I rx ry ⟨a, dx, fs, b, dy, gs, rfl, rfl, ha, hb2, q⟩
  cases (show v = Value.ref a from rx)
  cases (show u = Value.ref b from ry)
  obtain ⟨mA, J, _⟩ := ins_get I.hok ha
  obtain ⟨od, J, _⟩ := J.look
  obtain ⟨mB, J', _⟩ := ins_get I.hok hb2
  obtain ⟨od', J', _⟩ := J'.look
  have b0 := hb s [.ref a, .ref b] I.kIn (by rw [List.append_nil]; exact F.len _ _ _ _ q)
  rw [List.append_nil] at b0
  have w0 := neB_at I.kIn ne J.at_ J.cls
  obtain ⟨hp, gn, dr, tk, os⟩ := s
  refine compareOp_ne_ownEq PySem.F.cmp_object w0 J'.at_ J'.cls hr.units1 ?_
  refine wpAny_call (codeAny_mono (F.run X.A.in1 X.stack _ H ⟨[.ref a, .ref b], []⟩ [.ref a, .ref b] [.ref a, .ref b] _ E00 hG hr.in1 I.env0.in1 b0 (.cons rfl (.cons rfl .nil)) q) ?_)
  intro res s' done
  match res, done with
  | .error er, done => exact pass00 σ pins H _ er s' I done
  | .ok (.ret _), done =>
    obtain ⟨z, H', I', rz, k0, rfl, qz⟩ := I.after done
    cases (show _ = Value.bool k0 from rz)
    exact ⟨k0, rfl, .bl (!k0), H', I', rfl, qz⟩
end
def oOwnNe (C : Addr) (n : Nat) (ct : CT) : WO2 := fun x y g Kd => cellO x g.st fun _ C' _ => C' = C ∧ cellO y g.st fun _ C2 _ => C2 = C ∧ n = 2 ∧ ct [x, y] g.st (fun d st => asBl d fun k => Kd (.bl (!k)) ⟨g.sl, st⟩) fun _ _ _ => False
theorem so_ownNe {C : Addr} {n : Nat} {ct : CT} : SO2 (rOwnNe C (liftSp n ct)) (oOwnNe C n ct) := fun {d e x y g σ H Kd Q} E ra rb w U => by
  obtain ⟨a, C', fs, rfl, hc, rfl, w2⟩ := cellO_ok w
  obtain ⟨b, C2, gs, rfl, hc2, rfl, e2, h⟩ := cellO_ok w2
  subst e2
  cases ra
  cases rb
  obtain ⟨dx, vs, ea, _⟩ := E.sto a _ hc
  obtain ⟨dy, ws, eb, _⟩ := E.sto b _ hc2
  refine ⟨a, dx, vs, b, dy, ws, rfl, rfl, ea, eb, rfl, [.ref a, .ref b], g.st, _, _, .cons (.ref a) (.cons (.ref b) .nil), E.sto, h, fun d st v H' k s R r => ?_, fun _ _ _ _ _ h _ _ _ => h.elim⟩
  obtain ⟨k0, rfl, k1⟩ := asBl_ok k
  cases r
  exact ⟨k0, rfl, U (.bl (!k0)) ⟨g.sl, st⟩ _ H' k1 s (E.step s R) (.bl _)⟩
def fNe (x : Str) : Fr → Bool := fun K => neB K (He.ga K x) (He.ma K (He.ga K x) "__eq__")
theorem Known.ne {fs : List (Fr → Bool)} {fn : List He.DefD} {K : Fr} {mg : Str → Option Value} (c : Known fs fn K mg) (i : Nat) {x : Str} (h : fs[i]? = some (fNe x) := by rfl) : neB K (He.ga K x) (He.ma K (He.ga K x) "__eq__") = true := c.fact i h
end DL

end SDLQ

section SDLW
set_option Elab.async false
set_option linter.all false
namespace DL
open PySem L2
/-! ### readings, by if and by asking -/
section
variable {g : G} {K : KD} {X : XD} {KB : Bool → G → Prop} {wa wb we : WE} {t u : WT} {a b : WS} {E : EndsD}
theorem wB_eq : wB we g KB X = we g (fun d g1 => asBl d fun k => KB k g1) X := by
  show we g _ X = we g _ X
  congr 1
theorem wTru_eq : DL.wTru we g KB X = we g (fun d g1 => opt (tru g1.st d) fun k => KB k g1) X := by
  show we g _ X = we g _ X
  congr 1; funext d g1; cases tru g1.st d <;> rfl
theorem wAndT_eq : wAndT t u g KB X = t g (fun k g1 => if k = true then u g1 KB X else KB false g1) X := by
  show t g _ X = t g _ X
  congr 1; funext k g1; cases k <;> simp
theorem wOrT_eq : wOrT t u g KB X = t g (fun k g1 => if k = true then KB true g1 else u g1 KB X) X := by
  show t g _ X = t g _ X
  congr 1; funext k g1; cases k <;> simp
theorem wAndV_eq : wAndV wa wb g K X = wa g (fun d g1 => asBl d fun k => if k = true then wb g1 K X else K (.bl false) g1) X := by
  show wa g _ X = wa g _ X
  congr 1; funext d g1; cases d with
  | bl k => cases k <;> simp [asBl]
  | _ => rfl
theorem wOrV_eq : wOrV wa wb g K X = wa g (fun d g1 => asBl d fun k => if k = true then K (.bl true) g1 else wb g1 K X) X := by
  show wa g _ X = wa g _ X
  congr 1; funext d g1; cases d with
  | bl k => cases k <;> simp [asBl]
  | _ => rfl
theorem wNotV_eq : wNotV wa g K X = wa g (fun d g1 => asBl d fun k => K (.bl (!k)) g1) X := by
  show wa g _ X = wa g _ X
  congr 1
theorem wIf_eq : DL.wIf t wa wb g K X = t g (fun k g1 => if k = true then wa g1 K X else wb g1 K X) X := by
  show t g _ X = t g _ X
  congr 1; funext k g1; cases k <;> simp
theorem wIfS_eq : wIfS t a b E g = t g (fun k g1 => if k = true then a E g1 else b E g1) E.ex := by
  show t g _ E.ex = t g _ E.ex
  congr 1; funext k g1; cases k <;> simp
theorem wChain_eq {w w' : WO2} {wc : WE} : wChain w w' wa wb wc g K X = wa g (fun x g1 => wb g1 (fun y g2 => w x y g2 fun d g3 => asBl d fun k => if k = true then wc g3 (fun z g4 => w' y z g4 K) X else K (.bl false) g3) X) X := by
  show wa g _ X = wa g _ X
  congr 1; funext x g1
  congr 1; funext y g2
  congr 1; funext d g3; cases d with
  | bl k => cases k <;> simp [asBl]
  | _ => rfl
theorem wVar_eq {i : Nat} : DL.wVar i g K X = opt (getS g.sl i) fun d => K d g := by
  show (match getS g.sl i with | some d => K d g | none => False) = _
  cases getS g.sl i <;> rfl
end
theorem opt_some {α : Type} {a : α} {f : α → Prop} : opt (some a) f = f a := rfl
theorem asBl_bl {k : Bool} {f : Bool → Prop} : asBl (.bl k) f = f k := rfl
theorem asInt_int {k : Int} {f : Int → Prop} : asInt (.int k) f = f k := rfl
theorem asStr_str {k : Str} {f : Str → Prop} : asStr (.str k) f = f k := rfl
theorem asTup_tup {k : List D} {f : List D → Prop} : asTup (.tup k) f = f k := rfl
theorem arg1_eq {a : D} {f : D → Prop} : arg1 [a] f = f a := rfl
theorem arg2_eq {a b : D} {f : D → D → Prop} : arg2 [a, b] f = f a b := rfl
theorem arg3_eq {a b c : D} {f : D → D → D → Prop} : arg3 [a, b, c] f = f a b c := rfl
theorem loopD_nil {ok : Sto → Prop} {wg : WG} {wb : WS} {E : EndsD} {g : G} : loopD ok wg wb E [] g = (ok g.st ∧ E.nx g) := rfl
/-- the kinds of what may be asked -/
def kinds : List String := ["NoneType", "bool", "int", "str", "tuple", "list", "dict"]
theorem kind_mem {st : Sto} {d : D} {k : String} (h : kindOf st d = some k) : k ∈ kinds := by
  unfold kindOf at h
  split at h <;> first | (cases h; decide) | (split at h <;> first | (cases h; decide) | cases h) | cases h
theorem kitB_int {k : String} (h : k ∈ kinds) : kitB k "int" = some (k == "int" || k == "bool") := by
  simp only [kinds, List.mem_cons, List.not_mem_nil, or_false] at h
  rcases h with rfl | rfl | rfl | rfl | rfl | rfl | rfl <;> decide +kernel
theorem kitB_bool {k : String} (h : k ∈ kinds) : kitB k "bool" = some (k == "bool") := by
  simp only [kinds, List.mem_cons, List.not_mem_nil, or_false] at h
  rcases h with rfl | rfl | rfl | rfl | rfl | rfl | rfl <;> decide +kernel
theorem kitB_str {k : String} (h : k ∈ kinds) : kitB k "str" = some (k == "str") := by
  simp only [kinds, List.mem_cons, List.not_mem_nil, or_false] at h
  rcases h with rfl | rfl | rfl | rfl | rfl | rfl | rfl <;> decide +kernel
theorem kitB_tuple {k : String} (h : k ∈ kinds) : kitB k "tuple" = some (k == "tuple") := by
  simp only [kinds, List.mem_cons, List.not_mem_nil, or_false] at h
  rcases h with rfl | rfl | rfl | rfl | rfl | rfl | rfl <;> decide +kernel
theorem kitB_list {k : String} (h : k ∈ kinds) : kitB k "list" = some (k == "list") := by
  simp only [kinds, List.mem_cons, List.not_mem_nil, or_false] at h
  rcases h with rfl | rfl | rfl | rfl | rfl | rfl | rfl <;> decide +kernel
theorem kitB_dict {k : String} (h : k ∈ kinds) : kitB k "dict" = some (k == "dict") := by
  simp only [kinds, List.mem_cons, List.not_mem_nil, or_false] at h
  rcases h with rfl | rfl | rfl | rfl | rfl | rfl | rfl <;> decide +kernel
end DL

end SDLW

section SDLP
set_option Elab.async false
set_option linter.all false
namespace DL
open PySem L2
/-! ### comprehensions whose parts change nothing -/
section
variable {ok : Sto → Prop} {wg : WG} {wt : WT} {we : WE} {sl : List (Option D)} {p : Addr} {K : List D → Sto → Prop}
/-- each item gives an element, or none -/
theorem lcD_pure (h : D → Option D) {st : Sto} (hok : ∀ acc, ok (put st p (.lst acc))) : ∀ (xs acc : List D), acc.length + xs.length ≤ sizeLine →
    (∀ x ∈ xs, ∀ (acc : List D) (KT : KD) (KF : G → Prop), (∀ y, h x = some y → ∀ g, g.st = put st p (.lst acc) → KT y g) → (h x = none → ∀ g, g.st = put st p (.lst acc) → KF g) →
      wg x ⟨sl, put st p (.lst acc)⟩ fun g2 => wt g2 (fun b g3 => match b with | true => we g3 KT noX | false => KF g3) noX) →
    K (acc ++ xs.filterMap h) (put st p (.lst (acc ++ xs.filterMap h))) → lcD ok wg wt we sl p K xs acc (put st p (.lst acc))
  | [], acc, _, _, k => ⟨hok acc, put_same, by simpa using k⟩
  | x :: xs, acc, hl, H, k => by
    refine ⟨hok acc, H x (List.mem_cons_self ..) acc _ _ (fun y hy g e => ?_) (fun hn g e => ?_)⟩
    · refine ⟨by rw [e]; exact put_same, by simp only [List.length_cons] at hl; omega, ?_⟩
      rw [e, put_put]
      refine lcD_pure h hok xs (acc ++ [y]) (by simp only [List.length_append, List.length_cons, List.length_nil] at hl ⊢; omega) (fun z hz => H z (List.mem_cons_of_mem _ hz)) ?_
      rw [List.filterMap_cons, hy] at k
      simpa using k
    · rw [e]
      refine lcD_pure h hok xs acc (by simp only [List.length_cons] at hl; omega) (fun z hz => H z (List.mem_cons_of_mem _ hz)) ?_
      rw [List.filterMap_cons, hn] at k
      simpa using k
end
theorem wLc_pure {vs : List Nat} {wi : WI} {wg : WG} {wt : WT} {we : WE} {g : G} {K : KD} {X : XD} (items : List D) (h : D → Option D) (hi : ∀ KI : KI, KI items always g → wi g KI X) (hl : items.length ≤ sizeLine)
    (H : ∀ x ∈ items, ∀ (p : Addr) (acc : List D) (KT : KD) (KF : G → Prop), g.st p = none → (∀ y, h x = some y → ∀ g', g'.st = put g.st p (.lst acc) → KT y g') → (h x = none → ∀ g', g'.st = put g.st p (.lst acc) → KF g') →
      wg x ⟨wipeS g.sl vs, put g.st p (.lst acc)⟩ fun g2 => wt g2 (fun b g3 => match b with | true => we g3 KT noX | false => KF g3) noX)
    (k : K (.lst (items.filterMap h)) g) : wLc false vs wi wg wt we g K X := by
  refine hi _ fun p hp => ?_
  refine lcD_pure h (fun _ => trivial) items [] (by simpa using hl) (fun x hx acc KT KF => H x hx p acc KT KF hp) ?_
  show K (.lst ([] ++ items.filterMap h)) ⟨g.sl, drop (put g.st p (.lst ([] ++ items.filterMap h))) p⟩
  rw [drop_put hp, List.nil_append]
  exact k
/-- every item gives an element -/
theorem wLc_map {vs : List Nat} {wi : WI} {wg : WG} {we : WE} {g : G} {K : KD} {X : XD} (items : List D) (f : D → D) (hi : ∀ KI : KI, KI items always g → wi g KI X) (hl : items.length ≤ sizeLine)
    (H : ∀ x ∈ items, ∀ (p : Addr) (acc : List D) (KT : KD), g.st p = none → (∀ g', g'.st = put g.st p (.lst acc) → KT (f x) g') → wg x ⟨wipeS g.sl vs, put g.st p (.lst acc)⟩ fun g2 => we g2 KT noX)
    (k : K (.lst (items.map f)) g) : wLc false vs wi wg wYes we g K X := by
  refine wLc_pure items (fun x => some (f x)) hi hl (fun x hx p acc KT KF hp h1 _ => ?_) (by rw [List.filterMap_eq_map']; exact k)
  exact H x hx p acc KT hp fun g' e => h1 (f x) rfl g' e
theorem wIt_lst {we : WE} {g : G} {X : XD} {xs : List D} (h : ∀ K : KD, K (.lst xs) g → we g K X) (K : KI) (k : K xs always g) : wIt we g K X := h _ (by show opt (itAny g.st (.lst xs)) _; exact k)
theorem wIt_tup {we : WE} {g : G} {X : XD} {xs : List D} (h : ∀ K : KD, K (.tup xs) g → we g K X) (K : KI) (k : K xs always g) : wIt we g K X := h _ (by show opt (itAny g.st (.tup xs)) _; exact k)
theorem wIt_str {we : WE} {g : G} {X : XD} {x : Str} (h : ∀ K : KD, K (.str x) g → we g K X) (K : KI) (k : K (signs x) always g) : wIt we g K X := h _ (by show opt (itAny g.st (.str x)) _; exact k)
/-- the same over a source that must stay -/
theorem wLc_pureS {vs : List Nat} {wi : WI} {wg : WG} {wt : WT} {we : WE} {g : G} {K : KD} {X : XD} (items : List D) (ok : Sto → Prop) (h : D → Option D) (hi : ∀ KI : KI, KI items ok g → wi g KI X) (hok : ∀ p acc, g.st p = none → ok (put g.st p (.lst acc))) (hl : items.length ≤ sizeLine)
    (H : ∀ x ∈ items, ∀ (p : Addr) (acc : List D) (KT : KD) (KF : G → Prop), g.st p = none → (∀ y, h x = some y → ∀ g', g'.st = put g.st p (.lst acc) → KT y g') → (h x = none → ∀ g', g'.st = put g.st p (.lst acc) → KF g') →
      wg x ⟨wipeS g.sl vs, put g.st p (.lst acc)⟩ fun g2 => wt g2 (fun b g3 => match b with | true => we g3 KT noX | false => KF g3) noX)
    (k : K (.lst (items.filterMap h)) g) : wLc false vs wi wg wt we g K X := by
  refine hi _ fun p hp => ?_
  refine lcD_pure h (fun acc => hok p acc hp) items [] (by simpa using hl) (fun x hx acc KT KF => H x hx p acc KT KF hp) ?_
  show K (.lst ([] ++ items.filterMap h)) ⟨g.sl, drop (put g.st p (.lst ([] ++ items.filterMap h))) p⟩
  rw [drop_put hp, List.nil_append]
  exact k
theorem wLc_mapS {vs : List Nat} {wi : WI} {wg : WG} {we : WE} {g : G} {K : KD} {X : XD} (items : List D) (ok : Sto → Prop) (f : D → D) (hi : ∀ KI : KI, KI items ok g → wi g KI X) (hok : ∀ p acc, g.st p = none → ok (put g.st p (.lst acc))) (hl : items.length ≤ sizeLine)
    (H : ∀ x ∈ items, ∀ (p : Addr) (acc : List D) (KT : KD), g.st p = none → (∀ g', g'.st = put g.st p (.lst acc) → KT (f x) g') → wg x ⟨wipeS g.sl vs, put g.st p (.lst acc)⟩ fun g2 => we g2 KT noX)
    (k : K (.lst (items.map f)) g) : wLc false vs wi wg wYes we g K X := by
  refine wLc_pureS items ok (fun x => some (f x)) hi hok hl (fun x hx p acc KT KF hp h1 _ => ?_) (by rw [List.filterMap_eq_map']; exact k)
  exact H x hx p acc KT hp fun g' e => h1 (f x) rfl g' e
theorem stays {st : Sto} {a : Addr} {xs : List D} (e : st a = some (.lst xs)) (p : Addr) (acc : List D) (hp : st p = none) : put st p (.lst acc) a = some (.lst xs) := by
  rw [put_ne (sto_ne e hp)]; exact e
theorem wIt_ref {we : WE} {g : G} {X : XD} {a : Addr} {xs : List D} (e : g.st a = some (.lst xs)) (h : ∀ K : KD, K (.ref a) g → we g K X) (K : KI) (k : K xs (fun st => st a = some (.lst xs)) g) : wIt we g K X := h _ (by
  show opt (itAny g.st (.ref a)) _
  have : itAny g.st (.ref a) = some (xs, fun st => st a = some (.lst xs)) := by unfold itAny lstAt; simp only [e]
  rw [this]; exact k)
theorem lenOf_ref {st : Sto} {a : Addr} {xs : List D} (e : st a = some (.lst xs)) : lenOf st (.ref a) = some xs.length := by unfold lenOf; simp only [e]
end DL

end SDLP

section SDLZ
set_option Elab.async false
set_option linter.all false
namespace DL
open PySem L2 TL
/-! ### texts cut at one sign -/
def cut (s : Nat) : List Nat → List Nat → List (List Nat)
  | acc, [] => [acc]
  | acc, c :: r => if c = s then acc :: cut s [] r else cut s (acc ++ [c]) r
theorem spl_cut (s : Nat) : ∀ (l acc : List Nat), spl [s] 0 acc l = cut s acc l
  | [], acc => rfl
  | c :: r, acc => by
    unfold spl cut
    have e : pre [s] (c :: r) = decide (c = s) := by
      unfold pre
      by_cases h : c = s <;> simp [h]
    rw [e]
    by_cases h : c = s
    · simp only [h, decide_true, if_true, List.length_cons, List.length_nil]
      rw [show 0 + 1 - 1 = 0 from rfl, spl_cut s r []]
    · simp only [h, decide_false, Bool.false_eq_true, if_false]
      exact spl_cut s r (acc ++ [c])
theorem split_cut {x y : Str} {s : Nat} (ey : tl y = [s]) (hs : y.cps.all (· < 256) = true) : (Txt.split x y).map tl = cut s [] (tl x) := by
  rw [split_spl x y (by rw [ey]; simp) (TL.kind_ok hs), ey, spl_cut]
theorem cut_len (s : Nat) : ∀ (l acc : List Nat), ∀ p ∈ cut s acc l, p.length ≤ acc.length + l.length
  | [], acc, p, h => by
    rw [cut, List.mem_singleton] at h
    rw [h]; simp
  | c :: r, acc, p, h => by
    unfold cut at h
    by_cases e : c = s
    · rw [if_pos e] at h
      rcases List.mem_cons.mp h with h | h
      · rw [h]; simp
      · have := cut_len s r [] p h
        simp at this ⊢; omega
    · rw [if_neg e] at h
      have := cut_len s r (acc ++ [c]) p h
      simp at this ⊢; omega
theorem cut_count (s : Nat) : ∀ (l acc : List Nat), (cut s acc l).length ≤ l.length + 1 ∧ 1 ≤ (cut s acc l).length
  | [], acc => by simp [cut]
  | c :: r, acc => by
    unfold cut
    by_cases e : c = s
    · rw [if_pos e]
      have := cut_count s r []
      simp; omega
    · rw [if_neg e]
      have := cut_count s r (acc ++ [c])
      simp; omega
theorem cut_no (s : Nat) : ∀ (l acc : List Nat), s ∉ acc → ∀ p ∈ cut s acc l, s ∉ p
  | [], acc, ha, p, h => by
    rw [cut, List.mem_singleton] at h
    rw [h]; exact ha
  | c :: r, acc, ha, p, h => by
    unfold cut at h
    by_cases e : c = s
    · rw [if_pos e] at h
      rcases List.mem_cons.mp h with h | h
      · rw [h]; exact ha
      · exact cut_no s r [] (by simp) p h
    · rw [if_neg e] at h
      exact cut_no s r (acc ++ [c]) (by simp [ha, Ne.symm e]) p h
theorem split_len {x y p : Str} {s : Nat} (ey : tl y = [s]) (hs : y.cps.all (· < 256) = true) (h : p ∈ Txt.split x y) : p.length ≤ x.length := by
  have : tl p ∈ cut s [] (tl x) := by rw [← split_cut ey hs]; exact List.mem_map_of_mem h
  have := cut_len s _ _ _ this
  rw [len_tl, len_tl]
  simpa using this
theorem split_count {x y : Str} {s : Nat} (ey : tl y = [s]) (hs : y.cps.all (· < 256) = true) : (Txt.split x y).length ≤ x.length + 1 ∧ 1 ≤ (Txt.split x y).length := by
  have e : (Txt.split x y).length = (cut s [] (tl x)).length := by rw [← split_cut ey hs, List.length_map]
  rw [e, len_tl]
  exact cut_count s _ _
theorem split_no {x y p : Str} {s : Nat} (ey : tl y = [s]) (hs : y.cps.all (· < 256) = true) (h : p ∈ Txt.split x y) : s ∉ tl p := by
  have : tl p ∈ cut s [] (tl x) := by rw [← split_cut ey hs]; exact List.mem_map_of_mem h
  exact cut_no s _ _ (by simp) _ this
end DL

end SDLZ

section SDLN
set_option Elab.async false
set_option linter.all false
set_option maxRecDepth 100000
/-! divmod, math.gcd, o.f += e, a target o.f, zip of a tuple and a list -/
namespace DL
open PySem PySem.Spec PyProof.Rows L2
section
variable {X : Cx} {W : WX}
/-! ### divmod -/
def oDivmod : WON := fun ds g K => arg2 ds fun a b => asInt a fun i => asInt b fun j => CDivP i j ∧ K (.tup [.int (i / j), .int (i % j)]) g
theorem son_divmod : SON (fun xs H Q => ∃ i j, xs = [.int i, .int j] ∧ CDivP i j ∧ ∀ p, H p = none → Q (.ref p) (upd H p (.tup [.int (i / j), .int (i % j)]))) oDivmod := fun {a x g σ H K Q} E l w U => by
  obtain ⟨d, e, rfl, w⟩ := arg2_ok w
  obtain ⟨i, rfl, w⟩ := asInt_ok w
  obtain ⟨j, rfl, c, k⟩ := asInt_ok w
  obtain ⟨u, v, rfl, ru, rv⟩ := repL_2 l
  obtain rfl : u = V.int i := by cases ru; rfl
  obtain rfl : v = V.int j := by cases rv; rfl
  exact ⟨i, j, rfl, c, new_tup E (.cons (.int _) (.cons (.int _) .nil)) k U⟩
/-! ### math.gcd -/
def oGcd : WON := o2I fun i j => ((Nat.gcd i.natAbs j.natAbs : Nat) : Int)
theorem son_gcd : SON rGcd oGcd := fun {a x g σ H K Q} E l w U => son_2I (f := fun i j => ((Nat.gcd i.natAbs j.natAbs : Nat) : Int)) E l w U
theorem de_callBf {x : Str} {p pos : Pos} {e : Expr} {es : List Expr} {id : String} {r : List V → Hp → VK → Prop} {w : WON} {wa : WA} (hc : CallR X (.builtin id) r) (s : SON r w) (hm : X.mg x = some (.builtin id)) (ha : DA X W (e :: es) wa) (hg : Gl X x := by rfl) (hdb : (x == ("__debug__" : Str)) = false := by decide)
    (he : starEach (e :: es) X.env = (false, eval e X.env) :: starEach es X.env := by rfl) (hpl : (backTo pos (starEach es X.env)).any (·.1) = false := by rfl) :
    DE X W (.Call (.Name x p) (e :: es) [] pos) (wCB w wa) := PE.imp (pe_callBfun hc hg hm ha hdb he hpl) fun _ _ _ h => seqN s h
/-- the name x is the built-in id -/
def fBfn (x : Str) (id : String) : Fr → Bool := fun K => He.eqO (PySem.W.nsIn K mainGlobals x) (some (some (.builtin id)))
theorem Known.bfn {fs : List (Fr → Bool)} {fn : List He.DefD} {K : Fr} {mg : Str → Option Value} (c : Known fs fn K mg) (i : Nat) {x : Str} {id : String} (h : fs[i]? = some (fBfn x id) := by rfl) : mg x = some (.builtin id) := by
  obtain ⟨hp, Y, G⟩ := c.hp
  exact PySem.W.mg_of Y G (He.eqO_ok (c.fact i h))
/-! ### o.f += e -/
def wAugF (C : Addr) (f : Str) (h : Int → Int → Int) (wo wv : WE) : WS := fun K g => wo g (fun d g1 => cellO d g1.st fun a C' fs => C' = C ∧ opt (fs.lookup f) fun v => asInt v fun i => wv g1 (fun y g2 => asInt y fun j =>
  cellO (.ref a) g2.st fun _ C2 fs2 => (C2 = C ∧ fs2.length < 1000) ∧ K.nx ⟨g2.sl, put g2.st a (.obj C (putFD f (.int (h i j)) fs2))⟩) K.ex) K.ex
theorem ds_augF {o value : Expr} {f : Str} {C : Addr} {op : Operator} {h : Int → Int → Int} {tpos pos : Pos} {wo wv : WE} (hop : InOp X op fun x y H Q => ∃ i j, x = .int i ∧ y = .int j ∧ Q (.int (h i j)) H) (c : Cls X.K C) (n : NoAttr X.K C f) (ho : DE X W o wo) (hv : DE X W value wv) :
    DS X W (.AugAssign (.Attribute o f tpos) op value pos) (wAugF C f h wo wv) := (ps_fldaug ho hv hop).imp fun D σ H ⟨g, K, E, w, U⟩ => by
  refine ⟨g, _, K.ex, E, w, fun d g1 v H1 k1 s1 E1 r1 => ?_, U.ex.x σ⟩
  obtain ⟨a, C', fs, rfl, q, rfl, k2⟩ := cellO_ok k1
  obtain ⟨y, e, k3⟩ := opt_ok k2
  obtain ⟨i, rfl, k4⟩ := asInt_ok k3
  cases r1
  obtain ⟨dx, vs, ea, lf⟩ := E1.sto a _ q
  obtain ⟨u, hu, ru⟩ := (RepF.lookup (f := f) lf).1 _ e
  obtain rfl : u = V.int i := by cases ru; rfl
  refine ⟨a, C', dx, vs, _, rfl, ea, c, n, hu, g1, _, K.ex, E1, k4, fun y2 g2 v2 H2 k5 s2 E2 r2 => ?_, (U.ex.on s1).x σ⟩
  obtain ⟨j, rfl, k6⟩ := asInt_ok k5
  cases r2
  obtain ⟨a2, C2, fs2, e2, q2, ⟨rfl, hl⟩, k7⟩ := cellO_ok k6
  cases e2
  obtain ⟨dx2, vs2, ea2, lf2⟩ := E2.sto a _ q2
  have sw : Step g2.st H2 (put g2.st a (.obj C2 (putFD f (.int (h i j)) fs2))) (upd H2 a (.ins C2 dx2 (putF f (.int (h i j)) vs2))) := Step.wr q2
  exact ⟨i, j, rfl, rfl, dx2, vs2, ea2, by rw [← lf2.length]; exact hl, U.nx _ σ _ k7 (s1.trans (s2.trans sw)) (E2.step sw (E2.sto.wr q2 ⟨dx2, _, upd_same, (lf2.put (.int _)).step sw⟩))⟩
/-! ### the target o.f -/
def gFld (K : Fr) (to : TE) (f : Str) : TG := fun v σ H Q => to σ H fun x H1 => ∃ a C dx fs, x = .ref a ∧ H1 a = some (.ins C dx fs) ∧ Cls K C ∧ NoAttr K C f ∧ fs.length < 1000 ∧ Q σ (upd H1 a (.ins C dx (putF f v fs)))
theorem pg_fld {o : Expr} {f : Str} {pos : Pos} {to : TE} (ho : PE X o to) : PG X (.Attribute o f pos) (gFld X.K to f) := ⟨fun pins s σ H v u Q I r h => by
  rw [assign_Attribute]
  refine wpAny_bind (wpAny_holding (thn (ho.run pins s σ H _ I h) ?_))
  rintro ov s1 ⟨x, H1, I1, rx, a, C, dx, fs, rfl, ea, c, n, hl, q⟩
  obtain rfl : ov = Value.ref a := rx
  exact wpAny_bind (wpAny_standAt (wpAny_bind (wpAny_holding (setattr_ok I1 ea c n hl r fun s2 I2 => wpAny_release ⟨σ, _, I2, q⟩))))⟩
def wGFld (C : Addr) (f : Str) (wo : WE) : WG := fun v g K => wo g (fun d g1 => cellO d g1.st fun a C' fs => (C' = C ∧ fs.length < 1000) ∧ K ⟨g1.sl, put g1.st a (.obj C (putFD f v fs))⟩) noX
theorem dg_fld {vs : List Nat} {o : Expr} {f : Str} {C : Addr} {pos : Pos} {wo : WE} (c : Cls X.K C) (n : NoAttr X.K C f) (ho : DE X W0 o wo) : DG X vs (.Attribute o f pos) (wGFld C f wo) := (pg_fld ho).imp fun v σ H Q ⟨g, d, K, E, r, k, q⟩ => by
  refine ⟨g, _, noX, E, k, fun y g1 u H1 k1 s1 E1 r1 => ?_, upX0⟩
  obtain ⟨a, C', fs, rfl, e, ⟨rfl, hl⟩, k2⟩ := cellO_ok k1
  cases r1
  obtain ⟨dx, vs, ea, lf⟩ := E1.sto a _ e
  have sw : Step g1.st H1 (put g1.st a (.obj C' (putFD f d fs))) (upd H1 a (.ins C' dx (putF f v vs))) := Step.wr e
  exact ⟨a, C', dx, vs, rfl, ea, c, n, by rw [← lf.length]; exact hl, q _ _ _ k2 (s1.trans sw) (E1.step sw (E1.sto.wr e ⟨dx, _, upd_same, (lf.put (r.step s1)).step sw⟩)) rfl⟩
end
/-! ### zip of a tuple and a list -/
section
variable {prog : Program} {w : World} {A : Around} {E : Value → Shared → Prop} {s : Shared}
theorem zipM_item {z TI TO i1 i2 l1 l2 : Addr} {k : Nat} {xs ys : Array Value} {x y a b : Value} {Q : Value → Shared → Prop} (D : ZipApart z TI TO i1 i2 l1 l2)
    (gz : IsZip s.heap z TI TO .none) (gI : IsPair s.heap TI (.ref i1) (.ref i2)) (gO : IsPair s.heap TO a b)
    (j1 : s.heap.IsTupleIter i1 l1 k) (j2 : s.heap.IsListIter i2 l2 k) (r1 : s.heap.IsTuple l1 xs) (r2 : s.heap.IsList l2 ys) (ex : xs[k]? = some x) (ey : ys[k]? = some y)
    (fin : ∀ h', IsZip h' z TI TO (rawInt s.heap.objs.size) → IsPair h' TO x y → h'.IsTupleIter i1 l1 (k + 1) → h'.IsListIter i2 l2 (k + 1) → IsPair h' s.heap.objs.size x y → h'.objs.size = s.heap.objs.size + 1 →
      (∀ b o, b ≠ z → b ≠ TO → b ≠ i1 → b ≠ i2 → s.heap.get? b = some o → h'.get? b = some o) → Q (.ref s.heap.objs.size) { s with heap := h' }) :
    wpAny (model prog w) A (Builtin.«zip.__next__» ⟨[.ref z], []⟩) (fun r t => ∃ v, r = .done (.ret v) ∧ Q v t) E s := by
  show wpAny _ _ (field (.ref z) 2 >>= _) _ _ _; refine wpAny_bind (wpAny_field gz rfl (x := .bool false) rfl ?_)
  show wpAny _ _ (field (.ref z) 3 >>= _) _ _ _; refine wpAny_bind (wpAny_field gz rfl (x := .ref TI) rfl ?_)
  refine wpAny_bind (wpAny_seqItems gI rfl (wpAny_bind ?_)); unfold Builtin.SmallTypes.ownedTupleIsFree
  refine wpAny_bind (wpAny_field gz rfl (x := .none) rfl (wpAny_pure ?_)); simp only [if_true]
  refine wpAny_bind (wpAny_rule (wpAny_bind (wpAny_field gz rfl (x := .ref TO) rfl (wpAny_bind (wpAny_setField_rec gz (by simp) fun g1 z1 c1 => ?_)))))
  have z1' : IsZip g1 z TI TO .ellipsis := z1
  refine wpAny_bind ?_; simp only [List.zipIdx_cons, List.zipIdx_nil, List.forIn_cons, List.forIn_nil]
  refine wpAny_bind (wpAny_bind (wpAny_onRaise ?_)); show wpAny _ _ (Builtin.SmallTypes.nextOf (.ref i1) >>= _) _ _ _
  refine wpAny_bind (RZ.nextOf_tuple_item (j1.extBut c1.extBut D.i1z) (r1.extBut c1.extBut D.l1z) ex fun g2 m2 c2 => wpAny_pure ?_)
  have o2 : IsPair g2 TO a b := c2.extBut _ _ D.TOi1 (c1.extBut _ _ D.TOz gO)
  refine wpAny_bind (wpAny_seqItems o2 rfl (wpAny_bind (wpAny_updateSeq_pair o2 fun g3 o3 c3 => ?_)))
  have o3' : IsPair g3 TO x b := o3
  refine wpAny_bind (wpAny_letGo (wpAny_pure ?_)); refine wpAny_bind (wpAny_bind (wpAny_onRaise ?_))
  show wpAny _ _ (Builtin.SmallTypes.nextOf (.ref i2) >>= _) _ _ _; refine wpAny_bind (wpAny_nextOf_list_item (((j2.extBut c1.extBut D.i2z).extBut c2.extBut D.i12.symm).extBut c3.extBut D.TOi2.symm) (((r2.extBut c1.extBut D.l2z).extBut c2.extBut D.l2i1).extBut c3.extBut D.l2TO) ey fun g4 m4 c4 => wpAny_pure ?_)
  have o4 : IsPair g4 TO x b := c4.extBut _ _ D.TOi2 o3'
  refine wpAny_bind (wpAny_seqItems o4 rfl (wpAny_bind (wpAny_updateSeq_pair o4 fun g5 o5 c5 => ?_)))
  have o5' : IsPair g5 TO x y := o5
  refine wpAny_bind (wpAny_letGo (wpAny_pure (wpAny_pure (wpAny_bind (wpAny_seqItems o5' rfl (wpAny_bind (wpAny_newTuple ?_)))))))
  have size5 : g5.objs.size = s.heap.objs.size := by rw [c5.1, c4.1, c3.1, c2.1, c1.1]
  have z5 : IsZip g5 z TI TO .ellipsis := c5.extBut _ _ D.TOz.symm (c4.extBut _ _ D.i2z.symm (c3.extBut _ _ D.TOz.symm (c2.extBut _ _ D.i1z.symm z1')))
  have up5 : ∀ b o, b ≠ z → b ≠ TO → b ≠ i1 → b ≠ i2 → s.heap.get? b = some o → g5.get? b = some o := fun b o n1 n2 n3 n4 e => c5.extBut _ _ n2 (c4.extBut _ _ n4 (c3.extBut _ _ n2 (c2.extBut _ _ n3 (c1.extBut _ _ n1 e))))
  have m1 : g5.IsTupleIter i1 l1 (k + 1) := ((m2.extBut c3.extBut D.TOi1.symm).extBut c4.extBut D.i12).extBut c5.extBut D.TOi1.symm
  have m5 : g5.IsListIter i2 l2 (k + 1) := m4.extBut c5.extBut D.TOi2.symm
  have lz : z < g5.objs.size := Heap.lt_size z5
  show wpAny _ _ (Builtin.SmallTypes.ownedTupleHandOut (.ref z) (.ref g5.objs.size) >>= _) _ _ _; refine wpAny_bind ?_; unfold Builtin.SmallTypes.ownedTupleHandOut
  have z6 : IsZip (g5.push { cls := .type "tuple", data := .seq #[x, y] }) z TI TO .ellipsis := Heap.get?_push_of_some _ z5
  refine wpAny_bind (wpAny_setField_rec z6 (by simp) fun g7 z7 c7 => ?_)
  have z7' : IsZip g7 z TI TO (rawInt g5.objs.size) := z7
  refine wpAny_setField_rec z7' (by simp) fun g8 z8 c8 => wpAny_pure ⟨_, rfl, ?_⟩
  have z8' : IsZip g8 z TI TO (rawInt g5.objs.size) := z8
  have up : ∀ b o, b ≠ z → g5.get? b = some o → g8.get? b = some o := fun b o n1 e => c8.extBut _ _ n1 (c7.extBut _ _ n1 (Heap.get?_push_of_some _ e))
  have t8 : IsPair g8 g5.objs.size x y := c8.extBut _ _ (Nat.ne_of_gt lz) (c7.extBut _ _ (Nat.ne_of_gt lz) (Heap.get?_push_size _ rfl))
  have n8 : g8.objs.size = g5.objs.size + 1 := by rw [c8.1, c7.1, Heap.size_push]
  rw [size5] at z8' t8 n8
  show Q (.ref g5.objs.size) _; rw [size5]
  exact fin g8 z8' (up _ _ D.TOz o5') (m1.at fun o e => up _ o D.i1z e) (m5.at fun o e => up _ o D.i2z e) t8 n8 fun b o n1 n2 n3 n4 e => up b o n1 (up5 b o n1 n2 n3 n4 e)
theorem zipM_end {z TI TO i1 i2 l1 l2 : Addr} {k : Nat} {xs ys : Array Value} {a b : Value} {Q : Fin → Shared → Prop} (hh : A.handled = none) (D : ZipApart z TI TO i1 i2 l1 l2)
    (gz : IsZip s.heap z TI TO .none) (gI : IsPair s.heap TI (.ref i1) (.ref i2)) (gO : IsPair s.heap TO a b)
    (j1 : s.heap.IsTupleIter i1 l1 k) (j2 : s.heap.IsListIter i2 l2 k) (r1 : s.heap.IsTuple l1 xs) (r2 : s.heap.IsList l2 ys) (over : xs[k]? = none ∨ ys[k]? = none)
    (fin : ∀ h' e, (∀ b o, b ≠ z → b ≠ TO → b ≠ i1 → b ≠ i2 → s.heap.get? b = some o → h'.get? b = some o) → (∃ o, h'.get? e = some o ∧ o.cls = .type "StopIteration") → E (.ref e) { s with heap := h' }) :
    wpAny (model prog w) A (Builtin.«zip.__next__» ⟨[.ref z], []⟩) Q E s := by
  show wpAny _ _ (field (.ref z) 2 >>= _) _ _ _; refine wpAny_bind (wpAny_field gz rfl (x := .bool false) rfl ?_)
  show wpAny _ _ (field (.ref z) 3 >>= _) _ _ _; refine wpAny_bind (wpAny_field gz rfl (x := .ref TI) rfl ?_)
  refine wpAny_bind (wpAny_seqItems gI rfl (wpAny_bind ?_)); unfold Builtin.SmallTypes.ownedTupleIsFree
  refine wpAny_bind (wpAny_field gz rfl (x := .none) rfl (wpAny_pure ?_)); simp only [if_true]
  refine wpAny_bind (wpAny_rule (wpAny_bind (wpAny_field gz rfl (x := .ref TO) rfl (wpAny_bind (wpAny_setField_rec gz (by simp) fun g1 z1 c1 => ?_)))))
  have z1' : IsZip g1 z TI TO .ellipsis := z1
  refine wpAny_bind ?_; simp only [List.zipIdx_cons, List.zipIdx_nil, List.forIn_cons, List.forIn_nil]
  refine wpAny_bind (wpAny_bind (wpAny_onRaise ?_)); show wpAny _ _ (Builtin.SmallTypes.nextOf (.ref i1) >>= _) _ _ _
  cases ex : xs[k]? with
  | none =>
    refine wpAny_bind (RZ.nextOf_tuple_end hh (j1.extBut c1.extBut D.i1z) (r1.extBut c1.extBut D.l1z) ex ?_)
    rintro g2 e c2 ⟨oe, he, ce⟩
    have z2 : IsZip g2 z TI TO .ellipsis := c2 _ _ D.i1z.symm z1'
    have ne : e ≠ z := fun q => by subst q; rw [z2] at he; cases he; simp at ce
    exact wpAny_setField_rec z2 (by simp) fun g3 _ c3 => fin g3 e (fun b o n1 _ n3 _ q => c3.extBut _ _ n1 (c2 _ _ n3 (c1.extBut _ _ n1 q))) ⟨oe, c3.extBut _ _ ne he, ce⟩
  | some x =>
    have ey : ys[k]? = none := over.resolve_left fun q => by rw [ex] at q; cases q
    refine wpAny_bind (RZ.nextOf_tuple_item (j1.extBut c1.extBut D.i1z) (r1.extBut c1.extBut D.l1z) ex fun g2 m2 c2 => wpAny_pure ?_)
    have o2 : IsPair g2 TO a b := c2.extBut _ _ D.TOi1 (c1.extBut _ _ D.TOz gO)
    refine wpAny_bind (wpAny_seqItems o2 rfl (wpAny_bind (wpAny_updateSeq_pair o2 fun g3 o3 c3 => wpAny_bind (wpAny_letGo (wpAny_pure (wpAny_bind (wpAny_bind (wpAny_onRaise ?_))))))))
    show wpAny _ _ (Builtin.SmallTypes.nextOf (.ref i2) >>= _) _ _ _; refine wpAny_bind (wpAny_nextOf_list_end hh (((j2.extBut c1.extBut D.i2z).extBut c2.extBut D.i12.symm).extBut c3.extBut D.TOi2.symm) (((r2.extBut c1.extBut D.l2z).extBut c2.extBut D.l2i1).extBut c3.extBut D.l2TO) ey ?_)
    rintro g4 e c4 ⟨oe, he, ce⟩
    have z4 : IsZip g4 z TI TO .ellipsis := c4 _ _ D.i2z.symm (c3.extBut _ _ D.TOz.symm (c2.extBut _ _ D.i1z.symm z1'))
    have ne : e ≠ z := fun q => by subst q; rw [z4] at he; cases he; simp at ce
    exact wpAny_setField_rec z4 (by simp) fun g5 _ c5 => fin g5 e (fun b o n1 n2 n3 n4 q => c5.extBut _ _ n1 (c4 _ _ n4 (c3.extBut _ _ n2 (c2.extBut _ _ n3 (c1.extBut _ _ n1 q))))) ⟨oe, c5.extBut _ _ ne he, ce⟩
theorem nextM_item {z TI TO i1 i2 l1 l2 : Addr} {k : Nat} {xs ys : Array Value} {x y a b : Value} {Q : Option Value → Shared → Prop} (D : ZipApart z TI TO i1 i2 l1 l2)
    (gz : IsZip s.heap z TI TO .none) (gI : IsPair s.heap TI (.ref i1) (.ref i2)) (gO : IsPair s.heap TO a b)
    (j1 : s.heap.IsTupleIter i1 l1 k) (j2 : s.heap.IsListIter i2 l2 k) (r1 : s.heap.IsTuple l1 xs) (r2 : s.heap.IsList l2 ys) (ex : xs[k]? = some x) (ey : ys[k]? = some y)
    (fin : ∀ h', IsZip h' z TI TO (rawInt s.heap.objs.size) → IsPair h' TO x y → h'.IsTupleIter i1 l1 (k + 1) → h'.IsListIter i2 l2 (k + 1) → IsPair h' s.heap.objs.size x y → h'.objs.size = s.heap.objs.size + 1 →
      (∀ b o, b ≠ z → b ≠ TO → b ≠ i1 → b ≠ i2 → s.heap.get? b = some o → h'.get? b = some o) → Q (some (.ref s.heap.objs.size)) { s with heap := h' }) :
    wpAny (model prog w) A (pyNext (.ref z)) Q E s := by
  have ty : s.TypeIs (.ref z) "zip" := ⟨_, gz, rfl⟩
  have core := zipM_item (prog := prog) (w := w) (A := A) (E := E) (Q := fun v t => Q (some v) t) D gz gI gO j1 j2 r1 r2 ex ey fin
  unfold pyNext; refine wpAny_bind (wpAny_attempt ?_)
  refine wpAny_callSpecial?_slot (name := Str.ofString "__next__") ty F.slot_zip_next (wpAny_call_entry F.slot_zip_next ty F.entry_zip_next ?_ (F.args_zip_next_1 _))
  exact zipM_item D gz gI gO j1 j2 r1 r2 ex ey fun h' a1 a2 a3 a4 a5 a6 a7 => wpAny_pure (fin h' a1 a2 a3 a4 a5 a6 a7)
theorem nextM_end {z TI TO i1 i2 l1 l2 : Addr} {k : Nat} {xs ys : Array Value} {a b : Value} {Q : Option Value → Shared → Prop} (hh : A.in1.handled = none) (D : ZipApart z TI TO i1 i2 l1 l2)
    (gz : IsZip s.heap z TI TO .none) (gI : IsPair s.heap TI (.ref i1) (.ref i2)) (gO : IsPair s.heap TO a b)
    (j1 : s.heap.IsTupleIter i1 l1 k) (j2 : s.heap.IsListIter i2 l2 k) (r1 : s.heap.IsTuple l1 xs) (r2 : s.heap.IsList l2 ys) (over : xs[k]? = none ∨ ys[k]? = none)
    (fin : ∀ h', (∀ b o, b ≠ z → b ≠ TO → b ≠ i1 → b ≠ i2 → s.heap.get? b = some o → h'.get? b = some o) → Q none { s with heap := h' }) : wpAny (model prog w) A (pyNext (.ref z)) Q E s := by
  have ty : s.TypeIs (.ref z) "zip" := ⟨_, gz, rfl⟩
  unfold pyNext; refine wpAny_bind (wpAny_attempt ?_)
  refine wpAny_callSpecial?_slot (name := Str.ofString "__next__") ty F.slot_zip_next (wpAny_call_entry F.slot_zip_next ty F.entry_zip_next (zipM_end hh D gz gI gO j1 j2 r1 r2 over ?_) (F.args_zip_next_1 _))
  rintro h' e keep ⟨o, ho, hc⟩
  exact wpAny_bind (wpAny_isInstance (T := "StopIteration") (b := true) ⟨o, ho, hc⟩ isSubtype_stop (wpAny_pure (fin _ keep)))
end
abbrev zmA (h : Heap) (l1 : Addr) : Heap := h.push { cls := .type "tuple_iterator", data := .fields #[.ref l1, .int 0 0] }
abbrev zmB (h : Heap) (l1 l2 : Addr) : Heap := (zmA h l1).push { cls := .type "list_iterator", data := .fields #[.ref l2, .int 0 0] }
abbrev zmC (h : Heap) (l1 l2 : Addr) : Heap := (zmB h l1 l2).push { cls := .type "tuple", data := .seq #[.ref h.objs.size, .ref (zmA h l1).objs.size] }
abbrev zmD (h : Heap) (l1 l2 : Addr) : Heap := (zmC h l1 l2).push { cls := .type "tuple", data := .seq #[.none, .none] }
abbrev zmE (h : Heap) (l1 l2 : Addr) : Heap := (zmD h l1 l2).push { cls := .type "zip", data := .fields #[.none, .bool false, .bool false, .ref (zmB h l1 l2).objs.size, .ref (zmC h l1 l2).objs.size] }
theorem zipM_new (l1 l2 : Addr) (xs ys : Array Value) :
    Meets (Builtin.«zip.__new__» ⟨[.type "zip", .ref l1, .ref l2], []⟩) (fun _ R t => t.heap.IsTuple l1 xs ∧ t.heap.IsList l2 ys ∧ R (.ok (.ret (.ref (zmD t.heap l1 l2).objs.size))) { t with heap := zmE t.heap l1 l2 }) :=
  .of_wp fun prog w A R t ht => by
    obtain ⟨hp, g, d, tk, os⟩ := t; obtain ⟨q1, q2, fin⟩ := ht
    have sb := sub_zip
    have p1 : Heap.IsTuple (Shared.heap ⟨hp, g, d, tk, os⟩) l1 xs := q1
    have p2 : Heap.IsList (Shared.heap ⟨hp.push { cls := .type "tuple_iterator", data := .fields #[.ref l1, .int 0 0] }, g, d, tk, os⟩) l2 ys := Heap.IsList.push q2 _
    wp_walk using wpAny_pyIter_tuple p1, wpAny_pyIter_list p2
    exact ⟨_, rfl, fin⟩
section
variable {prog : Program} {w : World} {A : Around} {E : Value → Shared → Prop} {s : Shared}
theorem zipM_call {l1 l2 : Addr} {xs ys : Array Value} {Q : Value → Shared → Prop} (q1 : s.heap.IsTuple l1 xs) (q2 : s.heap.IsList l2 ys)
    (fin : ∀ h', IsZip h' (s.heap.objs.size + 4) (s.heap.objs.size + 2) (s.heap.objs.size + 3) .none → IsPair h' (s.heap.objs.size + 2) (.ref s.heap.objs.size) (.ref (s.heap.objs.size + 1)) →
      IsPair h' (s.heap.objs.size + 3) .none .none → h'.IsTupleIter s.heap.objs.size l1 0 → h'.IsListIter (s.heap.objs.size + 1) l2 0 → (∀ b o, s.heap.get? b = some o → h'.get? b = some o) → Q (.ref (s.heap.objs.size + 4)) { s with heap := h' }) :
    wpAny (model prog w) A (call (.type "zip") [.ref l1, .ref l2]) Q E s := by
  refine callType_new F.called_zip (by decide) (F.typeCall_zip_2 _ _) (F.newCall_zip_2 _ _) (fun ob => F.args_object_init_3 ob _ _) F.entry_zip_new (zipM_new l1 l2 xs ys) ⟨q1, q2, ?_⟩
  have n1 : (zmA s.heap l1).objs.size = s.heap.objs.size + 1 := Heap.size_push ..
  have n2 : (zmB s.heap l1 l2).objs.size = s.heap.objs.size + 2 := by rw [Heap.size_push, n1]
  have n3 : (zmC s.heap l1 l2).objs.size = s.heap.objs.size + 3 := by rw [Heap.size_push, n2]
  have n4 : (zmD s.heap l1 l2).objs.size = s.heap.objs.size + 4 := by rw [Heap.size_push, n3]
  have e5 : (zmE s.heap l1 l2).get? (zmD s.heap l1 l2).objs.size = some _ := Heap.get?_push_size _ rfl
  have e4 : (zmE s.heap l1 l2).get? (zmC s.heap l1 l2).objs.size = some _ := Heap.get?_push_of_some _ (Heap.get?_push_size _ rfl)
  have e3 : (zmE s.heap l1 l2).get? (zmB s.heap l1 l2).objs.size = some _ := Heap.get?_push_of_some _ (Heap.get?_push_of_some _ (Heap.get?_push_size _ rfl))
  have e2 : (zmE s.heap l1 l2).get? (zmA s.heap l1).objs.size = some _ := Heap.get?_push_of_some _ (Heap.get?_push_of_some _ (Heap.get?_push_of_some _ (Heap.get?_push_size _ rfl)))
  have e1 : (zmE s.heap l1 l2).get? s.heap.objs.size = some _ := Heap.get?_push_of_some _ (Heap.get?_push_of_some _ (Heap.get?_push_of_some _ (Heap.get?_push_of_some _ (Heap.get?_push_size _ rfl))))
  show _ ∧ _
  rw [n2, n3, n4] at e5; rw [n1, n2] at e3; rw [n3] at e4; rw [n1] at e2; rw [n4]
  exact ⟨⟨_, e5, rfl⟩, fin _ e5 e3 e4 ⟨_, e1, rfl, rfl⟩ ⟨_, e2, rfl, rfl⟩ fun b o q => Heap.get?_push_of_some _ (Heap.get?_push_of_some _ (Heap.get?_push_of_some _ (Heap.get?_push_of_some _ (Heap.get?_push_of_some _ q))))⟩
end
/-- the tuple at a, the list at b, their items in new pairs -/
def ItM (K : Fr) (a b : Addr) : It :=
  ⟨fun i H => ∃ (xs ys : List V) (x y : V), SqT K H a xs ∧ SqL K H b ys ∧ xs[i]? = some x ∧ ys[i]? = some y,
    fun i H v H' => ∃ T x y, v = .ref T ∧ H T = none ∧ H' = upd H T (.tup [x, y]) ∧ (∀ xs, SqT K H a xs → xs[i]? = some x) ∧ ∀ ys, SqL K H b ys → ys[i]? = some y,
    fun i H => ∃ xs ys : List V, SqT K H a xs ∧ SqL K H b ys ∧ (xs.length ≤ i ∨ ys.length ≤ i)⟩
theorem five {P : Addr → Prop} {z TI TO i1 i2 : Addr} (h1 : P z) (h2 : P TI) (h3 : P TO) (h4 : P i1) (h5 : P i2) : ∀ b ∈ [z, TI, TO, i1, i2], P b := fun b hb => by
  rcases (by simpa using hb : b = z ∨ b = TI ∨ b = TO ∨ b = i1 ∨ b = i2) with q | q | q | q | q <;> rw [q] <;> assumption
theorem turnM {P : Program} {w : World} {K : Fr} {elts : List Expr} {kk : Nat} {tpos : Pos} {a b z TI TO i1 i2 : Addr} (D : ZipApart z TI TO i1 i2 a b) :
    Turn P w K (.Tuple elts kk tpos) (ItM K a b) [z, TI, TO, i1, i2] z (fun i h => IsZip h z TI TO .none ∧ IsPair h TI (.ref i1) (.ref i2) ∧ (∃ x y, IsPair h TO x y) ∧ h.IsTupleIter i1 a i ∧ h.IsListIter i2 b i) := by
  refine ⟨by simp, fun i h st => ?_, fun i h h' st k => ?_, ?_, ?_, fun A i s Q E st h => wpAny_pyIter_zip st.1 h⟩
  · obtain ⟨hz, hI, ⟨x, y, hO⟩, ⟨o1, e1, _, d1⟩, ⟨o2, e2, _, d2⟩⟩ := st
    exact five ⟨_, hz, fun v q => nomatch q⟩ ⟨_, hI, fun v q => nomatch q⟩ ⟨_, hO, fun v q => nomatch q⟩ ⟨o1, e1, fun v q => by rw [d1] at q; cases q⟩ ⟨o2, e2, fun v q => by rw [d2] at q; cases q⟩
  · obtain ⟨hz, hI, ⟨x, y, hO⟩, j1, j2⟩ := st
    exact ⟨k z (by simp) _ hz, k TI (by simp) _ hI, ⟨x, y, k TO (by simp) _ hO⟩, j1.at fun o q => k i1 (by simp) o q, j2.at fun o q => k i2 (by simp) o q⟩
  · rintro X rfl rfl rfl hc i pins s σ H E I hf ⟨hz, hI, ⟨x0, y0, hO⟩, j1, j2⟩ ⟨xs, ys, x, y, hqx, hqy, hx, hy⟩
    obtain ⟨its, rv, p, _⟩ := I.tuple hqx
    obtain ⟨its2, rv2, p2, _⟩ := I.list hqy
    obtain ⟨u, hu, ru⟩ := rv.get hx
    obtain ⟨u2, hu2, ru2⟩ := rv2.get hy
    have lz : z < s.heap.objs.size := Heap.lt_size hz
    have lts : ∀ b ∈ [z, TI, TO, i1, i2], b < s.heap.objs.size := five lz (Heap.lt_size hI) (Heap.lt_size hO) (by obtain ⟨_, e1, _⟩ := j1; exact Heap.lt_size e1) (by obtain ⟨_, e2, _⟩ := j2; exact Heap.lt_size e2)
    refine nextM_item D hz hI hO j1 j2 p p2.isList (x := u) (y := u2) (by simpa using hu) (by simpa using hu2) fun h' z' O' j1' j2' hT hsz hk => ⟨_, rfl, wpAny_letOwnedTupleGo_zip (s := { s with heap := h' }) z' fun h2 z2 sb => ?_⟩
    have hT2 : h2.get? s.heap.objs.size = some { cls := .type "tuple", data := .seq #[u, u2] } := (sb.2 _ (Nat.ne_of_gt lz)).trans hT
    have nw : ObjOk X.prog X.w (upd H s.heap.objs.size (.tup [x, y])) h2 s.heap.objs.size (.tup [x, y]) := ⟨by show 2 ≤ sizeLine; decide, [u, u2], .cons ru (.cons ru2 .nil), ⟨_, hT2, rfl, _, rfl⟩⟩
    have I1 : Inv X pins σ (upd H s.heap.objs.size (.tup [x, y])) { s with heap := h2 } := by
      refine I.turnedNew (t' := s.toks) (ch := [z, TI, TO, i1, i2]) (fun b o hb q => ?_) hf (Nat.le_refl _) nw
      have n1 : b ≠ z := fun q => hb (by simp [q])
      have n2 : b ≠ TO := fun q => hb (by simp [q])
      have n3 : b ≠ i1 := fun q => hb (by simp [q])
      have n4 : b ≠ i2 := fun q => hb (by simp [q])
      exact (sb.2 b n1).trans (hk b o n1 n2 n3 n4 q)
    refine ⟨.ref s.heap.objs.size, _, I1, rfl, ⟨_, x, y, rfl, I.hok.fresh (Nat.le_refl _), rfl, fun l hl => by rw [I.tuple_inj hl hqx]; exact hx, fun l hl => by rw [I.list_inj hl hqy]; exact hy⟩, ⟨z2, (sb.2 _ D.TIz).trans (hk _ _ D.TIz D.TITO D.TIi1 D.TIi2 hI), ⟨u, u2, (sb.2 _ D.TOz).trans O'⟩, j1'.at fun o q => (sb.2 _ D.i1z).trans q, j2'.at fun o q => (sb.2 _ D.i2z).trans q⟩, fun b hb => ?_⟩
    rw [upd_ne (Nat.ne_of_lt (lts b hb))]; exact (hf b hb).1
  · rintro X rfl rfl rfl hc i pins s σ H E I hf ⟨hz, hI, ⟨x0, y0, hO⟩, j1, j2⟩ ⟨xs, ys, hqx, hqy, over⟩
    obtain ⟨its, rv, p, _⟩ := I.tuple hqx
    obtain ⟨its2, rv2, p2, _⟩ := I.list hqy
    have n1 := rv.length
    have n2 := rv2.length
    have he : its.toArray[i]? = none ∨ its2.toArray[i]? = none := over.elim (fun q => .inl (by simp; omega)) fun q => .inr (by simp; omega)
    refine nextM_end (show X.A.in1.handled = none from I.ok.hd hc) D hz hI hO j1 j2 p p2.isList he fun h' hk => ⟨rfl, I.turnedL (t' := s.toks) (ch := [z, TI, TO, i1, i2]) (fun b o hb q => ?_) hf⟩
    exact hk b o (fun q => hb (by simp [q])) (fun q => hb (by simp [q])) (fun q => hb (by simp [q])) (fun q => hb (by simp [q])) q
section
variable {X : Cx} {W : WX} {e e2 : Expr} {p pos tpos : Pos} {elts : List Expr} {kk : Nat}
def iZipM (K : Fr) (ta : TA) : TI := fun σ H R => ta σ H fun vs H1 => ∃ a b xs ys, vs = [.ref a, .ref b] ∧ SqT K H1 a xs ∧ SqL K H1 b ys ∧ R (ItM K a b) H1
theorem pi_zipM {ta : TA} (hg : Gl X "zip") (hm : X.mg "zip" = none) (ha : PA X [e, e2] ta)
    (hs : starEach [e, e2] X.env = (false, eval e X.env) :: starEach [e2] X.env := by rfl) (hpl : (backTo pos (starEach [e2] X.env)).any (·.1) = false := by rfl) :
    PI X (.Tuple elts kk tpos) (.Call (.Name "zip" p) [e, e2] [] pos) (iZipM X.K ta) := by
  constructor
  intro pins s σ H R I h
  refine Call_ (ld_blt I hg hm PyProof.Rows.boot_zip (PyProof.Rows.callWith_type1 (thn (ha.run pos pins s σ H _ I h) ?_) hs hpl))
  rintro us s1 ⟨vs, H1, I1, r1, a, b, xs, ys, rfl, hqx, hqy, q⟩
  obtain ⟨u, v, rfl, ru, rv⟩ : ∃ u v, us = [u, v] ∧ RelV (.ref a) u ∧ RelV (.ref b) v := by
    cases r1 with
    | cons r rr => cases rr with
      | cons r' rr => cases rr; exact ⟨_, _, rfl, r, r'⟩
  cases ru; cases rv
  obtain ⟨its, _, p1, _⟩ := I1.tuple hqx
  obtain ⟨its2, _, p2, _⟩ := I1.list hqy
  have la : a < s1.heap.objs.size := by obtain ⟨o, ho, _⟩ := id p1; exact Heap.lt_size ho
  have fr : ∀ b ∈ [s1.heap.objs.size + 4, s1.heap.objs.size + 2, s1.heap.objs.size + 3, s1.heap.objs.size, s1.heap.objs.size + 1], FpOk X pins H1 b := by
    have ge : ∀ b, s1.heap.objs.size ≤ b → FpOk X pins H1 b := fun b hb => I1.fpOk hb (I1.hok.fresh hb)
    exact five (ge _ (by exact Nat.le_add_right _ _)) (ge _ (by exact Nat.le_add_right _ _)) (ge _ (by exact Nat.le_add_right _ _)) (ge _ (Nat.le_refl _)) (ge _ (by exact Nat.le_add_right _ _))
  refine zipM_call (show s1.heap.IsTuple a its.toArray from p1) p2.isList fun h' hz hI hO j1 j2 hk => wpAny_pyIter_zip hz ?_
  exact ⟨s1.heap.objs.size + 4, _, _, _, H1, rfl, I1.kept (t' := s1.toks) hk, turnM (PySem.W.ktu_apart s1.heap.objs.size a b la p2.lt), ⟨hz, hI, ⟨_, _, hO⟩, j1, j2⟩, fr, q⟩
def pair2 : List D → List D → List D
  | x :: xs, y :: ys => .tup [x, y] :: pair2 xs ys
  | _, _ => []
theorem pair2_get : ∀ (xs ys : List D) (i : Nat) (d : D), (pair2 xs ys)[i]? = some d → ∃ x y, xs[i]? = some x ∧ ys[i]? = some y ∧ d = .tup [x, y]
  | x :: xs, y :: ys, 0, d, h => by simp [pair2] at h; exact ⟨x, y, rfl, rfl, h.symm⟩
  | x :: xs, y :: ys, i + 1, d, h => by
    obtain ⟨a, b, h1, h2, h3⟩ := pair2_get xs ys i d (by simpa [pair2] using h)
    exact ⟨a, b, by simpa using h1, by simpa using h2, h3⟩
  | [], _, i, d, h => by simp [pair2] at h
  | _ :: _, [], i, d, h => by simp [pair2] at h
theorem pair2_length : ∀ (xs ys : List D), (pair2 xs ys).length = min xs.length ys.length
  | x :: xs, y :: ys => by rw [pair2, List.length_cons, pair2_length, List.length_cons, List.length_cons]; omega
  | [], _ => by simp [pair2]
  | _ :: _, [] => by simp [pair2]
/-- zip(a tuple, a list) -/
def wZipM (wa : WA) : WI := fun g K X => wa g (fun ds g1 => arg2 ds fun d y => asTup d fun xs => opt (lstAt g1.st y) fun p => K (pair2 xs p.1) p.2 g1) X
theorem di_zipM {wa : WA} (hm : X.mg "zip" = none) (ha : DA X W [e, e2] wa) (hg : Gl X "zip" := by rfl) (hs : starEach [e, e2] X.env = (false, eval e X.env) :: starEach [e2] X.env := by rfl) (hpl : (backTo pos (starEach [e2] X.env)).any (·.1) = false := by rfl) :
    DI X W (.Tuple elts kk tpos) (.Call (.Name "zip" p) [e, e2] [] pos) (wZipM wa) := (pi_zipM hg hm ha hs hpl).imp fun σ H R ⟨g, K, Xd, E, h, q, UX⟩ => by
  refine ⟨g, _, Xd, E, h, fun ds g1 vs H1 k s E1 l => ?_, UX⟩
  obtain ⟨d, y, rfl, k⟩ := arg2_ok k
  obtain ⟨xs, rfl, k⟩ := asTup_ok k
  obtain ⟨⟨ys, ok⟩, e, k⟩ := opt_ok k
  obtain ⟨u, v, rfl, ru, rv⟩ := repL_2 l
  obtain ⟨b, rfl, _, ⟨ws, rd⟩, src, hsrc, keep, at_⟩ := lstAt_src E1.sto rv e
  cases ru with
  | @tup a _ us n rt lt =>
    refine ⟨a, b, us, ws, rfl, .inl rt, .inl rd, q _ ok g1 H1 _ (fun st h => (st a = none ∧ Rd h a (.tup us) ∧ RepL h st xs us) ∧ src st h) k s E1 ⟨fun q t => ⟨⟨(t.rd q.1.1 q.1.2.1).2, (t.rd q.1.1 q.1.2.1).1, q.1.2.2.step t⟩, keep q.2 t⟩, fun {i st h} q o R hi => ?_, fun {i st h x h'} q o R y d hd => ?_, fun {i st h} q o R hi => ?_⟩ ⟨⟨n, rt, lt⟩, hsrc⟩⟩
    · obtain ⟨ws, rd, l⟩ := at_ q.2 o R
      have hi : i < (pair2 xs ys).length := hi
      rw [pair2_length] at hi
      obtain ⟨x, hx⟩ := get_lt (xs := us) (i := i) (by rw [← q.1.2.2.length]; omega)
      obtain ⟨y, hy⟩ := get_lt (xs := ws) (i := i) (by rw [← l.length]; omega)
      exact ⟨us, ws, x, y, .inl q.1.2.1, .inl rd, hx, hy⟩
    · obtain ⟨ws, rd, l⟩ := at_ q.2 o R
      obtain ⟨T, x', y', rfl, hT, rfl, f1, f2⟩ := y
      obtain ⟨dx, dy, hx, hy, rfl⟩ := pair2_get _ _ _ _ hd
      obtain ⟨u1, hu1, ru1⟩ := q.1.2.2.get hx
      obtain ⟨u2, hu2, ru2⟩ := l.get hy
      have e1 := (f1 us (.inl q.1.2.1)).symm.trans hu1
      have e2 := (f2 ws (.inl rd)).symm.trans hu2
      cases e1; cases e2
      have nw := new_step R (o := .tup [x', y']) hT
      exact ⟨nw.1, nw.2, .tup (R.free hT) (.inl upd_same) (.cons (ru1.step nw.1) (.cons (ru2.step nw.1) .nil))⟩
    · obtain ⟨ws, rd, l⟩ := at_ q.2 o R
      have hi : (pair2 xs ys).length ≤ i := hi
      rw [pair2_length] at hi
      refine ⟨us, ws, .inl q.1.2.1, .inl rd, ?_⟩
      rw [← q.1.2.2.length, ← l.length]
      omega
end
/-! ### o.m(k = v, ..) -/
section
variable {X : Cx} {W : WX} {k : Nat} {f C : Addr} {fd : FuncData} {ps ks : List Str} {sp : Sp} {ct : CT} {E : L2.St → XK} {m : Str} {pos apos : Pos} {o : Expr} {kws : List Keyword} {wo : WE} {wk : WA} {to : TE} {tk0 : TA} {g : ∀ {α : Type}, List α → List α → List α}
def tMethKG (C : Addr) (m : Str) (sp : Sp) (gV : List V → List V → List V) (E : L2.St → XK) (to : TE) (tk : TA) : TE := fun σ H Q => to σ H fun x H1 => ∃ a dx fs, x = .ref a ∧ H1 a = some (.ins C dx fs) ∧ fs.lookup m = none ∧ tk σ H1 fun zs H2 => sp (gV [x] zs) H2 Q (E σ)
theorem pe_methK0 {pl : Sem Bool} (ho : PE X o to) (c : Cls X.K C) (hm : Meth X.K C m f) (F : FnG X.prog X.w X.K X.mg X.base k f fd ps sp) (hG : X.A.guards = some []) (room : Room k X.A) (hb : KBinds X.K fd ps ks g g) (pass : ∀ σ, PassesAt (L2.CX X.prog X.w) X σ (E σ))
    (hkw : PK X kws tk0) (hall : (backToKw pos (keywordEach kws X.env)).all (·.1.isSome) = true := by rfl) (hks : (backToKw pos (keywordEach kws X.env)).filterMap (·.1) = ks := by rfl)
    (hpl : ((backTo pos (starEach [] X.env)).any (·.1) || (backToKw pos (keywordEach kws X.env)).any (·.1.isNone)) = false := by rfl)
    (ht : eval (.Call (.Attribute o m apos) [] kws pos) X.env = (do
      let ov ← eval o X.env
      standAt apos.atName
      let (f, first) ← holding [ov] (getMethod ov m pl)
      callWith pos f first (backTo pos (starEach [] X.env)) (backToKw pos (keywordEach kws X.env))) := by rfl) :
    PE X (.Call (.Attribute o m apos) [] kws pos) (tMethKG C m sp g E to tk0) := by
  constructor
  intro pins s σ H Q I h
  refine PySem.W.methodCall_KW (pl := pl) (thn (ho.run pins s σ H _ I h) ?_) ht
  rintro u s1 ⟨x, H1, I1, rx, a, dx, fs, rfl, ea, no, q⟩
  obtain rfl : u = Value.ref a := rx
  refine getmeth_ok I1 ea c hm no (PySem.W.callWith_KW0 (first := [.ref a]) (h₀ := X.base) I1.ok.mod.kin hm.kp hall (thn (hkw.run pos pins s1 σ H1 _ I1 q) ?_) hpl)
  rintro ws s2 ⟨zs, H2, I2, rz, q2⟩
  refine ⟨I2.kIn, ?_⟩
  rw [hks]; exact runGK (us := [.ref a]) (vs := [.ref a]) F hG room hb (pass σ) I2 (.cons rfl .nil) rz q2
def wMethK (C : Addr) (m : Str) (n : Nat) (ct : CT) (g : ∀ {α : Type}, List α → List α → List α) (wo : WE) (wk : WA) : WE := fun g0 K X => wo g0 (fun d g1 => cellO d g1.st fun a C' fs => (C' = C ∧ fs.lookup m = none) ∧
  wk g1 (fun zs g2 => (g [d] zs).length = n ∧ ct (g [d] zs) g2.st (fun d st => K d ⟨g2.sl, st⟩) (fun C d st => X C d ⟨g2.sl, st⟩)) X) X
theorem methK_ok (mx : Mix g) {σ : L2.St} {H : Hp} {Q : VK} (h : liftE W (wMethK C m ps.length ct g wo wk) σ H Q) : tMethKG C m (liftSp ps.length ct) g (L2.WE W) (liftE W wo) (liftA W wk) σ H Q := by
  obtain ⟨g0, K, Xd, E, h, U, UX⟩ := h
  refine ⟨g0, _, Xd, E, h, fun d g1 v H1 k1 s1 E1 r1 => ?_, UX⟩
  obtain ⟨a, C', fs, rfl, q, ⟨rfl, no⟩, k2⟩ := cellO_ok k1
  cases r1
  obtain ⟨dx, vs, ea, lf⟩ := E1.sto a _ q
  refine ⟨a, dx, vs, rfl, ea, (RepF.lookup lf).2 no, g1, _, Xd, E1, k2, fun zs g2 ws H2 k3 s2 E2 l2 => ?_, UX.on s1⟩
  exact call_sp E2 (mx.rep (.cons (.ref a) .nil) l2) k3.1 k3.2 (U.on (s1.trans s2)) (UX.on (s1.trans s2))
theorem de_methK0 {pl : Sem Bool} (mx : Mix g) (ho : DE X W o wo) (c : Cls X.K C) (hm : Meth X.K C m f) (F : FnG X.prog X.w X.K X.mg X.base k f fd ps (liftSp ps.length ct)) (hG : X.A.guards = some []) (hr : Room k X.A) (hb : KBinds X.K fd ps ks g g) (tk : Takes X W)
    (hw : DK X W kws wk) (hall : (backToKw pos (keywordEach kws X.env)).all (·.1.isSome) = true := by rfl) (hks : (backToKw pos (keywordEach kws X.env)).filterMap (·.1) = ks := by rfl)
    (hpl : ((backTo pos (starEach [] X.env)).any (·.1) || (backToKw pos (keywordEach kws X.env)).any (·.1.isNone)) = false := by rfl)
    (ht : eval (.Call (.Attribute o m apos) [] kws pos) X.env = (do
      let ov ← eval o X.env
      standAt apos.atName
      let (f, first) ← holding [ov] (getMethod ov m pl)
      callWith pos f first (backTo pos (starEach [] X.env)) (backToKw pos (keywordEach kws X.env))) := by rfl) :
    DE X W (.Call (.Attribute o m apos) [] kws pos) (wMethK C m ps.length ct g wo wk) := (pe_methK0 (pl := pl) ho c hm F hG hr hb (fun σ => passAt tk σ) hw hall hks hpl ht).imp fun _ _ _ h => methK_ok mx h
end
end DL

end SDLN

section SDLY
set_option Elab.async false
set_option linter.all false
set_option maxRecDepth 100000
/-! readings: small equations, loops by an invariant, comprehensions that change the store, the pot of draws -/
namespace DL
open PySem L2
theorem tru_bl {st : Sto} {b : Bool} : tru st (.bl b) = some b := id rfl
theorem newL_f {ds : List D} {g : G} {K : KD} : newL false ds g K = K (.lst ds) g := id rfl
theorem newL_t {ds : List D} {g : G} {K : KD} : newL true ds g K = ∀ a, g.st a = none → K (.ref a) ⟨g.sl, put g.st a (.lst ds)⟩ := id rfl
theorem lenOf_lst {st : Sto} {ds : List D} : lenOf st (.lst ds) = some ds.length := id rfl
theorem lenOf_tup {st : Sto} {ds : List D} : lenOf st (.tup ds) = some ds.length := id rfl
theorem lenOf_lkd {st : Sto} {ds : List D} : lenOf st (.lkd ds) = some ds.length := id rfl
theorem eqD_int {st : Sto} {i j : Int} {f : Bool → Prop} : eqD st (.int i) (.int j) f = f (decide (i = j)) := id rfl
theorem eqD_str {st : Sto} {i j : Str} {f : Bool → Prop} : eqD st (.str i) (.str j) f = f (decide (i = j)) := id rfl
theorem seqAt_tup {st : Sto} {xs : List D} : seqAt st (.tup xs) = some xs := id rfl
theorem seqAt_lst {st : Sto} {xs : List D} : seqAt st (.lst xs) = some xs := id rfl
theorem seqAt_lkd {st : Sto} {xs : List D} : seqAt st (.lkd xs) = some xs := id rfl
theorem lseqAt_lst {st : Sto} {xs : List D} : lseqAt st (.lst xs) = some xs := id rfl
theorem lseqAt_lkd {st : Sto} {xs : List D} : lseqAt st (.lkd xs) = some xs := id rfl
theorem seqAt_ref {st : Sto} {a : Addr} {xs : List D} (e : st a = some (.lst xs)) : seqAt st (.ref a) = some xs := by unfold seqAt tlst; simp only [e]
theorem itAny_tup {st : Sto} {xs : List D} : itAny st (.tup xs) = some (xs, always) := id rfl
theorem itAny_lst {st : Sto} {xs : List D} : itAny st (.lst xs) = some (xs, always) := id rfl
theorem itAny_lkd {st : Sto} {xs : List D} : itAny st (.lkd xs) = some (xs, always) := id rfl
theorem lstAt_lst {st : Sto} {xs : List D} : lstAt st (.lst xs) = some (xs, always) := id rfl
theorem wIt_eq {we : WE} {g : G} {K : KI} {X : XD} : wIt we g K X = we g (fun d g1 => opt (itAny g1.st d) fun p => K p.1 p.2 g1) X := id rfl
theorem kd_non {st : Sto} : kindOf st .non = some "NoneType" := id rfl
theorem kd_bl {st : Sto} {b : Bool} : kindOf st (.bl b) = some "bool" := id rfl
theorem kd_int {st : Sto} {i : Int} : kindOf st (.int i) = some "int" := id rfl
theorem kd_str {st : Sto} {x : Str} : kindOf st (.str x) = some "str" := id rfl
theorem kd_tup {st : Sto} {xs : List D} : kindOf st (.tup xs) = some "tuple" := id rfl
theorem kt_ii : kitB "int" "int" = some true := by decide +kernel
theorem kt_ib : kitB "int" "bool" = some false := by decide +kernel
theorem kt_tt : kitB "tuple" "tuple" = some true := by decide +kernel
theorem kt_ss : kitB "str" "str" = some true := by decide +kernel
theorem oInt_int {i : Int} {g : G} {K : KD} : oInt [.int i] g K = K (.int i) g := id rfl
theorem oInt_bl {b : Bool} {g : G} {K : KD} : oInt [.bl b] g K = K (.int (if b = true then 1 else 0)) g := id rfl
theorem oAdd_int {b : Bool} {i j : Int} {g : G} {K : KD} : oAdd b (.int i) (.int j) g K = K (.int (i + j)) g := id rfl
theorem oNeg_int {i : Int} {g : G} {K : KD} : oNeg (.int i) g K = K (.int (-i)) g := id rfl
theorem oIx_tup {xs : List D} {i : Int} {g : G} {K : KD} : oIx (.tup xs) (.int i) g K = opt (atI xs i) fun d => K d g := id rfl
theorem oIx_lst {xs : List D} {i : Int} {g : G} {K : KD} : oIx (.lst xs) (.int i) g K = opt (atI xs i) fun d => K d g := id rfl
theorem oIx_lkd {xs : List D} {i : Int} {g : G} {K : KD} : oIx (.lkd xs) (.int i) g K = opt (atI xs i) fun d => K d g := id rfl
theorem oIx_ref {a : Addr} {xs : List D} {i : Int} {g : G} {K : KD} (e : g.st a = some (.lst xs)) : oIx (.ref a) (.int i) g K = opt (atI xs i) fun d => K d g := by
  show opt (seqAt g.st (.ref a)) _ = _
  rw [seqAt_ref e]; rfl
theorem oSum_ints {ns : List Int} {g : G} {K : KD} : oSum [.lst (ns.map D.int)] g K = K (.int ns.sum) g := by
  unfold oSum
  simp only [arg1_eq, lseqAt_lst, opt_some, asInts_map]
theorem oAll_bls {ns : List Bool} {g : G} {K : KD} : oAll [.lst (ns.map D.bl)] g K = K (.bl (ns.all id)) g := by
  unfold oAll
  simp only [arg1_eq, lseqAt_lst, opt_some, asBls_map]
theorem oTuple_lst {xs : List D} {g : G} {K : KD} : oTuple [.lst xs] g K = K (.tup xs) g := id rfl
theorem oTuple_tup {xs : List D} {g : G} {K : KD} : oTuple [.tup xs] g K = K (.tup xs) g := id rfl
theorem atI_pos {xs : List D} {n : Nat} {d : D} (h : xs[n]? = some d) : atI xs (n : Int) = some d := by
  obtain ⟨hl, e⟩ := List.getElem?_eq_some_iff.mp h
  unfold atI
  have e1 : ixN xs.length (n : Int) = some n := by unfold ixN; simp; omega
  rw [e1, Option.bind_some]; exact h
theorem atI0 {x : D} {xs : List D} : atI (x :: xs) 0 = some x := atI_pos (n := 0) rfl
theorem atI1 {x y : D} {xs : List D} : atI (x :: y :: xs) 1 = some y := atI_pos (n := 1) rfl
theorem atI2 {x y z : D} {xs : List D} : atI (x :: y :: z :: xs) 2 = some z := atI_pos (n := 2) rfl
/-- what a cell is -/
def lstOf : Option Cell → Option (List D)
  | some (.lst xs) => some xs
  | _ => none
def objOf : Option Cell → Option (Addr × List (Str × D))
  | some (.obj C fs) => some (C, fs)
  | _ => none
theorem lstOf_lst {xs : List D} : lstOf (some (.lst xs)) = some xs := id rfl
theorem objOf_obj {C : Addr} {fs : List (Str × D)} : objOf (some (.obj C fs)) = some (C, fs) := id rfl
theorem seqAt_r {st : Sto} {a : Addr} : seqAt st (.ref a) = lstOf (st a) := by
  have e : seqAt st (.ref a) = (match st a with | some (.lst ds) => some ds | _ => none) := rfl
  rw [e]
  cases st a with
  | none => rfl
  | some c => cases c <;> rfl
theorem lseqAt_r {st : Sto} {a : Addr} : lseqAt st (.ref a) = lstOf (st a) := by
  have e : lseqAt st (.ref a) = (match st a with | some (.lst ds) => some ds | _ => none) := rfl
  rw [e]
  cases st a with
  | none => rfl
  | some c => cases c <;> rfl
theorem oIx_r {a : Addr} {i : Int} {g : G} {K : KD} : oIx (.ref a) (.int i) g K = opt (lstOf (g.st a)) fun xs => opt (atI xs i) fun d => K d g := by
  show opt (seqAt g.st (.ref a)) _ = _
  rw [seqAt_r]
theorem cellL_r {a : Addr} {st : Sto} {f : Addr → List D → Prop} : cellL (.ref a) st f = opt (lstOf (st a)) fun xs => f a xs := by
  have e : cellL (.ref a) st f = (match st a with | some (.lst xs) => f a xs | _ => False) := rfl
  rw [e]
  cases st a with
  | none => rfl
  | some c => cases c <;> rfl
theorem cellO_r {a : Addr} {st : Sto} {f : Addr → Addr → List (Str × D) → Prop} : cellO (.ref a) st f = opt (objOf (st a)) fun p => f a p.1 p.2 := by
  have e : cellO (.ref a) st f = (match st a with | some (.obj C fs) => f a C fs | _ => False) := rfl
  rw [e]
  cases st a with
  | none => rfl
  | some c => cases c <;> rfl
theorem isT_r {a : Addr} {st : Sto} : isT "list" st (.ref a) = ((lstOf (st a)).isSome = true) := by
  have e : isT "list" st (.ref a) = (match st a with | some (.lst _) => "list" = "list" | some (.dic _) => "list" = "dict" | _ => False) := rfl
  rw [e]
  cases st a with
  | none => simp [lstOf]
  | some c => cases c <;> simp [lstOf]
theorem ixN0 {n : Nat} : ixN (n + 1) 0 = some 0 := by unfold ixN; rw [if_pos (by decide), if_pos (by omega)]; rfl
theorem ixN2 {n : Nat} : ixN (n + 1 + 1 + 1) 2 = some 2 := by unfold ixN; rw [if_pos (by decide), if_pos (by omega)]; rfl
theorem oSl_lkd {b : Bool} {xs : List D} {lo hi : Option Int} {g : G} {K : KD} : oSl b (.lkd xs) lo hi g K = newL b (cutD xs lo hi) g K := by
  unfold oSl
  simp only [lseqAt_lkd, opt_some]
theorem tlst_lst {st : Sto} {xs : List D} : tlst st (.lst xs) = some xs := id rfl
theorem oExt_r {a : Addr} {ys : List D} {g : G} {K : KD} : oExtend (.ref a) [.lst ys] g K = opt (lstOf (g.st a)) fun xs => xs.length + ys.length ≤ sizeLine ∧ K .non ⟨g.sl, put g.st a (.lst (xs ++ ys))⟩ := by
  unfold oExtend
  rw [cellL_r]
  simp only [arg1_eq, tlst_lst, opt_some]
theorem oApp_r {a : Addr} {y : D} {g : G} {K : KD} : oAppend (.ref a) [y] g K = opt (lstOf (g.st a)) fun xs => xs.length < sizeLine ∧ K .non ⟨g.sl, put g.st a (.lst (xs ++ [y]))⟩ := by
  unfold oAppend
  rw [cellL_r]
  simp only [arg1_eq]
theorem frzS_at {i : Nat} {w : WS} {K : EndsD} {sl : List (Option D)} {st : Sto} {b : Addr} {xs : List D} (h : getS sl i = some (.ref b)) (hb : st b = none) : wFrzS i w K ⟨sl, put st b (.lst xs)⟩ = w K ⟨setS sl i (.lst xs), st⟩ := by
  unfold wFrzS
  simp only [h]
  unfold frz
  simp only [put_same]
  rw [drop_put hb]
theorem cutD_map {α : Type} (f : α → D) (xs : List α) (lo hi : Option Int) : ∃ ys : List α, cutD (xs.map f) lo hi = ys.map f ∧ ∀ y ∈ ys, y ∈ xs :=
  ⟨(xs.drop (HT.sIx (xs.map f).length 0 lo)).take (HT.sIx (xs.map f).length (xs.map f).length hi - HT.sIx (xs.map f).length 0 lo), by unfold cutD; rw [List.map_take, List.map_drop], fun y hy => List.mem_of_mem_drop (List.mem_of_mem_take hy)⟩
theorem mul_r {x y : Int} (h1 : -(2 ^ 64) < y) (h2 : y < 2 ^ 64) : MulOk x y := .inl (.inr ⟨h1, h2⟩)
theorem mul_l {x y : Int} (h1 : -(2 ^ 64) < x) (h2 : x < 2 ^ 64) : MulOk x y := .inl (.inl ⟨h1, h2⟩)
theorem mod_ok {x y : Int} (h : 0 < y) : ModOk x y := h
theorem log2_small {n k : Nat} (hk : 0 < k) (h : n < 2 ^ k) : n.log2 < k := by
  by_cases e : n = 0
  · subst e; simpa using hk
  · exact (Nat.log2_lt e).mpr h
theorem div_ok {x y : Int} (h : 0 < y) (h2 : y < 2 ^ 64) : DivOk x y := .inr ⟨h, Nat.lt_of_lt_of_le (log2_small (k := 64) (by decide) (by omega)) (by decide)⟩
theorem wFor_eq {wi : WI} {wg : WG} {wb : WS} {K : EndsD} {g : G} : wFor wi wg wb K g = wi g (fun items ok g1 => loopD ok wg wb K items g1) K.ex := id rfl
theorem wEnumT_eq {wa : WA} {g : G} {K : KI} {X : XD} : wEnumT wa g K X = wa g (fun xs g1 => arg1 xs fun d => asTup d fun ds => K (pairsN 0 ds) always g1) X := id rfl
theorem wRng1_eq {wa : WA} {g : G} {K : KI} {X : XD} : wRng1 wa g K X = wa g (fun ds g1 => arg1 ds fun a => asInt a fun j => Rng j ∧ K (rngL 0 j.toNat) always g1) X := id rfl
theorem cellO_at {a : Addr} {st : Sto} {C : Addr} {fs : List (Str × D)} {f : Addr → Addr → List (Str × D) → Prop} (e : st a = some (.obj C fs)) : cellO (.ref a) st f = f a C fs := by unfold cellO; simp only [e]
theorem cellL_at {a : Addr} {st : Sto} {xs : List D} {f : Addr → List D → Prop} (e : st a = some (.lst xs)) : cellL (.ref a) st f = f a xs := by unfold cellL; simp only [e]
theorem isT_ref {a : Addr} {st : Sto} {xs : List D} (e : st a = some (.lst xs)) : isT "list" st (.ref a) := by unfold isT; simp only [e]
theorem frz_lst {g : G} {a : Addr} {xs : List D} {K : KD} (e : g.st a = some (.lst xs)) : frz g (.ref a) K = K (.lst xs) ⟨g.sl, drop g.st a⟩ := by unfold frz; simp only [e]
theorem frz_dat {g : G} {xs : List D} {K : KD} : frz g (.lst xs) K = K (.lst xs) g := id rfl
theorem wFrz_eq {we : WE} {g : G} {K : KD} {X : XD} : wFrz we g K X = we g (fun d g1 => frz g1 d K) X := id rfl
theorem wFrzS_eq {i : Nat} {w : WS} {K : EndsD} {g : G} : wFrzS i w K g = opt (getS g.sl i) fun d => frz g d fun d' g' => w K ⟨setS g'.sl i d', g'.st⟩ := by
  unfold wFrzS
  cases getS g.sl i <;> rfl
theorem rng_map (n : Nat) : rngL 0 n = (List.range n).map fun i => D.int ((i : Nat) : Int) := by unfold rngL; simp
/-! ### loops -/
section
variable {ok : Sto → Prop} {wg : WG} {wb : WS} {E : EndsD}
theorem loopM {α : Type} (f : α → D) (I : List α → G → Prop) (step : ∀ x xs g (N : G → Prop), (∀ g', I xs g' → N g') → I (x :: xs) g → ok g.st ∧ wg (f x) g fun g2 => wb { E with nx := N, ct := N, bk := E.nx } g2)
    (done : ∀ g, I [] g → ok g.st ∧ E.nx g) : ∀ xs g, I xs g → loopD ok wg wb E (xs.map f) g
  | [], g, h => done g h
  | x :: xs, g, h => step x xs g _ (loopM f I step done xs) h
theorem loopE {α : Type} (f : α → D) (I : Nat → List α → G → Prop) (step : ∀ n x xs g (N : G → Prop), (∀ g', I (n + 1) xs g' → N g') → I n (x :: xs) g → ok g.st ∧ wg (.tup [.int (n : Int), f x]) g fun g2 => wb { E with nx := N, ct := N, bk := E.nx } g2)
    (done : ∀ n g, I n [] g → ok g.st ∧ E.nx g) : ∀ xs n g, I n xs g → loopD ok wg wb E (pairsN n (xs.map f)) g
  | [], n, g, h => done n g h
  | x :: xs, n, g, h => step n x xs g _ (loopE f I step done xs (n + 1)) h
end
/-! ### comprehensions whose elements change the store -/
section
variable {ok : Sto → Prop} {wg : WG} {wt : WT} {we : WE} {sl : List (Option D)} {p : Addr} {K : List D → Sto → Prop}
/-- I: of what is left, what is there, the store beside the list -/
theorem lcD_inv {α : Type} (f : α → D) (I : List α → List D → Sto → Prop)
    (step : ∀ x xs acc st (KT : KD) (KF : G → Prop), I (x :: xs) acc st → st p = none → (∀ y st', I xs (acc ++ [y]) st' → st' p = none → ∀ g', g'.st = put st' p (.lst acc) → KT y g') → (∀ st', I xs acc st' → st' p = none → ∀ g', g'.st = put st' p (.lst acc) → KF g') →
      ok (put st p (.lst acc)) ∧ wg (f x) ⟨sl, put st p (.lst acc)⟩ fun g2 => wt g2 (fun b g3 => match b with | true => we g3 KT noX | false => KF g3) noX)
    (done : ∀ acc st, I [] acc st → st p = none → ok (put st p (.lst acc)) ∧ K acc (put st p (.lst acc))) :
    ∀ xs acc st, I xs acc st → st p = none → acc.length + xs.length ≤ sizeLine → lcD ok wg wt we sl p K (xs.map f) acc (put st p (.lst acc))
  | [], acc, st, h, hp, _ => by
    obtain ⟨h1, h2⟩ := done acc st h hp
    exact ⟨h1, put_same, h2⟩
  | x :: xs, acc, st, h, hp, hl => by
    have hl2 : acc.length + (xs.length + 1) ≤ sizeLine := by simpa using hl
    refine step x xs acc st _ _ h hp (fun y st' hi hp' g' e => ?_) (fun st' hi hp' g' e => ?_)
    · refine ⟨by rw [e]; exact put_same, by omega, ?_⟩
      rw [e, put_put]
      exact lcD_inv f I step done xs (acc ++ [y]) st' hi hp' (by simp; omega)
    · rw [e]
      exact lcD_inv f I step done xs acc st' hi hp' (by omega)
end
theorem wLc_eq {b : Bool} {vs : List Nat} {wi : WI} {wg : WG} {wt : WT} {we : WE} {g : G} {K : KD} {X : XD} : wLc b vs wi wg wt we g K X = wi g (fun items ok g1 => ∀ p, g1.st p = none → lcD ok wg wt we (wipeS g1.sl vs) p (lcEnd b K g1.sl p) items [] (put g1.st p (.lst []))) X := id rfl
theorem lcAt_inv {α : Type} (f : α → D) (xs : List α) (I : List α → List D → Sto → Prop) {vs : List Nat} {wg : WG} {wt : WT} {we : WE} {g : G} {K : KD} (hl : xs.length ≤ sizeLine) (h0 : I xs [] g.st)
    (step : ∀ p x xs acc st (KT : KD) (KF : G → Prop), I (x :: xs) acc st → st p = none → (∀ y st', I xs (acc ++ [y]) st' → st' p = none → ∀ g', g'.st = put st' p (.lst acc) → KT y g') → (∀ st', I xs acc st' → st' p = none → ∀ g', g'.st = put st' p (.lst acc) → KF g') →
      wg (f x) ⟨wipeS g.sl vs, put st p (.lst acc)⟩ fun g2 => wt g2 (fun b g3 => match b with | true => we g3 KT noX | false => KF g3) noX)
    (k : ∀ acc st, I [] acc st → K (.lst acc) ⟨g.sl, st⟩) : ∀ p, g.st p = none → lcD always wg wt we (wipeS g.sl vs) p (lcEnd false K g.sl p) (xs.map f) [] (put g.st p (.lst [])) := fun p hp => by
  refine lcD_inv f I (fun x xs acc st KT KF h hp k1 k2 => ⟨True.intro, step p x xs acc st KT KF h hp k1 k2⟩) (fun acc st h hp => ⟨True.intro, ?_⟩) xs [] g.st h0 hp (by simpa using hl)
  show K (.lst acc) ⟨g.sl, drop (put st p (.lst acc)) p⟩
  rw [drop_put hp]; exact k acc st h
/-- a list display's worth, whatever its elements do -/
theorem wLc_inv {α : Type} (f : α → D) (xs : List α) (I : List α → List D → Sto → Prop) {vs : List Nat} {wi : WI} {wg : WG} {wt : WT} {we : WE} {g : G} {K : KD} {X : XD} (hi : ∀ KI : KI, KI (xs.map f) always g → wi g KI X) (hl : xs.length ≤ sizeLine) (h0 : I xs [] g.st)
    (step : ∀ p x xs acc st (KT : KD) (KF : G → Prop), I (x :: xs) acc st → st p = none → (∀ y st', I xs (acc ++ [y]) st' → st' p = none → ∀ g', g'.st = put st' p (.lst acc) → KT y g') → (∀ st', I xs acc st' → st' p = none → ∀ g', g'.st = put st' p (.lst acc) → KF g') →
      wg (f x) ⟨wipeS g.sl vs, put st p (.lst acc)⟩ fun g2 => wt g2 (fun b g3 => match b with | true => we g3 KT noX | false => KF g3) noX)
    (k : ∀ acc st, I [] acc st → K (.lst acc) ⟨g.sl, st⟩) : wLc false vs wi wg wt we g K X := hi _ (lcAt_inv f xs I hl h0 step k)
/-- every item gives an element; nothing else changes -/
theorem wLc_ty {α : Type} (f h : α → D) (xs : List α) {vs : List Nat} {wi : WI} {wg : WG} {we : WE} {g : G} {K : KD} {X : XD} (hi : ∀ KI : KI, KI (xs.map f) always g → wi g KI X) (hl : xs.length ≤ sizeLine)
    (H : ∀ x ∈ xs, ∀ (p : Addr) (acc : List D) (KT : KD), g.st p = none → (∀ g', g'.st = put g.st p (.lst acc) → KT (h x) g') → wg (f x) ⟨wipeS g.sl vs, put g.st p (.lst acc)⟩ fun g2 => we g2 KT noX)
    (k : K (.lst (xs.map h)) g) : wLc false vs wi wg wYes we g K X := by
  refine wLc_inv f xs (fun rest acc st => st = g.st ∧ ∃ pre, xs = pre ++ rest ∧ acc = pre.map h) hi hl ⟨rfl, [], rfl, rfl⟩ ?_ ?_
  · rintro p x rest acc st KT KF ⟨rfl, pre, rfl, rfl⟩ hp k1 _
    exact H x (by simp) p _ KT hp fun g' e => k1 (h x) g.st ⟨rfl, pre ++ [x], by simp, by simp⟩ hp g' e
  · rintro acc st ⟨rfl, pre, e, rfl⟩
    have : pre = xs := by simpa using e.symm
    rw [this]; exact k
theorem fm_filter {α β : Type} (p : α → Prop) [DecidablePred p] (f : α → β) : ∀ xs : List α, xs.filterMap (fun s => if p s then some (f s) else none) = (xs.filter fun s => decide (p s)).map f
  | [] => rfl
  | x :: xs => by
    by_cases h : p x
    · simp [List.filterMap_cons, List.filter_cons, h, fm_filter p f xs]
    · simp [List.filterMap_cons, List.filter_cons, h, fm_filter p f xs]
/-- some items give an element -/
theorem wLc_tyF {α : Type} (f : α → D) (h : α → Option D) (xs : List α) {vs : List Nat} {wi : WI} {wg : WG} {wt : WT} {we : WE} {g : G} {K : KD} {X : XD} (hi : ∀ KI : KI, KI (xs.map f) always g → wi g KI X) (hl : xs.length ≤ sizeLine)
    (H : ∀ x ∈ xs, ∀ (p : Addr) (acc : List D) (KT : KD) (KF : G → Prop), g.st p = none → (∀ y, h x = some y → ∀ g', g'.st = put g.st p (.lst acc) → KT y g') → (h x = none → ∀ g', g'.st = put g.st p (.lst acc) → KF g') →
      wg (f x) ⟨wipeS g.sl vs, put g.st p (.lst acc)⟩ fun g2 => wt g2 (fun b g3 => match b with | true => we g3 KT noX | false => KF g3) noX)
    (k : K (.lst (xs.filterMap h)) g) : wLc false vs wi wg wt we g K X := by
  refine wLc_inv f xs (fun rest acc st => st = g.st ∧ ∃ pre, xs = pre ++ rest ∧ acc = pre.filterMap h) hi hl ⟨rfl, [], rfl, rfl⟩ ?_ ?_
  · rintro p x rest acc st KT KF ⟨rfl, pre, rfl, rfl⟩ hp k1 k2
    refine H x (by simp) p _ KT KF hp (fun y hy g' e => k1 y g.st ⟨rfl, pre ++ [x], by simp, ?_⟩ hp g' e) fun hn g' e => k2 g.st ⟨rfl, pre ++ [x], by simp, ?_⟩ hp g' e
    · simp [List.filterMap_append, hy]
    · simp [List.filterMap_append, hn]
  · rintro acc st ⟨rfl, pre, e, rfl⟩
    have : pre = xs := by simpa using e.symm
    rw [this]; exact k
/-- each item gives its element, whatever else changes -/
theorem lcD_any {α : Type} {wg : WG} {we : WE} {sl : List (Option D)} {p : Addr} {K : List D → Sto → Prop} (f h : α → D) : ∀ (xs : List α) (acc : List D) (st : Sto), (∀ x ∈ xs, ∀ acc st (KT : KD), st p = some (.lst acc) → (∀ g', g'.st p = some (.lst acc) → KT (h x) g') → wg (f x) ⟨sl, st⟩ fun g2 => we g2 KT noX) →
    st p = some (.lst acc) → acc.length + xs.length ≤ sizeLine → (∀ st', st' p = some (.lst (acc ++ xs.map h)) → K (acc ++ xs.map h) st') → lcD always wg wYes we sl p K (xs.map f) acc st
  | [], acc, st, _, hp, _, k => ⟨True.intro, hp, by have := k st (by simpa using hp); simpa using this⟩
  | x :: xs, acc, st, step, hp, hl, k => by
    have hl2 : acc.length + (xs.length + 1) ≤ sizeLine := by simpa using hl
    refine ⟨True.intro, step x (by simp) acc st _ hp fun g' e => ⟨e, by omega, ?_⟩⟩
    refine lcD_any f h xs (acc ++ [h x]) _ (fun y hy => step y (by simp [hy])) put_same (by simp; omega) fun st' e' => ?_
    have e2 : acc ++ [h x] ++ xs.map h = acc ++ (x :: xs).map h := by simp
    rw [e2] at e' ⊢
    exact k st' e'
/-! ### what repr shows -/
structure Sh (k L : Nat) (p : PyData) : Prop where
  show_ : p.showable = true
  nod : p.hasDict = false
  dep : p.depth ≤ k
  len : p.shown.length ≤ L
theorem Sh.ok {k L : Nat} {p : PyData} (h : Sh k L p) (hk : k ≤ 64) (hL : L ≤ 16777216) : ReprOk p := ⟨h.show_, h.nod, Nat.le_trans h.dep hk, by rw [sizeLine_eq]; exact Nat.le_trans h.len hL⟩
theorem sh_int {i : Int} (h : i.natAbs < 10 ^ 100) : Sh 1 101 (.int i) := by
  refine ⟨?_, rfl, by simp [PyData.depth], ?_⟩
  · refine decide_eq_true (log2_small (by decide) (Nat.lt_trans h ?_))
    decide +kernel
  · show (Str.ofString (toString i)).length ≤ 101
    rw [ofString_length]
    exact int_text_length_le10 (by decide) h
theorem sh_all {k L : Nat} : ∀ {ps : List PyData}, (∀ p ∈ ps, Sh k L p) → PyData.showableAll ps = true ∧ PyData.hasDictAll ps = false ∧ PyData.depthAll ps ≤ k ∧ ((PyData.shownAll ps).map (·.length)).sum ≤ ps.length * L ∧ (PyData.shownAll ps).length = ps.length
  | [], _ => by simp [PyData.showableAll, PyData.hasDictAll, PyData.depthAll, PyData.shownAll]
  | p :: ps, h => by
    obtain ⟨a, b, c, d, e⟩ := sh_all (ps := ps) fun q hq => h q (by simp [hq])
    have hp := h p (by simp)
    refine ⟨by simp [PyData.showableAll, hp.show_, a], by simp [PyData.hasDictAll, hp.nod, b], by simp only [PyData.depthAll]; exact Nat.max_le.mpr ⟨hp.dep, c⟩, ?_, by simp [PyData.shownAll, e]⟩
    simp only [PyData.shownAll, List.map_cons, List.sum_cons, List.length_cons, Nat.add_mul, Nat.one_mul]
    have := hp.len
    omega
theorem sh_tup {k L n : Nat} {ps : List PyData} (h : ∀ p ∈ ps, Sh k L p) (hn : ps.length ≤ n) : Sh (k + 1) (n * (L + 2) + 3) (.tuple ps) := by
  obtain ⟨a, b, c, d, e⟩ := sh_all h
  refine ⟨by simpa [PyData.showable] using a, by simpa [PyData.hasDict] using b, by simp [PyData.depth]; omega, ?_⟩
  show (tupleText (PyData.shownAll ps)).length ≤ _
  have := tupleText_len_le (PyData.shownAll ps)
  rw [e] at this
  have m : ps.length * (L + 2) ≤ n * (L + 2) := Nat.mul_le_mul_right _ hn
  rw [Nat.mul_add] at m
  omega
theorem repr_go {d : D} {p : PyData} {g : G} {K : KD} (hp : pyT g.st d = some p) (ok : ReprOk p) (k : K (.str p.shown) g) : oRepr [d] g K := by
  unfold oRepr
  simp only [arg1_eq, hp, opt_some]
  exact ⟨ok, k⟩
theorem eq_shown {st : Sto} {x : Str} {f : Bool → Prop} (h : f true) : eqD st (.str x) (.str x) f := by
  rw [eqD_str, decide_eq_true rfl]; exact h
theorem pair2_map {α β : Type} (f : α → D) (h : β → D) : ∀ (xs : List α) (ys : List β), pair2 (xs.map f) (ys.map h) = (xs.zip ys).map fun z => .tup [f z.1, h z.2]
  | [], _ => rfl
  | _ :: _, [] => rfl
  | x :: xs, y :: ys => by simp [pair2, pair2_map f h xs ys]
/-! ### the pot -/
def potL (o s c : Int) : List D := [.int o, .int s, .int c]
/-- the store t is s with the pot at a, of which at most k draws were made -/
def Pots (st : Sto) (a : Addr) (k : Nat) (t : Sto) : Prop := ∃ o s c : Int, t = put st a (.lst (potL o s c)) ∧ (0 ≤ o ∧ o < 10 ^ 300) ∧ (0 ≤ s ∧ s < 2 ^ 62) ∧ 0 ≤ c ∧ c ≤ (k : Int)
theorem Pots.at {st : Sto} {a : Addr} {k : Nat} {t : Sto} (h : Pots st a k t) : ∃ o s c : Int, t a = some (.lst (potL o s c)) ∧ (0 ≤ o ∧ o < 10 ^ 300) ∧ (0 ≤ s ∧ s < 2 ^ 62) ∧ 0 ≤ c ∧ c ≤ (k : Int) := by
  obtain ⟨o, s, c, rfl, h⟩ := h
  exact ⟨o, s, c, put_same, h⟩
theorem Pots.mono {st : Sto} {a : Addr} {k j : Nat} {t : Sto} (h : Pots st a k t) (l : k ≤ j) : Pots st a j t := by
  obtain ⟨o, s, c, e, h1, h2, h3, h4⟩ := h
  exact ⟨o, s, c, e, h1, h2, h3, by omega⟩
theorem Pots.trans {st : Sto} {a : Addr} {k j : Nat} {t u : Sto} (h : Pots st a k t) (h' : Pots t a j u) : Pots st a j u := by
  obtain ⟨o, s, c, rfl, _⟩ := h
  obtain ⟨o', s', c', rfl, h2⟩ := h'
  exact ⟨o', s', c', by rw [put_put], h2⟩
theorem Pots.ne {st : Sto} {a b : Addr} {k : Nat} {t : Sto} (h : Pots st a k t) (n : b ≠ a) : t b = st b := by
  obtain ⟨o, s, c, rfl, _⟩ := h
  exact put_ne n
theorem Pots.put {st : Sto} {a b : Addr} {k : Nat} {t : Sto} {c : Cell} (h : Pots st a k t) (n : b ≠ a) : Pots (DL.put st b c) a k (DL.put t b c) := by
  obtain ⟨o, s, c', rfl, h⟩ := h
  exact ⟨o, s, c', put_comm (Ne.symm n), h⟩
theorem Pots.unput {st : Sto} {a b : Addr} {k : Nat} {t : Sto} {c : Cell} (h : Pots (DL.put st b c) a k t) (n : b ≠ a) : ∃ u, t = DL.put u b c ∧ Pots st a k u := by
  obtain ⟨o, s, c', rfl, h⟩ := h
  exact ⟨_, put_comm n, o, s, c', rfl, h⟩
/-- the pot is at a -/
abbrev PotAt (st : Sto) (a : Addr) (k : Nat) : Prop := Pots st a k st
theorem Pots.pot {st : Sto} {a : Addr} {k : Nat} {t : Sto} (h : Pots st a k t) : PotAt t a k := by
  obtain ⟨o, s, c, rfl, h⟩ := h
  exact ⟨o, s, c, by rw [put_put], h⟩
theorem PotAt.some {st : Sto} {a b : Addr} {k : Nat} (h : PotAt st a k) (n : st b = none) : b ≠ a := fun e => by
  obtain ⟨o, s, c, q, _⟩ := h.at
  rw [e, q] at n; cases n
end DL

end SDLY

section SDLA
set_option Elab.async false
set_option linter.all false
set_option maxRecDepth 100000
/-! x += e of whole numbers -/
namespace DL
open PySem PySem.Spec PyProof.Rows L2
section
variable {X : Cx} {W : WX} {e : Expr} {we : WE}
def wAugI (i : Nat) (h : Int → Int → Int) (we : WE) : WS := fun K g => opt (getS g.sl i) fun x => asInt x fun a => we g (fun y g1 => asInt y fun b => K.nx ⟨setS g1.sl i (.int (h a b)), g1.st⟩) K.ex
theorem ds_augI (i : Nat) {x : Str} {op : Operator} {h : Int → Int → Int} {pos pos' : Pos} (hN : X.N.Nodup) (hop : InOp X op fun x y H Q => ∃ i j, x = .int i ∧ y = .int j ∧ Q (.int (h i j)) H) (he : DE X W e we) (hi : X.N[i]? = some x := by rfl) (hx : Loc X.env.scope x := by first | exact Or.inl rfl | exact Or.inr rfl)
    (hf : X.fn x = true ∨ X.env.scope.names.lookup x = some .local := by first | exact .inl rfl | exact .inr rfl | assumption) : DS X W (.AugAssign (.Name x pos') op e pos) (wAugI i h we) :=
  (ps_aug hN hi hx he hop hf).imp fun D σ H ⟨g, K, E, w, U⟩ => by
  obtain ⟨d, e1, w1⟩ := opt_ok w
  obtain ⟨a, rfl, w2⟩ := asInt_ok w1
  obtain ⟨v, h1, h2⟩ := E.sl i _ e1
  obtain rfl : v = V.int a := by cases h2; rfl
  refine ⟨_, h1, g, _, K.ex, E, w2, fun y g1 u H1 k1 s1 E1 r1 => ?_, U.ex.x σ⟩
  obtain ⟨b, rfl, k2⟩ := asInt_ok k1
  cases r1
  exact ⟨a, b, rfl, rfl, U.nx _ _ H1 k2 s1 (E1.set i (.int _))⟩
end
theorem wAugI_eq {i : Nat} {h : Int → Int → Int} {we : WE} {K : EndsD} {g : G} : wAugI i h we K g = opt (getS g.sl i) fun x => asInt x fun a => we g (fun y g1 => asInt y fun b => K.nx ⟨setS g1.sl i (.int (h a b)), g1.st⟩) K.ex := id rfl
end DL

end SDLA

section SDLR
set_option Elab.async false
set_option linter.all false
set_option maxRecDepth 100000
/-! d.get(k, x); range(i, j, c); x is y of truths; except X: without a name -/
namespace DL
open PySem PySem.Spec PyProof.Rows L2
section
variable {X : Cx} {W : WX} {o e f : Expr} {wo wi wf : WE} {pos apos cpos p : Pos} {tg : Expr}
def wDGet2 (wo wi wf : WE) : WE := fun g K X => wo g (fun d g1 => (dicAt g1.st d).isSome = true ∧ wi g1 (fun y g2 => wf g2 (fun z g3 => opt (dicAt g3.st d) fun kvs => opt (keyD y) fun k => K ((valD kvs k).getD z) g3) X) X) X
theorem de_dget2 (hu : X.A.units + 1 < cLine) (ho : DE X W o wo) (hi : DE X W e wi) (hf : DE X W f wf) (m : M2 X o "get" apos e f cpos := by exact ⟨rfl, rfl, rfl, rfl⟩) : DE X W (.Call (.Attribute o "get" apos) [e, f] [] cpos) (wDGet2 wo wi wf) := (pe_dget2 hu ho hi hf m).imp fun σ H Q ⟨g, K, Xd, E, h, U, UX⟩ =>
  ⟨g, _, Xd, E, h, fun d g1 x H1 k1 s1 E1 r1 => by
    obtain ⟨kvs0, e0⟩ := Option.isSome_iff_exists.mp k1.1
    obtain ⟨a, vs, rfl, ha, _⟩ := dicAt_ok E1.sto r1 e0
    refine ⟨a, rfl, .inl ⟨vs, .inl ha⟩, g1, _, Xd, E1, k1.2, fun y g2 u H2 k2 s2 E2 r2 => ?_, UX.on s1⟩
    refine ⟨g2, _, Xd, E2, k2, fun z g3 w H3 k3 s3 E3 r3 => ?_, (UX.on s1).on s2⟩
    obtain ⟨kvs, e1, k4⟩ := opt_ok k3
    obtain ⟨k, e2, k5⟩ := opt_ok k4
    obtain ⟨a', ov, ea, hg, _, p1, p2, _⟩ := dget_ok E3.sto ((r1.step s2).step s3) (r2.step s3) e1 e2
    cases ea
    refine ⟨ov, hg, ?_⟩
    cases e : valD kvs k with
    | none => rw [p2 e]; rw [e] at k5; exact U _ g3 _ H3 k5 (s1.trans (s2.trans s3)) E3 r3
    | some v => obtain ⟨w, ew, rw'⟩ := p1 v e; rw [ew]; rw [e] at k5; exact U _ g3 _ H3 k5 (s1.trans (s2.trans s3)) E3 rw', UX⟩
/-- lo, lo + c, .. -/
def rngC (lo c : Int) (n : Nat) : List D := (List.range n).map fun t : Nat => D.int (lo + ((t : Nat) : Int) * c)
theorem rngC_length (lo c : Int) (n : Nat) : (rngC lo c n).length = n := by unfold rngC; simp
theorem iter_rngC {lo c : Int} {n : Nat} : IterOk (Itc lo c n) (rngC lo c n) always (fun _ _ => True) where
  keep := fun _ _ => trivial
  go := fun _ _ _ hi => by rw [rngC_length] at hi; exact hi
  yld := fun _ _ R y d hd => by
    obtain ⟨rfl, rfl⟩ := y
    unfold rngC at hd
    rw [List.getElem?_map] at hd
    obtain ⟨j, hj, rfl⟩ := Option.map_eq_some_iff.mp hd
    obtain ⟨hl, e⟩ := List.getElem?_eq_some_iff.mp hj
    rw [List.getElem_range] at e
    subst e
    exact ⟨Step.refl, R, .int _⟩
  stop := fun _ _ _ hi => by rw [rngC_length] at hi; exact hi
def wRng3 (wa : WA) : WI := fun g K X => wa g (fun ds g1 => arg3 ds fun a b e => asInt a fun i => asInt b fun j => asInt e fun c => ∃ n, RgC i j c n ∧ K (rngC i c n) always g1) X
theorem di_range3 {a b e : Expr} {wa : WA} (hm : X.mg "range" = none) (ha : DA X W [a, b, e] wa) (hg : Gl X "range" := by rfl) (hs : starEach [a, b, e] X.env = (false, eval a X.env) :: starEach [b, e] X.env := by rfl) (hpl : (backTo pos (starEach [b, e] X.env)).any (·.1) = false := by rfl) :
    DI X W tg (.Call (.Name "range" p) [a, b, e] [] pos) (wRng3 wa) :=
  (pi_range3 hg hm ha hs hpl).imp fun σ H R ⟨g, K, Xd, E, h, q, UX⟩ => by
  refine ⟨g, _, Xd, E, h, fun ds g1 xs H1 k s E1 r => ?_, UX⟩
  obtain ⟨a, b, e, rfl, k⟩ := arg3_ok k
  obtain ⟨i, rfl, k⟩ := asInt_ok k
  obtain ⟨j, rfl, k⟩ := asInt_ok k
  obtain ⟨c, rfl, k⟩ := asInt_ok k
  obtain ⟨n, rg, k⟩ := k
  obtain ⟨x, y, z, rfl, rx, ry, rz⟩ := repL_3 r
  obtain rfl : x = V.int i := by cases rx; rfl
  obtain rfl : y = V.int j := by cases ry; rfl
  obtain rfl : z = V.int c := by cases rz; rfl
  exact ⟨i, j, c, n, rfl, rg, q _ _ g1 H1 _ _ k s E1 iter_rngC trivial⟩
/-- x is y, both truths -/
theorem op_isB : OpR X (compareOp .Is) (fun x y H Q => ∃ a b, x = .bl a ∧ y = .bl b ∧ Q (.bl (decide (a = b))) H) := by
  intro pins s σ H x y v u Q I rx ry h
  obtain ⟨a, b, rfl, rfl, q⟩ := h
  cases rx
  cases ry
  show wpAny _ _ ((isSame (Value.bool a) (Value.bool b)) >>= fun z => pure (Value.bool z)) _ _ s
  refine wpAny_bind (wpAny_isSame_plain rfl (wpAny_pure (fin_bl I q ?_)))
  cases a <;> cases b <;> rfl
theorem op_isnotB : OpR X (compareOp .IsNot) (fun x y H Q => ∃ a b, x = .bl a ∧ y = .bl b ∧ Q (.bl (!decide (a = b))) H) := by
  intro pins s σ H x y v u Q I rx ry h
  obtain ⟨a, b, rfl, rfl, q⟩ := h
  cases rx
  cases ry
  show wpAny _ _ ((isSame (Value.bool a) (Value.bool b)) >>= fun z => pure (Value.bool (!z))) _ _ s
  refine wpAny_bind (wpAny_isSame_plain rfl (wpAny_pure (fin_bl I q ?_)))
  cases a <;> cases b <;> rfl
def oIsntB : WO2 := fun x y g K => asBl x fun a => asBl y fun b => K (.bl (!decide (a = b))) g
theorem so_isntB : SO2 (fun x y H Q => ∃ a b, x = .bl a ∧ y = .bl b ∧ Q (.bl (!decide (a = b))) H) oIsntB := fun {d e x y g σ H K Q} E ra rb w U => by
  obtain ⟨a, rfl, w1⟩ := asBl_ok w
  obtain ⟨b, rfl, w2⟩ := asBl_ok w1
  cases ra
  cases rb
  exact ⟨a, b, rfl, rfl, U _ g _ H w2 Step.refl E (.bl _)⟩
def oIsB : WO2 := fun x y g K => asBl x fun a => asBl y fun b => K (.bl (decide (a = b))) g
theorem so_isB : SO2 (fun x y H Q => ∃ a b, x = .bl a ∧ y = .bl b ∧ Q (.bl (decide (a = b))) H) oIsB := fun {d e x y g σ H K Q} E ra rb w U => by
  obtain ⟨a, rfl, w1⟩ := asBl_ok w
  obtain ⟨b, rfl, w2⟩ := asBl_ok w1
  cases ra
  cases rb
  exact ⟨a, b, rfl, rfl, U _ g _ H w2 Step.refl E (.bl _)⟩
end
section
variable {X : Cx} {W : WX} {x : Str} {c : Value} {body suite : List Stmt} {b₀ : Stmt} {np pos pos' : Pos} {wb ws : WS}
def wTry0 (K0 : Fr) (c : Value) (wb ws : WS) : WS := fun K g => wb { K with ex := fun C d g1 => XOk K0 C ∧ ∃ b, PySem.W.exmOne K0 (.ref C) c = some b ∧
  (b = true → ws { K with ex := noX } g1) ∧ (b = false → K.ex C d g1) } g
theorem ds_try0 (hc : Names X x c) (tk : Takes X W)
    (hb : ∀ (V : WX) (pn : List (Addr × Obj)) (xe : Value → Shared → Prop), Takes (X.tr pn xe) V → PassesOwn (model X.prog X.w) X.A X.env xe → DSs (X.tr pn xe) V body wb)
    (hsu : ∀ (a C dx : Addr) (oe : Obj) (pn : List (Addr × Obj)), XOk X.K C → Zc (.ref C) (some dx) oe → (∃ vs, oe.data = .fields vs) → DSs (X.suite a ((a, oe) :: pn)) W0 (b₀ :: suite) ws)
    (hs : X.stack = X.env :: X.outer := by rfl) (hf : X.env.frame = some X.env.locals := by rfl) :
    DS X W (.Try body [.ExceptHandler (some (.Name x np)) none (b₀ :: suite) pos'] [] [] pos) (wTry0 X.K c wb ws) := by
  refine (ps_try_only (ts := fun a cls d D σ H => ∃ C dx, cls = .ref C ∧ d = some dx ∧ XOk X.K C ∧ liftS W0 ws D σ H) hs hf hc tk (fun V pn xe h1 h2 => hb V pn xe h1 h2) fun a oe cls d pn hz hf => ?_).imp fun D σ H ⟨g, K, E, h, U⟩ => ?_
  · constructor
    rintro pins s σ H D I ⟨C, dx, rfl, rfl, xo, h⟩
    exact (hsu a C dx oe pn xo hz hf).run pins s σ H D I h
  · refine ⟨g, _, E, h, U.nx, U.rt, U.bk, U.ct, fun C d g1 σ1 dx H1 k1 s1 E1 r1 => ?_⟩
    obtain ⟨xo, b, e, k2, k3⟩ := k1
    refine ⟨b, e, fun hb a ha => ⟨C, dx, rfl, rfl, xo, ?_⟩, fun hb => U.ex C d g1 σ1 dx H1 (k3 hb) s1 E1 r1⟩
    refine ⟨g1, _, E1, k2 hb, ?_⟩
    have U1 := U.on s1
    exact ⟨U1.nx, U1.rt, U1.bk, U1.ct, fun C d g2 σ2 dx2 H2 k _ _ _ => k.elim⟩
end
end DL

end SDLR

section SDLS2
set_option Elab.async false
set_option linter.all false
set_option maxRecDepth 100000
/-! {k: v for x in a for y in b}: the machine's two loops -/
namespace DL
open PySem PySem.Spec PyProof.Rows L2
def NoE : Value → Shared → Prop := fun _ _ => False
/-- one turn of a clause, up to its tests -/
def StepW (M : Model) (A : Around) (t : Expr) (fs : List Expr) (it : Value) (env : Env) (stop skip body : Shared → Prop) (s : Shared) : Prop :=
  wpAny M A (pyNext it) (fun r s1 => match r with
    | none => stop s1
    | some v => wpAny M A (letOwnedTupleGo t it v) (fun _ s2 => wpAny M A (assign t env v) (fun _ s3 =>
      wpAny M A (forIn fs true fun c r => if r = true then do let ok ← isTrue c env (eval c env); pure (ForInStep.yield ok) else pure (ForInStep.yield r))
        (fun ok s4 => if ok = true then body s4 else skip s4) NoE s3) NoE s2) NoE s1) NoE s
section
variable {prog : Program} {w : World} {A : Around} {R : Result → Shared → Prop} {kx vx t0 i0 t1 i1 : Expr} {f0 f1 : List Expr} {scope : Scope} {pos : Pos} {it : Value} {D : Addr} {env : Env}
theorem noted_F {s : Shared} {α : Type} {m : Sem α} {Q : α → Shared → Prop} {E : Value → Shared → Prop} (h : wpAny (model prog w) A m Q NoE s) : wpAny (model prog w) A (m.onRaise fun x => do noteFrame x env; theTreesLotGoes x) Q E s :=
  wpAny_noted (wpAny_mono h (fun _ _ q => q) fun _ _ e => e.elim)
theorem loop_out (hs : ∀ x, foldedSetIterable i1 env x = pure x) (I : Nat → Shared → Prop)
    (turn : ∀ n s, I n s → StepW (model prog w) A t0 f0 it env (R (.ok .next)) (fun s => ∃ m, m < n ∧ I m s)
      (fun s => wpAny (model prog w) A (eval i1 env) (fun x s => wpAny (model prog w) A (pyIter x) (fun it1 s =>
        codeAny (model prog w) A (.compStart (.DictComp kx vx [⟨t0, i0, f0, 0⟩, ⟨t1, i1, f1, 0⟩] scope pos) 1 it1 (.ref D) env)
          (fun r s => match r with | .ok _ => ∃ m, m < n ∧ I m s | .error _ => False) s) NoE s) NoE s) s)
    (n : Nat) {s : Shared} (h : I n s) : codeAny (model prog w) A (.compLoop (.DictComp kx vx [⟨t0, i0, f0, 0⟩, ⟨t1, i1, f1, 0⟩] scope pos) 0 it (.ref D) env) R s := by
  refine codeAny_loop rfl I (fun n s hI => noted_F ?_) n h
  unfold compTurn
  refine wpAny_bind (wpAny_standAt (wpAny_bind (wpAny_mono (turn n s hI) (fun r s1 h1 => ?_) fun _ _ e => e)))
  cases r with
  | none => exact wpAny_pure h1
  | some v =>
    refine wpAny_bind (wpAny_mono h1 (fun _ s2 h2 => wpAny_bind (wpAny_mono h2 (fun _ s3 h3 => wpAny_bind (wpAny_mono h3 (fun ok s4 h4 => ?_) fun _ _ e => e)) fun _ _ e => e)) fun _ _ e => e)
    cases ok with
    | false => exact wpAny_pure ⟨rfl, h4⟩
    | true =>
      refine wpAny_bind (wpAny_mono h4 (fun x s5 h5 => wpAny_bind (wpAny_standAt (wpAny_bind (wpAny_of_eq (hs x) (wpAny_bind (wpAny_holding (wpAny_mono h5 (fun it1 s6 h6 => ?_) fun _ _ e => e))))))) fun _ _ e => e)
      refine wpAny_bind (wpAny_runOwn ?_)
      rw [Around.mark_none]
      refine codeAny_mono h6 fun r s7 h7 => ?_
      cases r with
      | ok f => exact wpAny_pure ⟨rfl, h7⟩
      | error e => exact h7.elim
theorem loop_in (I : Nat → Shared → Prop)
    (turn : ∀ n s, I n s → StepW (model prog w) A t1 f1 it env (R (.ok .next)) (fun s => ∃ m, m < n ∧ I m s)
      (fun s => wpAny (model prog w) A (eval kx env) (fun k s => wpAny (model prog w) A (eval vx env) (fun v s =>
        wpAny (model prog w) A (dictSet D k v) (fun _ s => ∃ m, m < n ∧ I m s) NoE s) NoE s) NoE s) s)
    (n : Nat) {s : Shared} (h : I n s) : codeAny (model prog w) A (.compLoop (.DictComp kx vx [⟨t0, i0, f0, 0⟩, ⟨t1, i1, f1, 0⟩] scope pos) 1 it (.ref D) env) R s := by
  refine codeAny_loop rfl I (fun n s hI => noted_F ?_) n h
  unfold compTurn
  refine wpAny_bind (wpAny_standAt (wpAny_bind (wpAny_mono (turn n s hI) (fun r s1 h1 => ?_) fun _ _ e => e)))
  cases r with
  | none => exact wpAny_pure h1
  | some v =>
    refine wpAny_bind (wpAny_mono h1 (fun _ s2 h2 => wpAny_bind (wpAny_mono h2 (fun _ s3 h3 => wpAny_bind (wpAny_mono h3 (fun ok s4 h4 => ?_) fun _ _ e => e)) fun _ _ e => e)) fun _ _ e => e)
    cases ok with
    | false => exact wpAny_pure ⟨rfl, h4⟩
    | true =>
      exact wpAny_bind (wpAny_bind (wpAny_mono h4 (fun k s5 h5 => wpAny_bind (wpAny_holding (wpAny_mono h5 (fun v s6 h6 => wpAny_bind (wpAny_standAt (wpAny_holding (wpAny_mono h6 (fun _ s7 h7 => wpAny_pure ⟨rfl, h7⟩) fun _ _ e => e)))) fun _ _ e => e))) fun _ _ e => e))
/-- the inner source is asked for its iterator once more, or not -/
theorem start_in {it : Value} {s : Shared} (h0 : codeAny (model prog w) A (.compLoop (.DictComp kx vx [⟨t0, i0, f0, 0⟩, ⟨t1, i1, f1, 0⟩] scope pos) 1 it (.ref D) env) R s)
    (h : wpAny (model prog w) A (pyIter it) (fun it' s' => codeAny (model prog w) A (.compLoop (.DictComp kx vx [⟨t0, i0, f0, 0⟩, ⟨t1, i1, f1, 0⟩] scope pos) 1 it' (.ref D) env) R s') (notedBy (model prog w) A env fun x s' => R (.error x) s') s) :
    codeAny (model prog w) A (.compStart (.DictComp kx vx [⟨t0, i0, f0, 0⟩, ⟨t1, i1, f1, 0⟩] scope pos) 1 it (.ref D) env) R s := by
  refine codeAny_of_tree ?_
  show wpAny _ _ ((compStart (.DictComp kx vx [⟨t0, i0, f0, 0⟩, ⟨t1, i1, f1, 0⟩] scope pos) 1 it (.ref D) env).onRaise (fun x => do noteFrame x env; standAt theWindowsPlace)) _ _ s
  refine wpAny_notedAt ?_
  unfold compStart
  show wpAny _ _ (ask >>= _) _ _ s
  refine wpAny_bind (wpAny_askSetting (wpAny_ite ?_))
  split
  · first
      | exact wpAny_bind (wpAny_pure (wpAny_pure (And.intro rfl h0)))
      | exact wpAny_pure (And.intro rfl h0)
  · refine wpAny_bind (wpAny_rule ?_)
    first
      | exact wpAny_bind (wpAny_standAt (wpAny_bind (wpAny_mono h (fun it' s' h' => wpAny_pure (And.intro rfl h')) fun _ _ x => x)))
      | exact wpAny_bind (wpAny_bind (wpAny_standAt (wpAny_bind (wpAny_mono h (fun it' s' h' => wpAny_pure (And.intro rfl h')) fun _ _ x => x))))
end
end DL

end SDLS2

section SDLS3
set_option Elab.async false
set_option linter.all false
set_option maxRecDepth 100000
/-! {k: v for x in a for y in b}: the walk -/
namespace DL
open PySem PySem.Spec PyProof.Rows L2
/-- one clause's walk: J its source, D the dict, `turn` what a turn does on the way to `Nx` -/
def tDc2 (wi : TI) (g : TG) (tt : TT) (wi1 : TI) (g1 : TG) (tt1 : TT) (tk tv : TE) (vs vs1 : List Nat) : TE := fun σ H Q => wi σ H fun J H1 => ∀ D, H1 D = none → ∃ W : Nat → Nat → Hp → Prop, (∃ m, W 0 m (upd H1 D (.dK []))) ∧ ∀ i m H, W i m H →
  (J.stop i H ∧ Q (.ref D) H) ∨ (J.go i H ∧ ∃ Nx : Hp → Prop, (∀ H', Nx H' → ∃ m', m' < m ∧ W (i + 1) m' H') ∧ ∀ x H', J.yld i H x H' → g x (wipe σ vs) H' fun σ2 H2 => wipe σ2 vs = wipe σ vs ∧ tt σ2 H2 fun b H3 =>
    if b = true then wi1 σ2 H3 fun J1 H4 => ∃ W1 : Nat → Nat → Hp → Prop, (∃ m, W1 0 m H4) ∧ ∀ j k H, W1 j k H →
      (J1.stop j H ∧ Nx H) ∨ (J1.go j H ∧ ∃ Nx1 : Hp → Prop, (∀ H', Nx1 H' → ∃ k', k' < k ∧ W1 (j + 1) k' H') ∧ ∀ x H', J1.yld j H x H' → g1 x (wipe σ2 vs1) H' fun σ3 H5 => wipe σ3 vs1 = wipe σ2 vs1 ∧ tt1 σ3 H5 fun b H6 =>
        if b = true then tk σ3 H6 fun y H7 => tv σ3 H7 fun z H8 => ∃ kvs k, y = kV k ∧ H8 D = some (.dK kvs) ∧ kvs.length < sizeLine ∧ Nx1 (upd H8 D (.dK (putK kvs k z))) else Nx1 H6)
    else Nx H3)
section
variable {X : Cx}
/-- what holds of pinned cells at a turn's end -/
theorem pins_at {Y : Cx} {pins : List (Addr × Obj)} {fp : List Addr} {h : Heap} {σ : L2.St} {H : Hp} {s : Shared} (I : Inv Y (pins ++ pinsAt fp h) σ H s) : ∀ b ∈ fp, ∀ o, h.get? b = some o → s.heap.get? b = some o ∧ H b = none := fun b hb o e =>
  let z := I.pin (b, o) (List.mem_append_right _ (List.mem_append_right _ (mem_pinsAt hb e)))
  ⟨z.1, z.2.1⟩
theorem dc2_core {pins : List (Addr × Obj)} {s : Shared} {σ : L2.St} {H : Hp} {Q : VK} {kx vx tg iter tg1 iter1 : Expr} {ifs ifs1 : List Expr} {scope : Scope} {own : List (Str × Nat)} {vs1 : List Nat} {pos pos' : Pos} {wi wi1 : TI} {g g1 : TG} {tt tt1 : TT} {tk tv : TE} {use : Option (Value → Sem Unit)} {Qf : Value → Shared → Prop}
    (hc : X.calm = true) (hN : X.N.Nodup) (I : Inv X pins σ H s) (hi : PI X tg iter wi) (ok : BlkOk X.N X.env.scope scope own) (hv : ∀ i ∈ vs1, i ∈ own.map (·.2))
    (hb : ∀ (s : Shared) (H : Hp) (C : Addr) (cl : List (Str × Addr)) (fp : List Addr), PG (X.blk s H scope (PySem.compEnvC scope cl C X.env) fp) tg g ∧ PTs (X.blk s H scope (PySem.compEnvC scope cl C X.env) fp) ifs tt ∧ PI (X.blk s H scope (PySem.compEnvC scope cl C X.env) fp) tg1 iter1 wi1 ∧
      PG (X.blk s H scope (PySem.compEnvC scope cl C X.env) fp) tg1 g1 ∧ PTs (X.blk s H scope (PySem.compEnvC scope cl C X.env) fp) ifs1 tt1 ∧ PE (X.blk s H scope (PySem.compEnvC scope cl C X.env) fp) kx tk ∧ PE (X.blk s H scope (PySem.compEnvC scope cl C X.env) fp) vx tv)
    (hs : ∀ x, foldedSetIterable iter X.env x = pure x) (hs1 : ∀ env x, foldedSetIterable iter1 env x = pure x)
    (h : tDc2 wi g tt wi1 g1 tt1 tk tv (own.map (·.2)) vs1 σ H Q)
    (hRR : ∀ D C s' m H', Inv X pins σ H' s' → Q (.ref D) H' → s'.heap.Ns C m → FpOk X pins H' C → compPost (model X.prog X.w) X.A X.xe use Qf (.ref D) C (.ok .next) s') :
    wpAny (model X.prog X.w) X.A (comprehension (.DictComp kx vx [⟨tg, iter, ifs, 0⟩, ⟨tg1, iter1, ifs1, 0⟩] scope pos) scope X.env pos' newDict false (eval iter X.env) use) Qf X.xe s := by
  have hfree : ∀ y ∈ scope.names, y.2 = .free → ∃ c, X.env.cells.lookup y.1 = some c := fun y hy e =>
    (ok.free y hy e).elim (fun k => I.ok.has _ (.inl k)) fun k => I.ok.has _ (.inr k)
  refine wpAny_comprehension_free (use := use) rfl hs (closure_ok hfree) ok.kind (fun y hy e => by rw [ok.uniq y hy, e]) (thn (hi.run pins s σ H _ I h) fun xv s1 hx => thn hx fun itv s2 h2 => ?_)
  obtain ⟨it, fp, tn, J, H2, rfl, I2, T, st2, f2, q⟩ := h2
  refine wpAny_newObj_type (newEnv_comp ?_)
  -- the dict
  generalize hD : s2.heap.objs.size = D
  obtain ⟨W, ⟨m0, w0⟩, turn⟩ := q D (I2.hok.fresh (Nat.le_of_eq hD))
  generalize hs3 : ({ s2 with heap := s2.heap.push { cls := .type "dict", data := .dict #[] } } : Shared) = s3
  have h3 : s3.heap = s2.heap.push { cls := .type "dict", data := .dict #[] } := by rw [← hs3]
  have I3 : Inv X pins σ (upd H2 D (.dK [])) s3 := by
    rw [← hs3]
    refine I2.laid (t' := s2.toks) (fun b o e => Heap.get?_push_of_some _ e) (Nat.le_of_eq hD) ?_
    rw [← hD]
    exact dk_empty s2.heap I2.big
  have f3 : ∀ b ∈ fp, FpOk X pins (upd H2 D (.dK [])) b ∧ b < s3.heap.objs.size := fun b hb => by
    obtain ⟨o, e, _⟩ := T.obj _ _ st2 b hb
    have hlt := Heap.lt_size e
    refine ⟨⟨?_, (f2 b hb).2⟩, by rw [h3, Heap.size_push]; exact Nat.lt_succ_of_lt hlt⟩
    rw [upd_ne (by rw [← hD]; exact Nat.ne_of_lt hlt)]
    exact (f2 b hb).1
  have st3 : tn 0 s3.heap := T.keep _ _ _ st2 fun b _ o e => by rw [h3]; exact Heap.get?_push_of_some _ e
  have I4 := block_start I3 ok hN f3
  obtain ⟨pg, pt, pi1, pg1, pt1, pk, pv⟩ := hb s3 (upd H2 D (.dK [])) s3.heap.objs.size (cellsFrom (s3.heap.objs.size + 1) scope.names (cloFrom X.env.cells scope.names [])) fp
  show codeAny _ _ (.compStart (.DictComp kx vx [⟨tg, iter, ifs, 0⟩, ⟨tg1, iter1, ifs1, 0⟩] scope pos) 0 (.ref it) (.ref D) (PySem.compEnvC scope (cellsFrom (s3.heap.objs.size + 1) scope.names (cloFrom X.env.cells scope.names [])) s3.heap.objs.size X.env)) (compPost (model X.prog X.w) X.A X.xe use Qf (.ref D) s3.heap.objs.size) { s3 with heap := pushCells (s3.heap.push { cls := .type "dict", data := .dict #[] }) scope.names }
  generalize hce : PySem.compEnvC scope (cellsFrom (s3.heap.objs.size + 1) scope.names (cloFrom X.env.cells scope.names [])) s3.heap.objs.size X.env = ce at I4 pg pt pi1 pg1 pt1 pk pv ⊢
  have cL : ce.locals = s3.heap.objs.size := by subst hce; rfl
  generalize hH3 : upd H2 D (.dK []) = H3 at I3 I4 pg pt pi1 pg1 pt1 pk pv w0 f3
  generalize hs4 : ({ s3 with heap := pushCells (s3.heap.push { cls := .type "dict", data := .dict #[] }) scope.names } : Shared) = s4 at I4 ⊢
  have st4 : tn 0 s4.heap := T.keep _ _ _ st3 fun b _ o e => by rw [← hs4]; exact pushCells_keeps _ _ _ _ (Heap.get?_push_of_some _ e)
  have stat : ∀ {σ' : L2.St} {H' : Hp} {s' : Shared}, Inv (X.blk s3 H3 scope ce fp) [] σ' H' s' → (∀ b ∈ fp, H' b = none) → ∀ b ∈ fp, FpOk (X.blk s3 H3 scope ce fp) [] H' b := fun {σ' H' s'} I' hn b hb =>
    ⟨hn b hb, (I'.ok.exf b hb).1, I'.ok.exfs b hb, .inl hb, fun x c e => (I'.ok.exf b hb).2 x c e, fun p hp => absurd (show p ∈ ([] : List (Addr × Obj)) ++ [] from hp) (by simp)⟩
  have loop : codeAny (model X.prog X.w) X.A (.compLoop (.DictComp kx vx [⟨tg, iter, ifs, 0⟩, ⟨tg1, iter1, ifs1, 0⟩] scope pos) 0 (.ref it) (.ref D) ce) (compPost (model X.prog X.w) X.A X.xe use Qf (.ref D) s3.heap.objs.size) s4 := by
    refine loop_out (hs1 ce) (fun n s => ∃ i H, Inv (X.blk s3 H3 scope ce fp) [] (wipe σ (own.map (·.2))) H s ∧ tn i s.heap ∧ (∀ b ∈ fp, H b = none) ∧ W i n H) ?_ m0 ⟨0, H3, I4, st4, fun b hb => (f3 b hb).1.1, w0⟩
    rintro n s5 ⟨i, H5, I5, st5, n5, w5⟩
    rcases turn i n H5 w5 with ⟨stop, qq⟩ | ⟨go, Nx, hNx, step⟩
    · refine thnF (T.done (X.blk s3 H3 scope ce fp) rfl rfl rfl hc i [] s5 _ H5 (fun _ _ => False) I5 (stat I5 n5) st5 stop) fun r s6 ⟨hr, I6⟩ => ?_
      subst hr
      have nC : H5 s3.heap.objs.size = none := cL ▸ (show H5 ce.locals = none from I6.free)
      obtain ⟨m, hn, _⟩ := I6.loc
      have hn : s6.heap.Ns ce.locals m := hn
      rw [cL] at hn
      exact hRR D _ s6 m H5 (I3.call' (ch := fp) I6.os I6.base I6.hok I6.bare fun b hb => ⟨(f3 b hb).1.2.2.2.1, (f3 b hb).1.2.1, (f3 b hb).1.2.2.2.2.1, (f3 b hb).1.2.2.2.2.2⟩) qq hn (I3.fpOk (Nat.le_refl _) nC)
    · refine thnF (T.item (X.blk s3 H3 scope ce fp) rfl rfl rfl hc i [] s5 _ H5 (fun _ _ => False) I5 (stat I5 n5) st5 go) fun r s6 ⟨u, hr, h6⟩ => ?_
      subst hr
      refine thnF h6 fun _ s7 ⟨x, H7, I7, r7, y7, st7, n7⟩ => ?_
      refine thnF (pg.run _ s7 _ H7 x u _ (I7.pinned (stat I7 n7) (T.obj _ _ st7)) r7 (step x H7 y7)) fun _ s8 ⟨σ8, H8, I8, hw8, q8⟩ => ?_
      refine thnF (pt.run _ s8 σ8 H8 _ I8 q8) fun b s9 ⟨H9, I9, q9⟩ => ?_
      have fin : ∀ {σ9 : L2.St} {s' : Shared} {H' : Hp}, Inv (X.blk s3 H3 scope ce fp) ([] ++ pinsAt fp s7.heap) σ9 H' s' → (wipe σ (own.map (·.2))).length = σ9.length → (∀ (j : Nat) v, (wipe σ (own.map (·.2)))[j]? = some (some v) → σ9[j]? = some (some v)) → Nx H' →
          ∃ m, m < n ∧ ∃ i H, Inv (X.blk s3 H3 scope ce fp) [] (wipe σ (own.map (·.2))) H s' ∧ tn i s'.heap ∧ (∀ b ∈ fp, H b = none) ∧ W i m H := fun {σ9 s' H'} I' hl hk nx =>
        let ⟨m', hm, w'⟩ := hNx H' nx
        ⟨m', hm, i + 1, H', (I'.unpinned (pins := [])).weak hl hk, T.keep _ _ _ st7 fun b hb o e => (pins_at I' b hb o e).1, fun b hb => let ⟨o, e, _⟩ := T.obj _ _ st7 b hb; (pins_at I' b hb o e).2, w'⟩
      have hl8 : (wipe σ (own.map (·.2))).length = σ8.length := by rw [← hw8, wipe_length]
      have hk8 : ∀ (j : Nat) v, (wipe σ (own.map (·.2)))[j]? = some (some v) → σ8[j]? = some (some v) := fun j v e => (wipe_some (hw8.symm ▸ e)).1
      have hk9 : ∀ (j : Nat) v, (wipe σ (own.map (·.2)))[j]? = some (some v) → (wipe σ8 vs1)[j]? = some (some v) := fun j v e => by
        obtain ⟨e1, e2⟩ := wipe_some (hw8.symm ▸ e)
        rw [wipe_out fun z => e2 (hv j z)]
        exact e1
      cases b with
      | false => exact fin I9 hl8 hk8 q9
      | true =>
        refine thnF (pi1.run _ s9 σ8 H9 _ I9 q9) fun xv s10 hx => thnF hx fun itv s11 h11 => ?_
        obtain ⟨it1, fp1, tn1, J1, H11, rfl, I11, T1, st11, f11, W1, ⟨m1, w1⟩, turn1⟩ := h11
        have stat1 : ∀ {H' : Hp}, (∀ b ∈ fp1, H' b = none) → ∀ b ∈ fp1, FpOk (X.blk s3 H3 scope ce fp) ([] ++ pinsAt fp s7.heap) H' b := fun hn b hb => ⟨hn b hb, (f11 b hb).2⟩
        have inner : codeAny (model X.prog X.w) X.A (.compLoop (.DictComp kx vx [⟨tg, iter, ifs, 0⟩, ⟨tg1, iter1, ifs1, 0⟩] scope pos) 1 (.ref it1) (.ref D) ce)
            (fun r s => match r with | .ok _ => ∃ m, m < n ∧ ∃ i H, Inv (X.blk s3 H3 scope ce fp) [] (wipe σ (own.map (·.2))) H s ∧ tn i s.heap ∧ (∀ b ∈ fp, H b = none) ∧ W i m H | .error _ => False) s11 := by
          refine loop_in (fun k s => ∃ j H, Inv (X.blk s3 H3 scope ce fp) ([] ++ pinsAt fp s7.heap) (wipe σ8 vs1) H s ∧ tn1 j s.heap ∧ (∀ b ∈ fp1, H b = none) ∧ W1 j k H) ?_ m1 ⟨0, H11, I11.weak (wipe_length _ _) (fun j v e => (wipe_some e).1), st11, fun b hb => (f11 b hb).1, w1⟩
          rintro k s12 ⟨j, H12, I12, st12, n12, w12⟩
          rcases turn1 j k H12 w12 with ⟨stop1, nx1⟩ | ⟨go1, Nx1, hNx1, step1⟩
          · refine thnF (T1.done (X.blk s3 H3 scope ce fp) rfl rfl rfl hc j _ s12 (wipe σ8 vs1) H12 (fun _ _ => False) I12 (stat1 n12) st12 stop1) fun r s13 ⟨hr, I13⟩ => ?_
            subst hr
            exact fin I13 (hl8.trans (wipe_length σ8 vs1).symm) hk9 nx1
          · refine thnF (T1.item (X.blk s3 H3 scope ce fp) rfl rfl rfl hc j _ s12 (wipe σ8 vs1) H12 (fun _ _ => False) I12 (stat1 n12) st12 go1) fun r s13 ⟨u1, hr, h13⟩ => ?_
            subst hr
            refine thnF h13 fun _ s14 ⟨x1, H14, I14, r14, y14, st14, n14⟩ => ?_
            refine thnF (pg1.run _ s14 (wipe σ8 vs1) H14 x1 u1 _ (I14.pinned (stat1 n14) (T1.obj _ _ st14)) r14 (step1 x1 H14 y14)) fun _ s15 ⟨σ15, H15, I15, hw15, q15⟩ => ?_
            refine thnF (pt1.run _ s15 σ15 H15 _ I15 q15) fun b1 s16 ⟨H16, I16, q16⟩ => ?_
            have fin1 : ∀ {s' : Shared} {H' : Hp}, Inv (X.blk s3 H3 scope ce fp) (([] ++ pinsAt fp s7.heap) ++ pinsAt fp1 s14.heap) σ15 H' s' → Nx1 H' → ∃ m, m < k ∧ ∃ j H, Inv (X.blk s3 H3 scope ce fp) ([] ++ pinsAt fp s7.heap) (wipe σ8 vs1) H s' ∧ tn1 j s'.heap ∧ (∀ b ∈ fp1, H b = none) ∧ W1 j m H := fun {s' H'} I' nx =>
              let ⟨m', hm, w'⟩ := hNx1 H' nx
              ⟨m', hm, j + 1, H', I'.unpinned.weak (by rw [← hw15, wipe_length]) (fun j v e => (wipe_some (hw15.symm ▸ e)).1), T1.keep _ _ _ st14 fun b hb o e => (pins_at I' b hb o e).1, fun b hb => let ⟨o, e, _⟩ := T1.obj _ _ st14 b hb; (pins_at I' b hb o e).2, w'⟩
            cases b1 with
            | false => exact fin1 I16 q16
            | true =>
              refine thnF (pk.run _ s16 σ15 H16 _ I16 q16) fun z s17 ⟨yk, H17, I17, r17, q17⟩ => ?_
              refine thnF (pv.run _ s17 σ15 H17 _ I17 q17) fun z2 s18 ⟨yv, H18, I18, r18, kvs, ky, ek, hD18, hz18, nx⟩ => ?_
              subst ek
              exact d_dictSet (X := X.blk s3 H3 scope ce fp) I18 hD18 hz18 r17 r18 fun s19 I19 => fin1 I19 nx
        exact start_in inner (T1.self X.A 0 _ _ _ st11 inner)
  exact codeAny_compStart_dict loop (T.self X.A 0 _ _ _ st4 loop)
theorem pe_dc2 {kx vx tg iter tg1 iter1 : Expr} {ifs ifs1 : List Expr} {scope : Scope} {own : List (Str × Nat)} {vs1 : List Nat} {pos : Pos} {wi wi1 : TI} {g g1 : TG} {tt tt1 : TT} {tk tv : TE} (hc : X.calm = true) (hN : X.N.Nodup) (hi : PI X tg iter wi) (ok : BlkOk X.N X.env.scope scope own) (hv : ∀ i ∈ vs1, i ∈ own.map (·.2))
    (hb : ∀ (s : Shared) (H : Hp) (C : Addr) (cl : List (Str × Addr)) (fp : List Addr), PG (X.blk s H scope (PySem.compEnvC scope cl C X.env) fp) tg g ∧ PTs (X.blk s H scope (PySem.compEnvC scope cl C X.env) fp) ifs tt ∧ PI (X.blk s H scope (PySem.compEnvC scope cl C X.env) fp) tg1 iter1 wi1 ∧
      PG (X.blk s H scope (PySem.compEnvC scope cl C X.env) fp) tg1 g1 ∧ PTs (X.blk s H scope (PySem.compEnvC scope cl C X.env) fp) ifs1 tt1 ∧ PE (X.blk s H scope (PySem.compEnvC scope cl C X.env) fp) kx tk ∧ PE (X.blk s H scope (PySem.compEnvC scope cl C X.env) fp) vx tv)
    (hs : ∀ x, foldedSetIterable iter X.env x = pure x) (hs1 : ∀ env x, foldedSetIterable iter1 env x = pure x) :
    PE X (.DictComp kx vx [⟨tg, iter, ifs, 0⟩, ⟨tg1, iter1, ifs1, 0⟩] scope pos) (tDc2 wi g tt wi1 g1 tt1 tk tv (own.map (·.2)) vs1) := by
  refine ⟨fun pins s σ H Q I h => ?_⟩
  rw [arm_eval_DictComp]
  refine dc2_core hc hN I hi ok hv hb hs hs1 h fun D C s' m H' I' q hn ⟨f0, f1, _, f3, f4, f5⟩ => ⟨m, hn, fun h'' sb => ?_⟩
  exact ⟨.ref D, H', I'.turned (t' := s'.toks) (fun b o hb e => (sb.2 b hb).trans e) f0 f1 f3 f4 f5, rfl, q⟩
end
end DL

end SDLS3

section SDLS4
set_option Elab.async false
set_option linter.all false
set_option maxRecDepth 100000
/-! comprehensions with two clauses over data -/
namespace DL
open PySem PySem.Spec PyProof.Rows L2
def dcD2 (ok : Sto → Prop) (wg : WG) (wt : WT) (wi1 : WI) (wg1 : WG) (wt1 : WT) (wk wv : WE) (vs1 : List Nat) (sl : List (Option D)) (p : Addr) (K : List (Key × D) → Sto → Prop) : List D → List (Key × D) → Sto → Prop
  | [], acc, st => ok st ∧ st p = some (.dic acc) ∧ K acc st
  | x :: xs, acc, st => ok st ∧ wg x ⟨sl, st⟩ fun g2 => wt g2 (fun b g3 => match b with
    | true => wi1 g3 (fun items ok1 g4 => dcD ok1 wg1 wt1 wk wv (wipeS g4.sl vs1) p (dcD2 ok wg wt wi1 wg1 wt1 wk wv vs1 sl p K xs) items acc g4.st) noX
    | false => dcD2 ok wg wt wi1 wg1 wt1 wk wv vs1 sl p K xs acc g3.st) noX
def wDc2 (b : Bool) (vs vs1 : List Nat) (wi : WI) (wg : WG) (wt : WT) (wi1 : WI) (wg1 : WG) (wt1 : WT) (wk wv : WE) : WE := fun g K X => wi g (fun items ok g1 => ∀ p, g1.st p = none →
  dcD2 ok wg wt wi1 wg1 wt1 wk wv vs1 (wipeS g1.sl vs) p (dcEnd b K g1.sl p) items [] (put g1.st p (.dic []))) X
theorem dcD2_st {ok : Sto → Prop} {wg : WG} {wt : WT} {wi1 : WI} {wg1 : WG} {wt1 : WT} {wk wv : WE} {vs1 : List Nat} {sl : List (Option D)} {p : Addr} {K : List (Key × D) → Sto → Prop} {xs : List D} {acc : List (Key × D)} {st : Sto} (h : dcD2 ok wg wt wi1 wg1 wt1 wk wv vs1 sl p K xs acc st) : ok st := by
  cases xs with
  | nil => exact h.1
  | cons x xs => exact h.1
def lcD2 (ok : Sto → Prop) (wg : WG) (wt : WT) (wi1 : WI) (wg1 : WG) (wt1 : WT) (we : WE) (vs1 : List Nat) (sl : List (Option D)) (p : Addr) (K : List D → Sto → Prop) : List D → List D → Sto → Prop
  | [], acc, st => ok st ∧ st p = some (.lst acc) ∧ K acc st
  | x :: xs, acc, st => ok st ∧ wg x ⟨sl, st⟩ fun g2 => wt g2 (fun b g3 => match b with
    | true => wi1 g3 (fun items ok1 g4 => lcD ok1 wg1 wt1 we (wipeS g4.sl vs1) p (lcD2 ok wg wt wi1 wg1 wt1 we vs1 sl p K xs) items acc g4.st) noX
    | false => lcD2 ok wg wt wi1 wg1 wt1 we vs1 sl p K xs acc g3.st) noX
def wLc2 (b : Bool) (vs vs1 : List Nat) (wi : WI) (wg : WG) (wt : WT) (wi1 : WI) (wg1 : WG) (wt1 : WT) (we : WE) : WE := fun g K X => wi g (fun items ok g1 => ∀ p, g1.st p = none →
  lcD2 ok wg wt wi1 wg1 wt1 we vs1 (wipeS g1.sl vs) p (lcEnd b K g1.sl p) items [] (put g1.st p (.lst []))) X
theorem lcD2_st {ok : Sto → Prop} {wg : WG} {wt : WT} {wi1 : WI} {wg1 : WG} {wt1 : WT} {we : WE} {vs1 : List Nat} {sl : List (Option D)} {p : Addr} {K : List D → Sto → Prop} {xs acc : List D} {st : Sto} (h : lcD2 ok wg wt wi1 wg1 wt1 we vs1 sl p K xs acc st) : ok st := by
  cases xs with
  | nil => exact h.1
  | cons x xs => exact h.1
section
variable {X : Cx} {W : WX} {tg iter tg1 iter1 kx vx elt : Expr} {ifs ifs1 : List Expr} {pos : Pos} {vs vs1 : List Nat} {wi wi1 : WI} {wg wg1 : WG} {wt wt1 : WT} {wk wv we : WE}
theorem dc2_ok {b : Bool} {σ : L2.St} {H : Hp} {Q : VK} (h : liftE W (wDc2 b vs vs1 wi wg wt wi1 wg1 wt1 wk wv) σ H Q) : tDc2 (liftI W wi) (liftG vs wg) (liftT W0 wt) (liftI W0 wi1) (liftG vs1 wg1) (liftT W0 wt1) (liftE W0 wk) (liftE W0 wv) vs vs1 σ H Q := by
  obtain ⟨g, K, Xd, E, h, U, UX⟩ := h
  refine ⟨g, _, Xd, E, h, fun items ok g1 H1 J src k s1 E1 J1 S1 p hp => ?_, UX⟩
  have k1 := k p (E1.sto.free hp)
  have sn : Step g1.st H1 (put g1.st p (.dic [])) (upd H1 p (.dK [])) := Step.newc hp
  have En : EnvRep ⟨g1.sl, put g1.st p (.dic [])⟩ σ (upd H1 p (.dK [])) := E1.step sn (E1.sto.newc hp ⟨[], upd_same, .nil⟩)
  refine ⟨fun i m H2 => m = items.length - i ∧ ∃ acc st, EnvRep ⟨g1.sl, st⟩ σ H2 ∧ Step g.st H st H2 ∧ src st H2 ∧ dcD2 ok wg wt wi1 wg1 wt1 wk wv vs1 (wipeS g1.sl vs) p (dcEnd b K g1.sl p) (items.drop i) acc st, ⟨items.length, by simp, [], _, En, s1.trans sn, J1.keep S1 sn, by simpa using k1⟩, ?_⟩
  rintro i m H2 ⟨rfl, acc, st, E2, s2, S2, k2⟩
  have hok := dcD2_st k2
  rcases Nat.lt_or_ge i items.length with hlt | hge
  · refine .inr ⟨J1.go S2 hok E2.sto hlt, fun H' => ∃ acc st', EnvRep ⟨g1.sl, st'⟩ σ H' ∧ Step g.st H st' H' ∧ src st' H' ∧ dcD2 ok wg wt wi1 wg1 wt1 wk wv vs1 (wipeS g1.sl vs) p (dcEnd b K g1.sl p) (items.drop (i + 1)) acc st', fun H' q => ⟨items.length - (i + 1), by omega, rfl, q⟩, fun x H' hy => ?_⟩
    have hd : items[i]? = some items[i] := by simp [hlt]
    rw [List.drop_eq_getElem_cons hlt] at k2
    obtain ⟨s3, r3, rx⟩ := J1.yld S2 hok E2.sto hy _ hd
    have E3 : EnvRep ⟨g1.sl, st⟩ σ H' := E2.step s3 r3
    refine ⟨⟨wipeS g1.sl vs, st⟩, _, _, E3.wipe vs, rx, k2.2, fun g4 σ4 H4 k4 s4 E4 w4 => ⟨?_, g4, _, noX, E4, k4, fun c g5 H5 k5 s5 E5 => ?_, upX0⟩⟩
    · rw [w4]; exact wipe_sub fun _ h => h
    have s35 : Step st H2 g5.st H5 := s3.trans (s4.trans s5)
    cases c with
    | false => exact iteF ⟨acc, g5.st, E2.step s35 E5.sto, s2.trans s35, J1.keep S2 s35, k5⟩
    | true =>
      refine iteT ⟨g5, _, noX, E5, k5, fun items1 ok1 g6 H6 J2 src2 k6 s6 E6 J3 S6 => ?_, upX0⟩
      have s36 : Step st H2 g6.st H6 := s35.trans s6
      refine ⟨fun j m H => m = items1.length - j ∧ ∃ acc st', EnvRep ⟨g6.sl, st'⟩ σ4 H ∧ Step st H2 st' H ∧ src2 st' H ∧ dcD ok1 wg1 wt1 wk wv (wipeS g6.sl vs1) p (dcD2 ok wg wt wi1 wg1 wt1 wk wv vs1 (wipeS g1.sl vs) p (dcEnd b K g1.sl p) (items.drop (i + 1))) (items1.drop j) acc st', ⟨items1.length, by simp, acc, _, E6, s36, S6, by simpa using k6⟩, ?_⟩
      rintro j m H7 ⟨rfl, acc7, st7, E7, s7, S7, k7⟩
      have hok7 := dcD_st k7
      rcases Nat.lt_or_ge j items1.length with hlt1 | hge1
      · refine .inr ⟨J3.go S7 hok7 E7.sto hlt1, fun H' => ∃ acc st', EnvRep ⟨g6.sl, st'⟩ σ4 H' ∧ Step st H2 st' H' ∧ src2 st' H' ∧ dcD ok1 wg1 wt1 wk wv (wipeS g6.sl vs1) p (dcD2 ok wg wt wi1 wg1 wt1 wk wv vs1 (wipeS g1.sl vs) p (dcEnd b K g1.sl p) (items.drop (i + 1))) (items1.drop (j + 1)) acc st', fun H' q => ⟨items1.length - (j + 1), by omega, rfl, q⟩, fun x H' hy => ?_⟩
        have hd : items1[j]? = some items1[j] := by simp [hlt1]
        rw [List.drop_eq_getElem_cons hlt1] at k7
        obtain ⟨s8, r8, rx⟩ := J3.yld S7 hok7 E7.sto hy _ hd
        have E8 : EnvRep ⟨g6.sl, st7⟩ σ4 H' := E7.step s8 r8
        refine ⟨⟨wipeS g6.sl vs1, st7⟩, _, _, E8.wipe vs1, rx, k7.2, fun g9 σ9 H9 k9 s9 E9 w9 => ⟨?_, g9, _, noX, E9, k9, fun c g10 H10 k10 s10 E10 => ?_, upX0⟩⟩
        · rw [w9]; exact wipe_sub fun _ h => h
        have s70 : Step st7 H7 g10.st H10 := s8.trans (s9.trans s10)
        cases c with
        | false => exact iteF ⟨acc7, g10.st, E7.step s70 E10.sto, s7.trans s70, J3.keep S7 s70, k10⟩
        | true =>
          refine iteT ⟨g10, _, noX, E10, k10, fun y g11 u H11 k11 s11 E11 r11 => ⟨g11, _, noX, E11, k11, fun d g12 z H12 k12 s12 E12 r12 => ?_, upX0⟩, upX0⟩
          obtain ⟨hp12, k12⟩ := k12
          obtain ⟨ky, ek, hl12, k13⟩ := opt_ok k12
          obtain ⟨us, h12, l12⟩ := E12.sto p _ hp12
          have sw : Step g12.st H12 (put g12.st p (.dic (putKD acc7 ky d))) (upd H12 p (.dK (putK us ky z))) := Step.wr hp12
          have rw12 : StoRep (upd H12 p (.dK (putK us ky z))) (put g12.st p (.dic (putKD acc7 ky d))) := E12.sto.wr hp12 ⟨_, upd_same, (RepK.put r12 l12).step sw⟩
          have s72 := (s70.trans (s11.trans s12)).trans sw
          exact ⟨us, ky, keyD_ok (r11.step s12) ek, h12, by rw [← l12.length']; exact hl12, _, _, E7.step s72 rw12, s7.trans s72, J3.keep S7 s72, k13⟩
      · rw [List.drop_eq_nil_of_le hge1] at k7
        obtain ⟨_, hp7, k7⟩ := k7
        exact .inl ⟨J3.stop S7 hok7 E7.sto hge1, acc7, st7, E2.step s7 E7.sto, s2.trans s7, J1.keep S2 s7, k7⟩
  · rw [List.drop_eq_nil_of_le hge] at k2
    obtain ⟨_, hp2, k2⟩ := k2
    refine .inl ⟨J1.stop S2 hok E2.sto hge, ?_⟩
    cases b with
    | true => exact U (.ref p) _ _ H2 k2 s2 E2 (.ref p)
    | false =>
      obtain ⟨us, h6, l6⟩ := E2.sto p _ hp2
      exact U (.dic acc) ⟨g1.sl, drop st p⟩ _ H2 k2 (s2.trans Step.frz) (E2.step Step.frz E2.sto.frz) (.dic drop_same h6 (l6.step Step.frz))
theorem de_dc2 (b : Bool) {scope : Scope} {own : List (Str × Nat)} (hc : X.calm = true) (hN : X.N.Nodup) (ok : BlkOk X.N X.env.scope scope own) (hv : ∀ i ∈ vs1, i ∈ own.map (·.2)) (hi : DI X W tg iter wi)
    (hg : ∀ (s : Shared) (H : Hp) (C : Addr) (cl : List (Str × Addr)) (fp : List Addr), DG (X.blk s H scope (PySem.compEnvC scope cl C X.env) fp) (own.map (·.2)) tg wg)
    (ht : ∀ (s : Shared) (H : Hp) (C : Addr) (cl : List (Str × Addr)) (fp : List Addr), DTs (X.blk s H scope (PySem.compEnvC scope cl C X.env) fp) W0 ifs wt)
    (hi1 : ∀ (s : Shared) (H : Hp) (C : Addr) (cl : List (Str × Addr)) (fp : List Addr), DI (X.blk s H scope (PySem.compEnvC scope cl C X.env) fp) W0 tg1 iter1 wi1)
    (hg1 : ∀ (s : Shared) (H : Hp) (C : Addr) (cl : List (Str × Addr)) (fp : List Addr), DG (X.blk s H scope (PySem.compEnvC scope cl C X.env) fp) vs1 tg1 wg1)
    (ht1 : ∀ (s : Shared) (H : Hp) (C : Addr) (cl : List (Str × Addr)) (fp : List Addr), DTs (X.blk s H scope (PySem.compEnvC scope cl C X.env) fp) W0 ifs1 wt1)
    (hk : ∀ (s : Shared) (H : Hp) (C : Addr) (cl : List (Str × Addr)) (fp : List Addr), DE (X.blk s H scope (PySem.compEnvC scope cl C X.env) fp) W0 kx wk)
    (he : ∀ (s : Shared) (H : Hp) (C : Addr) (cl : List (Str × Addr)) (fp : List Addr), DE (X.blk s H scope (PySem.compEnvC scope cl C X.env) fp) W0 vx wv)
    (hs : ∀ x, foldedSetIterable iter X.env x = pure x := by intro _; rfl) (hs1 : ∀ env x, foldedSetIterable iter1 env x = pure x := by intro _ _; rfl) :
    DE X W (.DictComp kx vx [⟨tg, iter, ifs, 0⟩, ⟨tg1, iter1, ifs1, 0⟩] scope pos) (wDc2 b (own.map (·.2)) vs1 wi wg wt wi1 wg1 wt1 wk wv) :=
  (pe_dc2 (own := own) hc hN hi ok hv (fun s H C cl fp => ⟨hg s H C cl fp, ht s H C cl fp, hi1 s H C cl fp, hg1 s H C cl fp, ht1 s H C cl fp, hk s H C cl fp, he s H C cl fp⟩) hs hs1).imp fun _ _ _ h => dc2_ok h
theorem lc2_ok {b : Bool} {σ : L2.St} {H : Hp} {Q : VK} (h : liftE W (wLc2 b vs vs1 wi wg wt wi1 wg1 wt1 we) σ H Q) : tLc2 (liftI W wi) (liftG vs wg) (liftT W0 wt) (liftI W0 wi1) (liftG vs1 wg1) (liftT W0 wt1) (liftE W0 we) vs vs1 σ H Q := by
  obtain ⟨g, K, Xd, E, h, U, UX⟩ := h
  refine ⟨g, _, Xd, E, h, fun items ok g1 H1 J src k s1 E1 J1 S1 p hp => ?_, UX⟩
  have k1 := k p (E1.sto.free hp)
  have sn : Step g1.st H1 (put g1.st p (.lst [])) (upd H1 p (.lst [])) := Step.newc hp
  have En : EnvRep ⟨g1.sl, put g1.st p (.lst [])⟩ σ (upd H1 p (.lst [])) := E1.step sn (E1.sto.newc hp ⟨[], upd_same, .nil⟩)
  refine ⟨fun i m H2 => m = items.length - i ∧ ∃ acc st, EnvRep ⟨g1.sl, st⟩ σ H2 ∧ Step g.st H st H2 ∧ src st H2 ∧ lcD2 ok wg wt wi1 wg1 wt1 we vs1 (wipeS g1.sl vs) p (lcEnd b K g1.sl p) (items.drop i) acc st, ⟨items.length, by simp, [], _, En, s1.trans sn, J1.keep S1 sn, by simpa using k1⟩, ?_⟩
  rintro i m H2 ⟨rfl, acc, st, E2, s2, S2, k2⟩
  have hok := lcD2_st k2
  rcases Nat.lt_or_ge i items.length with hlt | hge
  · refine .inr ⟨J1.go S2 hok E2.sto hlt, fun H' => ∃ acc st', EnvRep ⟨g1.sl, st'⟩ σ H' ∧ Step g.st H st' H' ∧ src st' H' ∧ lcD2 ok wg wt wi1 wg1 wt1 we vs1 (wipeS g1.sl vs) p (lcEnd b K g1.sl p) (items.drop (i + 1)) acc st', fun H' q => ⟨items.length - (i + 1), by omega, rfl, q⟩, fun x H' hy => ?_⟩
    have hd : items[i]? = some items[i] := by simp [hlt]
    rw [List.drop_eq_getElem_cons hlt] at k2
    obtain ⟨s3, r3, rx⟩ := J1.yld S2 hok E2.sto hy _ hd
    have E3 : EnvRep ⟨g1.sl, st⟩ σ H' := E2.step s3 r3
    refine ⟨⟨wipeS g1.sl vs, st⟩, _, _, E3.wipe vs, rx, k2.2, fun g4 σ4 H4 k4 s4 E4 w4 => ⟨?_, g4, _, noX, E4, k4, fun c g5 H5 k5 s5 E5 => ?_, upX0⟩⟩
    · rw [w4]; exact wipe_sub fun _ h => h
    have s35 : Step st H2 g5.st H5 := s3.trans (s4.trans s5)
    cases c with
    | false => exact iteF ⟨acc, g5.st, E2.step s35 E5.sto, s2.trans s35, J1.keep S2 s35, k5⟩
    | true =>
      refine iteT ⟨g5, _, noX, E5, k5, fun items1 ok1 g6 H6 J2 src2 k6 s6 E6 J3 S6 => ?_, upX0⟩
      have s36 : Step st H2 g6.st H6 := s35.trans s6
      refine ⟨fun j m H => m = items1.length - j ∧ ∃ acc st', EnvRep ⟨g6.sl, st'⟩ σ4 H ∧ Step st H2 st' H ∧ src2 st' H ∧ lcD ok1 wg1 wt1 we (wipeS g6.sl vs1) p (lcD2 ok wg wt wi1 wg1 wt1 we vs1 (wipeS g1.sl vs) p (lcEnd b K g1.sl p) (items.drop (i + 1))) (items1.drop j) acc st', ⟨items1.length, by simp, acc, _, E6, s36, S6, by simpa using k6⟩, ?_⟩
      rintro j m H7 ⟨rfl, acc7, st7, E7, s7, S7, k7⟩
      have hok7 := lcD_st k7
      rcases Nat.lt_or_ge j items1.length with hlt1 | hge1
      · refine .inr ⟨J3.go S7 hok7 E7.sto hlt1, fun H' => ∃ acc st', EnvRep ⟨g6.sl, st'⟩ σ4 H' ∧ Step st H2 st' H' ∧ src2 st' H' ∧ lcD ok1 wg1 wt1 we (wipeS g6.sl vs1) p (lcD2 ok wg wt wi1 wg1 wt1 we vs1 (wipeS g1.sl vs) p (lcEnd b K g1.sl p) (items.drop (i + 1))) (items1.drop (j + 1)) acc st', fun H' q => ⟨items1.length - (j + 1), by omega, rfl, q⟩, fun x H' hy => ?_⟩
        have hd : items1[j]? = some items1[j] := by simp [hlt1]
        rw [List.drop_eq_getElem_cons hlt1] at k7
        obtain ⟨s8, r8, rx⟩ := J3.yld S7 hok7 E7.sto hy _ hd
        have E8 : EnvRep ⟨g6.sl, st7⟩ σ4 H' := E7.step s8 r8
        refine ⟨⟨wipeS g6.sl vs1, st7⟩, _, _, E8.wipe vs1, rx, k7.2, fun g9 σ9 H9 k9 s9 E9 w9 => ⟨?_, g9, _, noX, E9, k9, fun c g10 H10 k10 s10 E10 => ?_, upX0⟩⟩
        · rw [w9]; exact wipe_sub fun _ h => h
        have s70 : Step st7 H7 g10.st H10 := s8.trans (s9.trans s10)
        cases c with
        | false => exact iteF ⟨acc7, g10.st, E7.step s70 E10.sto, s7.trans s70, J3.keep S7 s70, k10⟩
        | true =>
          refine iteT ⟨g10, _, noX, E10, k10, fun d g12 z H12 k12 s12 E12 r12 => ?_, upX0⟩
          obtain ⟨hp12, hl12, k13⟩ := k12
          obtain ⟨us, h12, l12⟩ := E12.sto p _ hp12
          have sw : Step g12.st H12 (put g12.st p (.lst (acc7 ++ [d]))) (upd H12 p (.lst (us ++ [z]))) := Step.wr hp12
          have rw12 : StoRep (upd H12 p (.lst (us ++ [z]))) (put g12.st p (.lst (acc7 ++ [d]))) := E12.sto.wr hp12 ⟨_, upd_same, (RepL.append l12 (.cons r12 .nil)).step sw⟩
          have s72 := (s70.trans s12).trans sw
          exact ⟨us, h12, by rw [← l12.length]; exact hl12, _, _, E7.step s72 rw12, s7.trans s72, J3.keep S7 s72, k13⟩
      · rw [List.drop_eq_nil_of_le hge1] at k7
        obtain ⟨_, hp7, k7⟩ := k7
        exact .inl ⟨J3.stop S7 hok7 E7.sto hge1, acc7, st7, E2.step s7 E7.sto, s2.trans s7, J1.keep S2 s7, k7⟩
  · rw [List.drop_eq_nil_of_le hge] at k2
    obtain ⟨_, hp2, k2⟩ := k2
    refine .inl ⟨J1.stop S2 hok E2.sto hge, ?_⟩
    cases b with
    | true => exact U (.ref p) _ _ H2 k2 s2 E2 (.ref p)
    | false =>
      obtain ⟨us, h6, l6⟩ := E2.sto p _ hp2
      exact U (.lst acc) ⟨g1.sl, drop st p⟩ _ H2 k2 (s2.trans Step.frz) (E2.step Step.frz E2.sto.frz) (.lst drop_same h6 (l6.step Step.frz))
theorem de_lc2 (b : Bool) {scope : Scope} {own : List (Str × Nat)} (hc : X.calm = true) (hN : X.N.Nodup) (ok : BlkOk X.N X.env.scope scope own) (hv : ∀ i ∈ vs1, i ∈ own.map (·.2)) (hi : DI X W tg iter wi)
    (hg : ∀ (s : Shared) (H : Hp) (C : Addr) (cl : List (Str × Addr)) (fp : List Addr), DG (X.blk s H scope (PySem.compEnvC scope cl C X.env) fp) (own.map (·.2)) tg wg)
    (ht : ∀ (s : Shared) (H : Hp) (C : Addr) (cl : List (Str × Addr)) (fp : List Addr), DTs (X.blk s H scope (PySem.compEnvC scope cl C X.env) fp) W0 ifs wt)
    (hi1 : ∀ (s : Shared) (H : Hp) (C : Addr) (cl : List (Str × Addr)) (fp : List Addr), DI (X.blk s H scope (PySem.compEnvC scope cl C X.env) fp) W0 tg1 iter1 wi1)
    (hg1 : ∀ (s : Shared) (H : Hp) (C : Addr) (cl : List (Str × Addr)) (fp : List Addr), DG (X.blk s H scope (PySem.compEnvC scope cl C X.env) fp) vs1 tg1 wg1)
    (ht1 : ∀ (s : Shared) (H : Hp) (C : Addr) (cl : List (Str × Addr)) (fp : List Addr), DTs (X.blk s H scope (PySem.compEnvC scope cl C X.env) fp) W0 ifs1 wt1)
    (he : ∀ (s : Shared) (H : Hp) (C : Addr) (cl : List (Str × Addr)) (fp : List Addr), DE (X.blk s H scope (PySem.compEnvC scope cl C X.env) fp) W0 elt we)
    (hs : ∀ x, foldedSetIterable iter X.env x = pure x := by intro _; rfl) (hs1 : ∀ env x, foldedSetIterable iter1 env x = pure x := by intro _ _; rfl) :
    DE X W (.ListComp elt [⟨tg, iter, ifs, 0⟩, ⟨tg1, iter1, ifs1, 0⟩] scope pos) (wLc2 b (own.map (·.2)) vs1 wi wg wt wi1 wg1 wt1 we) :=
  (pe_lc2 (own := own) hc hN hi ok hv hg ht hi1 hg1 ht1 he hs hs1).imp fun _ _ _ h => lc2_ok h
end
end DL

end SDLS4

section SDLS5
set_option Elab.async false
set_option linter.all false
set_option maxRecDepth 100000
/-! y = {k: v for ..}, y = [.. for .. for ..], sorted(dict) -/
namespace DL
open PySem PySem.Spec PyProof.Rows L2
theorem swD_true {kx vx : Expr} {gs : List Comprehension} {scope : Scope} {pos py : Pos} {y : Str} {l : Nat} {env : Env} (hk : env.scope.kind = .function) (hy : env.scope.names.lookup y = some .local) (hl : (py.line == pos.line) = true)
    (ha : (scope.names.any fun (n, k) => n == y && (k == .local || k == .cell)) = false) : swapsWith (.DictComp kx vx gs scope pos) (some (.Name y py)) l env = pure true := by
  have ky : env.kindOf y = some .local := hy
  have hb : env.blockKind = .function := by unfold Env.blockKind; rw [hk]; rfl
  unfold swapsWith
  simp only [hb, ky, ha, Expr.pos, hl]
  rfl
section
variable {X : Cx}
/-- what follows the walk where the store is its own: the name takes the new object -/
theorem store_new {pins : List (Addr × Obj)} {D : Ends} {σ : L2.St} {i : Nat} {y : Str} {py : Pos} (hN : X.N.Nodup) (hy : X.N[i]? = some y) (hyl : X.env.scope.names.lookup y = some .local) :
    ∀ L C s' m H', Inv X pins σ H' s' → gName i (.ref L) σ H' D.nx → s'.heap.Ns C m → FpOk X pins H' C → compPost (model X.prog X.w) X.A X.xe (some (assign (.Name y py) X.env)) (fun _ s' => SP X pins D .next s') (.ref L) C (.ok .next) s' := fun L C s' m H' I' q hn f => by
  show wpAny _ _ (assign (.Name y py) X.env (.ref L)) _ _ _
  refine wpAny_assign_Name (store_ok2 (v := V.ref L) I' hN hy (.inl hyl) rfl (fun s2 I2 ⟨a, sb, ha⟩ => ?_) (.inr hyl))
  obtain ⟨f0, f1, f2, f3, f4, f5⟩ := f
  have haC : C ≠ a := ha.elim (fun z => z ▸ f1) fun z e => f4 y a z e.symm
  exact ⟨m, hn.sameBut sb haC, fun h3 sb3 => ⟨_, H', I2.turned (t' := s2.toks) (fun b o hb e => (sb3.2 b hb).trans e) f0 f1 f3 f4 f5, q⟩⟩
variable {kx vx tg iter tg1 iter1 : Expr} {ifs ifs1 : List Expr} {scope : Scope} {own : List (Str × Nat)} {vs1 : List Nat} {pos spos py : Pos} {wi wi1 : TI} {g g1 : TG} {tt tt1 : TT} {tk tv : TE} {i : Nat} {y : Str}
theorem ps_setDc (hc : X.calm = true) (hN : X.N.Nodup) (hy : X.N[i]? = some y) (hyl : X.env.scope.names.lookup y = some .local)
    (hsw : swapsWith (.DictComp kx vx [⟨tg, iter, ifs, 0⟩] scope pos) (some (.Name y py)) spos.line X.env = pure true) (hi : PI X tg iter wi) (ok : BlkOk X.N X.env.scope scope own)
    (hg : ∀ (s : Shared) (H : Hp) (C : Addr) (cl : List (Str × Addr)) (fp : List Addr), PG (X.blk s H scope (PySem.compEnvC scope cl C X.env) fp) tg g) (ht : ∀ (s : Shared) (H : Hp) (C : Addr) (cl : List (Str × Addr)) (fp : List Addr), PTs (X.blk s H scope (PySem.compEnvC scope cl C X.env) fp) ifs tt)
    (hk : ∀ (s : Shared) (H : Hp) (C : Addr) (cl : List (Str × Addr)) (fp : List Addr), PE (X.blk s H scope (PySem.compEnvC scope cl C X.env) fp) kx tk) (he : ∀ (s : Shared) (H : Hp) (C : Addr) (cl : List (Str × Addr)) (fp : List Addr), PE (X.blk s H scope (PySem.compEnvC scope cl C X.env) fp) vx tv)
    (hs : ∀ x, foldedSetIterable iter X.env x = pure x) :
    PS X (.Assign [.Name y py] (.DictComp kx vx [⟨tg, iter, ifs, 0⟩] scope pos) spos) (tAsg (tDc wi g tt tk tv (own.map (·.2))) (gName i)) := by
  refine ⟨fun pins s σ H D I h => ?_⟩
  rw [exec_Assign_Name_used _ _ _ _ hsw]
  refine wpAny_bind (wpAny_standAt (wpAny_bind ?_))
  show wpAny _ X.A (do let _ ← comprehension (.DictComp kx vx [⟨tg, iter, ifs, 0⟩] scope pos) scope X.env (firstIterPos [⟨tg, iter, ifs, 0⟩] pos) newDict false (eval iter X.env) (some (assign (.Name y py) X.env))) _ _ s
  have h : tDc wi g tt tk tv (own.map (·.2)) σ H (fun x H1 => gName i x σ H1 D.nx) := h
  exact wpAny_bind (thn (dc_core (Qf := fun _ s' => SP X pins D .next s') hc hN I hi ok hg ht hk he hs h (store_new hN hy hyl)) fun _ s' hq => wpAny_pure (wpAny_pure hq))
theorem ps_setDc2 (hc : X.calm = true) (hN : X.N.Nodup) (hy : X.N[i]? = some y) (hyl : X.env.scope.names.lookup y = some .local)
    (hsw : swapsWith (.DictComp kx vx [⟨tg, iter, ifs, 0⟩, ⟨tg1, iter1, ifs1, 0⟩] scope pos) (some (.Name y py)) spos.line X.env = pure true) (hi : PI X tg iter wi) (ok : BlkOk X.N X.env.scope scope own) (hv : ∀ i ∈ vs1, i ∈ own.map (·.2))
    (hb : ∀ (s : Shared) (H : Hp) (C : Addr) (cl : List (Str × Addr)) (fp : List Addr), PG (X.blk s H scope (PySem.compEnvC scope cl C X.env) fp) tg g ∧ PTs (X.blk s H scope (PySem.compEnvC scope cl C X.env) fp) ifs tt ∧ PI (X.blk s H scope (PySem.compEnvC scope cl C X.env) fp) tg1 iter1 wi1 ∧
      PG (X.blk s H scope (PySem.compEnvC scope cl C X.env) fp) tg1 g1 ∧ PTs (X.blk s H scope (PySem.compEnvC scope cl C X.env) fp) ifs1 tt1 ∧ PE (X.blk s H scope (PySem.compEnvC scope cl C X.env) fp) kx tk ∧ PE (X.blk s H scope (PySem.compEnvC scope cl C X.env) fp) vx tv)
    (hs : ∀ x, foldedSetIterable iter X.env x = pure x) (hs1 : ∀ env x, foldedSetIterable iter1 env x = pure x) :
    PS X (.Assign [.Name y py] (.DictComp kx vx [⟨tg, iter, ifs, 0⟩, ⟨tg1, iter1, ifs1, 0⟩] scope pos) spos) (tAsg (tDc2 wi g tt wi1 g1 tt1 tk tv (own.map (·.2)) vs1) (gName i)) := by
  refine ⟨fun pins s σ H D I h => ?_⟩
  rw [exec_Assign_Name_used _ _ _ _ hsw]
  refine wpAny_bind (wpAny_standAt (wpAny_bind ?_))
  show wpAny _ X.A (do let _ ← comprehension (.DictComp kx vx [⟨tg, iter, ifs, 0⟩, ⟨tg1, iter1, ifs1, 0⟩] scope pos) scope X.env (firstIterPos [⟨tg, iter, ifs, 0⟩, ⟨tg1, iter1, ifs1, 0⟩] pos) newDict false (eval iter X.env) (some (assign (.Name y py) X.env))) _ _ s
  have h : tDc2 wi g tt wi1 g1 tt1 tk tv (own.map (·.2)) vs1 σ H (fun x H1 => gName i x σ H1 D.nx) := h
  exact wpAny_bind (thn (dc2_core (Qf := fun _ s' => SP X pins D .next s') hc hN I hi ok hv hb hs hs1 h (store_new hN hy hyl)) fun _ s' hq => wpAny_pure (wpAny_pure hq))
end
section
variable {X : Cx} {W : WX} {tg iter tg1 iter1 kx vx elt : Expr} {ifs ifs1 : List Expr} {pos spos py : Pos} {vs1 : List Nat} {wi wi1 : WI} {wg wg1 : WG} {wt wt1 : WT} {wk wv we : WE} {scope : Scope} {own : List (Str × Nat)}
theorem ds_setDc (b : Bool) (i : Nat) {y : Str} (hc : X.calm = true) (hN : X.N.Nodup) (ok : BlkOk X.N X.env.scope scope own) (hi : DI X W tg iter wi)
    (hg : ∀ (s : Shared) (H : Hp) (C : Addr) (cl : List (Str × Addr)) (fp : List Addr), DG (X.blk s H scope (PySem.compEnvC scope cl C X.env) fp) (own.map (·.2)) tg wg)
    (ht : ∀ (s : Shared) (H : Hp) (C : Addr) (cl : List (Str × Addr)) (fp : List Addr), DTs (X.blk s H scope (PySem.compEnvC scope cl C X.env) fp) W0 ifs wt)
    (hkx : ∀ (s : Shared) (H : Hp) (C : Addr) (cl : List (Str × Addr)) (fp : List Addr), DE (X.blk s H scope (PySem.compEnvC scope cl C X.env) fp) W0 kx wk)
    (he : ∀ (s : Shared) (H : Hp) (C : Addr) (cl : List (Str × Addr)) (fp : List Addr), DE (X.blk s H scope (PySem.compEnvC scope cl C X.env) fp) W0 vx wv)
    (hy : X.N[i]? = some y := by rfl) (hyl : X.env.scope.names.lookup y = some .local := by rfl) (hk : X.env.scope.kind = .function := by rfl) (hl : (py.line == pos.line) = true := by rfl)
    (ha : (scope.names.any fun (n, k) => n == y && (k == .local || k == .cell)) = false := by decide +kernel) (hs : ∀ x, foldedSetIterable iter X.env x = pure x := by intro _; rfl) :
    DS X W (.Assign [.Name y py] (.DictComp kx vx [⟨tg, iter, ifs, 0⟩] scope pos) spos) (wSet i (wDc b (own.map (·.2)) wi wg wt wk wv)) :=
  (ps_setDc (own := own) hc hN hy hyl (swD_true hk hyl hl ha) hi ok hg ht hkx he hs).imp fun D σ H ⟨g, K, E, h, U⟩ =>
    dc_ok (b := b) (W := W) ⟨g, _, K.ex, E, h, fun d g1 v H1 k s1 E1 r1 => U.nx _ _ H1 k s1 (E1.set i r1), U.ex.x σ⟩
theorem ds_setDc2 (b : Bool) (i : Nat) {y : Str} (hc : X.calm = true) (hN : X.N.Nodup) (ok : BlkOk X.N X.env.scope scope own) (hv : ∀ i ∈ vs1, i ∈ own.map (·.2)) (hi : DI X W tg iter wi)
    (hg : ∀ (s : Shared) (H : Hp) (C : Addr) (cl : List (Str × Addr)) (fp : List Addr), DG (X.blk s H scope (PySem.compEnvC scope cl C X.env) fp) (own.map (·.2)) tg wg)
    (ht : ∀ (s : Shared) (H : Hp) (C : Addr) (cl : List (Str × Addr)) (fp : List Addr), DTs (X.blk s H scope (PySem.compEnvC scope cl C X.env) fp) W0 ifs wt)
    (hi1 : ∀ (s : Shared) (H : Hp) (C : Addr) (cl : List (Str × Addr)) (fp : List Addr), DI (X.blk s H scope (PySem.compEnvC scope cl C X.env) fp) W0 tg1 iter1 wi1)
    (hg1 : ∀ (s : Shared) (H : Hp) (C : Addr) (cl : List (Str × Addr)) (fp : List Addr), DG (X.blk s H scope (PySem.compEnvC scope cl C X.env) fp) vs1 tg1 wg1)
    (ht1 : ∀ (s : Shared) (H : Hp) (C : Addr) (cl : List (Str × Addr)) (fp : List Addr), DTs (X.blk s H scope (PySem.compEnvC scope cl C X.env) fp) W0 ifs1 wt1)
    (hkx : ∀ (s : Shared) (H : Hp) (C : Addr) (cl : List (Str × Addr)) (fp : List Addr), DE (X.blk s H scope (PySem.compEnvC scope cl C X.env) fp) W0 kx wk)
    (he : ∀ (s : Shared) (H : Hp) (C : Addr) (cl : List (Str × Addr)) (fp : List Addr), DE (X.blk s H scope (PySem.compEnvC scope cl C X.env) fp) W0 vx wv)
    (hy : X.N[i]? = some y := by rfl) (hyl : X.env.scope.names.lookup y = some .local := by rfl) (hk : X.env.scope.kind = .function := by rfl) (hl : (py.line == pos.line) = true := by rfl)
    (ha : (scope.names.any fun (n, k) => n == y && (k == .local || k == .cell)) = false := by decide +kernel) (hs : ∀ x, foldedSetIterable iter X.env x = pure x := by intro _; rfl) (hs1 : ∀ env x, foldedSetIterable iter1 env x = pure x := by intro _ _; rfl) :
    DS X W (.Assign [.Name y py] (.DictComp kx vx [⟨tg, iter, ifs, 0⟩, ⟨tg1, iter1, ifs1, 0⟩] scope pos) spos) (wSet i (wDc2 b (own.map (·.2)) vs1 wi wg wt wi1 wg1 wt1 wk wv)) :=
  (ps_setDc2 (own := own) hc hN hy hyl (swD_true hk hyl hl ha) hi ok hv (fun s H C cl fp => ⟨hg s H C cl fp, ht s H C cl fp, hi1 s H C cl fp, hg1 s H C cl fp, ht1 s H C cl fp, hkx s H C cl fp, he s H C cl fp⟩) hs hs1).imp fun D σ H ⟨g, K, E, h, U⟩ =>
    dc2_ok (b := b) (W := W) ⟨g, _, K.ex, E, h, fun d g1 v H1 k s1 E1 r1 => U.nx _ _ H1 k s1 (E1.set i r1), U.ex.x σ⟩
theorem ds_setLc2 (b : Bool) (i : Nat) {y : Str} (hc : X.calm = true) (hN : X.N.Nodup) (ok : BlkOk X.N X.env.scope scope own) (hv : ∀ i ∈ vs1, i ∈ own.map (·.2)) (hi : DI X W tg iter wi)
    (hg : ∀ (s : Shared) (H : Hp) (C : Addr) (cl : List (Str × Addr)) (fp : List Addr), DG (X.blk s H scope (PySem.compEnvC scope cl C X.env) fp) (own.map (·.2)) tg wg)
    (ht : ∀ (s : Shared) (H : Hp) (C : Addr) (cl : List (Str × Addr)) (fp : List Addr), DTs (X.blk s H scope (PySem.compEnvC scope cl C X.env) fp) W0 ifs wt)
    (hi1 : ∀ (s : Shared) (H : Hp) (C : Addr) (cl : List (Str × Addr)) (fp : List Addr), DI (X.blk s H scope (PySem.compEnvC scope cl C X.env) fp) W0 tg1 iter1 wi1)
    (hg1 : ∀ (s : Shared) (H : Hp) (C : Addr) (cl : List (Str × Addr)) (fp : List Addr), DG (X.blk s H scope (PySem.compEnvC scope cl C X.env) fp) vs1 tg1 wg1)
    (ht1 : ∀ (s : Shared) (H : Hp) (C : Addr) (cl : List (Str × Addr)) (fp : List Addr), DTs (X.blk s H scope (PySem.compEnvC scope cl C X.env) fp) W0 ifs1 wt1)
    (he : ∀ (s : Shared) (H : Hp) (C : Addr) (cl : List (Str × Addr)) (fp : List Addr), DE (X.blk s H scope (PySem.compEnvC scope cl C X.env) fp) W0 elt we)
    (hy : X.N[i]? = some y := by rfl) (hyl : X.env.scope.names.lookup y = some .local := by rfl) (hk : X.env.scope.kind = .function := by rfl) (hl : (py.line == pos.line) = true := by rfl)
    (ha : (scope.names.any fun (n, k) => n == y && (k == .local || k == .cell)) = false := by decide +kernel) (hs : ∀ x, foldedSetIterable iter X.env x = pure x := by intro _; rfl) (hs1 : ∀ env x, foldedSetIterable iter1 env x = pure x := by intro _ _; rfl) :
    DS X W (.Assign [.Name y py] (.ListComp elt [⟨tg, iter, ifs, 0⟩, ⟨tg1, iter1, ifs1, 0⟩] scope pos) spos) (wSet i (wLc2 b (own.map (·.2)) vs1 wi wg wt wi1 wg1 wt1 we)) :=
  (ps_setLc2 (own := own) hc hN hy hyl (sw_true hk hyl hl ha) hi ok hv hg ht hi1 hg1 ht1 he hs hs1).imp fun D σ H ⟨g, K, E, h, U⟩ =>
    lc2_ok (b := b) (W := W) ⟨g, _, K.ex, E, h, fun d g1 v H1 k s1 E1 r1 => U.nx _ _ H1 k s1 (E1.set i r1), U.ex.x σ⟩
end
/-! ### sorted(d) of a dict with whole numbers as keys -/
def oSortedDI (b : Bool) : WON := fun ds g K => arg1 ds fun d => opt (dicAt g.st d) fun kvs => ∃ ks : List Int, kvs.map (·.1) = ks.map Sum.inl ∧ ks.length < 64 ∧ ∀ ys : List Int, ys.Perm ks → ys.Pairwise (· ≤ ·) → newL b (ys.map D.int) g K
theorem repK_keys {H : Hp} {st : Sto} : ∀ {ds : List (Key × D)} {vs : List (Key × V)}, RepK H st ds vs → ds.map (·.1) = vs.map (·.1)
  | _, _, .nil => rfl
  | _, _, .cons _ l => by simp only [List.map_cons, repK_keys l]
theorem repL_intsR {H : Hp} {st : Sto} : ∀ ys : List Int, RepL H st (ys.map D.int) (ys.map V.int)
  | [] => .nil
  | y :: ys => .cons (.int y) (repL_intsR ys)
theorem son_sortedDI {b : Bool} : SON (fun xs H Q => ∃ (a : Addr) (kvs : List (Key × V)) (ks : List Int), xs = [.ref a] ∧ Rd H a (.dK kvs) ∧ kvs.map (·.1) = ks.map Sum.inl ∧ ks.length < 64 ∧
    ∀ (ys : List Int) (p : Addr), ys.Perm ks → ys.Pairwise (· ≤ ·) → H p = none → Q (.ref p) (upd H p (.lst (ys.map V.int)))) (oSortedDI b) := fun {a x g σ H Kd Q} E l w U => by
  obtain ⟨d, rfl, w⟩ := arg1_ok w
  obtain ⟨kvs, e, ks, hk, h64, w⟩ := opt_ok w
  obtain ⟨v, rfl, r⟩ := repL_1 l
  obtain ⟨p, vs, rfl, h, l2⟩ := dicAt_ok E.sto r e
  exact ⟨p, vs, ks, rfl, .inl h, by rw [← repK_keys l2]; exact hk, h64, fun ys q hp ho hq => new_L E (repL_intsR ys) (w ys hp ho) U q hq⟩
end DL

end SDLS5

section SDLS6
set_option Elab.async false
set_option linter.all false
set_option maxRecDepth 100000
/-! sum of a tuple -/
namespace DL
open PySem PySem.Spec PyProof.Rows L2
theorem sumT_ints {prog : Program} {w : World} {A : Around} {E : Value → Shared → Prop} {s : Shared} {l : Addr} {xs : Array (Int × Tok)} {Q : Value → Shared → Prop} (hh : A.handled = none) (hl : s.heap.IsTuple l (intItems xs))
    (h : ∀ h' tk t', (∀ b o, s.heap.get? b = some o → h'.get? b = some o) → Q (.int (preSum (numAt xs) xs.size) t') { s with heap := h', toks := tk }) :
    wpAny (model prog w) A (call (.builtin "sum") [.ref l]) Q E s := by
  have hlt : l < s.heap.objs.size := by obtain ⟨_, e, _⟩ := hl; exact Heap.lt_size e
  have old : ∀ b o, s.heap.get? b = some o → b ∉ [s.heap.objs.size] := fun b o e hm => by
    exact Nat.ne_of_lt (Heap.lt_size e) (List.mem_singleton.mp hm)
  refine call_sum_walkG (wpAny_pyIter_tuple hl ⟨_, _, _, _, _, _, numAt xs, rfl, Walks.tuple (A := A.in1) hh _ l (Nat.ne_of_lt hlt) (intItems xs), ⟨⟨_, Heap.get?_push_size _ rfl, rfl, rfl⟩, hl.push _⟩, fun b hb => ?_, (fun _ _ => intItems_at), fun h' tk t' hk => ?_⟩)
  · show b < (s.heap.push _).objs.size
    rw [Heap.size_push]
    simp only [List.mem_cons, List.not_mem_nil, or_false] at hb
    rcases hb with rfl | rfl
    · exact Nat.lt_succ_self _
    · exact Nat.lt_succ_of_lt hlt
  · have := h h' tk t' fun b o e => hk b o (old b o e) (Heap.get?_push_of_some _ e)
    simpa [intItems] using this
section
variable {X : Cx}
def rSumT (K : PySem.W.Frag) : List V → Hp → VK → Prop := fun vs H Q => ∃ (a : Addr) (ns : List Int), vs = [V.ref a] ∧ SqT K H a (ns.map V.int) ∧ Q (.int ns.sum) H
theorem cr_sumT (hc : X.calm = true) : CallR X (.builtin "sum") (rSumT X.K) := by
  intro pins s σ H vs us Q I r h
  obtain ⟨a, ns, rfl, hs, q⟩ := h
  obtain ⟨its, rv, hl, _⟩ := I.tuple hs
  rw [Vals.ref1 r]
  obtain ⟨xs, e⟩ := rv.ints.allInts.items
  have hn : numsOf (intItems xs).toList = ns := by rw [← e]; exact rv.ints.numsOf
  rw [nums_intItems] at hn
  rw [e] at hl
  refine sumT_ints (I.ok.hd hc) (show s.heap.IsTuple a _ from hl) fun h' tk t' hk => ⟨.int _, H, I.kept hk, ⟨_, rfl⟩, ?_⟩
  rw [preSum_eq, List.take_of_length_le (by simp), hn]; exact q
end
def oSumT : WON := fun ds g K => arg1 ds fun d => asTup d fun xs => opt (asInts xs) fun ns => K (.int ns.sum) g
theorem son_sumT {K : PySem.W.Frag} : SON (rSumT K) oSumT := fun {a x g σ H Kd Q} E l w U => by
  obtain ⟨d, rfl, w⟩ := arg1_ok w
  obtain ⟨xs, rfl, w⟩ := asTup_ok w
  obtain ⟨ns, e2, w⟩ := opt_ok w
  obtain ⟨v, rfl, r⟩ := repL_1 l
  cases r with
  | tup n rd l2 =>
    rw [asInts_eq e2] at l2
    rw [repL_ints l2] at rd
    exact ⟨_, ns, rfl, .inl rd, U _ g _ H w Step.refl E (.int _)⟩
theorem oSumT_ints {ns : List Int} {g : G} {K : KD} : oSumT [.tup (ns.map D.int)] g K = K (.int ns.sum) g := by
  unfold oSumT
  simp only [arg1_eq, asTup_tup, opt_some, asInts_map]
end DL

end SDLS6

section SDLS7
set_option Elab.async false
set_option linter.all false
set_option maxRecDepth 100000
/-! t[::-1] of a tuple -/
namespace DL
open PySem PySem.Spec PyProof.Rows L2
section
variable {prog : Program} {w : World} {A : Around} {E : Value → Shared → Prop} {s : Shared}
theorem adjust_rev (n : Nat) : Builtin.Slice.sliceAdjust none none (-1) (n : Int) = ((n : Int) - 1, -1) := by
  first
  | rfl
  | simp [Builtin.Slice.sliceAdjust]
theorem places_rev (n : Nat) : Builtin.Slice.slicePlaces ((n : Int) - 1) (-1) (-1) = n := by
  unfold Builtin.Slice.slicePlaces
  have h1 : ¬ ((-1 : Int) > 0) := by decide
  by_cases h : n = 0
  · subst h; rfl
  · simp only [h1, if_false]
    have e : (-1 : Int) < (n : Int) - 1 := by omega
    simp [e]
    try omega
theorem slice_rev {sl : Addr} {n : Nat} {t : Tok} {Q : Int × Int × Nat → Shared → Prop} (hs : s.heap.IsSliceOf sl .none .none (.int (-1) t)) (h : Q ((n : Int) - 1, -1, n) s) : wpAny (model prog w) A (Builtin.Slice.sliceApplied (.ref sl) (pure (n : Int))) Q E s := by
  obtain ⟨os, hos, hcs, hds⟩ := id hs
  unfold Builtin.Slice.sliceApplied Builtin.Slice.sliceFields
  refine wpAny_bind (wpAny_bind (wpAny_field hos hds (x := .none) rfl (wpAny_bind (wpAny_field hos hds (x := .none) rfl (wpAny_bind (wpAny_field hos hds (x := .int (-1) t) rfl (wpAny_pure ?_)))))))
  refine wpAny_bind (slicePart_int ?_)
  show wpAny _ _ (if ((-1 : Int) == 0) = true then _ else _) _ _ s
  rw [if_neg (by decide)]
  refine wpAny_bind (slicePart_none (wpAny_bind (slicePart_none (wpAny_bind (wpAny_pure ?_)))))
  show wpAny _ _ (match Builtin.Slice.sliceAdjust none none (-1) (n : Int) with | (lo, hi) => pure (lo, (-1 : Int), Builtin.Slice.slicePlaces lo hi (-1))) _ _ s
  rw [adjust_rev n]
  show wpAny _ _ (pure ((n : Int) - 1, (-1 : Int), Builtin.Slice.slicePlaces ((n : Int) - 1) (-1) (-1))) _ _ s
  rw [places_rev]
  exact wpAny_pure h
theorem pick_rev (xs : Array Value) : ((List.range xs.size).filterMap fun (m : Nat) => xs[((xs.size : Int) - 1 + (m : Int) * (-1)).toNat]?).toArray = xs.toList.reverse.toArray := by
  have e : (fun (m : Nat) => xs[((xs.size : Int) - 1 + (m : Int) * (-1)).toNat]?) = fun m => xs[xs.size - 1 - m]? := by
    funext m
    have : ((xs.size : Int) - 1 + (m : Int) * (-1)).toNat = xs.size - 1 - m := by omega
    rw [this]
  rw [e]
  have h := W.krv_range xs.size
  have h2 : (List.range xs.size).filterMap (fun m => xs[xs.size - 1 - m]?) = ((List.range xs.size).map fun k => xs.size - 1 - k).filterMap (xs[·]?) := by rw [List.filterMap_map]; rfl
  rw [h2, h, List.filterMap_reverse, W.krv_all]
theorem getItem_tuple_rev {t sl : Addr} {items : Array Value} {tk : Tok} {Q : Value → Shared → Prop} (ht : IsTup s.heap t items) (hs : s.heap.IsSliceOf sl .none .none (.int (-1) tk))
    (h : Q (.ref s.heap.objs.size) { s with heap := s.heap.push { cls := .type "tuple", data := .seq items.toList.reverse.toArray } })
    (hsz : items.size ≤ sizeLine) : wpAny (model prog w) A (getItem (.ref t) (.ref sl)) Q E s := by
  have hz : sizeOk (.seq items.toList.reverse.toArray) := by
    show items.toList.reverse.toArray.size ≤ sizeLine
    rw [List.size_toArray, List.length_reverse, Array.length_toList]
    exact hsz
  obtain ⟨os, hos, hcs, hds⟩ := id hs
  have hTs : s.TypeIs (.ref sl) "slice" := ⟨os, hos, hcs⟩
  unfold getItem
  try with_reducible refine wpAny_holding ?_
  first | refine wpAny_bind (wpAny_pure ?_) | skip
  refine wpAny_bind (wpAny_sequenceKey ht.typeIs (by decide) ?_)
  refine wpAny_bind (wpAny_callSpecial?_slot (name := Str.ofString "__getitem__") ht.typeIs PyProof.Rows.slot_tuple_getitem
    (wpAny_call_entry PyProof.Rows.slot_tuple_getitem ht.typeIs entry_tuple_getitem ?_ (args_tuple_getitem _ _)))
  show wpAny _ _ (Builtin.Tuple.tupleItemsOf (.ref t) >>= _) _ _ s
  refine wpAny_bind (tupleItemsOf_ ht ?_)
  refine wpAny_bind (wpAny_typeOf hTs ?_)
  rw [if_pos (by decide)]
  refine wpAny_bind (slice_rev hs ?_)
  have hno : ¬ (((((items.size : Int) - 1) == 0 && (-1 : Int) == 1 && items.size == items.size)) = true) := by
    intro q
    rw [Bool.and_eq_true, Bool.and_eq_true] at q
    exact absurd q.1.2 (by decide)
  show wpAny _ _ (if ((((items.size : Int) - 1) == 0 && (-1 : Int) == 1 && items.size == items.size)) = true then _ else _) _ _ s
  rw [if_neg hno, pick_rev]
  first
    | exact wpAny_bind (m := Builtin.Tuple.tupleExact _) (wpAny_newObj_type (wpAny_pure ⟨_, rfl, wpAny_pure h⟩) hz)
    | exact wpAny_bind (m := Builtin.Tuple.tupleExact _) (wpAny_newObj_type (wpAny_bind (wpAny_pure (wpAny_pure ⟨_, rfl, wpAny_pure h⟩))) hz)
    | exact wpAny_bind (wpAny_bind (m := Builtin.Tuple.tupleExact _) (wpAny_newObj_type (wpAny_pure (wpAny_pure ⟨_, rfl, wpAny_pure h⟩)) hz))
    | exact wpAny_bind (wpAny_bind (m := Builtin.Tuple.tupleExact _) (wpAny_newObj_type (wpAny_pure ⟨_, rfl, wpAny_pure h⟩) hz))
end
def tRevT (K : PySem.W.Frag) (te : TE) : TE := fun σ H Q => te σ H fun x H1 => ∃ a xs, x = .ref a ∧ SqT K H1 a xs ∧ ∀ p, H1 p = none → Q (.ref p) (upd H1 p (.tup xs.reverse))
section
variable {X : Cx}
theorem pe_revT {e : Expr} {te : TE} {k : Nat} {p1 p2 p3 pos : Pos} (he : PE X e te) : PE X (.Subscript e (.Slice none none (some (.UnaryOp .USub (.Constant (.int 1) k p1) p2)) p3) pos) (tRevT X.K te) := by
  refine ⟨fun pins s σ H Q I h => ?_⟩
  refine Subscript_ (thn (he.run pins s σ H _ I h) fun v s1 ⟨x, H1, I1, r1, q1⟩ => ?_)
  obtain ⟨a, xs, rfl, hx, q⟩ := q1
  cases r1
  have hst : PO X (some (.UnaryOp .USub (.Constant (.int 1) k p1) p2)) (tPart (tUn (rU fun i => .int (-i)) (tC (.int 1)))) := po_some (pe_un un_neg pe_int)
  refine wpAny_Slice (thn (po_none.run pins s1 σ H1 (fun o H2 => o = none ∧ H2 = H1) I1 ⟨rfl, rfl⟩) fun vl s2 ⟨l, H2, I2, pl, el, e2⟩ => ?_)
  subst el e2
  refine thn (po_none.run pins s2 σ H2 (fun o H3 => o = none ∧ H3 = H2) I2 ⟨rfl, rfl⟩) fun vu s3 ⟨u, H3, I3, pu, eu, e3⟩ => ?_
  subst eu e3
  refine thn (hst.run pins s3 σ H3 (fun o H4 => o = some (-1) ∧ H4 = H3) I3 ⟨1, rfl, -1, rfl, rfl, rfl⟩) fun vs s4 ⟨o, H4, I4, ps, eo, e4⟩ => ?_
  subst eo e4
  cases pl; cases pu
  obtain ⟨tk, rfl⟩ : ∃ tk, vs = Value.int (-1) tk := by cases ps; exact ⟨_, rfl⟩
  have I5 : L2.Inv X pins σ H4 { s4 with heap := s4.heap.push { cls := .type "slice", data := .fields #[.none, .none, .int (-1) tk] } } := I4.kept (t' := s4.toks) fun b ob q => Heap.get?_push_of_some _ q
  obtain ⟨its, r, ht, hz⟩ := I5.tuple hx
  have hlen := r.length
  show wpAny (model X.prog X.w) X.A (subscriptTail e (.Slice none none (some (.UnaryOp .USub (.Constant (.int 1) k p1) p2)) p3) (.ref a) (.ref s4.heap.objs.size)) (EP X pins σ Q) X.xe { s4 with heap := s4.heap.push { cls := .type "slice", data := .fields #[.none, .none, .int (-1) tk] } }
  refine tail_any (ops := [.ref a, .ref s4.heap.objs.size]) ht.typeIs (PyProof.Rows.slot_tuple_getitem.lookup) ?_ (by with_unfolding_all rfl)
  refine getItem_tuple_rev ht (Heap.IsSliceOf.new _ .none .none (.int (-1) tk)) ?_ (by rw [List.size_toArray]; omega)
  refine ⟨.ref _, _, I5.laid (t' := s4.toks) (o := .tup xs.reverse) (fun b ob q => Heap.get?_push_of_some _ q) (Nat.le_refl _) ?_, rfl, q _ (I5.hok.fresh (Nat.le_refl _))⟩
  exact ⟨by rw [List.length_reverse]; exact hz, _, r.reverse, IsTup.new _ _⟩
end
section
variable {X : Cx} {W : WX} {e : Expr} {we : WE} {pos : Pos}
def wRevT (we : WE) : WE := fun g K X => we g (fun d g1 => asTup d fun xs => K (.tup xs.reverse) g1) X
theorem wRevT_eq {g : G} {K : KD} {X : XD} : wRevT we g K X = we g (fun d g1 => asTup d fun xs => K (.tup xs.reverse) g1) X := id rfl
theorem de_revT {k : Nat} {p1 p2 p3 : Pos} (h : DE X W e we) : DE X W (.Subscript e (.Slice none none (some (.UnaryOp .USub (.Constant (.int 1) k p1) p2)) p3) pos) (wRevT we) := (pe_revT h).imp fun σ H Q ⟨g, K, Xd, E, h, U, UX⟩ => by
  refine ⟨g, _, Xd, E, h, fun d g1 v H1 k1 s1 E1 r1 => ?_, UX⟩
  obtain ⟨xs, rfl, k2⟩ := asTup_ok k1
  cases r1 with
  | tup n rd l => exact ⟨_, _, rfl, .inl rd, new_tup E1 (RepL.reverse l) k2 (U.on s1)⟩
end
end DL

end SDLS7

section SDLS8
set_option Elab.async false
set_option linter.all false
set_option maxRecDepth 100000
/-! max and min of a list of whole numbers -/
namespace DL
open PySem PySem.Spec PyProof.Rows L2
def oMaxL : WON := fun ds g K => arg1 ds fun d => opt (lseqAt g.st d) fun xs => opt (asInts xs) fun ns => 0 < ns.length ∧ ∀ m, m ∈ ns → (∀ y, y ∈ ns → y ≤ m) → K (.int m) g
def oMinL : WON := fun ds g K => arg1 ds fun d => opt (lseqAt g.st d) fun xs => opt (asInts xs) fun ns => 0 < ns.length ∧ ∀ m, m ∈ ns → (∀ y, y ∈ ns → m ≤ y) → K (.int m) g
theorem son_maxL {K : PySem.W.Frag} : SON (rMax K) oMaxL := fun {a x g σ H Kd Q} E l w U => by
  obtain ⟨d, rfl, w⟩ := arg1_ok w
  obtain ⟨xs, e, w⟩ := opt_ok w
  obtain ⟨ns, e2, w0, w⟩ := opt_ok w
  obtain ⟨v, rfl, r⟩ := repL_1 l
  obtain ⟨p, vs, rfl, h, l2⟩ := lseqAt_ok (K := K) E.sto r e
  rw [asInts_eq e2] at l2
  rw [repL_ints l2] at h
  exact ⟨p, ns, rfl, h, w0, fun m h1 h2 => U _ g _ H (w m h1 h2) Step.refl E (.int _)⟩
theorem son_minL {K : PySem.W.Frag} : SON (rMin K) oMinL := fun {a x g σ H Kd Q} E l w U => by
  obtain ⟨d, rfl, w⟩ := arg1_ok w
  obtain ⟨xs, e, w⟩ := opt_ok w
  obtain ⟨ns, e2, w0, w⟩ := opt_ok w
  obtain ⟨v, rfl, r⟩ := repL_1 l
  obtain ⟨p, vs, rfl, h, l2⟩ := lseqAt_ok (K := K) E.sto r e
  rw [asInts_eq e2] at l2
  rw [repL_ints l2] at h
  exact ⟨p, ns, rfl, h, w0, fun m h1 h2 => U _ g _ H (w m h1 h2) Step.refl E (.int _)⟩
theorem oMaxL_ints {ns : List Int} {g : G} {K : KD} : oMaxL [.lst (ns.map D.int)] g K = (0 < ns.length ∧ ∀ m, m ∈ ns → (∀ y, y ∈ ns → y ≤ m) → K (.int m) g) := by
  unfold oMaxL
  simp only [arg1_eq, lseqAt_lst, opt_some, asInts_map]
theorem oMinL_ints {ns : List Int} {g : G} {K : KD} : oMinL [.lst (ns.map D.int)] g K = (0 < ns.length ∧ ∀ m, m ∈ ns → (∀ y, y ∈ ns → m ≤ y) → K (.int m) g) := by
  unfold oMinL
  simp only [arg1_eq, lseqAt_lst, opt_some, asInts_map]
end DL

end SDLS8

section SDLS9
set_option Elab.async false
set_option linter.all false
set_option maxRecDepth 100000
/-! a comprehension whose calls leave more behind -/
namespace DL
open PySem PySem.Spec PyProof.Rows L2
theorem lcD_anyJ {α : Type} {wg : WG} {we : WE} {sl : List (Option D)} {p : Addr} {K : List D → Sto → Prop} (f h : α → D) (N : Nat) (J : Nat → Sto → Prop) (hJ : ∀ n st c, J n st → J n (put st p c)) :
    ∀ (xs : List α) (acc : List D) (st : Sto), J acc.length st → (∀ x ∈ xs, ∀ acc st (KT : KD), acc.length < N → J acc.length st → st p = some (.lst acc) → (∀ g', J (acc.length + 1) g'.st → g'.st p = some (.lst acc) → KT (h x) g') → wg (f x) ⟨sl, st⟩ fun g2 => we g2 KT noX) →
    st p = some (.lst acc) → acc.length + xs.length ≤ sizeLine → acc.length + xs.length ≤ N → (∀ st', J (acc.length + xs.length) st' → st' p = some (.lst (acc ++ xs.map h)) → K (acc ++ xs.map h) st') → lcD always wg wYes we sl p K (xs.map f) acc st
  | [], acc, st, j, _, hp, _, _, k => ⟨True.intro, hp, by have := k st (by simpa using j) (by simpa using hp); simpa using this⟩
  | x :: xs, acc, st, j, step, hp, hl, hn, k => by
    have hn2 : acc.length + (xs.length + 1) ≤ N := by simpa using hn
    have hl2 : acc.length + (xs.length + 1) ≤ sizeLine := by simpa using hl
    refine ⟨True.intro, step x (by simp) acc st _ (by omega) j hp fun g' j' e => ⟨e, by omega, ?_⟩⟩
    refine lcD_anyJ f h N J hJ xs (acc ++ [h x]) _ (by rw [List.length_append]; exact hJ _ _ _ j') (fun y hy => step y (by simp [hy])) put_same (by simp; omega) (by simp; omega) fun st' j'' e' => ?_
    have e2 : acc ++ [h x] ++ xs.map h = acc ++ (x :: xs).map h := by simp
    rw [e2] at e' ⊢
    refine k st' ?_ e'
    have e3 : (acc ++ [h x]).length + xs.length = acc.length + (x :: xs).length := by simp; omega
    rw [← e3]; exact j''
end DL

end SDLS9

section SDLT1
set_option Elab.async false
set_option linter.all false
set_option maxRecDepth 100000
set_option maxHeartbeats 4000000
/-! sorted(set(a list of whole numbers)) -/
namespace DL
open PySem PySem.Spec PyProof.Rows L2
abbrev noneIn (w : World) : Obj := { cls := .type "set", dict := none, data := .set #[] 0 (.fresh 0 0 (!w.params.followText "set-order")) }
abbrev Olds (h h' : Heap) : Prop := ∀ b o, h.get? b = some o → h'.get? b = some o
section
variable {P : Program} {w : World} {A : Around} {E : Value → Shared → Prop} {s : Shared} {l : Addr} {its : Array Value} {ns : List Int}
/-- what its __init__ leaves -/
def Filled (w : World) (s : Shared) (ns : List Int) : Value → Shared → Prop := fun r z => r = .none ∧ ∃ h' tk c, z = { s with heap := h', toks := tk } ∧ SetR w h' s.heap.objs.size (fun j => decide (j ∈ ns)) c ∧ c ≤ ns.length ∧ Olds s.heap h'
set_option maxRecDepth 100000 in
set_option maxHeartbeats 3200000 in
theorem setL {Q : Value → Shared → Prop} (hh : A.handled = none) (hl : s.heap.IsList l its) (hi : IntsAre its.toList ns) (hb : ns.length + 1 < scanBound)
    (k : ∀ h' tk c, SetR w h' s.heap.objs.size (fun j => decide (j ∈ ns)) c → c ≤ ns.length → Olds s.heap h' → Q (.ref s.heap.objs.size) { s with heap := h', toks := tk }) : wpAny (model P w) A (call (.type "set") [.ref l]) Q E s := by
  have many : its.size = ns.length := by
    have := hi.length
    rwa [Array.length_toList] at this
  obtain ⟨cl, rest, hmro⟩ := PySem.F.called_set.mro
  have a1 := PySem.F.called_set.made
  have a2 := PySem.F.called_set.sub
  refine wpAny_call (codeAny_of_tree ?_)
  change wpAny _ _ (callAny (Value.type "set") _) _ _ _
  refine wpAny_pure ⟨Code.quiet_builtin _ (by decide +kernel), codeAny_builtin PySem.F.entry_type_call ?_⟩
  rw [Around.under_plain (weight_type_call_type "set" [_] []) rfl]
  have a3 := PySem.F.called_set.notType
  have a4 := PySem.F.called_set.canCreate
  have a5 := PySem.F.typeCall_set_1 (.ref l)
  repeat (any_goals (first | assumption | wp_step))
  refine codeAny_mono (code_set_led1 (.ref l) (E := E)
    (Q₁ := fun v z => v = .ref s.heap.objs.size ∧ z = { s with heap := s.heap.push (noneIn w) }) ⟨rfl, rfl⟩) fun r z hz => ?_
  cases r with
  | error e => exact hz
  | ok fl =>
  cases fl with
  | next => exact hz.elim
  | brk => exact hz.elim
  | cont => exact hz.elim
  | ret v =>
  obtain ⟨rfl, rfl⟩ := hz
  have gs : (s.heap.push (noneIn w)).get? s.heap.objs.size = some (noneIn w) := Heap.get?_push_size _ rfl
  have ty : Shared.TypeIs { s with heap := s.heap.push (noneIn w) } (.ref s.heap.objs.size) "set" := ⟨_, gs, rfl⟩
  have i1 := PySem.F.called_set.init.lookup
  have i2 := PySem.F.called_set.init.bind (.ref s.heap.objs.size)
  repeat (any_goals (first | assumption | wp_step))
  refine codeAny_mono (codeAny_call_builtin (R := wants (Filled w s ns) E)
    PySem.F.called_set.init.plain PySem.F.entry_set_init (check_set_init_1 ty ?_)) fun r z hz => ?_
  · obtain ⟨⟨oc, od, ob, os⟩, hol, rfl, nl, rfl⟩ := hl
    have far : l < s.heap.objs.size := Heap.lt_size hol
    have hol2 := Heap.get?_push_of_some (noneIn w) hol
    have lst2 : (s.heap.push (noneIn w)).IsList l its := ⟨_, hol2, rfl, nl, rfl⟩
    have b1 := PySem.F.sub_list_set
    have b2 := PySem.F.sub_list_frozenset
    have b3 : (Value.type "list" == Value.type "dict") = false := by decide
    unfold Builtin.«set.__init__» noKeywords Builtin.Frozenset.updateFrom
    generalize hgo : pyIter = go
    wp_walk
    subst hgo
    refine wpAny_pyIter_list lst2 (wpAny_bind (wpAny_runValue ?_))
    have sz1 : (s.heap.push (noneIn w)).objs.size = s.heap.objs.size + 1 := Heap.size_push ..
    have apart1 : l ≠ (s.heap.push (noneIn w)).objs.size := by rw [sz1]; exact Nat.ne_of_lt (Nat.lt_succ_of_lt far)
    have apart2 : s.heap.objs.size ∉ [(s.heap.push (noneIn w)).objs.size, l] := by
      rw [sz1]; intro m
      rcases List.mem_cons.mp m with e | m
      · exact Nat.lt_irrefl _ (Nat.lt_of_lt_of_eq (Nat.lt_succ_self _) e.symm)
      · exact Nat.ne_of_gt far (List.mem_singleton.mp m)
    have each : ∀ (i : Nat) (v : Value), its[i]? = some v → ∃ x t, ns[i]? = some x ∧ v = .int x t := fun i v hv => by
      obtain ⟨h1, h2⟩ := Array.getElem?_eq_some_iff.mp hv
      obtain ⟨t, e⟩ := hi.int_at i v (by rw [Array.getElem?_toList]; exact hv)
      have h3 : i < ns.length := by omega
      refine ⟨ns[i], t, List.getElem?_eq_getElem h3, e.trans ?_⟩
      rw [List.getD_eq_getElem?_getD, List.getElem?_eq_getElem h3]; rfl
    refine set_update_ints ((Walks.list (A := A.in1.in1.in1) (by simp [hh]) _ l apart1 its).toS) s.heap.objs.size apart2 ns many hb each
      (its.size - 0) 0 _ (by omega) (Nat.zero_le _) ⟨⟨_, Heap.get?_push_size _ rfl, rfl, rfl⟩, lst2.push _⟩ ?_ ?_
    · exact ⟨0, Nat.le_refl 0, setR_new_at (Heap.get?_push_of_some _ gs)⟩
    · rintro ⟨h', g2, d2, t2, o2⟩ c moved few made
      obtain rfl : g2 = s.gens := moved.gens
      obtain rfl : d2 = s.drawn := moved.drawn
      obtain rfl : o2 = s.os := moved.os
      change wpAny _ _ _ _ _ _
      refine wpAny_pure ?_
      change wpAny _ _ (ret Value.none) _ _ _
      rw [many] at few
      refine wpAny_pure ⟨rfl, h', t2, c, rfl, made, few, fun b o e => ?_⟩
      have hb0 : b < s.heap.objs.size := Heap.lt_size e
      refine moved.heap b o ?_ (Heap.get?_push_of_some _ (Heap.get?_push_of_some _ e))
      intro m
      rcases List.mem_cons.mp m with e | m
      · exact Nat.ne_of_lt hb0 e
      · have e := List.mem_singleton.mp m
        rw [sz1] at e
        exact Nat.ne_of_lt (Nat.lt_succ_of_lt hb0) e
  · cases r with
    | error e => exact hz
    | ok fl =>
    cases fl with
    | next => exact hz.elim
    | brk => exact hz.elim
    | cont => exact hz.elim
    | ret v =>
    obtain ⟨rfl, h', tk, c, rfl, h1, h2, h3⟩ := hz
    repeat (any_goals (first | assumption | wp_step))
    exact k _ _ _ h1 h2 h3
end
end DL

end SDLT1

section SDLT2
set_option Elab.async false
set_option linter.all false
set_option maxRecDepth 100000
namespace DL
open PySem PySem.Spec PyProof.Rows L2 RZ
section
variable {X : Cx} {W : WX} {e e2 tg : Expr} {pos p pos2 p2 : Pos}
def rSetL (K : PySem.W.Frag) (w : World) : List V → Hp → VK → Prop := fun vs H Q => ∃ (a : Addr) (ns : List Int), vs = [V.ref a] ∧ SqL K H a (ns.map V.int) ∧ ns.length + 1 < scanBound ∧ ∀ q c, H q = none → c ≤ ns.length → Q (.ref q) (upd H q (SetO w q (fun j => decide (j ∈ ns)) c))
theorem cr_setL (hc : X.calm = true) : CallR X (.type "set") (rSetL X.K X.w) := by
  intro pins s σ H vs us Q I r h
  obtain ⟨a, ns, rfl, hs, hb, q⟩ := h
  obtain ⟨its, rv, hl, _⟩ := I.list hs
  rw [Vals.ref1 r]
  refine setL (its := its.toArray) (I.ok.hd hc) hl.isList (by simpa using ints_of_vals rv) hb fun h' tk c R few old => ?_
  have J : Inv X pins σ (upd H s.heap.objs.size (SetO X.w s.heap.objs.size (fun j => decide (j ∈ ns)) c)) { s with heap := h', toks := tk } := I.laid (fun b u e => old b u e) (Nat.le_refl _) (setO_new R)
  exact ⟨.ref _, _, J, rfl, q _ c (I.hok.fresh (Nat.le_refl _)) few⟩
/-- sorted(set(e)) -/
def wSortedSet (b : Bool) (wa : WA) : WE := fun g K Xd => wa g (fun ds g1 => arg1 ds fun d => opt (lseqAt g1.st d) fun xs => opt (asInts xs) fun ns => ns.length < 64 ∧ ∀ ys : List Int, ys.Pairwise (· < ·) → (∀ k, k ∈ ys ↔ k ∈ ns) → ys.length ≤ ns.length → newL b (ys.map D.int) g1 K) Xd
theorem de_sortedSet {b : Bool} {wa : WA} (hc : X.calm = true) (hm : X.mg "sorted" = none) (hm2 : X.mg "set" = none) (ha : DA X W [e] wa) (hg : Gl X "sorted" := by rfl) (hg2 : Gl X "set" := by rfl)
    (he : starEach [.Call (.Name "set" p2) [e] [] pos2] X.env = [(false, eval (.Call (.Name "set" p2) [e] [] pos2) X.env)] := by rfl) (he2 : starEach [e] X.env = [(false, eval e X.env)] := by rfl) :
    DE X W (.Call (.Name "sorted" p) [.Call (.Name "set" p2) [e] [] pos2] [] pos) (wSortedSet b wa) := by
  have i1 : PE X (.Call (.Name "set" p2) [e] [] pos2) _ := pe_callTy (cr_setL hc) hg2 hm2 (by decide +kernel) ha (by decide) (by decide) (by rw [he2]; rfl) rfl
  have i2 := pe_callB (p := p) (pos := pos) (cr_sortedSet hc) hg hm (by decide +kernel) (pa_cons i1 pa_nil (by rw [he]; rfl)) (by decide) (by decide) (by rw [he]; rfl) rfl
  refine PE.imp i2 fun σ H Q h => ?_
  obtain ⟨g, K, Xd, E, h, U, UX⟩ := h
  refine ⟨g, _, Xd, E, h, fun ds g1 vs H1 h1 S1 E1 R1 => ?_, UX⟩
  obtain ⟨d, rfl, w⟩ := arg1_ok h1
  obtain ⟨xs, e1, w⟩ := opt_ok w
  obtain ⟨ns, e3, few, w⟩ := opt_ok w
  obtain ⟨v, rfl, r⟩ := repL_1 R1
  obtain ⟨a, us, rfl, hl, l2⟩ := lseqAt_ok (K := X.K) E1.sto r e1
  rw [asInts_eq e3] at l2
  rw [repL_ints l2] at hl
  refine ⟨a, ns, rfl, hl, by unfold scanBound; omega, fun q c hq hcn => ?_⟩
  have n := new_step (o := SetO X.w q (fun j => decide (j ∈ ns)) c) E1.sto hq
  have E2 := E1.step n.1 n.2
  refine ⟨q, _, c, rfl, upd_same, by omega, fun ys q2 asc hmem hlen hq2 => ?_⟩
  exact new_L E2 (repL_intsR ys) (w ys asc (fun k => by rw [hmem k]; exact decide_eq_true_iff) (by omega)) ((U.on S1).on n.1) q2 hq2
/-- zip(a tuple, a tuple) -/
def wZipT (wa : WA) : WI := fun g K X => wa g (fun ds g1 => arg2 ds fun d y => asTup d fun xs => asTup y fun ys => K (pair2 xs ys) always g1) X
theorem di_zipT {wa : WA} {elts : List Expr} {kk : Nat} {tpos : Pos} (hm : X.mg "zip" = none) (ha : DA X W [e, e2] wa) (hg : Gl X "zip" := by rfl) (hs : starEach [e, e2] X.env = (false, eval e X.env) :: starEach [e2] X.env := by rfl) (hpl : (backTo pos (starEach [e2] X.env)).any (·.1) = false := by rfl) :
    DI X W (.Tuple elts kk tpos) (.Call (.Name "zip" p) [e, e2] [] pos) (wZipT wa) := (pi_zipA hg hm ha hs hpl).imp fun σ H R ⟨g, K, Xd, E, h, q, UX⟩ => by
  refine ⟨g, _, Xd, E, h, fun ds g1 vs H1 k s E1 l => ?_, UX⟩
  obtain ⟨d, y, rfl, k⟩ := arg2_ok k
  obtain ⟨xs, rfl, k⟩ := asTup_ok k
  obtain ⟨ys, rfl, k⟩ := asTup_ok k
  obtain ⟨u, v, rfl, ru, rv⟩ := repL_2 l
  cases ru with
  | @tup a _ us n rt lt =>
  cases rv with
  | @tup b _ ws n2 rt2 lt2 =>
    refine ⟨a, b, us, ws, rfl, .inr ⟨.inl rt, .inl rt2, q _ always g1 H1 _ (fun st h => (st a = none ∧ Rd h a (.tup us) ∧ RepL h st xs us) ∧ st b = none ∧ Rd h b (.tup ws) ∧ RepL h st ys ws) k s E1
      ⟨fun q t => ⟨⟨(t.rd q.1.1 q.1.2.1).2, (t.rd q.1.1 q.1.2.1).1, q.1.2.2.step t⟩, ⟨(t.rd q.2.1 q.2.2.1).2, (t.rd q.2.1 q.2.2.1).1, q.2.2.2.step t⟩⟩, fun {i st h} q o R hi => ?_, fun {i st h x h'} q o R y d hd => ?_, fun {i st h} q o R hi => ?_⟩ ⟨⟨n, rt, lt⟩, n2, rt2, lt2⟩⟩⟩
    · have hi : i < (pair2 xs ys).length := hi
      rw [pair2_length] at hi
      obtain ⟨x, hx⟩ := get_lt (xs := us) (i := i) (by rw [← q.1.2.2.length]; omega)
      obtain ⟨y, hy⟩ := get_lt (xs := ws) (i := i) (by rw [← q.2.2.2.length]; omega)
      exact ⟨us, ws, x, y, .inl q.1.2.1, .inl q.2.2.1, hx, hy⟩
    · obtain ⟨T, x', y', rfl, hT, rfl, f1, f2⟩ := y
      obtain ⟨dx, dy, hx, hy, rfl⟩ := pair2_get _ _ _ _ hd
      obtain ⟨u1, hu1, ru1⟩ := q.1.2.2.get hx
      obtain ⟨u2, hu2, ru2⟩ := q.2.2.2.get hy
      have e1 := (f1 us (.inl q.1.2.1)).symm.trans hu1
      have e2 := (f2 ws (.inl q.2.2.1)).symm.trans hu2
      cases e1; cases e2
      have nw := new_step R (o := .tup [x', y']) hT
      exact ⟨nw.1, nw.2, .tup (R.free hT) (.inl upd_same) (.cons (ru1.step nw.1) (.cons (ru2.step nw.1) .nil))⟩
    · have hi : (pair2 xs ys).length ≤ i := hi
      rw [pair2_length] at hi
      refine ⟨us, ws, .inl q.1.2.1, .inl q.2.2.1, ?_⟩
      rw [← q.1.2.2.length, ← q.2.2.2.length]
      omega
/-- list.index of whole numbers -/
def oIndexI : WM := fun d ds g K => opt (lseqAt g.st d) fun xs => opt (asInts xs) fun ns => arg1 ds fun y => asInt y fun i => i ∈ ns ∧ ∀ j : Nat, ns[j]? = some i → (∀ m z, m < j → ns[m]? = some z → z ≠ i) → K (.int (j : Nat)) g
theorem first_at {i : Int} : ∀ {ns : List Int}, i ∈ ns → ∃ j : Nat, ns[j]? = some i ∧ ∀ m z, m < j → ns[m]? = some z → z ≠ i
  | n :: ns, h => by
    by_cases e : n = i
    · exact ⟨0, by rw [e]; rfl, fun m z hm => by omega⟩
    · obtain ⟨j, h1, h2⟩ := first_at ((List.mem_cons.mp h).resolve_left fun x => e x.symm)
      refine ⟨j + 1, by simpa using h1, fun m z hm hz => ?_⟩
      cases m with
      | zero => simp at hz; exact fun x => e (hz.trans x)
      | succ m => exact h2 m z (by omega) (by simpa using hz)
theorem sm_index {K : PySem.W.Frag} : SM (rIndex K) oIndexI := fun {d ds x xs g σ H Kd Q} E r l w U => by
  obtain ⟨ys, e1, w⟩ := opt_ok w
  obtain ⟨ns, e2, w⟩ := opt_ok w
  obtain ⟨y, rfl, w⟩ := arg1_ok w
  obtain ⟨i, rfl, hin, w⟩ := asInt_ok w
  obtain ⟨v, rfl, rv⟩ := repL_1 l
  obtain ⟨p, us, rfl, h, l2⟩ := lseqAt_ok (K := K) E.sto r e1
  rw [asInts_eq e2] at l2
  rw [repL_ints l2] at h
  cases rv
  obtain ⟨j, h1, h2⟩ := first_at hin
  refine ⟨p, ns.map V.int, .int i, j, .int i, rfl, rfl, h, rfl, ?_, by rw [List.getElem?_map, h1]; rfl, ?_, fun m z hm hz => ?_, ?_⟩
  · rw [List.all_eq_true]
    intro z hz
    obtain ⟨k, _, rfl⟩ := List.mem_map.mp hz
    rfl
  · simp [eqV]
  · rw [List.getElem?_map] at hz
    obtain ⟨k, hk, rfl⟩ := Option.map_eq_some_iff.mp hz
    have := h2 m k hm hk
    simp [eqV, this]
  · exact U _ g _ H (w j h1 h2) Step.refl E (.int _)
end
end DL

end SDLT2

section SDLT3
set_option Elab.async false
set_option linter.all false
set_option maxRecDepth 100000
/-! t[lo:hi], also the whole of a tuple -/
namespace DL
open PySem PySem.Spec PyProof.Rows L2
def oSlA (b : Bool) (x : D) (lo hi : Option Int) (g : G) (K : KD) : Prop := match x with
  | .tup xs => K (.tup (cutD xs lo hi)) g
  | x => oSl b x lo hi g K
def wSlA (b : Bool) (we : WE) (wl wh : WP) : WE := fun g K X => we g (fun d g1 => wl g1 (fun lo g2 => wh g2 (fun hi g3 => oSlA b d lo hi g3 K) X) X) X
abbrev rSlW (K : PySem.W.Frag) : V → Option Int → Option Int → Hp → VK → Prop := fun x lo hi H Q => L2.rSlA K x lo hi H Q ∨ DL.rSlA K x lo hi H Q
theorem slA_ok {K : PySem.W.Frag} {b : Bool} {d : D} {x : V} {lo hi : Option Int} {g : G} {σ : L2.St} {H : Hp} {Kd : KD} {Q : VK} (E : EnvRep g σ H) (r : Rep H g.st d x) (w : oSlA b d lo hi g Kd) (U : Upd σ g.st H Kd Q) : rSlW K x lo hi H Q := by
  cases d with
  | tup xs =>
    cases r with
    | @tup p _ vs n rd l =>
      refine .inl ⟨p, vs, rfl, .inl rd, fun hw => ?_, fun _ => new_tup E (cutD_ok l lo hi) w U⟩
      have e : cutD xs lo hi = xs := by
        unfold cutD
        rw [l.length, hw.1, hw.2, ← l.length]
        simp
      have w' : Kd (.tup (cutD xs lo hi)) g := w
      rw [e] at w'
      exact U _ g _ H w' Step.refl E (.tup n rd l)
  | _ => exact .inr (sl_ok (b := b) E r w U)
variable {X : Cx} {W : WX}
theorem sl_W : SlR X (rSlW X.K) := L2.sl_tupA.or sl_all
theorem de_slA (b : Bool) {e : Expr} {lo hi : Option Expr} {we : WE} {wl wh : WP} {pos p2 : Pos} (he : DE X W e we) (hl : DP X W lo wl) (hh : DP X W hi wh) : DE X W (.Subscript e (.Slice lo hi none p2) pos) (wSlA b we wl wh) :=
  (pe_slice sl_W he hl hh).imp fun σ H Q ⟨g, K, Xd, E, h, U, UX⟩ =>
    ⟨g, _, Xd, E, h, fun d g1 x H1 k1 s1 E1 r1 => ⟨g1, _, Xd, E1, k1, fun o g2 H2 k2 s2 E2 => ⟨g2, _, Xd, E2, k2, fun o2 g3 H3 k3 s3 E3 => slA_ok (b := b) E3 ((r1.step s2).step s3) k3 (U.on (s1.trans (s2.trans s3))), UX.on (s1.trans s2)⟩, UX.on s1⟩, UX⟩
theorem oSlA_tup {b : Bool} {xs : List D} {lo hi : Option Int} {g : G} {K : KD} : oSlA b (.tup xs) lo hi g K = K (.tup (cutD xs lo hi)) g := id rfl
theorem oSlA_lst {b : Bool} {xs : List D} {lo hi : Option Int} {g : G} {K : KD} : oSlA b (.lst xs) lo hi g K = newL b (cutD xs lo hi) g K := id rfl
theorem cutD_mapI (ns : List Int) (lo hi : Option Int) : cutD (ns.map D.int) lo hi = ((ns.drop (HT.sIx ns.length 0 lo)).take (HT.sIx ns.length ns.length hi - HT.sIx ns.length 0 lo)).map D.int := by
  unfold cutD
  rw [List.length_map, List.map_take, List.map_drop]
end DL

end SDLT3

section SDLT4
set_option Elab.async false
set_option linter.all false
set_option maxRecDepth 100000
/-! min of a list of pairs (a whole number, a row of whole numbers); a row in a list of rows -/
namespace DL
open PySem PySem.Spec PyProof.Rows L2
abbrev PT := Int × PySem.W.Tup Int
def ptP (p : Int × List Int) : PT := (p.1, ⟨p.2⟩)
def ptD (p : Int × List Int) : D := .tup [.int p.1, .tup (p.2.map D.int)]
/-- the least of them comes first -/
theorem min_first : ∀ (xs : List PT) (x : PT), PySem.W.minOf x xs ∈ x :: xs ∧ ∀ y ∈ x :: xs, (PySem.W.minOf x xs).1 ≤ y.1
  | [], x => ⟨by simp [PySem.W.minOf], fun y hy => by rw [List.mem_singleton.mp hy]; exact Int.le_refl _⟩
  | z :: xs, x => by
    have e : PySem.W.minOf x (z :: xs) = PySem.W.minOf (if PySem.W.DatumOrd.lt z x = true then z else x) xs := rfl
    rw [e]
    have lt1 : PySem.W.DatumOrd.lt z x = (if z.1 = x.1 then PySem.W.DatumOrd.lt z.2 x.2 else decide (z.1 < x.1)) := rfl
    obtain ⟨h1, h2⟩ := min_first xs (if PySem.W.DatumOrd.lt z x = true then z else x)
    generalize hw : (if PySem.W.DatumOrd.lt z x = true then z else x) = w at h1 h2
    have wz : (w = z ∧ z.1 ≤ x.1) ∨ (w = x ∧ x.1 ≤ z.1) := by
      rw [← hw]
      by_cases c : PySem.W.DatumOrd.lt z x = true
      · rw [if_pos c]
        refine .inl ⟨rfl, ?_⟩
        rw [lt1] at c
        by_cases q : z.1 = x.1
        · omega
        · rw [if_neg q] at c
          have := of_decide_eq_true c; omega
      · rw [if_neg c]
        refine .inr ⟨rfl, ?_⟩
        rw [lt1] at c
        by_cases q : z.1 = x.1
        · omega
        · rw [if_neg q] at c
          have : ¬ z.1 < x.1 := fun l => c (decide_eq_true l)
          omega
    have hww := h2 w (by simp)
    constructor
    · rcases List.mem_cons.mp h1 with q | q
      · rw [q]
        rcases wz with ⟨q2, _⟩ | ⟨q2, _⟩ <;> rw [q2] <;> simp
      · simp [q]
    · intro y hy
      have q3 : w.1 ≤ z.1 ∧ w.1 ≤ x.1 := by
        rcases wz with ⟨q2, l⟩ | ⟨q2, l⟩
        · have := congrArg Prod.fst q2; omega
        · have := congrArg Prod.fst q2; omega
      rcases List.mem_cons.mp hy with q | hy
      · rw [q]; omega
      · rcases List.mem_cons.mp hy with q | hy
        · rw [q]; omega
        · exact h2 y (by simp [hy])
section
variable {X : Cx}
def rMinP (K : PySem.W.Frag) : List V → Hp → VK → Prop := fun vs H Q => ∃ (a : Addr) (zs : List V) (x : PT) (xs : List PT), vs = [V.ref a] ∧ SqL K H a zs ∧ DpAll K H zs ((x :: xs).map PySem.W.Datum.toD) ∧ ∀ (i : Nat) (z : V), zs[i]? = some z → (x :: xs)[i]? = some (PySem.W.minOf x xs) → Q z H
theorem cr_minP (hc : X.calm = true) (hu : X.A.units + 66 < cLine) : CallR X (.builtin "min") (rMinP X.K) := by
  intro pins s σ H vs us Q I r h
  obtain ⟨a, zs, x, xs, rfl, hs, dp, q⟩ := h
  obtain ⟨its, rv, hl, _⟩ := I.list hs
  obtain ⟨as, rs⟩ := Dp.readsAll I _ _ _ dp rv
  rw [Vals.ref1 r]
  refine PySem.W.min_list_datum (vs := its.toArray) (x := x) (xs := xs) (I.ok.hd hc) hl.isList ⟨as, by simpa using rs⟩ (by show X.A.units + 1 + 2 < cLine; omega) fun i v h' tk hi hv hk => ?_
  have hi2 : its[i]? = some v := by simpa using hi
  obtain ⟨bs, r1, _⟩ := PySem.W.readsAll_at rs i v hi2
  obtain ⟨cs, r2⟩ := hv
  obtain ⟨p, hp⟩ : ∃ p, (x :: xs)[i]? = some p := by
    have l1 : its.length = (x :: xs).length := by have := PySem.W.readsAll_len rs; simpa using this
    have l2 := (List.getElem?_eq_some_iff.mp hi2).1
    exact ⟨_, List.getElem?_eq_getElem (by omega)⟩
  have e1 : ((x :: xs).map PySem.W.Datum.toD).getD i .none = PySem.W.Datum.toD p := by
    rw [List.getD_eq_getElem?_getD, List.getElem?_map, hp]; rfl
  rw [e1] at r1
  have e2 := PySem.SeqAt.plain_unique _ _ _ _ _ (PySem.W.Datum.plain p) (PySem.W.reads_keeps hk r1) r2
  have e3 : p = PySem.W.minOf x xs := by
    have z := PySem.W.Datum.eqv p (PySem.W.minOf x xs)
    rw [e2, PySem.W.Datum.eqv] at z
    simpa using z.symm
  have l3 : i < zs.length := by
    have := rv.length
    have l2 := (List.getElem?_eq_some_iff.mp hi2).1
    omega
  obtain ⟨u, hu', ru⟩ := rv.get (List.getElem?_eq_getElem l3)
  have e4 : u = v := by
    rw [hi2] at hu'; exact (Option.some.inj hu').symm
  subst e4
  exact ⟨zs[i], H, I.kept hk, ru, q i zs[i] (List.getElem?_eq_getElem l3) (by rw [hp, e3])⟩
end
/-- min of such a list -/
def oMinP : WON := fun ds g K => arg1 ds fun d => opt (lseqAt g.st d) fun xs => ∃ ps : List (Int × List Int), xs = ps.map ptD ∧ 0 < ps.length ∧ ∀ m, m ∈ ps → (∀ y, y ∈ ps → m.1 ≤ y.1) → K (ptD m) g
theorem dp_pt {K : PySem.W.Frag} {H : Hp} {st : Sto} : ∀ {ps : List (Int × List Int)} {vs : List V}, RepL H st (ps.map ptD) vs → DpAll K H vs ((ps.map ptP).map PySem.W.Datum.toD)
  | [], vs, l => by cases l; exact .nil
  | p :: ps, vs, l => by
    rw [List.map_cons] at l
    cases l with
    | cons r l =>
      refine .cons (dp_of r ?_) (dp_pt l)
      show (pyL [D.int p.1, D.tup (p.2.map D.int)]).map PyData.tuple = _
      have e1 : ∀ L : List Int, pyL (L.map D.int) = some (L.map PyData.int) := fun L => by
        induction L with
        | nil => rfl
        | cons x L ih => rw [List.map_cons, pyL, ih]; rfl
      have e2 : pyD (D.tup (p.2.map D.int)) = some (.tuple (p.2.map PyData.int)) := by
        show (pyL (p.2.map D.int)).map PyData.tuple = _
        rw [e1]; rfl
      simp only [pyL, e2]
      rfl
theorem son_minP {K : PySem.W.Frag} : SON (rMinP K) oMinP := fun {a x g σ H Kd Q} E l w U => by
  obtain ⟨d, rfl, w⟩ := arg1_ok w
  obtain ⟨xs, e, ps, rfl, pos, w⟩ := opt_ok w
  obtain ⟨v, rfl, r⟩ := repL_1 l
  obtain ⟨p, vs, rfl, h, l2⟩ := lseqAt_ok (K := K) E.sto r e
  cases ps with
  | nil => exact absurd pos (Nat.lt_irrefl _)
  | cons p0 ps =>
    refine ⟨p, vs, ptP p0, ps.map ptP, rfl, h, dp_pt (ps := p0 :: ps) l2, fun i z hz hm => ?_⟩
    obtain ⟨m1, m2⟩ := min_first (ps.map ptP) (ptP p0)
    have hm' : ((p0 :: ps).map ptP)[i]? = some (PySem.W.minOf (ptP p0) (ps.map ptP)) := hm
    rw [List.getElem?_map] at hm'
    obtain ⟨q, hq, eq⟩ := Option.map_eq_some_iff.mp hm'
    have hd : ((p0 :: ps).map ptD)[i]? = some (ptD q) := by rw [List.getElem?_map, hq]; rfl
    obtain ⟨z', hz', rz⟩ := l2.get hd
    rw [hz] at hz'
    cases hz'
    refine U _ g _ H (w q (List.mem_of_getElem? hq) fun y hy => ?_) Step.refl E rz
    have := m2 (ptP y) (List.mem_map.mpr ⟨y, hy, rfl⟩ : ptP y ∈ (p0 :: ps).map ptP)
    rw [← eq] at this
    exact this
/-- a row in a list of rows -/
def oInDp (neg : Bool) : WO2 := fun x y g K => opt (pyT g.st x) fun d => opt (pyT g.st y) fun l => ∃ ds, l = .list ds ∧ (SeqAt.shaped d = true ∧ SeqAt.shaped (.list ds) = true) ∧ K (.bl (if neg then !(ds.any fun z => PyData.eqv z d) else ds.any fun z => PyData.eqv z d)) g
theorem so_inDp {K : PySem.W.Frag} : SO2 (rInD K) (oInDp false) := fun {a c x y g σ H Kd Q} E ra rb w U => by
  obtain ⟨d, e1, w⟩ := opt_ok w
  obtain ⟨l, e2, ds, rfl, ⟨s1, s2⟩, w⟩ := opt_ok w
  exact ⟨d, ds, dpT_of E.sto ra e1, dpT_of E.sto rb e2, s1, s2, U _ g _ H w Step.refl E (.bl _)⟩
theorem so_notInDp {K : PySem.W.Frag} : SO2 (rNotInD K) (oInDp true) := fun {a c x y g σ H Kd Q} E ra rb w U => by
  obtain ⟨d, e1, w⟩ := opt_ok w
  obtain ⟨l, e2, ds, rfl, ⟨s1, s2⟩, w⟩ := opt_ok w
  exact ⟨d, ds, dpT_of E.sto ra e1, dpT_of E.sto rb e2, s1, s2, U _ g _ H w Step.refl E (.bl _)⟩
end DL

end SDLT4

section SDLT5
set_option Elab.async false
set_option linter.all false
set_option maxRecDepth 100000
namespace DL
open PySem PySem.Spec PyProof.Rows L2
/-! ### dicts with tuples of ints and texts as keys: kept as cells -/
def keyT : List D → Option (List Key)
  | [] => some []
  | d :: ds => match keyD d, keyT ds with
    | some k, some ks => some (k :: ks)
    | _, _ => none
def valT (kvs : List (List Key × D)) (k : List Key) : Option D := (kvs.find? fun kv => decide (kv.1 = k)).map (·.2)
def putT (kvs : List (List Key × D)) (k : List Key) (v : D) : List (List Key × D) :=
  if (kvs.any fun kv => decide (kv.1 = k)) = true then kvs.map (fun kv => if kv.1 = k then (kv.1, v) else kv) else kvs ++ [(k, v)]
section
variable {H : Hp} {st : Sto}
theorem keyT_ok : ∀ {ds : List D} {vs : List V} {ks : List Key}, RepL H st ds vs → keyT ds = some ks → vs = ks.map kV
  | _, _, _, .nil, e => by cases e; rfl
  | _, _, _, @RepL.cons _ _ d v ds vs r l, e => by
    unfold keyT at e
    cases e1 : keyD d with
    | none => simp only [e1] at e; cases e
    | some k =>
      cases e2 : keyT ds with
      | none => simp only [e1, e2] at e; cases e
      | some ks =>
        simp only [e1, e2] at e; cases e
        rw [keyD_ok r e1, keyT_ok l e2]; rfl
theorem RepT.val {k : List Key} : ∀ {ds : List (List Key × D)} {vs : List (List Key × V)}, RepT H st ds vs → (∀ d, valT ds k = some d → ∃ v, valV vs k = some v ∧ Rep H st d v) ∧ (valT ds k = none → valV vs k = none)
  | _, _, .nil => ⟨fun _ h => (by cases h), fun _ => rfl⟩
  | _, _, @RepT.cons _ _ j d v ds vs r l => by
    have ih := RepT.val (k := k) l
    by_cases e : j = k
    · refine ⟨fun x h => ⟨v, valV_pos e, ?_⟩, fun h => ?_⟩
      · have z : valT ((j, d) :: ds) k = some d := by simp [valT, List.find?_cons, e]
        rw [z] at h; cases h; exact r
      · have z : valT ((j, d) :: ds) k = some d := by simp [valT, List.find?_cons, e]
        rw [z] at h; cases h
    · have z : valT ((j, d) :: ds) k = valT ds k := by simp [valT, List.find?_cons, e]
      rw [z, valV_neg e]
      exact ih
theorem RepT.any {k : List Key} : ∀ {ds : List (List Key × D)} {vs : List (List Key × V)}, RepT H st ds vs → (ds.any fun kv => decide (kv.1 = k)) = vs.any fun kv => decide (kv.1 = k)
  | _, _, .nil => rfl
  | _, _, .cons r l => by rw [List.any_cons, List.any_cons, RepT.any l]
theorem RepT.append : ∀ {ds es : List (List Key × D)} {vs ws : List (List Key × V)}, RepT H st ds vs → RepT H st es ws → RepT H st (ds ++ es) (vs ++ ws)
  | _, _, _, _, .nil, r => r
  | _, _, _, _, .cons a l, r => .cons a (RepT.append l r)
theorem RepT.mapPut {k : List Key} {d : D} {v : V} (r : Rep H st d v) : ∀ {ds : List (List Key × D)} {vs : List (List Key × V)}, RepT H st ds vs → RepT H st (ds.map fun kv => if kv.1 = k then (kv.1, d) else kv) (vs.map fun kv => if kv.1 = k then (kv.1, v) else kv)
  | _, _, .nil => .nil
  | _, _, @RepT.cons _ _ j _ _ _ _ q l => by
    rw [List.map_cons, List.map_cons]
    by_cases e : j = k
    · simp only [e, if_true]; exact .cons r (RepT.mapPut r l)
    · simp only [e, if_false]; exact .cons q (RepT.mapPut r l)
theorem RepT.put {k : List Key} {d : D} {v : V} (r : Rep H st d v) {ds : List (List Key × D)} {vs : List (List Key × V)} (l : RepT H st ds vs) : RepT H st (putT ds k d) (putK vs k v) := by
  unfold putT putK
  rw [l.any]
  split
  · exact l.mapPut r
  · exact l.append (.cons r .nil)
end
/-- a dict with tuples as keys -/
def dctAt (st : Sto) : D → Option (List (List Key × D))
  | .ref a => (match st a with
    | some (.dct kvs) => some kvs
    | _ => none)
  | _ => none
theorem dctAt_ok {st : Sto} {H : Hp} {d : D} {v : V} {kvs : List (List Key × D)} (R : StoRep H st) (r : Rep H st d v) (e : dctAt st d = some kvs) : ∃ a vs, d = .ref a ∧ v = .ref a ∧ st a = some (.dct kvs) ∧ H a = some (.dT vs) ∧ RepT H st kvs vs := by
  cases d with
  | ref a =>
    cases r
    unfold dctAt at e
    cases q : st a with
    | none => simp only [q] at e; cases e
    | some c =>
      cases c with
      | dct xs =>
        simp only [q] at e; cases e
        obtain ⟨vs, h1, l⟩ := R a _ q
        exact ⟨a, vs, rfl, rfl, q, h1, l⟩
      | _ => simp only [q] at e; cases e
  | _ => cases e
theorem dctAt_ref {st : Sto} {a : Addr} {kvs : List (List Key × D)} (e : st a = some (.dct kvs)) : dctAt st (.ref a) = some kvs := by unfold dctAt; simp only [e]
theorem dctAt_put {st : Sto} {a : Addr} {kvs : List (List Key × D)} : dctAt (put st a (.dct kvs)) (.ref a) = some kvs := dctAt_ref put_same
section
variable {X : Cx} {W : WX} {o i e value f : Expr} {wo wi we wv wx : WE} {es : List Expr} {wl : WA} {pos pos' p2 apos cpos : Pos}
/-- d[a, b] -/
def wDGetT (wo : WE) (wl : WA) : WE := fun g K X => wo g (fun d g1 => wl g1 (fun ys g2 => ys.length ≤ sizeLine ∧ opt (dctAt g2.st d) fun kvs => opt (keyT ys) fun k => opt (valT kvs k) fun v => K v g2) X) X
theorem de_dgetT {j} (hu : X.A.units + 1 < cLine) (ho : DE X W o wo) (hl : DA X W es wl) (hs : NoSl (.Tuple es j p2) := by exact fun _ _ => rfl) : DE X W (.Subscript o (.Tuple es j p2) pos) (wDGetT wo wl) := (pe_dget hu ho (pe_tup hl) hs).imp fun σ H Q ⟨g, K, Xd, E, h, U, UX⟩ =>
  ⟨g, _, Xd, E, h, fun d g1 x H1 k1 s1 E1 r1 => ⟨g1, _, Xd, E1, k1, fun ys g2 us H2 k2 s2 E2 r2 => ⟨by rw [← r2.length]; exact k2.1, fun p hp => by
    obtain ⟨kvs, e1, k3⟩ := opt_ok k2.2
    obtain ⟨k, e2, k4⟩ := opt_ok k3
    obtain ⟨v, e3, k5⟩ := opt_ok k4
    obtain rfl := keyT_ok r2 e2
    have sn : Step g2.st H2 g2.st (upd H2 p (.tup (k.map kV))) := Step.new hp
    have En : EnvRep ⟨g2.sl, g2.st⟩ σ (upd H2 p (.tup (k.map kV))) := E2.step sn (E2.sto.new hp)
    obtain ⟨a, vs, rfl, rfl, q, ha, l⟩ := dctAt_ok En.sto ((r1.step s2).step sn) e1
    obtain ⟨w, h1, rw⟩ := (l.val (k := k)).1 v e3
    exact ⟨a, w, rfl, by rw [← h1]; exact DGet.t ha upd_same, U v g2 w _ k5 (s1.trans (s2.trans sn)) En rw⟩⟩, UX.on s1⟩, UX⟩
/-- d[a, b] = v -/
def wDPutT (wo : WE) (wl : WA) (wv : WE) : WS := fun K g => wv g (fun v g1 => wo g1 (fun d g2 => wl g2 (fun ys g3 => ys.length ≤ sizeLine ∧ opt (dctAt g3.st d) fun kvs => opt (keyT ys) fun k => kvs.length < sizeLine ∧ ∀ a, d = .ref a → K.nx ⟨g3.sl, put g3.st a (.dct (putT kvs k v))⟩) K.ex) K.ex) K.ex
theorem ds_dputT {j} (hu : X.A.units + 1 < cLine) (ho : DE X W o wo) (hl : DA X W es wl) (hv : DE X W value wv) (hs : swapsWith value (some (.Subscript o (.Tuple es j p2) pos')) pos.line X.env = pure false := by rfl) : DS X W (.Assign [.Subscript o (.Tuple es j p2) pos'] value pos) (wDPutT wo wl wv) :=
  (ps_dput hu ho (pe_tup hl) hv hs).imp fun D σ H ⟨g, K, E, h, U⟩ => by
  refine ⟨g, _, K.ex, E, h, fun v g1 w H1 k1 s1 E1 r1 => ⟨g1, _, K.ex, E1, k1, fun d g2 x H2 k2 s2 E2 r2 => ⟨g2, _, K.ex, E2, k2, fun ys g3 us H3 k3 s3 E3 r3 => ⟨by rw [← r3.length]; exact k3.1, fun p hp => ?_⟩, (U.ex.on (s1.trans s2)).x σ⟩, (U.ex.on s1).x σ⟩, U.ex.x σ⟩
  obtain ⟨kvs, e1, k4⟩ := opt_ok k3.2
  obtain ⟨k, e2, hl, k5⟩ := opt_ok k4
  obtain rfl := keyT_ok r3 e2
  have sn : Step g3.st H3 g3.st (upd H3 p (.tup (k.map kV))) := Step.new hp
  have En : EnvRep ⟨g3.sl, g3.st⟩ σ (upd H3 p (.tup (k.map kV))) := E3.step sn (E3.sto.new hp)
  obtain ⟨a, vs, rfl, rfl, q, ha, l⟩ := dctAt_ok En.sto ((r2.step s3).step sn) e1
  have sw : Step g3.st (upd H3 p (.tup (k.map kV))) (put g3.st a (.dct (putT kvs k v))) (upd (upd H3 p (.tup (k.map kV))) a (.dT (putK vs k w))) := Step.wr q
  exact ⟨a, _, rfl, DPut.t ha upd_same (by rw [← l.length]; exact hl), U.nx _ σ _ (k5 a rfl) (s1.trans (s2.trans (s3.trans (sn.trans sw)))) (En.step sw (En.sto.wr q ⟨_, upd_same, (l.put (((r1.step s2).step s3).step sn)).step sw⟩))⟩
/-- d.get((a, b), x) -/
def wDGet2T (wo : WE) (wl : WA) (wx : WE) : WE := fun g K X => wo g (fun d g1 => (dctAt g1.st d).isSome = true ∧ wl g1 (fun ys g2 => ys.length ≤ sizeLine ∧ wx g2 (fun z g3 => opt (dctAt g3.st d) fun kvs => opt (keyT ys) fun k => K ((valT kvs k).getD z) g3) X) X) X
theorem de_dget2T {j} (hu : X.A.units + 1 < cLine) (ho : DE X W o wo) (hl : DA X W es wl) (hx : DE X W f wx) (m : M2 X o "get" apos (.Tuple es j p2) f cpos := by exact ⟨rfl, rfl, rfl, rfl⟩) : DE X W (.Call (.Attribute o "get" apos) [.Tuple es j p2, f] [] cpos) (wDGet2T wo wl wx) := (pe_dget2 hu ho (pe_tup hl) hx m).imp fun σ H Q ⟨g, K, Xd, E, h, U, UX⟩ =>
  ⟨g, _, Xd, E, h, fun d g1 x H1 k1 s1 E1 r1 => by
    obtain ⟨kvs0, e0⟩ := Option.isSome_iff_exists.mp k1.1
    obtain ⟨a, vs, rfl, rfl, _, ha, _⟩ := dctAt_ok E1.sto r1 e0
    refine ⟨a, rfl, .inr ⟨vs, .inl ha⟩, g1, _, Xd, E1, k1.2, fun ys g2 us H2 k2 s2 E2 r2 => ⟨by rw [← r2.length]; exact k2.1, fun p hp => ?_⟩, UX.on s1⟩
    have sn : Step g2.st H2 g2.st (upd H2 p (.tup us)) := Step.new hp
    have En : EnvRep ⟨g2.sl, g2.st⟩ σ (upd H2 p (.tup us)) := E2.step sn (E2.sto.new hp)
    refine ⟨⟨g2.sl, g2.st⟩, _, Xd, En, k2.2, fun z g3 u H3 k3 s3 E3 r3 => ?_, UX.on (s1.trans (s2.trans sn))⟩
    obtain ⟨kvs, e1, k4⟩ := opt_ok k3
    obtain ⟨k, e2, k5⟩ := opt_ok k4
    obtain rfl := keyT_ok r2 e2
    obtain ⟨a', vs', ea, _, q, ha', l⟩ := dctAt_ok E3.sto (.ref a) e1
    cases ea
    have hk := (s3.keep p _ upd_same (E2.sto.free hp)).1
    refine ⟨_, DGet.t ha' hk, ?_⟩
    obtain ⟨p1, p2⟩ := l.val (k := k)
    cases e : valT kvs k with
    | none => rw [p2 e]; rw [e] at k5; exact U _ g3 _ H3 k5 (s1.trans (s2.trans (sn.trans s3))) E3 r3
    | some v => obtain ⟨w, ew, rw'⟩ := p1 v e; rw [ew]; rw [e] at k5; exact U _ g3 _ H3 k5 (s1.trans (s2.trans (sn.trans s3))) E3 rw', UX⟩
end
/-! ### {(a, b): v} -/
section
open Sem (wp)
variable {prog : Program} {w : World} {K : Type} [DecidableEq K] {knd : HeapKind prog w K} {A : Around} {E : Value → Shared → Prop} {s : Shared}
theorem wpAny_Dict1H {env : Env} {ke ve : Expr} {pos : Pos} {Q : Value → Shared → Prop} (hu : knd.room A)
    (h : wpAny (model prog w) A (evalPairs (pairTrees [some ke] [ve] env pos)) (fun vs s₁ => ∃ ps, CarriesH knd s₁.heap vs ps ∧ s₁.heap.DictOfH knd s.heap.objs.size [] ∧
      ∀ h' tk, h'.DictOfH knd s.heap.objs.size (storedAllH [] ps) → Heap.SameBut s.heap.objs.size s₁.heap h' → Q (.ref s.heap.objs.size) { s₁ with heap := h', toks := tk }) E
      { s with heap := s.heap.push { cls := .type "dict", data := .dict #[] } }) :
    wpAny (model prog w) A (eval (.Dict [some ke] [ve] pos) env) Q E s := by
  have l1 : (1 : Nat) < 17 := by decide
  have l2 : (1 : Nat) ≤ 15 := by decide
  rw [arm_eval_Dict, zip_pairTrees [some ke] [ve] env pos rfl rfl, dictDisplay_pairs (pairTrees [some ke] [ve] env pos) (fun z => nomatch z) l1]
  exact wpAny_bind (wpAny_standAt (wpAny_bind (wpAny_subDictH (knd := knd) (Q := fun d s' => wpAny (model prog w) A (pure (Value.ref d)) Q E s') hu l2
    (wpAny_mono h (fun vs s₁ h₁ => by obtain ⟨ps, hc, hm, hq⟩ := h₁; exact ⟨ps, hc, hm, fun h' tk a b => wpAny_pure (hq h' tk a b)⟩) fun _ _ e => e))))
end
def tDispT1 (tl : TA) (tv : TE) : TE := fun σ H Q => ∀ p, H p = none → tTup tl σ (upd H p (.dT [])) fun x H1 => tv σ H1 fun y H2 => H2 p = some (.dT []) ∧ ∃ (b : Addr) (k : List Key), x = .ref b ∧ H2 b = some (.tup (k.map kV)) ∧ Q (.ref p) (upd H2 p (.dT [(k, y)]))
theorem pe_dispT1 {X : Cx} {es : List Expr} {ve : Expr} {tl : TA} {tv : TE} {j} {p2 pos : Pos} (hu : X.A.units + 1 < cLine) (hl : PA X es tl) (hv : PE X ve tv) : PE X (.Dict [some (.Tuple es j p2)] [ve] pos) (tDispT1 tl tv) := by
  refine ⟨fun pins s σ H Q I q => ?_⟩
  have hn := I.hok.fresh (Nat.le_refl s.heap.objs.size)
  have I1 := I.laid (a := s.heap.objs.size) (o := .dT []) (h' := s.heap.push { cls := .type "dict", data := .dict #[] }) (t' := s.toks) (fun _ _ q => Heap.get?_push_of_some _ q) (Nat.le_refl _) (dt_empty s.heap I.big)
  refine wpAny_Dict1H (knd := tupleKind (mixKind X.prog X.w)) (Nat.lt_of_succ_lt hu) ?_
  refine pairTrees_cons_walk (thn ((pe_tup hl).run pins _ σ _ _ I1 (q _ hn)) fun u s1 ⟨x, H1, I1, rx, q1⟩ => thn (hv.run pins s1 σ H1 _ I1 q1) fun w2 s2 ⟨y, H2, I2, ry, q2⟩ => pairTrees_nil_walk ?_)
  obtain ⟨e, b, k, rfl, eb, q3⟩ := q2
  cases (show u = Value.ref b from rx)
  obtain ⟨z, hd, xs, rel, dd⟩ := dt_of I2.hok e
  cases rel
  refine ⟨[(k, b, w2)], ⟨rfl, rfl, key_of I2.hok eb, True.intro⟩, dd, fun h' tk dd' hs => ⟨.ref s.heap.objs.size, _, ?_, rfl, q3⟩⟩
  obtain ⟨q, es, ep, hq, h2, h3, h4, _, h5⟩ := dd'
  refine d_write I2 (by rw [e]; exact True.intro) hs ⟨q, hq⟩ ⟨(by show 1 ≤ sizeLine; rw [sizeLine_eq]; decide), hd, _, ?_, q, es, ep, hq, h2, h3, h4, h5⟩
  refine Paired.cons ⟨rfl, ?_, ry⟩ .nil
  rw [upd_ne (ne_of eb e (fun z => nomatch z))]
  exact eb
section
variable {X : Cx} {W : WX} {ve : Expr} {wv : WE} {es : List Expr} {wl : WA} {pos p2 : Pos}
/-- {(a, b): v} -/
def wDispT1 (wl : WA) (wv : WE) : WE := fun g K X => ∀ p, g.st p = none → wl ⟨g.sl, put g.st p (.dct [])⟩ (fun ys g1 => ys.length ≤ sizeLine ∧ wv g1 (fun v g2 => g2.st p = some (.dct []) ∧ opt (keyT ys) fun k => K (.ref p) ⟨g2.sl, put g2.st p (.dct [(k, v)])⟩) X) X
theorem de_dispT1 {j} (hu : X.A.units + 1 < cLine) (hl : DA X W es wl) (hv : DE X W ve wv) : DE X W (.Dict [some (.Tuple es j p2)] [ve] pos) (wDispT1 wl wv) := (pe_dispT1 hu hl hv).imp fun σ H Q ⟨g, K, Xd, E, h, U, UX⟩ p hp => by
  have sn : Step g.st H (put g.st p (.dct [])) (upd H p (.dT [])) := Step.newc hp
  have En : EnvRep ⟨g.sl, put g.st p (.dct [])⟩ σ (upd H p (.dT [])) := E.step sn (E.sto.newc hp ⟨[], upd_same, .nil⟩)
  refine ⟨_, _, Xd, En, h p (E.sto.free hp), fun ys g1 us H1 k1 s1 E1 r1 => ⟨by rw [← r1.length]; exact k1.1, fun b hb => ?_⟩, UX.on sn⟩
  have s2 : Step g1.st H1 g1.st (upd H1 b (.tup us)) := Step.new hb
  have E2 : EnvRep ⟨g1.sl, g1.st⟩ σ (upd H1 b (.tup us)) := E1.step s2 (E1.sto.new hb)
  refine ⟨⟨g1.sl, g1.st⟩, _, Xd, E2, k1.2, fun v g3 y H3 k3 s3 E3 r3 => ?_, UX.on (sn.trans (s1.trans s2))⟩
  obtain ⟨hp3, k4⟩ := k3
  obtain ⟨k, ek, k5⟩ := opt_ok k4
  obtain rfl := keyT_ok r1 ek
  obtain ⟨us', hu', lu⟩ := E3.sto p _ hp3
  cases lu
  have hb3 := (s3.keep b _ upd_same (E1.sto.free hb)).1
  refine ⟨hu', b, k, rfl, hb3, ?_⟩
  have sw : Step g3.st H3 (put g3.st p (.dct [(k, v)])) (upd H3 p (.dT [(k, y)])) := Step.wr hp3
  exact U (.ref p) ⟨g3.sl, _⟩ _ _ k5 (sn.trans (s1.trans (s2.trans (s3.trans sw)))) (E3.step sw (E3.sto.wr hp3 ⟨_, upd_same, .cons (r3.step sw) .nil⟩)) (.ref p)
end
end DL

end SDLT5

section SDLT6
set_option Elab.async false
set_option linter.all false
set_option maxRecDepth 100000
namespace DL
open PySem PySem.Spec PyProof.Rows L2
/-! ### any(xs) of a list of whole numbers -/
theorem truth_int {prog : Program} {w : World} {A : Around} {E : Value → Shared → Prop} {s : Shared} {i : Int} {t : Nat} {Q : Bool → Shared → Prop} (h : Q (i != 0) s) : wpAny (model prog w) A (truthy (.int i t)) Q E s := PySem.P.truthy_int h
theorem truth_ints {prog : Program} {w : World} {A : Around} {ns : List Int} {its : List Value} (r : Vals (ns.map V.int) its) :
    TruthOf prog w A (fun i v => its.toArray[i]? = some v) (fun i => ns.getD i 0 != 0) := fun i v s Q E hv hq => by
  have hv' : its[i]? = some v := by simpa using hv
  have hl : ns.length = its.length := by have := Paired.length r; rwa [List.length_map] at this
  have hi : i < ns.length := by rw [hl]; exact (List.getElem?_eq_some_iff.mp hv').1
  obtain ⟨u, hu, ru⟩ := r.get (i := i) (x := .int (ns.getD i 0)) (by rw [List.getElem?_map, List.getD_eq_getElem?_getD, List.getElem?_eq_getElem hi]; rfl)
  rw [hv'] at hu
  cases hu
  obtain ⟨t, rfl⟩ := ru
  exact truth_int hq
theorem any_rangeI : ∀ ns : List Int, (List.range ns.length).any (fun i => ns.getD i 0 != 0) = ns.any fun i => i != 0
  | [] => rfl
  | b :: bs => by
    rw [List.length_cons, List.range_succ_eq_map, List.any_cons, List.any_map, List.any_cons, ← any_rangeI bs]
    all_goals rfl
def rAnyI (K : PySem.W.Frag) : List V → Hp → VK → Prop := fun vs H Q => ∃ (a : Addr) (ns : List Int), vs = [V.ref a] ∧ SqL K H a (ns.map V.int) ∧ Q (.bl (ns.any fun i => i != 0)) H
theorem cr_anyI {X : Cx} (hc : X.calm = true) : CallR X (.builtin "any") (rAnyI X.K) := by
  intro pins s σ H vs us Q I r h
  obtain ⟨a, ns, rfl, hs, q⟩ := h
  obtain ⟨its, rv, hl, _⟩ := I.list hs
  rw [Vals.ref1 r]
  refine call_any_walk (iter_any hl.isList fun s₂ e2 st hne => ?_)
  subst e2
  refine ⟨_, _, _, _, _, _, _, rfl, Walks.list (A := X.A.in1) (I.ok.hd hc) _ a hne its.toArray, st, truth_ints rv, fun h' tk hk => ?_⟩
  refine ⟨.bl _, H, I.kept fun b o eo => hk b o (fun hmem => ?_) (Heap.get?_push_of_some _ eo), ?_, q⟩
  · rcases List.mem_cons.mp hmem with e1 | hmem
    · exact absurd (e1 ▸ Heap.lt_size eo) (Nat.lt_irrefl _)
    · cases hmem
  · show Value.bool _ = Value.bool _
    rw [← any_rangeI, List.size_toArray, ← Paired.length rv, List.length_map]
def oAnyI : WON := fun ds g K => arg1 ds fun d => opt (lseqAt g.st d) fun xs => opt (asInts xs) fun ns => K (.bl (ns.any fun i => i != 0)) g
theorem son_anyI {K : PySem.W.Frag} : SON (rAnyI K) oAnyI := fun {a x g σ H Kd Q} E l w U => by
  obtain ⟨d, rfl, w⟩ := arg1_ok w
  obtain ⟨xs, e, w⟩ := opt_ok w
  obtain ⟨ns, e2, w⟩ := opt_ok w
  obtain ⟨v, rfl, r⟩ := repL_1 l
  obtain ⟨p, vs, rfl, h, l2⟩ := lseqAt_ok (K := K) E.sto r e
  rw [asInts_eq e2] at l2
  rw [repL_ints l2] at h
  exact ⟨p, ns, rfl, h, U _ g _ H w Step.refl E (.bl _)⟩
theorem oAnyI_lst {ns : List Int} {g : G} {K : KD} : oAnyI [.lst (ns.map D.int)] g K = K (.bl (ns.any fun i => i != 0)) g := by
  unfold oAnyI
  simp only [arg1_eq, lseqAt_lst, opt_some, asInts_map]
end DL

end SDLT6

section SDLT7
set_option Elab.async false
set_option linter.all false
set_option maxRecDepth 100000
namespace DL
open PySem PySem.Spec PyProof.Rows L2
section
variable {X : Cx} {W : WX} {a b : Expr} {wa wb : WE} {pos : Pos} {rest : List Expr}
/-! ### x or y, x and y, by truth -/
theorem de_orT (ha : DE X W a wa) (hb : DE X W (.BoolOp .Or (b :: rest) pos) wb) : DE X W (.BoolOp .Or (a :: b :: rest) pos) (wOrT' wa wb) :=
  (pe_orT ha hb).imp fun σ H Q ⟨g, K, Xd, E, h, U, UX⟩ => by
    refine ⟨g, _, Xd, E, h, fun d g1 v H1 k1 s1 E1 r1 => ?_, UX⟩
    cases q : tru g1.st d with
    | none => simp only [q] at k1
    | some k =>
      simp only [q] at k1
      refine ⟨k, tru_ok E1.sto r1 q, ?_⟩
      cases k with
      | true => rw [if_pos rfl]; exact U _ g1 _ H1 k1 s1 E1 r1
      | false => rw [if_neg Bool.false_ne_true]; exact ⟨g1, K, Xd, E1, k1, U.on s1, UX.on s1⟩
theorem de_andT (ha : DE X W a wa) (hb : DE X W (.BoolOp .And (b :: rest) pos) wb) : DE X W (.BoolOp .And (a :: b :: rest) pos) (wAndT' wa wb) :=
  (pe_andT ha hb).imp fun σ H Q ⟨g, K, Xd, E, h, U, UX⟩ => by
    refine ⟨g, _, Xd, E, h, fun d g1 v H1 k1 s1 E1 r1 => ?_, UX⟩
    cases q : tru g1.st d with
    | none => simp only [q] at k1
    | some k =>
      simp only [q] at k1
      refine ⟨k, tru_ok E1.sto r1 q, ?_⟩
      cases k with
      | false => rw [if_neg Bool.false_ne_true]; exact U _ g1 _ H1 k1 s1 E1 r1
      | true => rw [if_pos rfl]; exact ⟨g1, K, Xd, E1, k1, U.on s1, UX.on s1⟩
theorem wOrT'_eq {g : G} {K : KD} {X : XD} : wOrT' wa wb g K X = wa g (fun d g1 => opt (tru g1.st d) fun k => if k = true then K d g1 else wb g1 K X) X := by
  unfold wOrT'
  congr 1
  funext d g1
  cases tru g1.st d with
  | none => rfl
  | some k => cases k <;> rfl
theorem wAndT'_eq {g : G} {K : KD} {X : XD} : wAndT' wa wb g K X = wa g (fun d g1 => opt (tru g1.st d) fun k => if k = true then wb g1 K X else K d g1) X := by
  unfold wAndT'
  congr 1
  funext d g1
  cases tru g1.st d with
  | none => rfl
  | some k => cases k <;> rfl
end
/-! ### xs.extend(t) of a tuple -/
theorem list_extend_tuple (l : Addr) (items : Array Value) (n : Nat) (b : Addr) (items2 : Array Value) (o : Obj) (n2 : Nat) (hs0 : ¬(!items.isEmpty && Builtin.List.listTooLong (items.size + items2.size)) = true) (hs1 : items.size ≤ sizeLine) (hs2 : items.size + items2.size ≤ sizeLine + 1) (hc : o.cls = .type "tuple") (hd : o.data = .seq items2 n2) :
    Meets (Builtin.«list.extend» ⟨[.ref l, .ref b], []⟩) (fun _ R s => s.heap.get? l = some { cls := .type "list", dict := none, data := .seq items n, slots := #[] } ∧ s.heap.get? b = some o ∧ R (.ok (.ret Value.none)) { s with heap := s.heap.update l (Obj.mapSeq fun x => x ++ items2), toks := s.toks }) :=
  .of_wp fun prog w A R s h => by
    obtain ⟨c, d0, dt, sl⟩ := o
    cases hc
    cases hd
    obtain ⟨hp, g, d, tk, os⟩ := s; obtain ⟨hl, hb, h⟩ := h; have f1 := AutoSeq1.idx_int; have f2 := AutoSeq1.sub_tuple_tuple; have f3 := AutoSeq1.sub_list_list; have f4 := AutoSeq1.sub_tuple_list; have f5 := AutoSeq1.sub_list_tuple
    have hz' : (items ++ items2).size ≤ sizeLine + 1 := by rw [Array.size_append]; exact hs2
    wp_walk using (wpAny_updateSeq hl rfl (hz := hs1) (_hz' := hz')), AutoSeq1.wpAny_loadPart' hl, AutoSeq1.wpAny_loadPart' hb; exact ⟨_, rfl, h⟩
def rExtendT (K : PySem.W.Frag) : V → List V → Hp → VK → Prop := fun x vs H Q => ∃ l b xs zs, x = .ref l ∧ vs = [.ref b] ∧ H l = some (.lst xs) ∧ SqT K H b zs ∧ xs.length + zs.length ≤ sizeLine ∧ Q .non (upd H l (.lst (xs ++ zs)))
theorem mt_extendT {X : Cx} : MtM X "list.extend" (rExtendT X.K) := by
  intro pins s σ H x vs v us Q I rx rv h
  obtain ⟨l, b, xs, zs, rfl, rfl, hH, hB, hz, q⟩ := h
  cases rx
  obtain ⟨u, rfl, ru⟩ := rv.one
  cases ru
  obtain ⟨z, its, n, r, hl, e⟩ := I.lstM hH
  obtain ⟨its2, r2, ⟨o, e2, hc, n2, hd⟩, z2⟩ := I.tuple hB
  have hl2 := r2.length
  have hsz : its.toArray.size + its2.toArray.size ≤ sizeLine := by rw [List.size_toArray, List.size_toArray]; omega
  have hlong : ¬ (!its.toArray.isEmpty && Builtin.List.listTooLong (its.toArray.size + its2.toArray.size)) = true := by
    rw [notLongL hsz, Bool.and_false]
    exact Bool.false_ne_true
  refine call_meets F.slot_list_extend ⟨_, e, rfl⟩ F.entry_list_extend (F.args_list_extend_2 _ _)
    (list_extend_tuple l its.toArray n b its2.toArray o n2 hlong (by rw [List.size_toArray]; omega) (by omega) hc hd) ⟨e, e2, ?_⟩
  refine ⟨.non, _, I.lset (its' := its ++ its2) hH e (by simp) (r.append r2) ?_, rfl, q⟩
  rw [List.length_append]
  omega
def oExtendT : WM := fun d ds g K => cellL d g.st fun a xs => arg1 ds fun x => asTup x fun ys => xs.length + ys.length ≤ sizeLine ∧ K .non ⟨g.sl, put g.st a (.lst (xs ++ ys))⟩
theorem sm_extendT {K : PySem.W.Frag} : SM (rExtendT K) oExtendT := fun {d ds x xs g σ H Kd Q} E r l w U => by
  obtain ⟨a, ys, rfl, q, w⟩ := cellL_ok w
  obtain ⟨y, rfl, w⟩ := arg1_ok w
  obtain ⟨zs, rfl, hl, k⟩ := asTup_ok w
  obtain ⟨v, rfl, rv⟩ := repL_1 l
  cases r
  obtain ⟨vs, h1, l1⟩ := E.sto a _ q
  cases rv with
  | tup n rd l2 =>
    have z := wr_lst E q (l1.append l2)
    exact ⟨a, _, vs, _, rfl, rfl, h1, .inl rd, by rw [← l1.length, ← l2.length]; exact hl, U _ _ _ _ k z.1 z.2 .non⟩
theorem oExtT_r {a : Addr} {ys : List D} {g : G} {K : KD} : oExtendT (.ref a) [.tup ys] g K = opt (lstOf (g.st a)) fun xs => xs.length + ys.length ≤ sizeLine ∧ K .non ⟨g.sl, put g.st a (.lst (xs ++ ys))⟩ := by
  unfold oExtendT
  rw [cellL_r]
  simp only [arg1_eq, asTup_tup]
section
variable {X : Cx} {W : WX} {pos : Pos}
/-! ### a, b, .. = a list -/
def wGLst (n : Nat) (b : WGs) : WG := fun d g K => match d with | .lst ds => ds.length = n ∧ b ds g K | _ => False
theorem dg_lst {vs : List Nat} {es : List Expr} {k : Nat} {b : WGs} {n : Nat} (hc : X.calm = true) (h : DGs X vs es b) (hn : (assignEach es X.env).length = n := by rfl) (hst : (assignEach es X.env).findIdx? (·.1) = none := by rfl) : DG X vs (.Tuple es k pos) (wGLst n b) :=
  (pg_lst hc h hn hst).imp fun v σ H Q ⟨g, d, K, E, r, k, q⟩ => by
    cases r with
    | lst n2 rd l =>
      obtain ⟨hl, k⟩ := k
      exact ⟨_, _, rfl, SqL.of rd, by rw [← hl, l.length], g, _, K, E, l, k, q⟩
    | _ => exact k.elim
end
/-! ### xs == [] -/
def rEqE (K : PySem.W.Frag) : R2 := fun x y H Q => ∃ a b xs, x = .ref a ∧ y = .ref b ∧ SqL K H a xs ∧ SqL K H b [] ∧ Q (.bl xs.isEmpty) H
theorem op_eqE {X : Cx} (hu : X.A.units + 64 < cLine) : OpR X (compareOp .Eq) (rEqE X.K) := by
  intro pins s σ H x y v u Q I rx ry h
  obtain ⟨a, b, xs, rfl, rfl, ha, hb, q⟩ := h
  cases (show v = Value.ref a from rx)
  cases (show u = Value.ref b from ry)
  obtain ⟨us, r1, p1, _⟩ := I.list ha
  obtain ⟨ws, r2, p2, _⟩ := I.list hb
  have l2 : ws.length = 0 := r2.length.symm
  have l1 := r1.length
  cases xs with
  | nil =>
    have hsz : us.toArray.size = ws.toArray.size := by rw [List.size_toArray, List.size_toArray, l2, ← l1]; rfl
    refine SeqAt.eq_listAt (e := fun _ => true) p1.isList p2.isList hsz (by omega) (fun j h1 h2 => absurd h2 (by rw [List.size_toArray, l2]; omega)) ?_
    rw [show ((List.range us.toArray.size).all fun _ => true) = true from List.all_eq_true.mpr fun _ _ => rfl]
    exact ⟨.bl true, H, I, rfl, q⟩
  | cons x xs =>
    have hsz : (us.toArray.size != ws.toArray.size) = true := by
      rw [List.size_toArray, List.size_toArray, l2, ← l1]
      simp
    exact SeqAt.eq_list_lengthsAt p1.isList p2.isList hsz (by omega) ⟨.bl false, H, I, rfl, q⟩
def oEqE : WO2 := fun x y g K => match y with
  | .lst [] => opt (lseqAt g.st x) fun xs => K (.bl xs.isEmpty) g
  | _ => False
theorem so_eqE {K : PySem.W.Frag} : SO2 (rEqE K) oEqE := fun {a c x y g σ H Kd Q} E ra rb w U => by
  unfold oEqE at w
  cases c <;> first | exact w.elim | skip
  rename_i ys
  cases ys with
  | cons z zs => exact w.elim
  | nil =>
    obtain ⟨xs, e1, k⟩ := opt_ok w
    obtain ⟨p, vs, rfl, h1, l1⟩ := lseqAt_ok (K := K) E.sto ra e1
    obtain ⟨q, ws, rfl, h2, l2⟩ := lseqAt_ok (K := K) E.sto rb (show lseqAt g.st (.lst []) = some [] from rfl)
    cases l2
    refine ⟨p, q, vs, rfl, rfl, h1, h2, ?_⟩
    have e : vs.isEmpty = xs.isEmpty := by cases l1 <;> rfl
    rw [e]
    exact U _ g _ H k Step.refl E (.bl _)
theorem oEqE_lst {xs : List D} {g : G} {K : KD} : oEqE (.lst xs) (.lst []) g K = K (.bl xs.isEmpty) g := id rfl
theorem oEqE_ref {a : Addr} {xs : List D} {g : G} {K : KD} (e : g.st a = some (.lst xs)) : oEqE (.ref a) (.lst []) g K = K (.bl xs.isEmpty) g := by
  have : lseqAt g.st (.ref a) = some xs := by unfold lseqAt tlst; simp only [e]
  show opt (lseqAt g.st (.ref a)) _ = _
  rw [this]; rfl
end DL

end SDLT7

section SGL23
set_option Elab.async false
set_option linter.all false
set_option maxRecDepth 100000
set_option maxHeartbeats 0
namespace L23
open PySem L2 DL
def topAt (i : Nat) : Stmt := PySem.Challenge.pw_oncebooked_k23_whole_statements_and_page.main.body.getD i (.Pass ⟨0, 0, 0, 0⟩)
def d_is_integer : He.DefD := ⟨("is_integer", none), "is_integer", "is_integer", defArgs (topAt 3), defBody (topAt 3), defScope (topAt 3), [], []⟩
def d_is_number : He.DefD := ⟨("is_number", none), "is_number", "is_number", defArgs (topAt 4), defBody (topAt 4), defScope (topAt 4), [], []⟩
def d_is_word : He.DefD := ⟨("is_word", none), "is_word", "is_word", defArgs (topAt 5), defBody (topAt 5), defScope (topAt 5), [], []⟩
def d_is_name : He.DefD := ⟨("is_name", none), "is_name", "is_name", defArgs (topAt 6), defBody (topAt 6), defScope (topAt 6), [], []⟩
def d_is_account : He.DefD := ⟨("is_account", none), "is_account", "is_account", defArgs (topAt 7), defBody (topAt 7), defScope (topAt 7), [], []⟩
def d_is_row : He.DefD := ⟨("is_row", none), "is_row", "is_row", defArgs (topAt 8), defBody (topAt 8), defScope (topAt 8), [], []⟩
def d_ascends : He.DefD := ⟨("ascends", none), "ascends", "ascends", defArgs (topAt 9), defBody (topAt 9), defScope (topAt 9), [], []⟩
def d_are_ascending : He.DefD := ⟨("are_ascending", none), "are_ascending", "are_ascending", defArgs (topAt 10), defBody (topAt 10), defScope (topAt 10), [], []⟩
def d_number_in : He.DefD := ⟨("number_in", none), "number_in", "number_in", defArgs (topAt 11), defBody (topAt 11), defScope (topAt 11), [], []⟩
def d_BookError___init__ : He.DefD := ⟨("BookError", some "__init__"), "__init__", "BookError.__init__", defArgs (inClass (topAt 13) 0), defBody (inClass (topAt 13) 0), defScope (inClass (topAt 13) 0), [], []⟩
def d_read_account : He.DefD := ⟨("read_account", none), "read_account", "read_account", defArgs (topAt 29), defBody (topAt 29), defScope (topAt 29), [], []⟩
def d_read_balance : He.DefD := ⟨("read_balance", none), "read_balance", "read_balance", defArgs (topAt 30), defBody (topAt 30), defScope (topAt 30), [], []⟩
def d_read_posting : He.DefD := ⟨("read_posting", none), "read_posting", "read_posting", defArgs (topAt 31), defBody (topAt 31), defScope (topAt 31), [], []⟩
def d_read_draft : He.DefD := ⟨("read_draft", none), "read_draft", "read_draft", defArgs (topAt 32), defBody (topAt 32), defScope (topAt 32), [], []⟩
def d_is_draft : He.DefD := ⟨("is_draft", none), "is_draft", "is_draft", defArgs (topAt 33), defBody (topAt 33), defScope (topAt 33), [], []⟩
def d_numbers_in : He.DefD := ⟨("numbers_in", none), "numbers_in", "numbers_in", defArgs (topAt 34), defBody (topAt 34), defScope (topAt 34), [], []⟩
def d_offs_in : He.DefD := ⟨("offs_in", none), "offs_in", "offs_in", defArgs (topAt 35), defBody (topAt 35), defScope (topAt 35), [], []⟩
def d_adds_up : He.DefD := ⟨("adds_up", none), "adds_up", "adds_up", defArgs (topAt 36), defBody (topAt 36), defScope (topAt 36), [], []⟩
def d_are_postings : He.DefD := ⟨("are_postings", none), "are_postings", "are_postings", defArgs (topAt 37), defBody (topAt 37), defScope (topAt 37), [], []⟩
def d_check_statement : He.DefD := ⟨("check_statement", none), "check_statement", "check_statement", defArgs (topAt 38), defBody (topAt 38), defScope (topAt 38), [], []⟩
def d_text_of : He.DefD := ⟨("text_of", none), "text_of", "text_of", defArgs (topAt 39), defBody (topAt 39), defScope (topAt 39), [], []⟩
def d_statement_text : He.DefD := ⟨("statement_text", none), "statement_text", "statement_text", defArgs (topAt 40), defBody (topAt 40), defScope (topAt 40), [], []⟩
def d_paged : He.DefD := ⟨("paged", none), "paged", "paged", defArgs (topAt 41), defBody (topAt 41), defScope (topAt 41), [], []⟩
def d_goes_on : He.DefD := ⟨("goes_on", none), "goes_on", "goes_on", defArgs (topAt 42), defBody (topAt 42), defScope (topAt 42), [], []⟩
def d_joined_pages : He.DefD := ⟨("joined_pages", none), "joined_pages", "joined_pages", defArgs (topAt 43), defBody (topAt 43), defScope (topAt 43), [], []⟩
def d__law_pot : He.DefD := ⟨("_law_pot", none), "_law_pot", "_law_pot", defArgs (topAt 45), defBody (topAt 45), defScope (topAt 45), [], []⟩
def d__law_take : He.DefD := ⟨("_law_take", none), "_law_take", "_law_take", defArgs (topAt 46), defBody (topAt 46), defScope (topAt 46), [], []⟩
def d__law_of : He.DefD := ⟨("_law_of", none), "_law_of", "_law_of", defArgs (topAt 47), defBody (topAt 47), defScope (topAt 47), [], []⟩
def d__law_cells : He.DefD := ⟨("_law_cells", none), "_law_cells", "_law_cells", defArgs (topAt 48), defBody (topAt 48), defScope (topAt 48), [], []⟩
def d__law_sums : He.DefD := ⟨("_law_sums", none), "_law_sums", "_law_sums", defArgs (topAt 49), defBody (topAt 49), defScope (topAt 49), [], []⟩
def d__law_own_draft : He.DefD := ⟨("_law_own_draft", none), "_law_own_draft", "_law_own_draft", defArgs (topAt 50), defBody (topAt 50), defScope (topAt 50), [], []⟩
def d__law_draft_text : He.DefD := ⟨("_law_draft_text", none), "_law_draft_text", "_law_draft_text", defArgs (topAt 51), defBody (topAt 51), defScope (topAt 51), [], []⟩
def d__law_offs : He.DefD := ⟨("_law_offs", none), "_law_offs", "_law_offs", defArgs (topAt 52), defBody (topAt 52), defScope (topAt 52), [], []⟩
def d__law_pages : He.DefD := ⟨("_law_pages", none), "_law_pages", "_law_pages", defArgs (topAt 53), defBody (topAt 53), defScope (topAt 53), [], []⟩
def d__law_number_of_pages : He.DefD := ⟨("_law_number_of_pages", none), "_law_number_of_pages", "_law_number_of_pages", defArgs (topAt 54), defBody (topAt 54), defScope (topAt 54), [], []⟩
def d__law_bent : He.DefD := ⟨("_law_bent", none), "_law_bent", "_law_bent", defArgs (topAt 55), defBody (topAt 55), defScope (topAt 55), [], []⟩
def d__law_right : He.DefD := ⟨("_law_right", none), "_law_right", "_law_right", defArgs (topAt 56), defBody (topAt 56), defScope (topAt 56), [], []⟩
def d_law : He.DefD := ⟨("law", none), "law", "law", defArgs (topAt 57), defBody (topAt 57), defScope (topAt 57), [], []⟩
def fn0 : List He.DefD := [d_is_integer, d_is_number, d_is_word, d_is_name, d_is_account, d_is_row, d_ascends, d_are_ascending, d_number_in, d_BookError___init__, d_read_account, d_read_balance, d_read_posting, d_read_draft, d_is_draft, d_numbers_in, d_offs_in, d_adds_up, d_are_postings, d_check_statement, d_text_of, d_statement_text, d_paged, d_goes_on, d_joined_pages, d__law_pot, d__law_take, d__law_of, d__law_cells, d__law_sums]
def fn1 : List He.DefD := [d__law_own_draft, d__law_draft_text, d__law_offs, d__law_pages, d__law_number_of_pages, d__law_bent, d__law_right, d_law]
def fn : List He.DefD := fn0 ++ fn1
def fs0 : List (Fr → Bool) := [fFree "bool", fFree "isinstance", fFree "int", fFree "len", fFree "str", fInt "MOST_LETTERS" (8), fFree "tuple", fFree "range", fFree "all", fInt "MOST_FIGURES" (40), fInt "MOST_WRITTEN" (1000000000000000000), fInt "MOST_NUMBER" (1000000000), fGlo "BadDraft", fExc "BadDraft" "BookError", fFree "enumerate", fInt "MOST_POSTINGS" (500), fInt "STEP_LINE" (3), fInt "FIRST_LINE" (2), fStr "BALANCE" "balance", fStr "AMOUNT" "amount", fFree "any", fInt "MOST_AMOUNT" (1000000000000), fGlo "BadPostings", fExc "BadPostings" "BookError", fInt "MOST_BEFORE" (1000000000000000), fGlo "BadNumber", fExc "BadNumber" "BookError", fGlo "BadAccount", fExc "BadAccount" "BookError", fFree "max"]
def fs1 : List (Fr → Bool) := [fFree "sum", fGlo "BadPages", fExc "BadPages" "BookError", fFree "abs", fFree "min", fFree "list", fFree "repr", fGlo "is_integer", fGlo "is_number", fGlo "is_word", fGlo "is_name", fGlo "is_account", fGlo "is_row", fGlo "ascends", fGlo "are_ascending", fGlo "number_in", fGlo "read_account", fGlo "read_balance", fGlo "read_posting", fGlo "read_draft", fGlo "is_draft", fGlo "numbers_in", fGlo "offs_in", fGlo "adds_up", fGlo "are_postings", fGlo "check_statement", fGlo "text_of", fGlo "statement_text", fGlo "paged", fGlo "goes_on"]
def fs2 : List (Fr → Bool) := [fGlo "joined_pages", fGlo "_law_pot", fGlo "_law_take", fGlo "_law_of", fGlo "_law_cells", fGlo "_law_sums", fGlo "_law_own_draft", fGlo "_law_draft_text", fGlo "_law_offs", fGlo "_law_pages", fGlo "_law_number_of_pages", fGlo "_law_bent", fGlo "_law_right", fGlo "law", fGlo "BookError", fXo "BookError", fXm "BookError" "BadDraft" false, fXm "BookError" "BadPages" false, fXo "BadNumber", fXm "BadNumber" "BadDraft" false, fXm "BadNumber" "BadPages" false, fXo "BadAccount", fXm "BadAccount" "BadDraft" false, fXm "BadAccount" "BadPages" false, fXo "BadPostings", fXm "BadPostings" "BadDraft" false, fXm "BadPostings" "BadPages" false, fXo "BadDraft", fXm "BadDraft" "BadDraft" true, fXm "BadDraft" "BadPages" false]
def fs3 : List (Fr → Bool) := [fXo "BadPages", fXm "BadPages" "BadDraft" false, fXm "BadPages" "BadPages" true]
def fs : List (Fr → Bool) := fs0 ++ fs1 ++ fs2 ++ fs3
abbrev ix_xo_BookError : Nat := 75
abbrev ix_xm_BookError_BadDraft : Nat := 76
abbrev ix_xm_BookError_BadPages : Nat := 77
abbrev ix_xo_BadNumber : Nat := 78
abbrev ix_xm_BadNumber_BadDraft : Nat := 79
abbrev ix_xm_BadNumber_BadPages : Nat := 80
abbrev ix_xo_BadAccount : Nat := 81
abbrev ix_xm_BadAccount_BadDraft : Nat := 82
abbrev ix_xm_BadAccount_BadPages : Nat := 83
abbrev ix_xo_BadPostings : Nat := 84
abbrev ix_xm_BadPostings_BadDraft : Nat := 85
abbrev ix_xm_BadPostings_BadPages : Nat := 86
abbrev ix_xo_BadDraft : Nat := 87
abbrev ix_xm_BadDraft_BadDraft : Nat := 88
abbrev ix_xm_BadDraft_BadPages : Nat := 89
abbrev ix_xo_BadPages : Nat := 90
abbrev ix_xm_BadPages_BadDraft : Nat := 91
abbrev ix_xm_BadPages_BadPages : Nat := 92
def loose0 : List PySem.Str := ["AMOUNT", "BALANCE", "BadAccount", "BadDraft", "BadNumber", "BadPages", "BadPostings", "BookError", "FIRST_LINE", "MOST_AMOUNT", "MOST_BEFORE", "MOST_FIGURES", "MOST_LETTERS", "MOST_NUMBER", "MOST_POSTINGS", "MOST_WRITTEN", "STEP_LINE", "_law_bent", "_law_cells", "_law_draft_text", "_law_number_of_pages", "_law_of", "_law_offs", "_law_own_draft", "_law_pages", "_law_pot", "_law_right", "_law_sums", "_law_take", "adds_up"]
def loose1 : List PySem.Str := ["are_ascending", "are_postings", "ascends", "check_statement", "goes_on", "is_account", "is_draft", "is_integer", "is_name", "is_number", "is_row", "is_word", "joined_pages", "number_in", "numbers_in", "offs_in", "paged", "read_account", "read_balance", "read_draft", "read_posting", "statement_text", "text_of"]
def loose : List PySem.Str := loose0 ++ loose1
variable {P : Program} {w : World} {K : Fr} {mg : Str → Option Value} {base : Heap}
theorem bd_is_integer (c : Known fs fn K mg) : Binds K (fdOf K ("is_integer", none)) ["value"] [] := (c.dfn 0).bindsN fun _ _ _ _ _ _ us hl => match us, hl with | [_], _ => rfl
theorem gl_is_integer (c : Known fs fn K mg) : mg "is_integer" = some (.ref (He.fAd K ("is_integer", none))) := (c.glo 37)
theorem kp_is_integer (c : Known fs fn K mg) : PySem.W.keepIn K (.ref (He.fAd K ("is_integer", none))) = true := (c.dfn 0).kp
theorem bd_is_number (c : Known fs fn K mg) : Binds K (fdOf K ("is_number", none)) ["value", "low", "high"] [] := (c.dfn 1).bindsN fun _ _ _ _ _ _ us hl => match us, hl with | [_, _, _], _ => rfl
theorem gl_is_number (c : Known fs fn K mg) : mg "is_number" = some (.ref (He.fAd K ("is_number", none))) := (c.glo 38)
theorem kp_is_number (c : Known fs fn K mg) : PySem.W.keepIn K (.ref (He.fAd K ("is_number", none))) = true := (c.dfn 1).kp
theorem bd_is_word (c : Known fs fn K mg) : Binds K (fdOf K ("is_word", none)) ["value", "most"] [] := (c.dfn 2).bindsN fun _ _ _ _ _ _ us hl => match us, hl with | [_, _], _ => rfl
theorem gl_is_word (c : Known fs fn K mg) : mg "is_word" = some (.ref (He.fAd K ("is_word", none))) := (c.glo 39)
theorem kp_is_word (c : Known fs fn K mg) : PySem.W.keepIn K (.ref (He.fAd K ("is_word", none))) = true := (c.dfn 2).kp
theorem bd_is_name (c : Known fs fn K mg) : Binds K (fdOf K ("is_name", none)) ["value"] [] := (c.dfn 3).bindsN fun _ _ _ _ _ _ us hl => match us, hl with | [_], _ => rfl
theorem gl_is_name (c : Known fs fn K mg) : mg "is_name" = some (.ref (He.fAd K ("is_name", none))) := (c.glo 40)
theorem kp_is_name (c : Known fs fn K mg) : PySem.W.keepIn K (.ref (He.fAd K ("is_name", none))) = true := (c.dfn 3).kp
theorem bd_is_account (c : Known fs fn K mg) : Binds K (fdOf K ("is_account", none)) ["value"] [] := (c.dfn 4).bindsN fun _ _ _ _ _ _ us hl => match us, hl with | [_], _ => rfl
theorem gl_is_account (c : Known fs fn K mg) : mg "is_account" = some (.ref (He.fAd K ("is_account", none))) := (c.glo 41)
theorem kp_is_account (c : Known fs fn K mg) : PySem.W.keepIn K (.ref (He.fAd K ("is_account", none))) = true := (c.dfn 4).kp
theorem bd_is_row (c : Known fs fn K mg) : Binds K (fdOf K ("is_row", none)) ["value", "many"] [] := (c.dfn 5).bindsN fun _ _ _ _ _ _ us hl => match us, hl with | [_, _], _ => rfl
theorem gl_is_row (c : Known fs fn K mg) : mg "is_row" = some (.ref (He.fAd K ("is_row", none))) := (c.glo 42)
theorem kp_is_row (c : Known fs fn K mg) : PySem.W.keepIn K (.ref (He.fAd K ("is_row", none))) = true := (c.dfn 5).kp
theorem bd_ascends (c : Known fs fn K mg) : Binds K (fdOf K ("ascends", none)) ["row"] [] := (c.dfn 6).bindsN fun _ _ _ _ _ _ us hl => match us, hl with | [_], _ => rfl
theorem gl_ascends (c : Known fs fn K mg) : mg "ascends" = some (.ref (He.fAd K ("ascends", none))) := (c.glo 43)
theorem kp_ascends (c : Known fs fn K mg) : PySem.W.keepIn K (.ref (He.fAd K ("ascends", none))) = true := (c.dfn 6).kp
theorem bd_are_ascending (c : Known fs fn K mg) : Binds K (fdOf K ("are_ascending", none)) ["value", "low", "high"] [] := (c.dfn 7).bindsN fun _ _ _ _ _ _ us hl => match us, hl with | [_, _, _], _ => rfl
theorem gl_are_ascending (c : Known fs fn K mg) : mg "are_ascending" = some (.ref (He.fAd K ("are_ascending", none))) := (c.glo 44)
theorem kp_are_ascending (c : Known fs fn K mg) : PySem.W.keepIn K (.ref (He.fAd K ("are_ascending", none))) = true := (c.dfn 7).kp
theorem bd_number_in (c : Known fs fn K mg) : Binds K (fdOf K ("number_in", none)) ["word", "low", "high"] [] := (c.dfn 8).bindsN fun _ _ _ _ _ _ us hl => match us, hl with | [_, _, _], _ => rfl
theorem gl_number_in (c : Known fs fn K mg) : mg "number_in" = some (.ref (He.fAd K ("number_in", none))) := (c.glo 45)
theorem kp_number_in (c : Known fs fn K mg) : PySem.W.keepIn K (.ref (He.fAd K ("number_in", none))) = true := (c.dfn 8).kp
theorem bd_BookError___init__ (c : Known fs fn K mg) : Binds K (fdOf K ("BookError", some "__init__")) ["self", "value"] [] := (c.dfn 9).bindsN fun _ _ _ _ _ _ us hl => match us, hl with | [_, _], _ => rfl
theorem bd_read_account (c : Known fs fn K mg) : Binds K (fdOf K ("read_account", none)) ["line"] [] := (c.dfn 10).bindsN fun _ _ _ _ _ _ us hl => match us, hl with | [_], _ => rfl
theorem gl_read_account (c : Known fs fn K mg) : mg "read_account" = some (.ref (He.fAd K ("read_account", none))) := (c.glo 46)
theorem kp_read_account (c : Known fs fn K mg) : PySem.W.keepIn K (.ref (He.fAd K ("read_account", none))) = true := (c.dfn 10).kp
theorem bd_read_balance (c : Known fs fn K mg) : Binds K (fdOf K ("read_balance", none)) ["line", "word"] [] := (c.dfn 11).bindsN fun _ _ _ _ _ _ us hl => match us, hl with | [_, _], _ => rfl
theorem gl_read_balance (c : Known fs fn K mg) : mg "read_balance" = some (.ref (He.fAd K ("read_balance", none))) := (c.glo 47)
theorem kp_read_balance (c : Known fs fn K mg) : PySem.W.keepIn K (.ref (He.fAd K ("read_balance", none))) = true := (c.dfn 11).kp
theorem bd_read_posting (c : Known fs fn K mg) : Binds K (fdOf K ("read_posting", none)) ["line", "last"] [] := (c.dfn 12).bindsN fun _ _ _ _ _ _ us hl => match us, hl with | [_, _], _ => rfl
theorem gl_read_posting (c : Known fs fn K mg) : mg "read_posting" = some (.ref (He.fAd K ("read_posting", none))) := (c.glo 48)
theorem kp_read_posting (c : Known fs fn K mg) : PySem.W.keepIn K (.ref (He.fAd K ("read_posting", none))) = true := (c.dfn 12).kp
theorem bd_read_draft (c : Known fs fn K mg) : Binds K (fdOf K ("read_draft", none)) ["draft"] [] := (c.dfn 13).bindsN fun _ _ _ _ _ _ us hl => match us, hl with | [_], _ => rfl
theorem gl_read_draft (c : Known fs fn K mg) : mg "read_draft" = some (.ref (He.fAd K ("read_draft", none))) := (c.glo 49)
theorem kp_read_draft (c : Known fs fn K mg) : PySem.W.keepIn K (.ref (He.fAd K ("read_draft", none))) = true := (c.dfn 13).kp
theorem bd_is_draft (c : Known fs fn K mg) : Binds K (fdOf K ("is_draft", none)) ["value"] [] := (c.dfn 14).bindsN fun _ _ _ _ _ _ us hl => match us, hl with | [_], _ => rfl
theorem gl_is_draft (c : Known fs fn K mg) : mg "is_draft" = some (.ref (He.fAd K ("is_draft", none))) := (c.glo 50)
theorem kp_is_draft (c : Known fs fn K mg) : PySem.W.keepIn K (.ref (He.fAd K ("is_draft", none))) = true := (c.dfn 14).kp
theorem bd_numbers_in (c : Known fs fn K mg) : Binds K (fdOf K ("numbers_in", none)) ["draft"] [] := (c.dfn 15).bindsN fun _ _ _ _ _ _ us hl => match us, hl with | [_], _ => rfl
theorem gl_numbers_in (c : Known fs fn K mg) : mg "numbers_in" = some (.ref (He.fAd K ("numbers_in", none))) := (c.glo 51)
theorem kp_numbers_in (c : Known fs fn K mg) : PySem.W.keepIn K (.ref (He.fAd K ("numbers_in", none))) = true := (c.dfn 15).kp
theorem bd_offs_in (c : Known fs fn K mg) : Binds K (fdOf K ("offs_in", none)) ["numbers"] [] := (c.dfn 16).bindsN fun _ _ _ _ _ _ us hl => match us, hl with | [_], _ => rfl
theorem gl_offs_in (c : Known fs fn K mg) : mg "offs_in" = some (.ref (He.fAd K ("offs_in", none))) := (c.glo 52)
theorem kp_offs_in (c : Known fs fn K mg) : PySem.W.keepIn K (.ref (He.fAd K ("offs_in", none))) = true := (c.dfn 16).kp
theorem bd_adds_up (c : Known fs fn K mg) : Binds K (fdOf K ("adds_up", none)) ["draft"] [] := (c.dfn 17).bindsN fun _ _ _ _ _ _ us hl => match us, hl with | [_], _ => rfl
theorem gl_adds_up (c : Known fs fn K mg) : mg "adds_up" = some (.ref (He.fAd K ("adds_up", none))) := (c.glo 53)
theorem kp_adds_up (c : Known fs fn K mg) : PySem.W.keepIn K (.ref (He.fAd K ("adds_up", none))) = true := (c.dfn 17).kp
theorem bd_are_postings (c : Known fs fn K mg) : Binds K (fdOf K ("are_postings", none)) ["value"] [] := (c.dfn 18).bindsN fun _ _ _ _ _ _ us hl => match us, hl with | [_], _ => rfl
theorem gl_are_postings (c : Known fs fn K mg) : mg "are_postings" = some (.ref (He.fAd K ("are_postings", none))) := (c.glo 54)
theorem kp_are_postings (c : Known fs fn K mg) : PySem.W.keepIn K (.ref (He.fAd K ("are_postings", none))) = true := (c.dfn 18).kp
theorem bd_check_statement (c : Known fs fn K mg) : Binds K (fdOf K ("check_statement", none)) ["account", "before", "postings"] [] := (c.dfn 19).bindsN fun _ _ _ _ _ _ us hl => match us, hl with | [_, _, _], _ => rfl
theorem gl_check_statement (c : Known fs fn K mg) : mg "check_statement" = some (.ref (He.fAd K ("check_statement", none))) := (c.glo 55)
theorem kp_check_statement (c : Known fs fn K mg) : PySem.W.keepIn K (.ref (He.fAd K ("check_statement", none))) = true := (c.dfn 19).kp
theorem bd_text_of (c : Known fs fn K mg) : Binds K (fdOf K ("text_of", none)) ["account", "before", "postings"] [] := (c.dfn 20).bindsN fun _ _ _ _ _ _ us hl => match us, hl with | [_, _, _], _ => rfl
theorem gl_text_of (c : Known fs fn K mg) : mg "text_of" = some (.ref (He.fAd K ("text_of", none))) := (c.glo 56)
theorem kp_text_of (c : Known fs fn K mg) : PySem.W.keepIn K (.ref (He.fAd K ("text_of", none))) = true := (c.dfn 20).kp
theorem bd_statement_text (c : Known fs fn K mg) : Binds K (fdOf K ("statement_text", none)) ["account", "before", "postings"] [] := (c.dfn 21).bindsN fun _ _ _ _ _ _ us hl => match us, hl with | [_, _, _], _ => rfl
theorem gl_statement_text (c : Known fs fn K mg) : mg "statement_text" = some (.ref (He.fAd K ("statement_text", none))) := (c.glo 57)
theorem kp_statement_text (c : Known fs fn K mg) : PySem.W.keepIn K (.ref (He.fAd K ("statement_text", none))) = true := (c.dfn 21).kp
theorem bd_paged (c : Known fs fn K mg) : Binds K (fdOf K ("paged", none)) ["account", "before", "postings", "lines"] [] := (c.dfn 22).bindsN fun _ _ _ _ _ _ us hl => match us, hl with | [_, _, _, _], _ => rfl
theorem gl_paged (c : Known fs fn K mg) : mg "paged" = some (.ref (He.fAd K ("paged", none))) := (c.glo 58)
theorem kp_paged (c : Known fs fn K mg) : PySem.W.keepIn K (.ref (He.fAd K ("paged", none))) = true := (c.dfn 22).kp
theorem bd_goes_on (c : Known fs fn K mg) : Binds K (fdOf K ("goes_on", none)) ["ahead", "page"] [] := (c.dfn 23).bindsN fun _ _ _ _ _ _ us hl => match us, hl with | [_, _], _ => rfl
theorem gl_goes_on (c : Known fs fn K mg) : mg "goes_on" = some (.ref (He.fAd K ("goes_on", none))) := (c.glo 59)
theorem kp_goes_on (c : Known fs fn K mg) : PySem.W.keepIn K (.ref (He.fAd K ("goes_on", none))) = true := (c.dfn 23).kp
theorem bd_joined_pages (c : Known fs fn K mg) : Binds K (fdOf K ("joined_pages", none)) ["pages"] [] := (c.dfn 24).bindsN fun _ _ _ _ _ _ us hl => match us, hl with | [_], _ => rfl
theorem gl_joined_pages (c : Known fs fn K mg) : mg "joined_pages" = some (.ref (He.fAd K ("joined_pages", none))) := (c.glo 60)
theorem kp_joined_pages (c : Known fs fn K mg) : PySem.W.keepIn K (.ref (He.fAd K ("joined_pages", none))) = true := (c.dfn 24).kp
theorem bd__law_pot (c : Known fs fn K mg) : Binds K (fdOf K ("_law_pot", none)) ["script", "place"] [] := (c.dfn 25).bindsN fun _ _ _ _ _ _ us hl => match us, hl with | [_, _], _ => rfl
theorem gl__law_pot (c : Known fs fn K mg) : mg "_law_pot" = some (.ref (He.fAd K ("_law_pot", none))) := (c.glo 61)
theorem kp__law_pot (c : Known fs fn K mg) : PySem.W.keepIn K (.ref (He.fAd K ("_law_pot", none))) = true := (c.dfn 25).kp
theorem bd__law_take (c : Known fs fn K mg) : Binds K (fdOf K ("_law_take", none)) ["pot", "upto"] [] := (c.dfn 26).bindsN fun _ _ _ _ _ _ us hl => match us, hl with | [_, _], _ => rfl
theorem gl__law_take (c : Known fs fn K mg) : mg "_law_take" = some (.ref (He.fAd K ("_law_take", none))) := (c.glo 62)
theorem kp__law_take (c : Known fs fn K mg) : PySem.W.keepIn K (.ref (He.fAd K ("_law_take", none))) = true := (c.dfn 26).kp
theorem bd__law_of (c : Known fs fn K mg) : Binds K (fdOf K ("_law_of", none)) ["pot", "some"] [] := (c.dfn 27).bindsN fun _ _ _ _ _ _ us hl => match us, hl with | [_, _], _ => rfl
theorem gl__law_of (c : Known fs fn K mg) : mg "_law_of" = some (.ref (He.fAd K ("_law_of", none))) := (c.glo 63)
theorem kp__law_of (c : Known fs fn K mg) : PySem.W.keepIn K (.ref (He.fAd K ("_law_of", none))) = true := (c.dfn 27).kp
theorem bd__law_cells (c : Known fs fn K mg) : Binds K (fdOf K ("_law_cells", none)) ["script", "most"] [] := (c.dfn 28).bindsN fun _ _ _ _ _ _ us hl => match us, hl with | [_, _], _ => rfl
theorem gl__law_cells (c : Known fs fn K mg) : mg "_law_cells" = some (.ref (He.fAd K ("_law_cells", none))) := (c.glo 64)
theorem kp__law_cells (c : Known fs fn K mg) : PySem.W.keepIn K (.ref (He.fAd K ("_law_cells", none))) = true := (c.dfn 28).kp
theorem bd__law_sums (c : Known fs fn K mg) : Binds K (fdOf K ("_law_sums", none)) ["pot", "amount"] [] := (c.dfn 29).bindsN fun _ _ _ _ _ _ us hl => match us, hl with | [_, _], _ => rfl
theorem gl__law_sums (c : Known fs fn K mg) : mg "_law_sums" = some (.ref (He.fAd K ("_law_sums", none))) := (c.glo 65)
theorem kp__law_sums (c : Known fs fn K mg) : PySem.W.keepIn K (.ref (He.fAd K ("_law_sums", none))) = true := (c.dfn 29).kp
theorem bd__law_own_draft (c : Known fs fn K mg) : Binds K (fdOf K ("_law_own_draft", none)) ["pot", "most"] [] := (c.dfn 30).bindsN fun _ _ _ _ _ _ us hl => match us, hl with | [_, _], _ => rfl
theorem gl__law_own_draft (c : Known fs fn K mg) : mg "_law_own_draft" = some (.ref (He.fAd K ("_law_own_draft", none))) := (c.glo 66)
theorem kp__law_own_draft (c : Known fs fn K mg) : PySem.W.keepIn K (.ref (He.fAd K ("_law_own_draft", none))) = true := (c.dfn 30).kp
theorem bd__law_draft_text (c : Known fs fn K mg) : Binds K (fdOf K ("_law_draft_text", none)) ["own"] [] := (c.dfn 31).bindsN fun _ _ _ _ _ _ us hl => match us, hl with | [_], _ => rfl
theorem gl__law_draft_text (c : Known fs fn K mg) : mg "_law_draft_text" = some (.ref (He.fAd K ("_law_draft_text", none))) := (c.glo 67)
theorem kp__law_draft_text (c : Known fs fn K mg) : PySem.W.keepIn K (.ref (He.fAd K ("_law_draft_text", none))) = true := (c.dfn 31).kp
theorem bd__law_offs (c : Known fs fn K mg) : Binds K (fdOf K ("_law_offs", none)) ["own"] [] := (c.dfn 32).bindsN fun _ _ _ _ _ _ us hl => match us, hl with | [_], _ => rfl
theorem gl__law_offs (c : Known fs fn K mg) : mg "_law_offs" = some (.ref (He.fAd K ("_law_offs", none))) := (c.glo 68)
theorem kp__law_offs (c : Known fs fn K mg) : PySem.W.keepIn K (.ref (He.fAd K ("_law_offs", none))) = true := (c.dfn 32).kp
theorem bd__law_pages (c : Known fs fn K mg) : Binds K (fdOf K ("_law_pages", none)) ["own", "lines"] [] := (c.dfn 33).bindsN fun _ _ _ _ _ _ us hl => match us, hl with | [_, _], _ => rfl
theorem gl__law_pages (c : Known fs fn K mg) : mg "_law_pages" = some (.ref (He.fAd K ("_law_pages", none))) := (c.glo 69)
theorem kp__law_pages (c : Known fs fn K mg) : PySem.W.keepIn K (.ref (He.fAd K ("_law_pages", none))) = true := (c.dfn 33).kp
theorem bd__law_number_of_pages (c : Known fs fn K mg) : Binds K (fdOf K ("_law_number_of_pages", none)) ["pages"] [] := (c.dfn 34).bindsN fun _ _ _ _ _ _ us hl => match us, hl with | [_], _ => rfl
theorem gl__law_number_of_pages (c : Known fs fn K mg) : mg "_law_number_of_pages" = some (.ref (He.fAd K ("_law_number_of_pages", none))) := (c.glo 70)
theorem kp__law_number_of_pages (c : Known fs fn K mg) : PySem.W.keepIn K (.ref (He.fAd K ("_law_number_of_pages", none))) = true := (c.dfn 34).kp
theorem bd__law_bent (c : Known fs fn K mg) : Binds K (fdOf K ("_law_bent", none)) ["pot", "texts"] [] := (c.dfn 35).bindsN fun _ _ _ _ _ _ us hl => match us, hl with | [_, _], _ => rfl
theorem gl__law_bent (c : Known fs fn K mg) : mg "_law_bent" = some (.ref (He.fAd K ("_law_bent", none))) := (c.glo 71)
theorem kp__law_bent (c : Known fs fn K mg) : PySem.W.keepIn K (.ref (He.fAd K ("_law_bent", none))) = true := (c.dfn 35).kp
theorem bd__law_right (c : Known fs fn K mg) : Binds K (fdOf K ("_law_right", none)) ["pot"] [] := (c.dfn 36).bindsN fun _ _ _ _ _ _ us hl => match us, hl with | [_], _ => rfl
theorem gl__law_right (c : Known fs fn K mg) : mg "_law_right" = some (.ref (He.fAd K ("_law_right", none))) := (c.glo 72)
theorem kp__law_right (c : Known fs fn K mg) : PySem.W.keepIn K (.ref (He.fAd K ("_law_right", none))) = true := (c.dfn 36).kp
theorem bd_law (c : Known fs fn K mg) : Binds K (fdOf K ("law", none)) ["script"] [] := (c.dfn 37).bindsN fun _ _ _ _ _ _ us hl => match us, hl with | [_], _ => rfl
theorem gl_law (c : Known fs fn K mg) : mg "law" = some (.ref (He.fAd K ("law", none))) := (c.glo 73)
theorem kp_law (c : Known fs fn K mg) : PySem.W.keepIn K (.ref (He.fAd K ("law", none))) = true := (c.dfn 37).kp
def kg_adds_up_0_draft {α : Type} : List α → List α → List α
  | [], [b0] => [b0]
  | _, _ => []
theorem mx_adds_up_0_draft : Mix kg_adds_up_0_draft := by
  refine ⟨fun {vs us zs ws} r q => ?_, fun {H st vs us zs ws} r q => ?_⟩
  · unfold kg_adds_up_0_draft
    split
    · cases r
      obtain _ | ⟨q0, q⟩ := q
      cases q
      exact .cons q0 .nil
    · rename_i hno
      split
      · exfalso; cases r; obtain _ | ⟨_, q⟩ := q; cases q; exact hno _ rfl rfl
      · exact .nil
  · unfold kg_adds_up_0_draft
    split
    · cases r
      obtain _ | ⟨q0, q⟩ := q
      cases q
      exact .cons q0 .nil
    · rename_i hno
      split
      · exfalso; cases r; obtain _ | ⟨_, q⟩ := q; cases q; exact hno _ rfl rfl
      · exact .nil
theorem kb_adds_up_0_draft (c : Known fs fn K mg) : KBinds K (DL.fdOf K ("adds_up", none)) ["draft"] ["draft"] kg_adds_up_0_draft kg_adds_up_0_draft := kbOf (c.dfn 17) (fun _ _ _ _ _ _ us ws hl => by
    unfold kg_adds_up_0_draft at hl ⊢
    split at hl
    · rfl
    · cases hl) mx_adds_up_0_draft.vals
def kg_joined_pages_0_pages {α : Type} : List α → List α → List α
  | [], [b0] => [b0]
  | _, _ => []
theorem mx_joined_pages_0_pages : Mix kg_joined_pages_0_pages := by
  refine ⟨fun {vs us zs ws} r q => ?_, fun {H st vs us zs ws} r q => ?_⟩
  · unfold kg_joined_pages_0_pages
    split
    · cases r
      obtain _ | ⟨q0, q⟩ := q
      cases q
      exact .cons q0 .nil
    · rename_i hno
      split
      · exfalso; cases r; obtain _ | ⟨_, q⟩ := q; cases q; exact hno _ rfl rfl
      · exact .nil
  · unfold kg_joined_pages_0_pages
    split
    · cases r
      obtain _ | ⟨q0, q⟩ := q
      cases q
      exact .cons q0 .nil
    · rename_i hno
      split
      · exfalso; cases r; obtain _ | ⟨_, q⟩ := q; cases q; exact hno _ rfl rfl
      · exact .nil
theorem kb_joined_pages_0_pages (c : Known fs fn K mg) : KBinds K (DL.fdOf K ("joined_pages", none)) ["pages"] ["pages"] kg_joined_pages_0_pages kg_joined_pages_0_pages := kbOf (c.dfn 24) (fun _ _ _ _ _ _ us ws hl => by
    unfold kg_joined_pages_0_pages at hl ⊢
    split at hl
    · rfl
    · cases hl) mx_joined_pages_0_pages.vals
def kg_paged_0_lines_postings_before_account {α : Type} : List α → List α → List α
  | [], [b0, b1, b2, b3] => [b3, b2, b1, b0]
  | _, _ => []
theorem mx_paged_0_lines_postings_before_account : Mix kg_paged_0_lines_postings_before_account := by
  refine ⟨fun {vs us zs ws} r q => ?_, fun {H st vs us zs ws} r q => ?_⟩
  · unfold kg_paged_0_lines_postings_before_account
    split
    · cases r
      obtain _ | ⟨q0, q⟩ := q
      obtain _ | ⟨q1, q⟩ := q
      obtain _ | ⟨q2, q⟩ := q
      obtain _ | ⟨q3, q⟩ := q
      cases q
      exact .cons q3 (.cons q2 (.cons q1 (.cons q0 .nil)))
    · rename_i hno
      split
      · exfalso; cases r; obtain _ | ⟨_, q⟩ := q; obtain _ | ⟨_, q⟩ := q; obtain _ | ⟨_, q⟩ := q; obtain _ | ⟨_, q⟩ := q; cases q; exact hno _ _ _ _ rfl rfl
      · exact .nil
  · unfold kg_paged_0_lines_postings_before_account
    split
    · cases r
      obtain _ | ⟨q0, q⟩ := q
      obtain _ | ⟨q1, q⟩ := q
      obtain _ | ⟨q2, q⟩ := q
      obtain _ | ⟨q3, q⟩ := q
      cases q
      exact .cons q3 (.cons q2 (.cons q1 (.cons q0 .nil)))
    · rename_i hno
      split
      · exfalso; cases r; obtain _ | ⟨_, q⟩ := q; obtain _ | ⟨_, q⟩ := q; obtain _ | ⟨_, q⟩ := q; obtain _ | ⟨_, q⟩ := q; cases q; exact hno _ _ _ _ rfl rfl
      · exact .nil
theorem kb_paged_0_lines_postings_before_account (c : Known fs fn K mg) : KBinds K (DL.fdOf K ("paged", none)) ["account", "before", "postings", "lines"] ["lines", "postings", "before", "account"] kg_paged_0_lines_postings_before_account kg_paged_0_lines_postings_before_account := kbOf (c.dfn 22) (fun _ _ _ _ _ _ us ws hl => by
    unfold kg_paged_0_lines_postings_before_account at hl ⊢
    split at hl
    · rfl
    · cases hl) mx_paged_0_lines_postings_before_account.vals
def kg_read_draft_0_draft {α : Type} : List α → List α → List α
  | [], [b0] => [b0]
  | _, _ => []
theorem mx_read_draft_0_draft : Mix kg_read_draft_0_draft := by
  refine ⟨fun {vs us zs ws} r q => ?_, fun {H st vs us zs ws} r q => ?_⟩
  · unfold kg_read_draft_0_draft
    split
    · cases r
      obtain _ | ⟨q0, q⟩ := q
      cases q
      exact .cons q0 .nil
    · rename_i hno
      split
      · exfalso; cases r; obtain _ | ⟨_, q⟩ := q; cases q; exact hno _ rfl rfl
      · exact .nil
  · unfold kg_read_draft_0_draft
    split
    · cases r
      obtain _ | ⟨q0, q⟩ := q
      cases q
      exact .cons q0 .nil
    · rename_i hno
      split
      · exfalso; cases r; obtain _ | ⟨_, q⟩ := q; cases q; exact hno _ rfl rfl
      · exact .nil
theorem kb_read_draft_0_draft (c : Known fs fn K mg) : KBinds K (DL.fdOf K ("read_draft", none)) ["draft"] ["draft"] kg_read_draft_0_draft kg_read_draft_0_draft := kbOf (c.dfn 13) (fun _ _ _ _ _ _ us ws hl => by
    unfold kg_read_draft_0_draft at hl ⊢
    split at hl
    · rfl
    · cases hl) mx_read_draft_0_draft.vals
def kg_statement_text_0_postings_before_account {α : Type} : List α → List α → List α
  | [], [b0, b1, b2] => [b2, b1, b0]
  | _, _ => []
theorem mx_statement_text_0_postings_before_account : Mix kg_statement_text_0_postings_before_account := by
  refine ⟨fun {vs us zs ws} r q => ?_, fun {H st vs us zs ws} r q => ?_⟩
  · unfold kg_statement_text_0_postings_before_account
    split
    · cases r
      obtain _ | ⟨q0, q⟩ := q
      obtain _ | ⟨q1, q⟩ := q
      obtain _ | ⟨q2, q⟩ := q
      cases q
      exact .cons q2 (.cons q1 (.cons q0 .nil))
    · rename_i hno
      split
      · exfalso; cases r; obtain _ | ⟨_, q⟩ := q; obtain _ | ⟨_, q⟩ := q; obtain _ | ⟨_, q⟩ := q; cases q; exact hno _ _ _ rfl rfl
      · exact .nil
  · unfold kg_statement_text_0_postings_before_account
    split
    · cases r
      obtain _ | ⟨q0, q⟩ := q
      obtain _ | ⟨q1, q⟩ := q
      obtain _ | ⟨q2, q⟩ := q
      cases q
      exact .cons q2 (.cons q1 (.cons q0 .nil))
    · rename_i hno
      split
      · exfalso; cases r; obtain _ | ⟨_, q⟩ := q; obtain _ | ⟨_, q⟩ := q; obtain _ | ⟨_, q⟩ := q; cases q; exact hno _ _ _ rfl rfl
      · exact .nil
theorem kb_statement_text_0_postings_before_account (c : Known fs fn K mg) : KBinds K (DL.fdOf K ("statement_text", none)) ["account", "before", "postings"] ["postings", "before", "account"] kg_statement_text_0_postings_before_account kg_statement_text_0_postings_before_account := kbOf (c.dfn 21) (fun _ _ _ _ _ _ us ws hl => by
    unfold kg_statement_text_0_postings_before_account at hl ⊢
    split at hl
    · rfl
    · cases hl) mx_statement_text_0_postings_before_account.vals
theorem sc_is_integer : FnScope ["value"] ["value"] d_is_integer.scope := ⟨rfl, rfl, rfl, by decide +kernel, rfl, by decide +kernel, by decide +kernel⟩
def W_is_integer (K : Fr)  : WS := (wRet (wAndV (wCB oIsT (wCons (wVar 0) (wCons (wC (.ty "int")) wNil))) (wNotV (wCB oIsT (wCons (wVar 0) (wCons (wC (.ty "bool")) wNil))))))
theorem D_is_integer (c : Known fs fn K mg) {ct : CT}  (pf : ∀ ds s Kd Kx, ds.length = 1 → ct ds s Kd Kx → W_is_integer K  (endsOf Kd Kx) ⟨startD 1 ds, s⟩) :
    DFn P w K mg base 1 (He.fAd K ("is_integer", none)) (fdOf K ("is_integer", none)) ["value"] ct := okF (c.dfn 0) sc_is_integer (fun cdv A outer s H E hG hr tk hp => have hN := sc_is_integer.nd
      ((dss_one (ds_ret (de_and (de_callB call_isi son_isT (c.free 1) (da_cons (de_var 0) (da_cons (de_ty (c.free 2)) da_nil))) (de_bool1 (de_not (de_callB call_isi son_isT (c.free 1) (da_cons (de_var 0) (da_cons (de_ty (c.free 0)) da_nil)))))))) : DSs _ _ d_is_integer.body (W_is_integer K ))) pf
theorem sc_is_number : FnScope ["value", "low", "high"] ["value", "low", "high"] d_is_number.scope := ⟨rfl, rfl, rfl, by decide +kernel, rfl, by decide +kernel, by decide +kernel⟩
def W_is_number (K : Fr) (ct_is_integer : CT) : WS := (wRet (wAndV (wCall 1 ct_is_integer (wCons (wVar 0) wNil)) (wChain oLe oLe (wVar 1) (wVar 0) (wVar 2))))
theorem D_is_number (c : Known fs fn K mg) {ct_is_integer ct : CT} (F_is_integer : DFn P w K mg base 1 (He.fAd K ("is_integer", none)) (fdOf K ("is_integer", none)) ["value"] ct_is_integer) (pf : ∀ ds s Kd Kx, ds.length = 3 → ct ds s Kd Kx → W_is_number K ct_is_integer (endsOf Kd Kx) ⟨startD 3 ds, s⟩) :
    DFn P w K mg base 2 (He.fAd K ("is_number", none)) (fdOf K ("is_number", none)) ["value", "low", "high"] ct := okF (c.dfn 1) sc_is_number (fun cdv A outer s H E hG hr tk hp => have hN := sc_is_number.nd
      ((dss_one (ds_ret (de_and (de_call F_is_integer hG (hr.mono (by decide)) (gl_is_integer c) (kp_is_integer c) (bd_is_integer c) tk (da_cons (de_var 0) da_nil)) (de_bool1 (de_chain op_leD op_leD so_ord so_ord (de_var 1) (de_var 0) (de_var 2)))))) : DSs _ _ d_is_number.body (W_is_number K ct_is_integer))) pf
theorem sc_is_word : FnScope ["value", "most"] ["value", "most"] d_is_word.scope := ⟨rfl, rfl, rfl, by decide +kernel, rfl, by decide +kernel, by decide +kernel⟩
def W_is_word (K : Fr)  : WS := (wSeq (wIfS (wOrT (wNotT (wTru (wCB oIsT (wCons (wVar 0) (wCons (wC (.ty "str")) wNil))))) (wNotT (wB (wChain oLe oLe (wC (.int 1)) (wCB oLen (wCons (wVar 0) wNil)) (wVar 1))))) (wRet (wC (.bl false))) wSkip) (wRet (wAndV (wBM0 "str" (oS0 Txt.isascii) (wVar 0)) (wAndV (wBM0 "str" (oS0 Txt.isalpha) (wVar 0)) (wBM0 "str" (oS0 Txt.islower) (wVar 0))))))
theorem D_is_word (c : Known fs fn K mg) {ct : CT}  (pf : ∀ ds s Kd Kx, ds.length = 2 → ct ds s Kd Kx → W_is_word K  (endsOf Kd Kx) ⟨startD 2 ds, s⟩) :
    DFn P w K mg base 1 (He.fAd K ("is_word", none)) (fdOf K ("is_word", none)) ["value", "most"] ct := okF (c.dfn 2) sc_is_word (fun cdv A outer s H E hG hr tk hp => have hN := sc_is_word.nd
      ((dss_cons (ds_if (DW.dt (dw_or (dt_not (dt_truth (de_callB call_isi son_isT (c.free 1) (da_cons (de_var 0) (da_cons (de_ty (c.free 4)) da_nil))))) (dw_or1 (dt_not (dt_chain op_leD op_leD so_ord so_ord de_int (de_callB call_lenA son_len (c.free 3) (da_cons (de_var 0) da_nil)) (de_var 1)))))) (dss_one (ds_ret de_bl)) dss_nil) (dss_one (ds_ret (de_and (de_bm0 PySem.F.plainAttrs_str PySem.F.slot_str_isascii PySem.F.type_str_isascii mt_isascii sm_S0 (de_var 0)) (de_and (de_bm0 PySem.F.plainAttrs_str PySem.F.slot_str_isalpha PySem.F.type_str_isalpha mt_isalpha sm_S0 (de_var 0)) (de_bool1 (de_bm0 PySem.F.plainAttrs_str PySem.F.slot_str_islower PySem.F.type_str_islower mt_islower sm_S0 (de_var 0)))))))) : DSs _ _ d_is_word.body (W_is_word K ))) pf
theorem sc_is_name : FnScope ["value"] ["value"] d_is_name.scope := ⟨rfl, rfl, rfl, by decide +kernel, rfl, by decide +kernel, by decide +kernel⟩
def W_is_name (K : Fr) (ct_is_word : CT) : WS := (wRet (wCall 2 ct_is_word (wCons (wVar 0) (wCons (wC (.int (8))) wNil))))
theorem D_is_name (c : Known fs fn K mg) {ct_is_word ct : CT} (F_is_word : DFn P w K mg base 1 (He.fAd K ("is_word", none)) (fdOf K ("is_word", none)) ["value", "most"] ct_is_word) (pf : ∀ ds s Kd Kx, ds.length = 1 → ct ds s Kd Kx → W_is_name K ct_is_word (endsOf Kd Kx) ⟨startD 1 ds, s⟩) :
    DFn P w K mg base 2 (He.fAd K ("is_name", none)) (fdOf K ("is_name", none)) ["value"] ct := okF (c.dfn 3) sc_is_name (fun cdv A outer s H E hG hr tk hp => have hN := sc_is_name.nd
      ((dss_one (ds_ret (de_call F_is_word hG (hr.mono (by decide)) (gl_is_word c) (kp_is_word c) (bd_is_word c) tk (da_cons (de_var 0) (da_cons (de_gint (c.int 5)) da_nil))))) : DSs _ _ d_is_name.body (W_is_name K ct_is_word))) pf
theorem sc_is_account : FnScope ["value", "parts"] ["value"] d_is_account.scope := ⟨rfl, rfl, rfl, by decide +kernel, rfl, by decide +kernel, by decide +kernel⟩
def W_is_account (K : Fr) (ct_is_name : CT) : WS := (wSeq (wIfS (wNotT (wTru (wCB oIsT (wCons (wVar 0) (wCons (wC (.ty "str")) wNil))))) (wRet (wC (.bl false))) wSkip) (wSeq (wSet 1 (wBM "str" (oSplit false) (wVar 0) (wCons (wC (.str ".")) wNil))) (wRet (wAndV (wOp2 oEq (wCB oLen (wCons (wVar 1) wNil)) (wC (.int 2))) (wAndV (wCall 1 ct_is_name (wCons (wOp2 oIx (wVar 1) (wC (.int 0))) wNil)) (wCall 1 ct_is_name (wCons (wOp2 oIx (wVar 1) (wC (.int 1))) wNil)))))))
theorem D_is_account (c : Known fs fn K mg) {ct_is_name ct : CT} (F_is_name : DFn P w K mg base 2 (He.fAd K ("is_name", none)) (fdOf K ("is_name", none)) ["value"] ct_is_name) (pf : ∀ ds s Kd Kx, ds.length = 1 → ct ds s Kd Kx → W_is_account K ct_is_name (endsOf Kd Kx) ⟨startD 2 ds, s⟩) :
    DFn P w K mg base 3 (He.fAd K ("is_account", none)) (fdOf K ("is_account", none)) ["value"] ct := okF (c.dfn 4) sc_is_account (fun cdv A outer s H E hG hr tk hp => have hN := sc_is_account.nd
      ((dss_cons (ds_if (dt_not (dt_truth (de_callB call_isi son_isT (c.free 1) (da_cons (de_var 0) (da_cons (de_ty (c.free 4)) da_nil))))) (dss_one (ds_ret de_bl)) dss_nil) (dss_cons (ds_set 1 hN (de_bm PySem.F.plainAttrs_str PySem.F.slot_str_split PySem.F.type_str_split mt_split (sm_split (b := false)) (de_var 0) (da_cons de_str da_nil))) (dss_one (ds_ret (de_and (de_cmp (op_eqA hr.units) so_eq (de_callB call_lenA son_len (c.free 3) (da_cons (de_var 1) da_nil)) de_int) (de_and (de_call F_is_name hG (hr.mono (by decide)) (gl_is_name c) (kp_is_name c) (bd_is_name c) tk (da_cons (de_ix (de_var 1) de_int) da_nil)) (de_bool1 (de_call F_is_name hG (hr.mono (by decide)) (gl_is_name c) (kp_is_name c) (bd_is_name c) tk (da_cons (de_ix (de_var 1) de_int) da_nil))))))))) : DSs _ _ d_is_account.body (W_is_account K ct_is_name))) pf
theorem sc_is_row : FnScope ["value", "many"] ["value", "many"] d_is_row.scope := ⟨rfl, rfl, rfl, by decide +kernel, rfl, by decide +kernel, by decide +kernel⟩
def W_is_row (K : Fr)  : WS := (wRet (wAndV (wCB oIsT (wCons (wVar 0) (wCons (wC (.ty "tuple")) wNil))) (wOp2 oEq (wCB oLen (wCons (wVar 0) wNil)) (wVar 1))))
theorem D_is_row (c : Known fs fn K mg) {ct : CT}  (pf : ∀ ds s Kd Kx, ds.length = 2 → ct ds s Kd Kx → W_is_row K  (endsOf Kd Kx) ⟨startD 2 ds, s⟩) :
    DFn P w K mg base 1 (He.fAd K ("is_row", none)) (fdOf K ("is_row", none)) ["value", "many"] ct := okF (c.dfn 5) sc_is_row (fun cdv A outer s H E hG hr tk hp => have hN := sc_is_row.nd
      ((dss_one (ds_ret (de_and (de_callB call_isi son_isT (c.free 1) (da_cons (de_var 0) (da_cons (de_ty (c.free 6)) da_nil))) (de_bool1 (de_cmp (op_eqA hr.units) so_eq (de_callB call_lenA son_len (c.free 3) (da_cons (de_var 0) da_nil)) (de_var 1)))))) : DSs _ _ d_is_row.body (W_is_row K ))) pf
theorem sc_ascends : FnScope ["row", "at"] ["row"] d_ascends.scope := ⟨rfl, rfl, rfl, by decide +kernel, rfl, by decide +kernel, by decide +kernel⟩
def W_ascends (K : Fr)  : WS := (wRet (wCB oAll (wCons (wLc false [1] (wRng2 (wCons (wC (.int 1)) (wCons (wCB oLen (wCons (wVar 0) wNil)) wNil))) (wName 1) wYes (wOp2 oLt (wOp2 oIx (wVar 0) (wOp2 (oI0 fun i j => i - j) (wVar 1) (wC (.int 1)))) (wOp2 oIx (wVar 0) (wVar 1)))) wNil)))
theorem D_ascends (c : Known fs fn K mg) {ct : CT}  (pf : ∀ ds s Kd Kx, ds.length = 1 → ct ds s Kd Kx → W_ascends K  (endsOf Kd Kx) ⟨startD 2 ds, s⟩) :
    DFn P w K mg base 1 (He.fAd K ("ascends", none)) (fdOf K ("ascends", none)) ["row"] ct := okF (c.dfn 6) sc_ascends (fun cdv A outer s H E hG hr tk hp => have hN := sc_ascends.nd
      ((dss_one (ds_ret (de_callB (cr_all rfl) son_all (c.free 8) (da_cons (de_lc false (own := [("at", 1)]) rfl hN (blkOk_by (N := ["row", "at"]) (sc := d_ascends.scope) (by decide +kernel)) (di_range2 (c.free 7) (da_cons de_int (da_cons (de_callB call_lenA son_len (c.free 3) (da_cons (de_var 0) da_nil)) da_nil))) (fun _ _ _ _ _ => (dg_name 1 hN)) (fun _ _ _ _ _ => dts_nil) (fun _ _ _ _ _ => (de_cmp op_ltD so_ord (de_ix (de_var 0) (de_op op_sub (so_I0 (f := fun i j => i - j)) (de_var 1) de_int)) (de_ix (de_var 0) (de_var 1))))) da_nil)))) : DSs _ _ d_ascends.body (W_ascends K ))) pf
theorem sc_are_ascending : FnScope ["value", "low", "high", "part"] ["value", "low", "high"] d_are_ascending.scope := ⟨rfl, rfl, rfl, by decide +kernel, rfl, by decide +kernel, by decide +kernel⟩
def W_are_ascending (K : Fr) (ct_ascends ct_is_number : CT) : WS := (wRet (wAndV (wCB oIsT (wCons (wVar 0) (wCons (wC (.ty "tuple")) wNil))) (wAndV (wCB oAll (wCons (wLc false [3] (wIt (wVar 0)) (wName 3) wYes (wCall 3 ct_is_number (wCons (wVar 3) (wCons (wVar 1) (wCons (wVar 2) wNil))))) wNil)) (wCall 1 ct_ascends (wCons (wVar 0) wNil)))))
theorem D_are_ascending (c : Known fs fn K mg) {ct_ascends ct_is_number ct : CT} (F_ascends : DFn P w K mg base 1 (He.fAd K ("ascends", none)) (fdOf K ("ascends", none)) ["row"] ct_ascends) (F_is_number : DFn P w K mg base 2 (He.fAd K ("is_number", none)) (fdOf K ("is_number", none)) ["value", "low", "high"] ct_is_number) (pf : ∀ ds s Kd Kx, ds.length = 3 → ct ds s Kd Kx → W_are_ascending K ct_ascends ct_is_number (endsOf Kd Kx) ⟨startD 4 ds, s⟩) :
    DFn P w K mg base 3 (He.fAd K ("are_ascending", none)) (fdOf K ("are_ascending", none)) ["value", "low", "high"] ct := okF (c.dfn 7) sc_are_ascending (fun cdv A outer s H E hG hr tk hp => have hN := sc_are_ascending.nd
      ((dss_one (ds_ret (de_and (de_callB call_isi son_isT (c.free 1) (da_cons (de_var 0) (da_cons (de_ty (c.free 6)) da_nil))) (de_and (de_callB (cr_all rfl) son_all (c.free 8) (da_cons (de_lc false (own := [("part", 3)]) rfl hN (blkOk_by (N := ["value", "low", "high", "part"]) (sc := d_are_ascending.scope) (by decide +kernel)) (di_any (de_var 0)) (fun _ _ _ _ _ => (dg_name 3 hN)) (fun _ _ _ _ _ => dts_nil) (fun _ _ _ _ _ => (de_call F_is_number (by exact hG) (by exact hr.mono (by decide)) (gl_is_number c) (kp_is_number c) (bd_is_number c) takes0 (da_cons (de_var 3) (da_cons (de_var 1) (da_cons (de_var 2) da_nil)))))) da_nil)) (de_bool1 (de_call F_ascends hG (hr.mono (by decide)) (gl_ascends c) (kp_ascends c) (bd_ascends c) tk (da_cons (de_var 0) da_nil))))))) : DSs _ _ d_are_ascending.body (W_are_ascending K ct_ascends ct_is_number))) pf
theorem sc_number_in : FnScope ["word", "low", "high", "figures", "number"] ["word", "low", "high"] d_number_in.scope := ⟨rfl, rfl, rfl, by decide +kernel, rfl, by decide +kernel, by decide +kernel⟩
def W_number_in (K : Fr)  : WS := (wSeq (wSet 3 (wIf (wTru (wBM "str" (oS1 Txt.startswith) (wVar 0) (wCons (wC (.str "-")) wNil))) (wSlA false (wVar 0) (wPS (wC (.int 1))) wPN) (wVar 0))) (wSeq (wIfS (wOrT (wB (wOp2 oGt (wCB oLen (wCons (wVar 3) wNil)) (wC (.int (40))))) (wOrT (wNotT (wTru (wBM0 "str" (oS0 Txt.isascii) (wVar 3)))) (wNotT (wTru (wBM0 "str" (oS0 Txt.isdigit) (wVar 3)))))) (wRet (wC .non)) wSkip) (wSeq (wSet 4 (wCB oInt (wCons (wVar 0) wNil))) (wSeq (wIfS (wOrT (wB (wOp2 oNe (wCB oStr (wCons (wVar 4) wNil)) (wVar 0))) (wNotT (wB (wChain oLe oLe (wVar 1) (wVar 4) (wVar 2))))) (wRet (wC .non)) wSkip) (wRet (wVar 4))))))
theorem D_number_in (c : Known fs fn K mg) {ct : CT}  (pf : ∀ ds s Kd Kx, ds.length = 3 → ct ds s Kd Kx → W_number_in K  (endsOf Kd Kx) ⟨startD 5 ds, s⟩) :
    DFn P w K mg base 1 (He.fAd K ("number_in", none)) (fdOf K ("number_in", none)) ["word", "low", "high"] ct := okF (c.dfn 8) sc_number_in (fun cdv A outer s H E hG hr tk hp => have hN := sc_number_in.nd
      ((dss_cons (ds_set 3 hN (de_if (dt_truth (de_bm PySem.F.plainAttrs_str PySem.F.slot_str_startswith PySem.F.type_str_startswith mt_startswith sm_S1 (de_var 0) (da_cons de_str da_nil))) (de_slA false (de_var 0) (dp_some de_int) dp_none) (de_var 0))) (dss_cons (ds_if (DW.dt (dw_or (dt_cmp op_gtD so_ord (de_callB call_lenA son_len (c.free 3) (da_cons (de_var 3) da_nil)) (de_gint (c.int 9))) (dw_or (dt_not (dt_truth (de_bm0 PySem.F.plainAttrs_str PySem.F.slot_str_isascii PySem.F.type_str_isascii mt_isascii sm_S0 (de_var 3)))) (dw_or1 (dt_not (dt_truth (de_bm0 PySem.F.plainAttrs_str PySem.F.slot_str_isdigit PySem.F.type_str_isdigit mt_isdigit sm_S0 (de_var 3)))))))) (dss_one (ds_ret de_non)) dss_nil) (dss_cons (ds_set 4 hN (de_callTy call_intA son_int (c.free 2) (da_cons (de_var 0) da_nil))) (dss_cons (ds_if (DW.dt (dw_or (dt_cmp (op_neA hr.units) so_ne (de_callTy call_strA son_str (c.free 4) (da_cons (de_var 4) da_nil)) (de_var 0)) (dw_or1 (dt_not (dt_chain op_leD op_leD so_ord so_ord (de_var 1) (de_var 4) (de_var 2)))))) (dss_one (ds_ret de_non)) dss_nil) (dss_one (ds_ret (de_var 4))))))) : DSs _ _ d_number_in.body (W_number_in K ))) pf
theorem sc_BookError___init__ : FnScope ["self", "value"] ["self", "value"] d_BookError___init__.scope := ⟨rfl, rfl, rfl, by decide +kernel, rfl, by decide +kernel, by decide +kernel⟩
theorem okX_BookError (c : Known fs fn K mg) : FnOk P w K mg base (L2.CX P w) 1 (He.ma K (He.ga K "BookError") "__init__") (fdOf K ("BookError", some "__init__")) ["self", "value"] (spXI K) := okXF (c.dfn 9) sc_BookError___init__ (hb := rfl) rfl rfl
theorem sc_read_account : FnScope ["line", "words"] ["line"] d_read_account.scope := ⟨rfl, rfl, rfl, by decide +kernel, rfl, by decide +kernel, by decide +kernel⟩
def W_read_account (K : Fr) (ct_is_account : CT) : WS := (wSeq (wSet 1 (wBM "str" (oSplit false) (wVar 0) (wCons (wC (.str " ")) wNil))) (wSeq (wIfS (wOrT (wB (wOp2 oNe (wCB oLen (wCons (wVar 1) wNil)) (wC (.int 2)))) (wOrT (wB (wOp2 oNe (wOp2 oIx (wVar 1) (wC (.int 0))) (wC (.str "statement")))) (wNotT (wTru (wCall 1 ct_is_account (wCons (wOp2 oIx (wVar 1) (wC (.int 1))) wNil)))))) (wRet (wC .non)) wSkip) (wRet (wOp2 oIx (wVar 1) (wC (.int 1))))))
theorem D_read_account (c : Known fs fn K mg) {ct_is_account ct : CT} (F_is_account : DFn P w K mg base 3 (He.fAd K ("is_account", none)) (fdOf K ("is_account", none)) ["value"] ct_is_account) (pf : ∀ ds s Kd Kx, ds.length = 1 → ct ds s Kd Kx → W_read_account K ct_is_account (endsOf Kd Kx) ⟨startD 2 ds, s⟩) :
    DFn P w K mg base 4 (He.fAd K ("read_account", none)) (fdOf K ("read_account", none)) ["line"] ct := okF (c.dfn 10) sc_read_account (fun cdv A outer s H E hG hr tk hp => have hN := sc_read_account.nd
      ((dss_cons (ds_set 1 hN (de_bm PySem.F.plainAttrs_str PySem.F.slot_str_split PySem.F.type_str_split mt_split (sm_split (b := false)) (de_var 0) (da_cons de_str da_nil))) (dss_cons (ds_if (DW.dt (dw_or (dt_cmp (op_neA hr.units) so_ne (de_callB call_lenA son_len (c.free 3) (da_cons (de_var 1) da_nil)) de_int) (dw_or (dt_cmp (op_neA hr.units) so_ne (de_ix (de_var 1) de_int) de_str) (dw_or1 (dt_not (dt_truth (de_call F_is_account hG (hr.mono (by decide)) (gl_is_account c) (kp_is_account c) (bd_is_account c) tk (da_cons (de_ix (de_var 1) de_int) da_nil)))))))) (dss_one (ds_ret de_non)) dss_nil) (dss_one (ds_ret (de_ix (de_var 1) de_int))))) : DSs _ _ d_read_account.body (W_read_account K ct_is_account))) pf
theorem sc_read_balance : FnScope ["line", "word", "words"] ["line", "word"] d_read_balance.scope := ⟨rfl, rfl, rfl, by decide +kernel, rfl, by decide +kernel, by decide +kernel⟩
def W_read_balance (K : Fr) (ct_number_in : CT) : WS := (wSeq (wSet 2 (wBM "str" (oSplit false) (wVar 0) (wCons (wC (.str " ")) wNil))) (wSeq (wIfS (wOrT (wB (wOp2 oNe (wCB oLen (wCons (wVar 2) wNil)) (wC (.int 2)))) (wB (wOp2 oNe (wOp2 oIx (wVar 2) (wC (.int 0))) (wVar 1)))) (wRet (wC .non)) wSkip) (wRet (wCall 3 ct_number_in (wCons (wOp2 oIx (wVar 2) (wC (.int 1))) (wCons (wOp1 oNeg (wC (.int (1000000000000000000)))) (wCons (wC (.int (1000000000000000000))) wNil)))))))
theorem D_read_balance (c : Known fs fn K mg) {ct_number_in ct : CT} (F_number_in : DFn P w K mg base 1 (He.fAd K ("number_in", none)) (fdOf K ("number_in", none)) ["word", "low", "high"] ct_number_in) (pf : ∀ ds s Kd Kx, ds.length = 2 → ct ds s Kd Kx → W_read_balance K ct_number_in (endsOf Kd Kx) ⟨startD 3 ds, s⟩) :
    DFn P w K mg base 2 (He.fAd K ("read_balance", none)) (fdOf K ("read_balance", none)) ["line", "word"] ct := okF (c.dfn 11) sc_read_balance (fun cdv A outer s H E hG hr tk hp => have hN := sc_read_balance.nd
      ((dss_cons (ds_set 2 hN (de_bm PySem.F.plainAttrs_str PySem.F.slot_str_split PySem.F.type_str_split mt_split (sm_split (b := false)) (de_var 0) (da_cons de_str da_nil))) (dss_cons (ds_if (DW.dt (dw_or (dt_cmp (op_neA hr.units) so_ne (de_callB call_lenA son_len (c.free 3) (da_cons (de_var 2) da_nil)) de_int) (dw_or1 (dt_cmp (op_neA hr.units) so_ne (de_ix (de_var 2) de_int) (de_var 1))))) (dss_one (ds_ret de_non)) dss_nil) (dss_one (ds_ret (de_call F_number_in hG (hr.mono (by decide)) (gl_number_in c) (kp_number_in c) (bd_number_in c) tk (da_cons (de_ix (de_var 2) de_int) (da_cons (de_neg (de_gint (c.int 10))) (da_cons (de_gint (c.int 10)) da_nil)))))))) : DSs _ _ d_read_balance.body (W_read_balance K ct_number_in))) pf
theorem sc_read_posting : FnScope ["line", "last", "words", "number", "amount", "balance"] ["line", "last"] d_read_posting.scope := ⟨rfl, rfl, rfl, by decide +kernel, rfl, by decide +kernel, by decide +kernel⟩
def W_read_posting (K : Fr) (ct_number_in : CT) : WS := (wSeq (wSet 2 (wBM "str" (oSplit false) (wVar 0) (wCons (wC (.str " ")) wNil))) (wSeq (wIfS (wOrT (wB (wOp2 oNe (wCB oLen (wCons (wVar 2) wNil)) (wC (.int 4)))) (wB (wOp2 oNe (wOp2 oIx (wVar 2) (wC (.int 0))) (wC (.str "posting"))))) (wRet (wC .non)) wSkip) (wSeq (wSet 3 (wCall 3 ct_number_in (wCons (wOp2 oIx (wVar 2) (wC (.int 1))) (wCons (wOp2 (oAdd false) (wVar 1) (wC (.int 1))) (wCons (wC (.int (1000000000))) wNil))))) (wSeq (wSet 4 (wCall 3 ct_number_in (wCons (wOp2 oIx (wVar 2) (wC (.int 2))) (wCons (wOp1 oNeg (wC (.int (1000000000000000000)))) (wCons (wC (.int (1000000000000000000))) wNil))))) (wSeq (wSet 5 (wCall 3 ct_number_in (wCons (wOp2 oIx (wVar 2) (wC (.int 3))) (wCons (wOp1 oNeg (wC (.int (1000000000000000000)))) (wCons (wC (.int (1000000000000000000))) wNil))))) (wSeq (wIfS (wOrT (wB (wOp2 (oIsN false) (wVar 3) (wC .non))) (wOrT (wB (wOp2 (oIsN false) (wVar 4) (wC .non))) (wB (wOp2 (oIsN false) (wVar 5) (wC .non))))) (wRet (wC .non)) wSkip) (wRet (wTup (wCons (wVar 3) (wCons (wVar 4) (wCons (wVar 5) wNil)))))))))))
theorem D_read_posting (c : Known fs fn K mg) {ct_number_in ct : CT} (F_number_in : DFn P w K mg base 1 (He.fAd K ("number_in", none)) (fdOf K ("number_in", none)) ["word", "low", "high"] ct_number_in) (pf : ∀ ds s Kd Kx, ds.length = 2 → ct ds s Kd Kx → W_read_posting K ct_number_in (endsOf Kd Kx) ⟨startD 6 ds, s⟩) :
    DFn P w K mg base 2 (He.fAd K ("read_posting", none)) (fdOf K ("read_posting", none)) ["line", "last"] ct := okF (c.dfn 12) sc_read_posting (fun cdv A outer s H E hG hr tk hp => have hN := sc_read_posting.nd
      ((dss_cons (ds_set 2 hN (de_bm PySem.F.plainAttrs_str PySem.F.slot_str_split PySem.F.type_str_split mt_split (sm_split (b := false)) (de_var 0) (da_cons de_str da_nil))) (dss_cons (ds_if (DW.dt (dw_or (dt_cmp (op_neA hr.units) so_ne (de_callB call_lenA son_len (c.free 3) (da_cons (de_var 2) da_nil)) de_int) (dw_or1 (dt_cmp (op_neA hr.units) so_ne (de_ix (de_var 2) de_int) de_str)))) (dss_one (ds_ret de_non)) dss_nil) (dss_cons (ds_set 3 hN (de_call F_number_in hG (hr.mono (by decide)) (gl_number_in c) (kp_number_in c) (bd_number_in c) tk (da_cons (de_ix (de_var 2) de_int) (da_cons (de_op op_addD (so_add (b := false)) (de_var 1) de_int) (da_cons (de_gint (c.int 11)) da_nil))))) (dss_cons (ds_set 4 hN (de_call F_number_in hG (hr.mono (by decide)) (gl_number_in c) (kp_number_in c) (bd_number_in c) tk (da_cons (de_ix (de_var 2) de_int) (da_cons (de_neg (de_gint (c.int 10))) (da_cons (de_gint (c.int 10)) da_nil))))) (dss_cons (ds_set 5 hN (de_call F_number_in hG (hr.mono (by decide)) (gl_number_in c) (kp_number_in c) (bd_number_in c) tk (da_cons (de_ix (de_var 2) de_int) (da_cons (de_neg (de_gint (c.int 10))) (da_cons (de_gint (c.int 10)) da_nil))))) (dss_cons (ds_if (DW.dt (dw_or (dt_cmp op_isN so_isN (de_var 3) de_non) (dw_or (dt_cmp op_isN so_isN (de_var 4) de_non) (dw_or1 (dt_cmp op_isN so_isN (de_var 5) de_non))))) (dss_one (ds_ret de_non)) dss_nil) (dss_one (ds_ret (de_tup (da_cons (de_var 3) (da_cons (de_var 4) (da_cons (de_var 5) da_nil)))))))))))) : DSs _ _ d_read_posting.body (W_read_posting K ct_number_in))) pf
theorem sc_read_draft : FnScope ["draft", "lines", "account", "before", "rows", "at", "line", "behind", "posting"] ["draft"] d_read_draft.scope := ⟨rfl, rfl, rfl, by decide +kernel, rfl, by decide +kernel, by decide +kernel⟩
def W_read_draft (K : Fr) (ct_read_posting ct_read_balance ct_read_account : CT) : WS := (wSeq (wIfS (wNotT (wTru (wCB oIsT (wCons (wVar 0) (wCons (wC (.ty "str")) wNil))))) (wRaise (He.ga K "BadDraft") (wCons (wC (.int 0)) wNil)) wSkip) (wSeq (wSet 1 (wBM "str" (oSplit false) (wVar 0) (wCons (wC (.str "\n")) wNil))) (wSeq (wSet 2 (wCall 1 ct_read_account (wCons (wOp2 oIx (wVar 1) (wC (.int 0))) wNil))) (wSeq (wIfS (wB (wOp2 (oIsN false) (wVar 2) (wC .non))) (wRaise (He.ga K "BadDraft") (wCons (wC (.int 1)) wNil)) wSkip) (wSeq (wSet 3 (wIf (wB (wOp2 oGt (wCB oLen (wCons (wVar 1) wNil)) (wC (.int 1)))) (wCall 2 ct_read_balance (wCons (wOp2 oIx (wVar 1) (wC (.int 1))) (wCons (wC (.str "before")) wNil))) (wC .non))) (wSeq (wIfS (wB (wOp2 (oIsN false) (wVar 3) (wC .non))) (wRaise (He.ga K "BadDraft") (wCons (wC (.int (2))) wNil)) wSkip) (wSeq (wSet 4 (wLst true wNil)) (wSeq (wFor (wEnum (wCons (wSlA false (wVar 1) (wPS (wC (.int 2))) wPN) wNil)) (wGTup 2 (wGCons (wName 5) (wGCons (wName 6) wGNil))) (wSeq (wSet 7 (wCall 2 ct_read_balance (wCons (wVar 6) (wCons (wC (.str "behind")) wNil)))) (wSeq (wIfS (wB (wOp2 (oIsN true) (wVar 7) (wC .non))) (wSeq (wIfS (wB (wOp2 oLt (wOp2 (oAdd false) (wVar 5) (wC (.int (3)))) (wCB oLen (wCons (wVar 1) wNil)))) (wRaise (He.ga K "BadDraft") (wCons (wOp2 (oAdd false) (wOp2 (oAdd false) (wVar 5) (wC (.int (3)))) (wC (.int 1))) wNil)) wSkip) (wRet (wTup (wCons (wVar 2) (wCons (wVar 3) (wCons (wCB oTuple (wCons (wVar 4) wNil)) (wCons (wVar 7) wNil))))))) wSkip) (wSeq (wSet 8 (wCall 2 ct_read_posting (wCons (wVar 6) (wCons (wIf (wTru (wVar 4)) (wOp2 oIx (wOp2 oIx (wVar 4) (wOp1 oNeg (wC (.int 1)))) (wC (.int 0))) (wC (.int 0))) wNil)))) (wSeq (wIfS (wOrT (wB (wOp2 (oIsN false) (wVar 8) (wC .non))) (wB (wOp2 oEq (wCB oLen (wCons (wVar 4) wNil)) (wC (.int (500)))))) (wRaise (He.ga K "BadDraft") (wCons (wOp2 (oAdd false) (wVar 5) (wC (.int (3)))) wNil)) wSkip) (wExpr (wBM "list" oAppend (wVar 4) (wCons (wVar 8) wNil)))))))) (wRaise (He.ga K "BadDraft") (wCons (wOp2 (oAdd false) (wCB oLen (wCons (wVar 1) wNil)) (wC (.int 1))) wNil))))))))))
theorem D_read_draft (c : Known fs fn K mg) {ct_read_posting ct_read_balance ct_read_account ct : CT} (F_read_posting : DFn P w K mg base 2 (He.fAd K ("read_posting", none)) (fdOf K ("read_posting", none)) ["line", "last"] ct_read_posting) (F_read_balance : DFn P w K mg base 2 (He.fAd K ("read_balance", none)) (fdOf K ("read_balance", none)) ["line", "word"] ct_read_balance) (F_read_account : DFn P w K mg base 4 (He.fAd K ("read_account", none)) (fdOf K ("read_account", none)) ["line"] ct_read_account) (pf : ∀ ds s Kd Kx, ds.length = 1 → ct ds s Kd Kx → W_read_draft K ct_read_posting ct_read_balance ct_read_account (endsOf Kd Kx) ⟨startD 9 ds, s⟩) :
    DFn P w K mg base 5 (He.fAd K ("read_draft", none)) (fdOf K ("read_draft", none)) ["draft"] ct := okF (c.dfn 13) sc_read_draft (fun cdv A outer s H E hG hr tk hp => have hN := sc_read_draft.nd
      ((dss_cons (ds_if (dt_not (dt_truth (de_callB call_isi son_isT (c.free 1) (da_cons (de_var 0) (da_cons (de_ty (c.free 4)) da_nil))))) (dss_one (ds_raise rfl tk (c.exc 13 (c.glo 12)) (okX_BookError c) (hr.mono (by decide)) (bd_BookError___init__ c) (da_cons de_int da_nil))) dss_nil) (dss_cons (ds_set 1 hN (de_bm PySem.F.plainAttrs_str PySem.F.slot_str_split PySem.F.type_str_split mt_split (sm_split (b := false)) (de_var 0) (da_cons de_str da_nil))) (dss_cons (ds_set 2 hN (de_call F_read_account hG (hr.mono (by decide)) (gl_read_account c) (kp_read_account c) (bd_read_account c) tk (da_cons (de_ix (de_var 1) de_int) da_nil))) (dss_cons (ds_if (dt_cmp op_isN so_isN (de_var 2) de_non) (dss_one (ds_raise rfl tk (c.exc 13 (c.glo 12)) (okX_BookError c) (hr.mono (by decide)) (bd_BookError___init__ c) (da_cons de_int da_nil))) dss_nil) (dss_cons (ds_set 3 hN (de_if (dt_cmp op_gtD so_ord (de_callB call_lenA son_len (c.free 3) (da_cons (de_var 1) da_nil)) de_int) (de_call F_read_balance hG (hr.mono (by decide)) (gl_read_balance c) (kp_read_balance c) (bd_read_balance c) tk (da_cons (de_ix (de_var 1) de_int) (da_cons de_str da_nil))) de_non)) (dss_cons (ds_if (dt_cmp op_isN so_isN (de_var 3) de_non) (dss_one (ds_raise rfl tk (c.exc 13 (c.glo 12)) (okX_BookError c) (hr.mono (by decide)) (bd_BookError___init__ c) (da_cons (de_gint (c.int 17)) da_nil))) dss_nil) (dss_cons (ds_set 4 hN (de_lst true da_nil)) (dss_cons (ds_for (vs := [5, 6]) hp rfl (di_enum (c.free 14) (da_cons (de_slA false (de_var 1) (dp_some de_int) dp_none) da_nil)) (dg_tup rfl (dgs_cons (dg_name 5 hN) (dgs_cons (dg_name 6 hN) dgs_nil))) (dss_cons (ds_set 7 hN (de_call F_read_balance hG (hr.mono (by decide)) (gl_read_balance c) (kp_read_balance c) (bd_read_balance c) tk (da_cons (de_var 6) (da_cons de_str da_nil)))) (dss_cons (ds_if (dt_cmp op_notN so_notN (de_var 7) de_non) (dss_cons (ds_if (dt_cmp op_ltD so_ord (de_op op_addD (so_add (b := false)) (de_var 5) (de_gint (c.int 16))) (de_callB call_lenA son_len (c.free 3) (da_cons (de_var 1) da_nil))) (dss_one (ds_raise rfl tk (c.exc 13 (c.glo 12)) (okX_BookError c) (hr.mono (by decide)) (bd_BookError___init__ c) (da_cons (de_op op_addD (so_add (b := false)) (de_op op_addD (so_add (b := false)) (de_var 5) (de_gint (c.int 16))) de_int) da_nil))) dss_nil) (dss_one (ds_ret (de_tup (da_cons (de_var 2) (da_cons (de_var 3) (da_cons (de_callTy call_tuple_of son_tuple (c.free 6) (da_cons (de_var 4) da_nil)) (da_cons (de_var 7) da_nil)))))))) dss_nil) (dss_cons (ds_set 8 hN (de_call F_read_posting hG (hr.mono (by decide)) (gl_read_posting c) (kp_read_posting c) (bd_read_posting c) tk (da_cons (de_var 6) (da_cons (de_if (dt_truth (de_var 4)) (de_ix (de_ix (de_var 4) (de_neg de_int)) de_int) de_int) da_nil)))) (dss_cons (ds_if (DW.dt (dw_or (dt_cmp op_isN so_isN (de_var 8) de_non) (dw_or1 (dt_cmp (op_eqA hr.units) so_eq (de_callB call_lenA son_len (c.free 3) (da_cons (de_var 4) da_nil)) (de_gint (c.int 15)))))) (dss_one (ds_raise rfl tk (c.exc 13 (c.glo 12)) (okX_BookError c) (hr.mono (by decide)) (bd_BookError___init__ c) (da_cons (de_op op_addD (so_add (b := false)) (de_var 5) (de_gint (c.int 16))) da_nil))) dss_nil) (dss_one (ds_expr (de_bm PySem.F.plainAttrs_list PySem.F.slot_list_append PySem.F.type_list_append mt_append sm_append (de_var 4) (da_cons (de_var 8) da_nil))))))))) (dss_one (ds_raise rfl tk (c.exc 13 (c.glo 12)) (okX_BookError c) (hr.mono (by decide)) (bd_BookError___init__ c) (da_cons (de_op op_addD (so_add (b := false)) (de_callB call_lenA son_len (c.free 3) (da_cons (de_var 1) da_nil)) de_int) da_nil))))))))))) : DSs _ _ d_read_draft.body (W_read_draft K ct_read_posting ct_read_balance ct_read_account))) pf
theorem sc_is_draft : FnScope ["value"] ["value"] d_is_draft.scope := ⟨rfl, rfl, rfl, by decide +kernel, rfl, by decide +kernel, by decide +kernel⟩
def W_is_draft (K : Fr) (ct_read_draft : CT) : WS := (wSeq (wTry0 K (.ref (He.ga K "BadDraft")) (wExpr (wCall 1 ct_read_draft (wCons (wVar 0) wNil))) (wRet (wC (.bl false)))) (wRet (wC (.bl true))))
theorem D_is_draft (c : Known fs fn K mg) {ct_read_draft ct : CT} (F_read_draft : DFn P w K mg base 5 (He.fAd K ("read_draft", none)) (fdOf K ("read_draft", none)) ["draft"] ct_read_draft) (pf : ∀ ds s Kd Kx, ds.length = 1 → ct ds s Kd Kx → W_is_draft K ct_read_draft (endsOf Kd Kx) ⟨startD 1 ds, s⟩) :
    DFn P w K mg base 6 (He.fAd K ("is_draft", none)) (fdOf K ("is_draft", none)) ["value"] ct := okF (c.dfn 14) sc_is_draft (fun cdv A outer s H E hG hr tk hp => have hN := sc_is_draft.nd
      ((dss_cons (ds_try0 (c := .ref (He.ga K "BadDraft")) (by exact ⟨rfl, by decide, .inl (c.glo 12)⟩) tk (fun _ _ _ tk hp => (dss_one (ds_expr (de_call F_read_draft (by exact hG) (by exact hr.mono (by decide)) (gl_read_draft c) (kp_read_draft c) (bd_read_draft c) tk (da_cons (de_var 0) da_nil))))) (fun a_ C_ dx_ oe pn xo hz hf => (dss_one (ds_ret de_bl)))) (dss_one (ds_ret de_bl))) : DSs _ _ d_is_draft.body (W_is_draft K ct_read_draft))) pf
theorem sc_numbers_in : FnScope ["draft", "_", "before", "rows", "behind", "numbers", "at", "amount", "balance"] ["draft"] d_numbers_in.scope := ⟨rfl, rfl, rfl, by decide +kernel, rfl, by decide +kernel, by decide +kernel⟩
def W_numbers_in (K : Fr) (ct_read_draft : CT) : WS := (wSeq (wAsg (wCall 1 ct_read_draft (wCons (wVar 0) wNil)) (wGTup 4 (wGCons (wName 1) (wGCons (wName 2) (wGCons (wName 3) (wGCons (wName 4) wGNil)))))) (wSeq (wSet 5 (wDispT1 (wCons (wC (.int (2))) (wCons (wC (.str "balance")) wNil)) (wVar 2))) (wSeq (wFor (wEnumT (wCons (wVar 3) wNil)) (wGTup 2 (wGCons (wName 6) (wGCons (wGTup 3 (wGCons (wName 1) (wGCons (wName 7) (wGCons (wName 8) wGNil)))) wGNil))) (wSeq (wDPutT (wVar 5) (wCons (wOp2 (oAdd false) (wVar 6) (wC (.int (3)))) (wCons (wC (.str "amount")) wNil)) (wVar 7)) (wDPutT (wVar 5) (wCons (wOp2 (oAdd false) (wVar 6) (wC (.int (3)))) (wCons (wC (.str "balance")) wNil)) (wVar 8)))) (wSeq (wDPutT (wVar 5) (wCons (wOp2 (oAdd false) (wCB oLen (wCons (wVar 3) wNil)) (wC (.int (3)))) (wCons (wC (.str "balance")) wNil)) (wVar 4)) (wFrzS 5 (wRet (wFrz (wVar 5))))))))
theorem D_numbers_in (c : Known fs fn K mg) {ct_read_draft ct : CT} (F_read_draft : DFn P w K mg base 5 (He.fAd K ("read_draft", none)) (fdOf K ("read_draft", none)) ["draft"] ct_read_draft) (pf : ∀ ds s Kd Kx, ds.length = 1 → ct ds s Kd Kx → W_numbers_in K ct_read_draft (endsOf Kd Kx) ⟨startD 9 ds, s⟩) :
    DFn P w K mg base 6 (He.fAd K ("numbers_in", none)) (fdOf K ("numbers_in", none)) ["draft"] ct := okF (c.dfn 15) sc_numbers_in (fun cdv A outer s H E hG hr tk hp => have hN := sc_numbers_in.nd
      ((dss_cons (ds_asg (vs := [1, 2, 3, 4]) (de_call F_read_draft hG (hr.mono (by decide)) (gl_read_draft c) (kp_read_draft c) (bd_read_draft c) tk (da_cons (de_var 0) da_nil)) (dg_tup rfl (dgs_cons (dg_name 1 hN) (dgs_cons (dg_name 2 hN) (dgs_cons (dg_name 3 hN) (dgs_cons (dg_name 4 hN) dgs_nil)))))) (dss_cons (ds_set 5 hN (de_dispT1 hr.units1 (da_cons (de_gint (c.int 17)) (da_cons (de_gstr (c.str 18)) da_nil)) (de_var 2))) (dss_cons (ds_for (vs := [6, 1, 7, 8]) hp rfl (di_enumT (c.free 14) (da_cons (de_var 3) da_nil)) (dg_tup rfl (dgs_cons (dg_name 6 hN) (dgs_cons (dg_tup rfl (dgs_cons (dg_name 1 hN) (dgs_cons (dg_name 7 hN) (dgs_cons (dg_name 8 hN) dgs_nil)))) dgs_nil))) (dss_cons (ds_dputT hr.units1 (de_var 5) (da_cons (de_op op_addD (so_add (b := false)) (de_var 6) (de_gint (c.int 16))) (da_cons (de_gstr (c.str 19)) da_nil)) (de_var 7)) (dss_one (ds_dputT hr.units1 (de_var 5) (da_cons (de_op op_addD (so_add (b := false)) (de_var 6) (de_gint (c.int 16))) (da_cons (de_gstr (c.str 18)) da_nil)) (de_var 8))))) (dss_cons (ds_dputT hr.units1 (de_var 5) (da_cons (de_op op_addD (so_add (b := false)) (de_callB call_lenA son_len (c.free 3) (da_cons (de_var 3) da_nil)) (de_gint (c.int 16))) (da_cons (de_gstr (c.str 18)) da_nil)) (de_var 4)) (dss_frz 5 (dss_one (ds_ret (de_frz (de_var 5))))))))) : DSs _ _ d_numbers_in.body (W_numbers_in K ct_read_draft))) pf
theorem sc_offs_in : FnScope ["numbers", "offs", "have", "line", "balance"] ["numbers"] d_offs_in.scope := ⟨rfl, rfl, rfl, by decide +kernel, rfl, by decide +kernel, by decide +kernel⟩
def W_offs_in (K : Fr)  : WS := (wSeq (wSet 1 (wLst true wNil)) (wSeq (wSet 2 (wDGetT (wVar 0) (wCons (wC (.int (2))) (wCons (wC (.str "balance")) wNil)))) (wSeq (wFor (wRng2 (wCons (wC (.int (3))) (wCons (wOp2 (oAdd false) (wC (.int (3))) (wOp2 (oI DivOk fun i j => i / j) (wCB oLen (wCons (wVar 0) wNil)) (wC (.int 2)))) wNil))) (wName 3) (wSeq (wSet 4 (wDGetT (wVar 0) (wCons (wVar 3) (wCons (wC (.str "balance")) wNil)))) (wSeq (wExpr (wBM "list" oAppend (wVar 1) (wCons (wOp2 (oI0 fun i j => i - j) (wOp2 (oI0 fun i j => i - j) (wVar 4) (wVar 2)) (wDGet2T (wVar 0) (wCons (wVar 3) (wCons (wC (.str "amount")) wNil)) (wC (.int 0)))) wNil))) (wSet 2 (wVar 4))))) (wFrzS 1 (wRet (wFrz (wVar 1)))))))
theorem D_offs_in (c : Known fs fn K mg) {ct : CT}  (pf : ∀ ds s Kd Kx, ds.length = 1 → ct ds s Kd Kx → W_offs_in K  (endsOf Kd Kx) ⟨startD 5 ds, s⟩) :
    DFn P w K mg base 1 (He.fAd K ("offs_in", none)) (fdOf K ("offs_in", none)) ["numbers"] ct := okF (c.dfn 16) sc_offs_in (fun cdv A outer s H E hG hr tk hp => have hN := sc_offs_in.nd
      ((dss_cons (ds_set 1 hN (de_lst true da_nil)) (dss_cons (ds_set 2 hN (de_dgetT hr.units1 (de_var 0) (da_cons (de_gint (c.int 17)) (da_cons (de_gstr (c.str 18)) da_nil)))) (dss_cons (ds_for (vs := [3]) hp rfl (di_range2 (c.free 7) (da_cons (de_gint (c.int 16)) (da_cons (de_op op_addD (so_add (b := false)) (de_gint (c.int 16)) (de_op op_fdivD (so_I (f := fun i j => i / j)) (de_callB call_lenA son_len (c.free 3) (da_cons (de_var 0) da_nil)) de_int)) da_nil))) (dg_name 3 hN) (dss_cons (ds_set 4 hN (de_dgetT hr.units1 (de_var 0) (da_cons (de_var 3) (da_cons (de_gstr (c.str 18)) da_nil)))) (dss_cons (ds_expr (de_bm PySem.F.plainAttrs_list PySem.F.slot_list_append PySem.F.type_list_append mt_append sm_append (de_var 1) (da_cons (de_op op_sub (so_I0 (f := fun i j => i - j)) (de_op op_sub (so_I0 (f := fun i j => i - j)) (de_var 4) (de_var 2)) (de_dget2T hr.units1 (de_var 0) (da_cons (de_var 3) (da_cons (de_gstr (c.str 19)) da_nil)) de_int)) da_nil))) (dss_one (ds_set 2 hN (de_var 4)))))) (dss_frz 1 (dss_one (ds_ret (de_frz (de_var 1)))))))) : DSs _ _ d_offs_in.body (W_offs_in K ))) pf
theorem sc_adds_up : FnScope ["draft"] ["draft"] d_adds_up.scope := ⟨rfl, rfl, rfl, by decide +kernel, rfl, by decide +kernel, by decide +kernel⟩
def W_adds_up (K : Fr) (ct_offs_in ct_numbers_in : CT) : WS := (wRet (wNotV (wCB oAnyI (wCons (wCall 1 ct_offs_in (wCons (wCall 1 ct_numbers_in (wCons (wVar 0) wNil)) wNil)) wNil))))
theorem D_adds_up (c : Known fs fn K mg) {ct_offs_in ct_numbers_in ct : CT} (F_offs_in : DFn P w K mg base 1 (He.fAd K ("offs_in", none)) (fdOf K ("offs_in", none)) ["numbers"] ct_offs_in) (F_numbers_in : DFn P w K mg base 6 (He.fAd K ("numbers_in", none)) (fdOf K ("numbers_in", none)) ["draft"] ct_numbers_in) (pf : ∀ ds s Kd Kx, ds.length = 1 → ct ds s Kd Kx → W_adds_up K ct_offs_in ct_numbers_in (endsOf Kd Kx) ⟨startD 1 ds, s⟩) :
    DFn P w K mg base 7 (He.fAd K ("adds_up", none)) (fdOf K ("adds_up", none)) ["draft"] ct := okF (c.dfn 17) sc_adds_up (fun cdv A outer s H E hG hr tk hp => have hN := sc_adds_up.nd
      ((dss_one (ds_ret (de_not (de_callB (cr_anyI rfl) son_anyI (c.free 20) (da_cons (de_call F_offs_in hG (hr.mono (by decide)) (gl_offs_in c) (kp_offs_in c) (bd_offs_in c) tk (da_cons (de_call F_numbers_in hG (hr.mono (by decide)) (gl_numbers_in c) (kp_numbers_in c) (bd_numbers_in c) tk (da_cons (de_var 0) da_nil)) da_nil)) da_nil))))) : DSs _ _ d_adds_up.body (W_adds_up K ct_offs_in ct_numbers_in))) pf
theorem sc_are_postings : FnScope ["value", "part"] ["value"] d_are_postings.scope := ⟨rfl, rfl, rfl, by decide +kernel, rfl, by decide +kernel, by decide +kernel⟩
def W_are_postings (K : Fr) (ct_are_ascending ct_is_number ct_is_row : CT) : WS := (wSeq (wIfS (wOrT (wNotT (wTru (wCB oIsT (wCons (wVar 0) (wCons (wC (.ty "tuple")) wNil))))) (wB (wOp2 oGt (wCB oLen (wCons (wVar 0) wNil)) (wC (.int (500)))))) (wRet (wC (.bl false))) wSkip) (wSeq (wIfS (wNotT (wTru (wCB oAll (wCons (wLc false [1] (wIt (wVar 0)) (wName 1) wYes (wAndV (wCall 2 ct_is_row (wCons (wVar 1) (wCons (wC (.int 2)) wNil))) (wCall 3 ct_is_number (wCons (wOp2 oIx (wVar 1) (wC (.int 1))) (wCons (wOp1 oNeg (wC (.int (1000000000000)))) (wCons (wC (.int (1000000000000))) wNil)))))) wNil)))) (wRet (wC (.bl false))) wSkip) (wRet (wCall 3 ct_are_ascending (wCons (wCB oTuple (wCons (wLc false [1] (wIt (wVar 0)) (wName 1) wYes (wOp2 oIx (wVar 1) (wC (.int 0)))) wNil)) (wCons (wC (.int 1)) (wCons (wC (.int (1000000000))) wNil)))))))
theorem D_are_postings (c : Known fs fn K mg) {ct_are_ascending ct_is_number ct_is_row ct : CT} (F_are_ascending : DFn P w K mg base 3 (He.fAd K ("are_ascending", none)) (fdOf K ("are_ascending", none)) ["value", "low", "high"] ct_are_ascending) (F_is_number : DFn P w K mg base 2 (He.fAd K ("is_number", none)) (fdOf K ("is_number", none)) ["value", "low", "high"] ct_is_number) (F_is_row : DFn P w K mg base 1 (He.fAd K ("is_row", none)) (fdOf K ("is_row", none)) ["value", "many"] ct_is_row) (pf : ∀ ds s Kd Kx, ds.length = 1 → ct ds s Kd Kx → W_are_postings K ct_are_ascending ct_is_number ct_is_row (endsOf Kd Kx) ⟨startD 2 ds, s⟩) :
    DFn P w K mg base 4 (He.fAd K ("are_postings", none)) (fdOf K ("are_postings", none)) ["value"] ct := okF (c.dfn 18) sc_are_postings (fun cdv A outer s H E hG hr tk hp => have hN := sc_are_postings.nd
      ((dss_cons (ds_if (DW.dt (dw_or (dt_not (dt_truth (de_callB call_isi son_isT (c.free 1) (da_cons (de_var 0) (da_cons (de_ty (c.free 6)) da_nil))))) (dw_or1 (dt_cmp op_gtD so_ord (de_callB call_lenA son_len (c.free 3) (da_cons (de_var 0) da_nil)) (de_gint (c.int 15)))))) (dss_one (ds_ret de_bl)) dss_nil) (dss_cons (ds_if (dt_not (dt_truth (de_callB (cr_all rfl) son_all (c.free 8) (da_cons (de_lc false (own := [("part", 1)]) rfl hN (blkOk_by (N := ["value", "part"]) (sc := d_are_postings.scope) (by decide +kernel)) (di_any (de_var 0)) (fun _ _ _ _ _ => (dg_name 1 hN)) (fun _ _ _ _ _ => dts_nil) (fun _ _ _ _ _ => (de_and (de_call F_is_row (by exact hG) (by exact hr.mono (by decide)) (gl_is_row c) (kp_is_row c) (bd_is_row c) takes0 (da_cons (de_var 1) (da_cons de_int da_nil))) (de_bool1 (de_call F_is_number (by exact hG) (by exact hr.mono (by decide)) (gl_is_number c) (kp_is_number c) (bd_is_number c) takes0 (da_cons (de_ix (de_var 1) de_int) (da_cons (de_neg (de_gint (c.int 21))) (da_cons (de_gint (c.int 21)) da_nil)))))))) da_nil)))) (dss_one (ds_ret de_bl)) dss_nil) (dss_one (ds_ret (de_call F_are_ascending hG (hr.mono (by decide)) (gl_are_ascending c) (kp_are_ascending c) (bd_are_ascending c) tk (da_cons (de_callTy call_tuple_of son_tuple (c.free 6) (da_cons (de_lc false (own := [("part", 1)]) rfl hN (blkOk_by (N := ["value", "part"]) (sc := d_are_postings.scope) (by decide +kernel)) (di_any (de_var 0)) (fun _ _ _ _ _ => (dg_name 1 hN)) (fun _ _ _ _ _ => dts_nil) (fun _ _ _ _ _ => (de_ix (de_var 1) de_int))) da_nil)) (da_cons de_int (da_cons (de_gint (c.int 11)) da_nil)))))))) : DSs _ _ d_are_postings.body (W_are_postings K ct_are_ascending ct_is_number ct_is_row))) pf
theorem sc_check_statement : FnScope ["account", "before", "postings"] ["account", "before", "postings"] d_check_statement.scope := ⟨rfl, rfl, rfl, by decide +kernel, rfl, by decide +kernel, by decide +kernel⟩
def W_check_statement (K : Fr) (ct_are_postings ct_is_number ct_is_account : CT) : WS := (wSeq (wIfS (wNotT (wTru (wCall 1 ct_is_account (wCons (wVar 0) wNil)))) (wRaise (He.ga K "BadAccount") (wCons (wVar 0) wNil)) wSkip) (wSeq (wIfS (wNotT (wTru (wCall 3 ct_is_number (wCons (wVar 1) (wCons (wOp1 oNeg (wC (.int (1000000000000000)))) (wCons (wC (.int (1000000000000000))) wNil)))))) (wRaise (He.ga K "BadNumber") (wCons (wVar 1) wNil)) wSkip) (wIfS (wNotT (wTru (wCall 1 ct_are_postings (wCons (wVar 2) wNil)))) (wRaise (He.ga K "BadPostings") (wCons (wVar 2) wNil)) wSkip)))
theorem D_check_statement (c : Known fs fn K mg) {ct_are_postings ct_is_number ct_is_account ct : CT} (F_are_postings : DFn P w K mg base 4 (He.fAd K ("are_postings", none)) (fdOf K ("are_postings", none)) ["value"] ct_are_postings) (F_is_number : DFn P w K mg base 2 (He.fAd K ("is_number", none)) (fdOf K ("is_number", none)) ["value", "low", "high"] ct_is_number) (F_is_account : DFn P w K mg base 3 (He.fAd K ("is_account", none)) (fdOf K ("is_account", none)) ["value"] ct_is_account) (pf : ∀ ds s Kd Kx, ds.length = 3 → ct ds s Kd Kx → W_check_statement K ct_are_postings ct_is_number ct_is_account (endsOf Kd Kx) ⟨startD 3 ds, s⟩) :
    DFn P w K mg base 5 (He.fAd K ("check_statement", none)) (fdOf K ("check_statement", none)) ["account", "before", "postings"] ct := okF (c.dfn 19) sc_check_statement (fun cdv A outer s H E hG hr tk hp => have hN := sc_check_statement.nd
      ((dss_cons (ds_if (dt_not (dt_truth (de_call F_is_account hG (hr.mono (by decide)) (gl_is_account c) (kp_is_account c) (bd_is_account c) tk (da_cons (de_var 0) da_nil)))) (dss_one (ds_raise rfl tk (c.exc 28 (c.glo 27)) (okX_BookError c) (hr.mono (by decide)) (bd_BookError___init__ c) (da_cons (de_var 0) da_nil))) dss_nil) (dss_cons (ds_if (dt_not (dt_truth (de_call F_is_number hG (hr.mono (by decide)) (gl_is_number c) (kp_is_number c) (bd_is_number c) tk (da_cons (de_var 1) (da_cons (de_neg (de_gint (c.int 24))) (da_cons (de_gint (c.int 24)) da_nil)))))) (dss_one (ds_raise rfl tk (c.exc 26 (c.glo 25)) (okX_BookError c) (hr.mono (by decide)) (bd_BookError___init__ c) (da_cons (de_var 1) da_nil))) dss_nil) (dss_one (ds_if (dt_not (dt_truth (de_call F_are_postings hG (hr.mono (by decide)) (gl_are_postings c) (kp_are_postings c) (bd_are_postings c) tk (da_cons (de_var 2) da_nil)))) (dss_one (ds_raise rfl tk (c.exc 23 (c.glo 22)) (okX_BookError c) (hr.mono (by decide)) (bd_BookError___init__ c) (da_cons (de_var 2) da_nil))) dss_nil)))) : DSs _ _ d_check_statement.body (W_check_statement K ct_are_postings ct_is_number ct_is_account))) pf
theorem sc_text_of : FnScope ["account", "before", "postings", "lines", "have", "number", "amount"] ["account", "before", "postings"] d_text_of.scope := ⟨rfl, rfl, rfl, by decide +kernel, rfl, by decide +kernel, by decide +kernel⟩
def W_text_of (K : Fr)  : WS := (wSeq (wSet 3 (wLst true (wCons (wJoin [(wC (.str "statement ")), (wOp1 oFmt (wVar 0))]) (wCons (wJoin [(wC (.str "before ")), (wOp1 oFmt (wVar 1))]) wNil)))) (wSeq (wSet 4 (wVar 1)) (wSeq (wFor (wIt (wVar 2)) (wGTup 2 (wGCons (wName 5) (wGCons (wName 6) wGNil))) (wSeq (wAugI 4 (fun i j => i + j) (wVar 6)) (wExpr (wBM "list" oAppend (wVar 3) (wCons (wJoin [(wC (.str "posting ")), (wOp1 oFmt (wVar 5)), (wC (.str " ")), (wOp1 oFmt (wVar 6)), (wC (.str " ")), (wOp1 oFmt (wVar 4))]) wNil))))) (wFrzS 3 (wRet (wBM "str" oJoin (wC (.str "\n")) (wCons (wOp2 (oAdd false) (wVar 3) (wLst false (wCons (wJoin [(wC (.str "behind ")), (wOp1 oFmt (wVar 4))]) wNil))) wNil)))))))
theorem D_text_of (c : Known fs fn K mg) {ct : CT}  (pf : ∀ ds s Kd Kx, ds.length = 3 → ct ds s Kd Kx → W_text_of K  (endsOf Kd Kx) ⟨startD 7 ds, s⟩) :
    DFn P w K mg base 1 (He.fAd K ("text_of", none)) (fdOf K ("text_of", none)) ["account", "before", "postings"] ct := okF (c.dfn 20) sc_text_of (fun cdv A outer s H E hG hr tk hp => have hN := sc_text_of.nd
      ((dss_cons (ds_set 3 hN (de_lst true (da_cons (de_joined (.cons de_str (.cons (de_fmt (de_var 0)) .nil))) (da_cons (de_joined (.cons de_str (.cons (de_fmt (de_var 1)) .nil))) da_nil)))) (dss_cons (ds_set 4 hN (de_var 1)) (dss_cons (ds_for (vs := [5, 6]) hp rfl (di_any (de_var 2)) (dg_tup rfl (dgs_cons (dg_name 5 hN) (dgs_cons (dg_name 6 hN) dgs_nil))) (dss_cons (ds_augI 4 (h := fun i j => i + j) hN in_add (de_var 6)) (dss_one (ds_expr (de_bm PySem.F.plainAttrs_list PySem.F.slot_list_append PySem.F.type_list_append mt_append sm_append (de_var 3) (da_cons (de_joined (.cons de_str (.cons (de_fmt (de_var 5)) (.cons de_str (.cons (de_fmt (de_var 6)) (.cons de_str (.cons (de_fmt (de_var 4)) .nil))))))) da_nil)))))) (dss_frz 3 (dss_one (ds_ret (de_bm PySem.F.plainAttrs_str PySem.F.slot_str_join PySem.F.type_str_join mt_join sm_join de_str (da_cons (de_op op_addD (so_add (b := false)) (de_var 3) (de_lst false (da_cons (de_joined (.cons de_str (.cons (de_fmt (de_var 4)) .nil))) da_nil))) da_nil)))))))) : DSs _ _ d_text_of.body (W_text_of K ))) pf
theorem sc_statement_text : FnScope ["account", "before", "postings"] ["account", "before", "postings"] d_statement_text.scope := ⟨rfl, rfl, rfl, by decide +kernel, rfl, by decide +kernel, by decide +kernel⟩
def W_statement_text (K : Fr) (ct_text_of ct_check_statement : CT) : WS := (wSeq (wExpr (wCall 3 ct_check_statement (wCons (wVar 0) (wCons (wVar 1) (wCons (wVar 2) wNil))))) (wRet (wCall 3 ct_text_of (wCons (wVar 0) (wCons (wVar 1) (wCons (wVar 2) wNil))))))
theorem D_statement_text (c : Known fs fn K mg) {ct_text_of ct_check_statement ct : CT} (F_text_of : DFn P w K mg base 1 (He.fAd K ("text_of", none)) (fdOf K ("text_of", none)) ["account", "before", "postings"] ct_text_of) (F_check_statement : DFn P w K mg base 5 (He.fAd K ("check_statement", none)) (fdOf K ("check_statement", none)) ["account", "before", "postings"] ct_check_statement) (pf : ∀ ds s Kd Kx, ds.length = 3 → ct ds s Kd Kx → W_statement_text K ct_text_of ct_check_statement (endsOf Kd Kx) ⟨startD 3 ds, s⟩) :
    DFn P w K mg base 6 (He.fAd K ("statement_text", none)) (fdOf K ("statement_text", none)) ["account", "before", "postings"] ct := okF (c.dfn 21) sc_statement_text (fun cdv A outer s H E hG hr tk hp => have hN := sc_statement_text.nd
      ((dss_cons (ds_expr (de_call F_check_statement hG (hr.mono (by decide)) (gl_check_statement c) (kp_check_statement c) (bd_check_statement c) tk (da_cons (de_var 0) (da_cons (de_var 1) (da_cons (de_var 2) da_nil))))) (dss_one (ds_ret (de_call F_text_of hG (hr.mono (by decide)) (gl_text_of c) (kp_text_of c) (bd_text_of c) tk (da_cons (de_var 0) (da_cons (de_var 1) (da_cons (de_var 2) da_nil))))))) : DSs _ _ d_statement_text.body (W_statement_text K ct_text_of ct_check_statement))) pf
theorem sc_paged : FnScope ["account", "before", "postings", "lines", "pages", "have", "at", "part", "_", "amount"] ["account", "before", "postings", "lines"] d_paged.scope := ⟨rfl, rfl, rfl, by decide +kernel, rfl, by decide +kernel, by decide +kernel⟩
def W_paged (K : Fr) (ct_text_of ct_is_number ct_check_statement : CT) : WS := (wSeq (wExpr (wCall 3 ct_check_statement (wCons (wVar 0) (wCons (wVar 1) (wCons (wVar 2) wNil))))) (wSeq (wIfS (wNotT (wTru (wCall 3 ct_is_number (wCons (wVar 3) (wCons (wC (.int 1)) (wCons (wC (.int (500))) wNil)))))) (wRaise (He.ga K "BadNumber") (wCons (wVar 3) wNil)) wSkip) (wSeq (wSet 4 (wLst true wNil)) (wSeq (wSet 5 (wVar 1)) (wSeq (wFor (wRng3 (wCons (wC (.int 0)) (wCons (wCB oMax2 (wCons (wCB oLen (wCons (wVar 2) wNil)) (wCons (wC (.int 1)) wNil))) (wCons (wVar 3) wNil)))) (wName 6) (wSeq (wSet 7 (wSlA false (wVar 2) (wPS (wVar 6)) (wPS (wOp2 (oAdd false) (wVar 6) (wVar 3))))) (wSeq (wExpr (wBM "list" oAppend (wVar 4) (wCons (wCall 3 ct_text_of (wCons (wVar 0) (wCons (wVar 5) (wCons (wVar 7) wNil)))) wNil))) (wAugI 5 (fun i j => i + j) (wCB oSum (wCons (wLc false [8, 9] (wIt (wVar 7)) (wGTup 2 (wGCons (wName 8) (wGCons (wName 9) wGNil))) wYes (wVar 9)) wNil)))))) (wFrzS 4 (wRet (wCB oTuple (wCons (wVar 4) wNil)))))))))
theorem D_paged (c : Known fs fn K mg) {ct_text_of ct_is_number ct_check_statement ct : CT} (F_text_of : DFn P w K mg base 1 (He.fAd K ("text_of", none)) (fdOf K ("text_of", none)) ["account", "before", "postings"] ct_text_of) (F_is_number : DFn P w K mg base 2 (He.fAd K ("is_number", none)) (fdOf K ("is_number", none)) ["value", "low", "high"] ct_is_number) (F_check_statement : DFn P w K mg base 5 (He.fAd K ("check_statement", none)) (fdOf K ("check_statement", none)) ["account", "before", "postings"] ct_check_statement) (pf : ∀ ds s Kd Kx, ds.length = 4 → ct ds s Kd Kx → W_paged K ct_text_of ct_is_number ct_check_statement (endsOf Kd Kx) ⟨startD 10 ds, s⟩) :
    DFn P w K mg base 6 (He.fAd K ("paged", none)) (fdOf K ("paged", none)) ["account", "before", "postings", "lines"] ct := okF (c.dfn 22) sc_paged (fun cdv A outer s H E hG hr tk hp => have hN := sc_paged.nd
      ((dss_cons (ds_expr (de_call F_check_statement hG (hr.mono (by decide)) (gl_check_statement c) (kp_check_statement c) (bd_check_statement c) tk (da_cons (de_var 0) (da_cons (de_var 1) (da_cons (de_var 2) da_nil))))) (dss_cons (ds_if (dt_not (dt_truth (de_call F_is_number hG (hr.mono (by decide)) (gl_is_number c) (kp_is_number c) (bd_is_number c) tk (da_cons (de_var 3) (da_cons de_int (da_cons (de_gint (c.int 15)) da_nil)))))) (dss_one (ds_raise rfl tk (c.exc 26 (c.glo 25)) (okX_BookError c) (hr.mono (by decide)) (bd_BookError___init__ c) (da_cons (de_var 3) da_nil))) dss_nil) (dss_cons (ds_set 4 hN (de_lst true da_nil)) (dss_cons (ds_set 5 hN (de_var 1)) (dss_cons (ds_for (vs := [6]) hp rfl (di_range3 (c.free 7) (da_cons de_int (da_cons (de_callB (call_max2 rfl) son_2I (c.free 29) (da_cons (de_callB call_lenA son_len (c.free 3) (da_cons (de_var 2) da_nil)) (da_cons de_int da_nil))) (da_cons (de_var 3) da_nil)))) (dg_name 6 hN) (dss_cons (ds_set 7 hN (de_slA false (de_var 2) (dp_some (de_var 6)) (dp_some (de_op op_addD (so_add (b := false)) (de_var 6) (de_var 3))))) (dss_cons (ds_expr (de_bm PySem.F.plainAttrs_list PySem.F.slot_list_append PySem.F.type_list_append mt_append sm_append (de_var 4) (da_cons (de_call F_text_of hG (hr.mono (by decide)) (gl_text_of c) (kp_text_of c) (bd_text_of c) tk (da_cons (de_var 0) (da_cons (de_var 5) (da_cons (de_var 7) da_nil)))) da_nil))) (dss_one (ds_augI 5 (h := fun i j => i + j) hN in_add (de_callB (cr_sum rfl) son_sum (c.free 30) (da_cons (de_lc false (own := [("_", 8), ("amount", 9)]) rfl hN (blkOk_by (N := ["account", "before", "postings", "lines", "pages", "have", "at", "part", "_", "amount"]) (sc := d_paged.scope) (by decide +kernel)) (di_any (de_var 7)) (fun _ _ _ _ _ => (dg_tup rfl (dgs_cons (dg_name 8 hN) (dgs_cons (dg_name 9 hN) dgs_nil)))) (fun _ _ _ _ _ => dts_nil) (fun _ _ _ _ _ => (de_var 9))) da_nil))))))) (dss_frz 4 (dss_one (ds_ret (de_callTy call_tuple_of son_tuple (c.free 6) (da_cons (de_var 4) da_nil)))))))))) : DSs _ _ d_paged.body (W_paged K ct_text_of ct_is_number ct_check_statement))) pf
theorem sc_goes_on : FnScope ["ahead", "page", "account", "rows", "behind"] ["ahead", "page"] d_goes_on.scope := ⟨rfl, rfl, rfl, by decide +kernel, rfl, by decide +kernel, by decide +kernel⟩
def W_goes_on (K : Fr)  : WS := (wSeq (wAsg (wVar 0) (wGTup 3 (wGCons (wName 2) (wGCons (wName 3) (wGCons (wName 4) wGNil))))) (wSeq (wIfS (wOrT (wB (wOp2 oNe (wOp2 oIx (wVar 1) (wC (.int 0))) (wVar 2))) (wB (wOp2 oNe (wOp2 oIx (wVar 1) (wC (.int 1))) (wVar 4)))) (wRet (wC (.bl false))) wSkip) (wRet (wOrV (wNotT' (wTru (wVar 3))) (wOrV (wNotT' (wTru (wOp2 oIx (wVar 1) (wC (.int 2))))) (wOp2 oLt (wOp2 oIx (wOp2 oIx (wVar 3) (wOp1 oNeg (wC (.int 1)))) (wC (.int 0))) (wOp2 oIx (wOp2 oIx (wOp2 oIx (wVar 1) (wC (.int 2))) (wC (.int 0))) (wC (.int 0)))))))))
theorem D_goes_on (c : Known fs fn K mg) {ct : CT}  (pf : ∀ ds s Kd Kx, ds.length = 2 → ct ds s Kd Kx → W_goes_on K  (endsOf Kd Kx) ⟨startD 5 ds, s⟩) :
    DFn P w K mg base 1 (He.fAd K ("goes_on", none)) (fdOf K ("goes_on", none)) ["ahead", "page"] ct := okF (c.dfn 23) sc_goes_on (fun cdv A outer s H E hG hr tk hp => have hN := sc_goes_on.nd
      ((dss_cons (ds_asg (vs := [2, 3, 4]) (de_var 0) (dg_tup rfl (dgs_cons (dg_name 2 hN) (dgs_cons (dg_name 3 hN) (dgs_cons (dg_name 4 hN) dgs_nil))))) (dss_cons (ds_if (DW.dt (dw_or (dt_cmp (op_neA hr.units) so_ne (de_ix (de_var 1) de_int) (de_var 2)) (dw_or1 (dt_cmp (op_neA hr.units) so_ne (de_ix (de_var 1) de_int) (de_var 4))))) (dss_one (ds_ret de_bl)) dss_nil) (dss_one (ds_ret (de_or (de_notT (de_var 3)) (de_or (de_notT (de_ix (de_var 1) de_int)) (de_bool1 (de_cmp op_ltD so_ord (de_ix (de_ix (de_var 3) (de_neg de_int)) de_int) (de_ix (de_ix (de_ix (de_var 1) de_int) de_int) de_int))))))))) : DSs _ _ d_goes_on.body (W_goes_on K ))) pf
theorem sc_joined_pages : FnScope ["pages", "rows", "first", "behind", "at", "text", "page", "row"] ["pages"] d_joined_pages.scope := ⟨rfl, rfl, rfl, by decide +kernel, rfl, by decide +kernel, by decide +kernel⟩
def W_joined_pages (K : Fr) (ct_goes_on ct_read_draft ct_adds_up ct_is_draft : CT) : WS := (wSeq (wIfS (wOrT (wNotT (wTru (wCB oIsT (wCons (wVar 0) (wCons (wC (.ty "tuple")) wNil))))) (wB (wOp2 oEq (wVar 0) (wTup wNil)))) (wRaise (He.ga K "BadPages") (wCons (wC .non) wNil)) wSkip) (wSeq (wSet 1 (wLst true wNil)) (wSeq (wSet 2 (wC .non)) (wSeq (wSet 3 (wC (.int 0))) (wSeq (wFor (wEnumT (wCons (wVar 0) wNil)) (wGTup 2 (wGCons (wName 4) (wGCons (wName 5) wGNil))) (wSeq (wIfS (wOrT (wNotT (wTru (wCall 1 ct_is_draft (wCons (wVar 5) wNil)))) (wNotT (wTru (wCall 1 ct_adds_up (wCons (wVar 5) wNil))))) (wRaise (He.ga K "BadPages") (wCons (wVar 4) wNil)) wSkip) (wSeq (wSet 6 (wCall 1 ct_read_draft (wCons (wVar 5) wNil))) (wSeq (wSet 2 (wOrT' (wVar 2) (wVar 6))) (wSeq (wIfS (wAndT (wB (wOp2 oGt (wVar 4) (wC (.int 0)))) (wNotT (wTru (wCall 2 ct_goes_on (wCons (wTup (wCons (wOp2 oIx (wVar 2) (wC (.int 0))) (wCons (wVar 1) (wCons (wVar 3) wNil)))) (wCons (wVar 6) wNil)))))) (wRaise (He.ga K "BadPages") (wCons (wVar 4) wNil)) wSkip) (wSeq (wExpr (wBM "list" oExtendT (wVar 1) (wCons (wOp2 oIx (wVar 6) (wC (.int 2))) wNil))) (wSet 3 (wOp2 oIx (wVar 6) (wC (.int 3)))))))))) (wRet (wTup (wCons (wOp2 oIx (wVar 2) (wC (.int 0))) (wCons (wOp2 oIx (wVar 2) (wC (.int 1))) (wCons (wCB oTuple (wCons (wLc false [7] (wIt (wVar 1)) (wName 7) wYes (wSlA false (wVar 7) wPN (wPS (wC (.int 2))))) wNil)) wNil))))))))))
theorem D_joined_pages (c : Known fs fn K mg) {ct_goes_on ct_read_draft ct_adds_up ct_is_draft ct : CT} (F_goes_on : DFn P w K mg base 1 (He.fAd K ("goes_on", none)) (fdOf K ("goes_on", none)) ["ahead", "page"] ct_goes_on) (F_read_draft : DFn P w K mg base 5 (He.fAd K ("read_draft", none)) (fdOf K ("read_draft", none)) ["draft"] ct_read_draft) (F_adds_up : DFn P w K mg base 7 (He.fAd K ("adds_up", none)) (fdOf K ("adds_up", none)) ["draft"] ct_adds_up) (F_is_draft : DFn P w K mg base 6 (He.fAd K ("is_draft", none)) (fdOf K ("is_draft", none)) ["value"] ct_is_draft) (pf : ∀ ds s Kd Kx, ds.length = 1 → ct ds s Kd Kx → W_joined_pages K ct_goes_on ct_read_draft ct_adds_up ct_is_draft (endsOf Kd Kx) ⟨startD 8 ds, s⟩) :
    DFn P w K mg base 8 (He.fAd K ("joined_pages", none)) (fdOf K ("joined_pages", none)) ["pages"] ct := okF (c.dfn 24) sc_joined_pages (fun cdv A outer s H E hG hr tk hp => have hN := sc_joined_pages.nd
      ((dss_cons (ds_if (DW.dt (dw_or (dt_not (dt_truth (de_callB call_isi son_isT (c.free 1) (da_cons (de_var 0) (da_cons (de_ty (c.free 6)) da_nil))))) (dw_or1 (dt_cmp (op_eqA hr.units) so_eq (de_var 0) (de_tup da_nil))))) (dss_one (ds_raise rfl tk (c.exc 32 (c.glo 31)) (okX_BookError c) (hr.mono (by decide)) (bd_BookError___init__ c) (da_cons de_non da_nil))) dss_nil) (dss_cons (ds_set 1 hN (de_lst true da_nil)) (dss_cons (ds_set 2 hN de_non) (dss_cons (ds_set 3 hN de_int) (dss_cons (ds_for (vs := [4, 5]) hp rfl (di_enumT (c.free 14) (da_cons (de_var 0) da_nil)) (dg_tup rfl (dgs_cons (dg_name 4 hN) (dgs_cons (dg_name 5 hN) dgs_nil))) (dss_cons (ds_if (DW.dt (dw_or (dt_not (dt_truth (de_call F_is_draft hG (hr.mono (by decide)) (gl_is_draft c) (kp_is_draft c) (bd_is_draft c) tk (da_cons (de_var 5) da_nil)))) (dw_or1 (dt_not (dt_truth (de_call F_adds_up hG (hr.mono (by decide)) (gl_adds_up c) (kp_adds_up c) (bd_adds_up c) tk (da_cons (de_var 5) da_nil))))))) (dss_one (ds_raise rfl tk (c.exc 32 (c.glo 31)) (okX_BookError c) (hr.mono (by decide)) (bd_BookError___init__ c) (da_cons (de_var 4) da_nil))) dss_nil) (dss_cons (ds_set 6 hN (de_call F_read_draft hG (hr.mono (by decide)) (gl_read_draft c) (kp_read_draft c) (bd_read_draft c) tk (da_cons (de_var 5) da_nil))) (dss_cons (ds_set 2 hN (de_orT (de_var 2) (de_bool1 (de_var 6)))) (dss_cons (ds_if (DW.dt (dw_and (dt_cmp op_gtD so_ord (de_var 4) de_int) (dw_and1 (dt_not (dt_truth (de_call F_goes_on hG (hr.mono (by decide)) (gl_goes_on c) (kp_goes_on c) (bd_goes_on c) tk (da_cons (de_tup (da_cons (de_ix (de_var 2) de_int) (da_cons (de_var 1) (da_cons (de_var 3) da_nil)))) (da_cons (de_var 6) da_nil)))))))) (dss_one (ds_raise rfl tk (c.exc 32 (c.glo 31)) (okX_BookError c) (hr.mono (by decide)) (bd_BookError___init__ c) (da_cons (de_var 4) da_nil))) dss_nil) (dss_cons (ds_expr (de_bm PySem.F.plainAttrs_list PySem.F.slot_list_extend PySem.F.type_list_extend mt_extendT sm_extendT (de_var 1) (da_cons (de_ix (de_var 6) de_int) da_nil))) (dss_one (ds_set 3 hN (de_ix (de_var 6) de_int))))))))) (dss_one (ds_ret (de_tup (da_cons (de_ix (de_var 2) de_int) (da_cons (de_ix (de_var 2) de_int) (da_cons (de_callTy call_tuple_of son_tuple (c.free 6) (da_cons (de_lc false (own := [("row", 7)]) rfl hN (blkOk_by (N := ["pages", "rows", "first", "behind", "at", "text", "page", "row"]) (sc := d_joined_pages.scope) (by decide +kernel)) (di_any (de_var 1)) (fun _ _ _ _ _ => (dg_name 7 hN)) (fun _ _ _ _ _ => dts_nil) (fun _ _ _ _ _ => (de_slA false (de_var 7) dp_none (dp_some de_int)))) da_nil)) da_nil))))))))))) : DSs _ _ d_joined_pages.body (W_joined_pages K ct_goes_on ct_read_draft ct_adds_up ct_is_draft))) pf
theorem sc__law_pot : FnScope ["script", "place", "cell", "own", "small"] ["script", "place"] d__law_pot.scope := ⟨rfl, rfl, rfl, by decide +kernel, rfl, by decide +kernel, by decide +kernel⟩
def W__law_pot (K : Fr)  : WS := (wSeq (wSet 2 (wIf (wB (wOp2 oLt (wVar 1) (wCB oLen (wCons (wVar 0) wNil)))) (wOp2 oIx (wVar 0) (wVar 1)) (wOp2 (oAdd false) (wOp2 (oAdd false) (wOp2 (oI ModOk fun i j => i % j) (wCB oSum (wCons (wSlA false (wVar 0) wPN (wPS (wC (.int 1)))) wNil)) (wC (.int 1000003))) (wOp2 (oI MulOk fun i j => i * j) (wC (.int 9277)) (wVar 1))) (wC (.int 1319))))) (wSeq (wSet 3 (wOp2 (oI MulOk fun i j => i * j) (wOp2 (oI ModOk fun i j => i % j) (wCB oInt (wCons (wCB oAbs (wCons (wVar 2) wNil)) wNil)) (wOp2 (oI PowOk fun i j => i ^ j.toNat) (wOp2 (oI PowOk fun i j => i ^ j.toNat) (wC (.int 10)) (wC (.int 60))) (wC (.int 5)))) (wCB oInt (wCons (wOp2 oGe (wCB oAbs (wCons (wVar 2) wNil)) (wOp2 (oI PowOk fun i j => i ^ j.toNat) (wC (.int 10)) (wC (.int 18)))) wNil)))) (wSeq (wSet 4 (wOp2 (oI ModOk fun i j => i % j) (wCB oInt (wCons (wVar 2) wNil)) (wC (.int 2305843009213693951)))) (wRet (wLst true (wCons (wVar 3) (wCons (wOp2 (oI ModOk fun i j => i % j) (wCB oInt (wCons (wOp2 (oAdd false) (wOp2 (oAdd false) (wOp2 (oI MulOk fun i j => i * j) (wVar 4) (wC (.int 91199))) (wOp2 (oI MulOk fun i j => i * j) (wOp2 (oI MulOk fun i j => i * j) (wC (.int 9949)) (wVar 1)) (wVar 1))) (wC (.int 1303))) wNil)) (wC (.int 2305843009213693921))) (wCons (wC (.int 0)) wNil))))))))
theorem D__law_pot (c : Known fs fn K mg) {ct : CT}  (pf : ∀ ds s Kd Kx, ds.length = 2 → ct ds s Kd Kx → W__law_pot K  (endsOf Kd Kx) ⟨startD 5 ds, s⟩) :
    DFn P w K mg base 1 (He.fAd K ("_law_pot", none)) (fdOf K ("_law_pot", none)) ["script", "place"] ct := okF (c.dfn 25) sc__law_pot (fun cdv A outer s H E hG hr tk hp => have hN := sc__law_pot.nd
      ((dss_cons (ds_set 2 hN (de_if (dt_cmp op_ltD so_ord (de_var 1) (de_callB call_lenA son_len (c.free 3) (da_cons (de_var 0) da_nil))) (de_ix (de_var 0) (de_var 1)) (de_op op_addD (so_add (b := false)) (de_op op_addD (so_add (b := false)) (de_op op_modD (so_I (f := fun i j => i % j)) (de_callB (cr_sum rfl) son_sum (c.free 30) (da_cons (de_slA false (de_var 0) dp_none (dp_some de_int)) da_nil)) de_int) (de_op op_mulD (so_I (f := fun i j => i * j)) de_int (de_var 1))) de_int))) (dss_cons (ds_set 3 hN (de_op op_mulD (so_I (f := fun i j => i * j)) (de_op op_modD (so_I (f := fun i j => i % j)) (de_callTy call_intA son_int (c.free 2) (da_cons (de_callB call_abs son_abs (c.free 33) (da_cons (de_var 2) da_nil)) da_nil)) (de_op op_powD (so_I (f := fun i j => i ^ j.toNat)) (de_op op_powD (so_I (f := fun i j => i ^ j.toNat)) de_int de_int) de_int)) (de_callTy call_intA son_int (c.free 2) (da_cons (de_cmp op_geD so_ord (de_callB call_abs son_abs (c.free 33) (da_cons (de_var 2) da_nil)) (de_op op_powD (so_I (f := fun i j => i ^ j.toNat)) de_int de_int)) da_nil)))) (dss_cons (ds_set 4 hN (de_op op_modD (so_I (f := fun i j => i % j)) (de_callTy call_intA son_int (c.free 2) (da_cons (de_var 2) da_nil)) de_int)) (dss_one (ds_ret (de_lst true (da_cons (de_var 3) (da_cons (de_op op_modD (so_I (f := fun i j => i % j)) (de_callTy call_intA son_int (c.free 2) (da_cons (de_op op_addD (so_add (b := false)) (de_op op_addD (so_add (b := false)) (de_op op_mulD (so_I (f := fun i j => i * j)) (de_var 4) de_int) (de_op op_mulD (so_I (f := fun i j => i * j)) (de_op op_mulD (so_I (f := fun i j => i * j)) de_int (de_var 1)) (de_var 1))) de_int) da_nil)) de_int) (da_cons de_int da_nil))))))))) : DSs _ _ d__law_pot.body (W__law_pot K ))) pf
theorem sc__law_take : FnScope ["pot", "upto", "digit", "prime", "blend"] ["pot", "upto"] d__law_take.scope := ⟨rfl, rfl, rfl, by decide +kernel, rfl, by decide +kernel, by decide +kernel⟩
def W__law_take (K : Fr)  : WS := (wSeq (wIfS (wB (wOp2 oGt (wOp2 oIx (wVar 0) (wC (.int 0))) (wC (.int 0)))) (wSeq (wSet 2 (wOp2 (oI ModOk fun i j => i % j) (wCB oInt (wCons (wOp2 oIx (wVar 0) (wC (.int 0))) wNil)) (wVar 1))) (wSeq (wLPut (wVar 0) (wC (.int 0)) (wOp2 (oI DivOk fun i j => i / j) (wOp2 oIx (wVar 0) (wC (.int 0))) (wVar 1))) (wRet (wVar 2)))) wSkip) (wSeq (wLPut (wVar 0) (wC (.int 2)) (wOp2 (oAdd false) (wOp2 oIx (wVar 0) (wC (.int 2))) (wC (.int 1)))) (wSeq (wSet 3 (wOp2 oIx (wLst false (wCons (wC (.int 2147483647)) (wCons (wC (.int 2147483629)) (wCons (wC (.int 2147483587)) (wCons (wC (.int 2147483579)) (wCons (wC (.int 2147483563)) wNil)))))) (wOp2 (oI ModOk fun i j => i % j) (wCB oInt (wCons (wOp2 oIx (wVar 0) (wC (.int 2))) wNil)) (wC (.int 5))))) (wSeq (wSet 4 (wOp2 (oI ModOk fun i j => i % j) (wCB oInt (wCons (wOp2 (oI PowOk fun i j => i ^ j.toNat) (wCB oInt (wCons (wOp2 (oAdd false) (wOp2 (oAdd false) (wOp2 oIx (wVar 0) (wC (.int 1))) (wOp2 (oI MulOk fun i j => i * j) (wOp2 (oI MulOk fun i j => i * j) (wC (.int 108193)) (wOp2 oIx (wVar 0) (wC (.int 2)))) (wOp2 oIx (wVar 0) (wC (.int 2))))) (wC (.int 1307))) wNil)) (wC (.int 3))) wNil)) (wVar 3))) (wSeq (wSet 4 (wOp2 (oI ModOk fun i j => i % j) (wCB oInt (wCons (wOp2 (oI MulOk fun i j => i * j) (wVar 4) (wOp2 (oAdd false) (wOp2 (oI ModOk fun i j => i % j) (wCB oInt (wCons (wVar 4) wNil)) (wC (.int 10009))) (wOp2 (oI MulOk fun i j => i * j) (wC (.int 89)) (wOp2 oIx (wVar 0) (wC (.int 2)))))) wNil)) (wC (.int 2305843009213693907)))) (wRet (wOp2 (oI ModOk fun i j => i % j) (wCB oInt (wCons (wOp2 (oI DivOk fun i j => i / j) (wVar 4) (wC (.int 173))) wNil)) (wVar 1))))))))
theorem D__law_take (c : Known fs fn K mg) {ct : CT}  (pf : ∀ ds s Kd Kx, ds.length = 2 → ct ds s Kd Kx → W__law_take K  (endsOf Kd Kx) ⟨startD 5 ds, s⟩) :
    DFn P w K mg base 1 (He.fAd K ("_law_take", none)) (fdOf K ("_law_take", none)) ["pot", "upto"] ct := okF (c.dfn 26) sc__law_take (fun cdv A outer s H E hG hr tk hp => have hN := sc__law_take.nd
      ((dss_cons (ds_if (dt_cmp op_gtD so_ord (de_ix (de_var 0) de_int) de_int) (dss_cons (ds_set 2 hN (de_op op_modD (so_I (f := fun i j => i % j)) (de_callTy call_intA son_int (c.free 2) (da_cons (de_ix (de_var 0) de_int) da_nil)) (de_var 1))) (dss_cons (ds_lput (de_var 0) de_int (de_op op_fdivD (so_I (f := fun i j => i / j)) (de_ix (de_var 0) de_int) (de_var 1))) (dss_one (ds_ret (de_var 2))))) dss_nil) (dss_cons (ds_lput (de_var 0) de_int (de_op op_addD (so_add (b := false)) (de_ix (de_var 0) de_int) de_int)) (dss_cons (ds_set 3 hN (de_ix (de_lst false (da_cons de_int (da_cons de_int (da_cons de_int (da_cons de_int (da_cons de_int da_nil)))))) (de_op op_modD (so_I (f := fun i j => i % j)) (de_callTy call_intA son_int (c.free 2) (da_cons (de_ix (de_var 0) de_int) da_nil)) de_int))) (dss_cons (ds_set 4 hN (de_op op_modD (so_I (f := fun i j => i % j)) (de_callTy call_intA son_int (c.free 2) (da_cons (de_op op_powD (so_I (f := fun i j => i ^ j.toNat)) (de_callTy call_intA son_int (c.free 2) (da_cons (de_op op_addD (so_add (b := false)) (de_op op_addD (so_add (b := false)) (de_ix (de_var 0) de_int) (de_op op_mulD (so_I (f := fun i j => i * j)) (de_op op_mulD (so_I (f := fun i j => i * j)) de_int (de_ix (de_var 0) de_int)) (de_ix (de_var 0) de_int))) de_int) da_nil)) de_int) da_nil)) (de_var 3))) (dss_cons (ds_set 4 hN (de_op op_modD (so_I (f := fun i j => i % j)) (de_callTy call_intA son_int (c.free 2) (da_cons (de_op op_mulD (so_I (f := fun i j => i * j)) (de_var 4) (de_op op_addD (so_add (b := false)) (de_op op_modD (so_I (f := fun i j => i % j)) (de_callTy call_intA son_int (c.free 2) (da_cons (de_var 4) da_nil)) de_int) (de_op op_mulD (so_I (f := fun i j => i * j)) de_int (de_ix (de_var 0) de_int)))) da_nil)) de_int)) (dss_one (ds_ret (de_op op_modD (so_I (f := fun i j => i % j)) (de_callTy call_intA son_int (c.free 2) (da_cons (de_op op_fdivD (so_I (f := fun i j => i / j)) (de_var 4) de_int) da_nil)) (de_var 1))))))))) : DSs _ _ d__law_take.body (W__law_take K ))) pf
theorem sc__law_of : FnScope ["pot", "some"] ["pot", "some"] d__law_of.scope := ⟨rfl, rfl, rfl, by decide +kernel, rfl, by decide +kernel, by decide +kernel⟩
def W__law_of (K : Fr) (ct__law_take : CT) : WS := (wRet (wOp2 oIx (wVar 1) (wCall 2 ct__law_take (wCons (wVar 0) (wCons (wCB oLen (wCons (wVar 1) wNil)) wNil)))))
theorem D__law_of (c : Known fs fn K mg) {ct__law_take ct : CT} (F__law_take : DFn P w K mg base 1 (He.fAd K ("_law_take", none)) (fdOf K ("_law_take", none)) ["pot", "upto"] ct__law_take) (pf : ∀ ds s Kd Kx, ds.length = 2 → ct ds s Kd Kx → W__law_of K ct__law_take (endsOf Kd Kx) ⟨startD 2 ds, s⟩) :
    DFn P w K mg base 2 (He.fAd K ("_law_of", none)) (fdOf K ("_law_of", none)) ["pot", "some"] ct := okF (c.dfn 27) sc__law_of (fun cdv A outer s H E hG hr tk hp => have hN := sc__law_of.nd
      ((dss_one (ds_ret (de_ix (de_var 1) (de_call F__law_take hG (hr.mono (by decide)) (gl__law_take c) (kp__law_take c) (bd__law_take c) tk (da_cons (de_var 0) (da_cons (de_callB call_lenA son_len (c.free 3) (da_cons (de_var 1) da_nil)) da_nil)))))) : DSs _ _ d__law_of.body (W__law_of K ct__law_take))) pf
theorem sc__law_cells : FnScope ["script", "most"] ["script", "most"] d__law_cells.scope := ⟨rfl, rfl, rfl, by decide +kernel, rfl, by decide +kernel, by decide +kernel⟩
def W__law_cells (K : Fr)  : WS := (wRet (wListRange false (wCons (wCB oMax2 (wCons (wC (.int 1)) (wCons (wCB oMin2 (wCons (wVar 1) (wCons (wCB oLen (wCons (wVar 0) wNil)) wNil))) wNil))) wNil)))
theorem D__law_cells (c : Known fs fn K mg) {ct : CT}  (pf : ∀ ds s Kd Kx, ds.length = 2 → ct ds s Kd Kx → W__law_cells K  (endsOf Kd Kx) ⟨startD 2 ds, s⟩) :
    DFn P w K mg base 1 (He.fAd K ("_law_cells", none)) (fdOf K ("_law_cells", none)) ["script", "most"] ct := okF (c.dfn 28) sc__law_cells (fun cdv A outer s H E hG hr tk hp => have hN := sc__law_cells.nd
      ((dss_one (ds_ret (de_listRange false rfl (c.free 35) (c.free 7) (de_callB (call_max2 rfl) son_2I (c.free 29) (da_cons de_int (da_cons (de_callB (call_min2 rfl) son_2I (c.free 34) (da_cons (de_var 1) (da_cons (de_callB call_lenA son_len (c.free 3) (da_cons (de_var 0) da_nil)) da_nil))) da_nil)))))) : DSs _ _ d__law_cells.body (W__law_cells K ))) pf
theorem sc__law_sums : FnScope ["pot", "amount", "some", "lap"] ["pot", "amount"] d__law_sums.scope := ⟨rfl, rfl, rfl, by decide +kernel, rfl, by decide +kernel, by decide +kernel⟩
def W__law_sums (K : Fr) (ct__law_of ct__law_take : CT) : WS := (wSeq (wSet 2 (wOp2 (oAdd false) (wLc false [3] (wRng1 (wCons (wC (.int 3)) wNil)) (wName 3) wYes (wCB oInt (wCons (wOp2 (oI0 fun i j => i - j) (wCall 2 ct__law_take (wCons (wVar 0) (wCons (wC (.int 9)) wNil))) (wC (.int 4))) wNil))) (wLst false (wCons (wCB oInt (wCons (wCall 2 ct__law_of (wCons (wVar 0) (wCons (wLst false (wCons (wOp2 (oI PowOk fun i j => i ^ j.toNat) (wC (.int 10)) (wC (.int 12))) (wCons (wOp1 oNeg (wOp2 (oI PowOk fun i j => i ^ j.toNat) (wC (.int 10)) (wC (.int 12)))) (wCons (wC (.int 0)) (wCons (wC (.int 7)) wNil))))) wNil))) wNil)) wNil)))) (wRet (wLc false [3] (wRng1 (wCons (wVar 1) wNil)) (wName 3) wYes (wCB oInt (wCons (wCall 2 ct__law_of (wCons (wVar 0) (wCons (wVar 2) wNil))) wNil)))))
theorem D__law_sums (c : Known fs fn K mg) {ct__law_of ct__law_take ct : CT} (F__law_of : DFn P w K mg base 2 (He.fAd K ("_law_of", none)) (fdOf K ("_law_of", none)) ["pot", "some"] ct__law_of) (F__law_take : DFn P w K mg base 1 (He.fAd K ("_law_take", none)) (fdOf K ("_law_take", none)) ["pot", "upto"] ct__law_take) (pf : ∀ ds s Kd Kx, ds.length = 2 → ct ds s Kd Kx → W__law_sums K ct__law_of ct__law_take (endsOf Kd Kx) ⟨startD 4 ds, s⟩) :
    DFn P w K mg base 3 (He.fAd K ("_law_sums", none)) (fdOf K ("_law_sums", none)) ["pot", "amount"] ct := okF (c.dfn 29) sc__law_sums (fun cdv A outer s H E hG hr tk hp => have hN := sc__law_sums.nd
      ((dss_cons (ds_set 2 hN (de_op op_addD (so_add (b := false)) (de_lc false (own := [("lap", 3)]) rfl hN (blkOk_by (N := ["pot", "amount", "some", "lap"]) (sc := d__law_sums.scope) (by decide +kernel)) (di_range1 (c.free 7) (da_cons de_int da_nil)) (fun _ _ _ _ _ => (dg_name 3 hN)) (fun _ _ _ _ _ => dts_nil) (fun _ _ _ _ _ => (de_callTy call_intA son_int (c.free 2) (da_cons (de_op op_sub (so_I0 (f := fun i j => i - j)) (de_call F__law_take (by exact hG) (by exact hr.mono (by decide)) (gl__law_take c) (kp__law_take c) (bd__law_take c) takes0 (da_cons (de_var 0) (da_cons de_int da_nil))) de_int) da_nil)))) (de_lst false (da_cons (de_callTy call_intA son_int (c.free 2) (da_cons (de_call F__law_of hG (hr.mono (by decide)) (gl__law_of c) (kp__law_of c) (bd__law_of c) tk (da_cons (de_var 0) (da_cons (de_lst false (da_cons (de_op op_powD (so_I (f := fun i j => i ^ j.toNat)) de_int de_int) (da_cons (de_neg (de_op op_powD (so_I (f := fun i j => i ^ j.toNat)) de_int de_int)) (da_cons de_int (da_cons de_int da_nil))))) da_nil))) da_nil)) da_nil)))) (dss_one (ds_ret (de_lc false (own := [("lap", 3)]) rfl hN (blkOk_by (N := ["pot", "amount", "some", "lap"]) (sc := d__law_sums.scope) (by decide +kernel)) (di_range1 (c.free 7) (da_cons (de_var 1) da_nil)) (fun _ _ _ _ _ => (dg_name 3 hN)) (fun _ _ _ _ _ => dts_nil) (fun _ _ _ _ _ => (de_callTy call_intA son_int (c.free 2) (da_cons (de_call F__law_of (by exact hG) (by exact hr.mono (by decide)) (gl__law_of c) (kp__law_of c) (bd__law_of c) takes0 (da_cons (de_var 0) (da_cons (de_var 2) da_nil))) da_nil))))))) : DSs _ _ d__law_sums.body (W__law_sums K ct__law_of ct__law_take))) pf
theorem sc__law_own_draft : FnScope ["pot", "most", "amount", "at", "own", "here", "step"] ["pot", "most"] d__law_own_draft.scope := ⟨rfl, rfl, rfl, by decide +kernel, rfl, by decide +kernel, by decide +kernel⟩
def W__law_own_draft (K : Fr) (ct__law_sums ct__law_take ct__law_of : CT) : WS := (wSeq (wPar 2 3 (wCons (wCall 2 ct__law_take (wCons (wVar 0) (wCons (wOp2 (oAdd false) (wVar 1) (wC (.int 1))) wNil))) (wCons (wC (.int 0)) wNil))) (wSeq (wSet 4 (wDisp true (wPCons (wC (.str "account")) (wCall 2 ct__law_of (wCons (wVar 0) (wCons (wLst false (wCons (wC (.str "a.ann")) (wCons (wC (.str "east.b")) (wCons (wC (.str "posting.before")) (wCons (wC (.str "abcdefgh.abcdefgh")) wNil))))) wNil))) (wPCons (wC (.str "rows")) (wLst true wNil) wPNil)))) (wSeq (wDPut (wVar 4) (wC (.str "before")) (wCB oInt (wCons (wCall 2 ct__law_of (wCons (wVar 0) (wCons (wLst false (wCons (wC (.int 0)) (wCons (wC (.int 0)) (wCons (wC (.int 100)) (wCons (wOp1 oNeg (wC (.int 5))) (wCons (wOp2 (oI PowOk fun i j => i ^ j.toNat) (wC (.int 10)) (wC (.int 15))) (wCons (wOp1 oNeg (wOp2 (oI PowOk fun i j => i ^ j.toNat) (wC (.int 10)) (wC (.int 15)))) wNil))))))) wNil))) wNil))) (wSeq (wSet 5 (wDGet (wVar 4) (wC (.str "before")))) (wSeq (wFor (wIt (wCall 2 ct__law_sums (wCons (wVar 0) (wCons (wVar 2) wNil)))) (wName 6) (wSeq (wPar 3 5 (wCons (wOp2 (oAdd false) (wOp2 (oAdd false) (wVar 3) (wC (.int 1))) (wCall 2 ct__law_take (wCons (wVar 0) (wCons (wC (.int 3)) wNil)))) (wCons (wOp2 (oAdd false) (wVar 5) (wVar 6)) wNil))) (wExpr (wBM "list" oAppend (wDGet (wVar 4) (wC (.str "rows"))) (wCons (wLst false (wCons (wCB oInt (wCons (wVar 3) wNil)) (wCons (wCB oInt (wCons (wVar 6) wNil)) (wCons (wCB oInt (wCons (wVar 5) wNil)) wNil)))) wNil))))) (wSeq (wDPut (wVar 4) (wC (.str "behind")) (wCB oInt (wCons (wVar 5) wNil))) (wFrzS 4 (wRet (wFrz (wVar 4))))))))))
theorem D__law_own_draft (c : Known fs fn K mg) {ct__law_sums ct__law_take ct__law_of ct : CT} (F__law_sums : DFn P w K mg base 3 (He.fAd K ("_law_sums", none)) (fdOf K ("_law_sums", none)) ["pot", "amount"] ct__law_sums) (F__law_take : DFn P w K mg base 1 (He.fAd K ("_law_take", none)) (fdOf K ("_law_take", none)) ["pot", "upto"] ct__law_take) (F__law_of : DFn P w K mg base 2 (He.fAd K ("_law_of", none)) (fdOf K ("_law_of", none)) ["pot", "some"] ct__law_of) (pf : ∀ ds s Kd Kx, ds.length = 2 → ct ds s Kd Kx → W__law_own_draft K ct__law_sums ct__law_take ct__law_of (endsOf Kd Kx) ⟨startD 7 ds, s⟩) :
    DFn P w K mg base 4 (He.fAd K ("_law_own_draft", none)) (fdOf K ("_law_own_draft", none)) ["pot", "most"] ct := okF (c.dfn 30) sc__law_own_draft (fun cdv A outer s H E hG hr tk hp => have hN := sc__law_own_draft.nd
      ((dss_cons (ds_par 2 3 rfl hN (da_cons (de_call F__law_take hG (hr.mono (by decide)) (gl__law_take c) (kp__law_take c) (bd__law_take c) tk (da_cons (de_var 0) (da_cons (de_op op_addD (so_add (b := false)) (de_var 1) de_int) da_nil))) (da_cons de_int da_nil))) (dss_cons (ds_set 4 hN (de_disp true (dps_cons de_str (de_call F__law_of hG (hr.mono (by decide)) (gl__law_of c) (kp__law_of c) (bd__law_of c) tk (da_cons (de_var 0) (da_cons (de_lst false (da_cons de_str (da_cons de_str (da_cons de_str (da_cons de_str da_nil))))) da_nil))) (dps_cons de_str (de_lst true da_nil) dps_nil)))) (dss_cons (ds_dput hr.units1 (de_var 4) de_str (de_callTy call_intA son_int (c.free 2) (da_cons (de_call F__law_of hG (hr.mono (by decide)) (gl__law_of c) (kp__law_of c) (bd__law_of c) tk (da_cons (de_var 0) (da_cons (de_lst false (da_cons de_int (da_cons de_int (da_cons de_int (da_cons (de_neg de_int) (da_cons (de_op op_powD (so_I (f := fun i j => i ^ j.toNat)) de_int de_int) (da_cons (de_neg (de_op op_powD (so_I (f := fun i j => i ^ j.toNat)) de_int de_int)) da_nil))))))) da_nil))) da_nil))) (dss_cons (ds_set 5 hN (de_dget hr.units1 (de_var 4) de_str)) (dss_cons (ds_for (vs := [6]) hp rfl (di_any (de_call F__law_sums hG (hr.mono (by decide)) (gl__law_sums c) (kp__law_sums c) (bd__law_sums c) tk (da_cons (de_var 0) (da_cons (de_var 2) da_nil)))) (dg_name 6 hN) (dss_cons (ds_par 3 5 rfl hN (da_cons (de_op op_addD (so_add (b := false)) (de_op op_addD (so_add (b := false)) (de_var 3) de_int) (de_call F__law_take hG (hr.mono (by decide)) (gl__law_take c) (kp__law_take c) (bd__law_take c) tk (da_cons (de_var 0) (da_cons de_int da_nil)))) (da_cons (de_op op_addD (so_add (b := false)) (de_var 5) (de_var 6)) da_nil))) (dss_one (ds_expr (de_bm PySem.F.plainAttrs_list PySem.F.slot_list_append PySem.F.type_list_append mt_append sm_append (de_dget hr.units1 (de_var 4) de_str) (da_cons (de_lst false (da_cons (de_callTy call_intA son_int (c.free 2) (da_cons (de_var 3) da_nil)) (da_cons (de_callTy call_intA son_int (c.free 2) (da_cons (de_var 6) da_nil)) (da_cons (de_callTy call_intA son_int (c.free 2) (da_cons (de_var 5) da_nil)) da_nil)))) da_nil)))))) (dss_cons (ds_dput hr.units1 (de_var 4) de_str (de_callTy call_intA son_int (c.free 2) (da_cons (de_var 5) da_nil))) (dss_frz 4 (dss_one (ds_ret (de_frz (de_var 4))))))))))) : DSs _ _ d__law_own_draft.body (W__law_own_draft K ct__law_sums ct__law_take ct__law_of))) pf
theorem sc__law_draft_text : FnScope ["own", "lines", "row", "one"] ["own"] d__law_draft_text.scope := ⟨rfl, rfl, rfl, by decide +kernel, rfl, by decide +kernel, by decide +kernel⟩
def W__law_draft_text (K : Fr)  : WS := (wSeq (wSet 1 (wLst true (wCons (wOp2 (oAdd false) (wC (.str "statement ")) (wDGet (wVar 0) (wC (.str "account")))) (wCons (wOp2 (oAdd false) (wC (.str "before ")) (wCB oStr (wCons (wDGet (wVar 0) (wC (.str "before"))) wNil))) wNil)))) (wSeq (wExpr (wBM "list" oExtend (wVar 1) (wCons (wLc false [2] (wIt (wDGet (wVar 0) (wC (.str "rows")))) (wName 2) wYes (wOp2 (oAdd false) (wC (.str "posting ")) (wBM "str" oJoin (wC (.str " ")) (wCons (wLc false [3] (wIt (wVar 2)) (wName 3) wYes (wCB oStr (wCons (wVar 3) wNil))) wNil)))) wNil))) (wFrzS 1 (wRet (wBM "str" oJoin (wC (.str "\n")) (wCons (wOp2 (oAdd false) (wVar 1) (wLst false (wCons (wOp2 (oAdd false) (wC (.str "behind ")) (wCB oStr (wCons (wDGet (wVar 0) (wC (.str "behind"))) wNil))) wNil))) wNil))))))
theorem D__law_draft_text (c : Known fs fn K mg) {ct : CT}  (pf : ∀ ds s Kd Kx, ds.length = 1 → ct ds s Kd Kx → W__law_draft_text K  (endsOf Kd Kx) ⟨startD 4 ds, s⟩) :
    DFn P w K mg base 1 (He.fAd K ("_law_draft_text", none)) (fdOf K ("_law_draft_text", none)) ["own"] ct := okF (c.dfn 31) sc__law_draft_text (fun cdv A outer s H E hG hr tk hp => have hN := sc__law_draft_text.nd
      ((dss_cons (ds_set 1 hN (de_lst true (da_cons (de_op op_addD (so_add (b := false)) de_str (de_dget hr.units1 (de_var 0) de_str)) (da_cons (de_op op_addD (so_add (b := false)) de_str (de_callTy call_strA son_str (c.free 4) (da_cons (de_dget hr.units1 (de_var 0) de_str) da_nil))) da_nil)))) (dss_cons (ds_expr (de_bm PySem.F.plainAttrs_list PySem.F.slot_list_extend PySem.F.type_list_extend mt_extend sm_extend (de_var 1) (da_cons (de_lc false (own := [("row", 2)]) rfl hN (blkOk_by (N := ["own", "lines", "row", "one"]) (sc := d__law_draft_text.scope) (by decide +kernel)) (di_any (de_dget hr.units1 (de_var 0) de_str)) (fun _ _ _ _ _ => (dg_name 2 hN)) (fun _ _ _ _ _ => dts_nil) (fun _ _ _ _ _ => (de_op op_addD (so_add (b := false)) de_str (de_bm PySem.F.plainAttrs_str PySem.F.slot_str_join PySem.F.type_str_join mt_join sm_join de_str (da_cons (de_lc false (own := [("one", 3)]) rfl hN (blkOk_by (N := ["own", "lines", "row", "one"]) (sc := (⟨.function, [(".0", .local), ("row", .local)], false, false, []⟩ : PySem.Scope)) (by decide +kernel)) (di_any (de_var 2)) (fun _ _ _ _ _ => (dg_name 3 hN)) (fun _ _ _ _ _ => dts_nil) (fun _ _ _ _ _ => (de_callTy call_strA son_str (c.free 4) (da_cons (de_var 3) da_nil)))) da_nil))))) da_nil))) (dss_frz 1 (dss_one (ds_ret (de_bm PySem.F.plainAttrs_str PySem.F.slot_str_join PySem.F.type_str_join mt_join sm_join de_str (da_cons (de_op op_addD (so_add (b := false)) (de_var 1) (de_lst false (da_cons (de_op op_addD (so_add (b := false)) de_str (de_callTy call_strA son_str (c.free 4) (da_cons (de_dget hr.units1 (de_var 0) de_str) da_nil))) da_nil))) da_nil))))))) : DSs _ _ d__law_draft_text.body (W__law_draft_text K ))) pf
theorem sc__law_offs : FnScope ["own", "found", "here", "number", "amount", "balance"] ["own"] d__law_offs.scope := ⟨rfl, rfl, rfl, by decide +kernel, rfl, by decide +kernel, by decide +kernel⟩
def W__law_offs (K : Fr)  : WS := (wSeq (wPar 1 2 (wCons (wLst true wNil) (wCons (wDGet (wVar 0) (wC (.str "before"))) wNil))) (wSeq (wFor (wIt (wDGet (wVar 0) (wC (.str "rows")))) (wGLst 3 (wGCons (wName 3) (wGCons (wName 4) (wGCons (wName 5) wGNil)))) (wSeq (wExpr (wBM "list" oAppend (wVar 1) (wCons (wCB oInt (wCons (wOp2 (oI0 fun i j => i - j) (wOp2 (oI0 fun i j => i - j) (wVar 5) (wVar 2)) (wVar 4)) wNil)) wNil))) (wSet 2 (wVar 5)))) (wFrzS 1 (wRet (wOp2 (oAdd false) (wVar 1) (wLst false (wCons (wCB oInt (wCons (wOp2 (oI0 fun i j => i - j) (wDGet (wVar 0) (wC (.str "behind"))) (wVar 2)) wNil)) wNil)))))))
theorem D__law_offs (c : Known fs fn K mg) {ct : CT}  (pf : ∀ ds s Kd Kx, ds.length = 1 → ct ds s Kd Kx → W__law_offs K  (endsOf Kd Kx) ⟨startD 6 ds, s⟩) :
    DFn P w K mg base 1 (He.fAd K ("_law_offs", none)) (fdOf K ("_law_offs", none)) ["own"] ct := okF (c.dfn 32) sc__law_offs (fun cdv A outer s H E hG hr tk hp => have hN := sc__law_offs.nd
      ((dss_cons (ds_par 1 2 rfl hN (da_cons (de_lst true da_nil) (da_cons (de_dget hr.units1 (de_var 0) de_str) da_nil))) (dss_cons (ds_for (vs := [3, 4, 5]) hp rfl (di_any (de_dget hr.units1 (de_var 0) de_str)) (dg_lst rfl (dgs_cons (dg_name 3 hN) (dgs_cons (dg_name 4 hN) (dgs_cons (dg_name 5 hN) dgs_nil)))) (dss_cons (ds_expr (de_bm PySem.F.plainAttrs_list PySem.F.slot_list_append PySem.F.type_list_append mt_append sm_append (de_var 1) (da_cons (de_callTy call_intA son_int (c.free 2) (da_cons (de_op op_sub (so_I0 (f := fun i j => i - j)) (de_op op_sub (so_I0 (f := fun i j => i - j)) (de_var 5) (de_var 2)) (de_var 4)) da_nil)) da_nil))) (dss_one (ds_set 2 hN (de_var 5))))) (dss_frz 1 (dss_one (ds_ret (de_op op_addD (so_add (b := false)) (de_var 1) (de_lst false (da_cons (de_callTy call_intA son_int (c.free 2) (da_cons (de_op op_sub (so_I0 (f := fun i j => i - j)) (de_dget hr.units1 (de_var 0) de_str) (de_var 2)) da_nil)) da_nil)))))))) : DSs _ _ d__law_offs.body (W__law_offs K ))) pf
theorem sc__law_pages : FnScope ["own", "lines", "found", "here", "left", "some", "last"] ["own", "lines"] d__law_pages.scope := ⟨rfl, rfl, rfl, by decide +kernel, rfl, by decide +kernel, by decide +kernel⟩
def W__law_pages (K : Fr)  : WS := (wSeq (wPar3 2 3 4 (wCons (wLst true wNil) (wCons (wDGet (wVar 0) (wC (.str "before"))) (wCons (wCB (oList false) (wCons (wDGet (wVar 0) (wC (.str "rows"))) wNil)) wNil)))) (wSeq (wWhile (wOrT (wB (wOp2 oNe (wVar 4) (wLst false wNil))) (wB (wOp2 oEqE (wVar 2) (wLst false wNil)))) (wSeq (wPar 5 4 (wCons (wSlA false (wVar 4) wPN (wPS (wVar 1))) (wCons (wSlA false (wVar 4) (wPS (wVar 1)) wPN) wNil))) (wSeq (wSet 6 (wIf (wB (wOp2 oNe (wVar 5) (wLst false wNil))) (wOp2 oIx (wOp2 oIx (wVar 5) (wOp1 oNeg (wC (.int 1)))) (wC (.int 2))) (wVar 3))) (wSeq (wExpr (wBM "list" oAppend (wVar 2) (wCons (wDisp false (wPCons (wC (.str "account")) (wDGet (wVar 0) (wC (.str "account"))) (wPCons (wC (.str "before")) (wVar 3) (wPCons (wC (.str "rows")) (wVar 5) (wPCons (wC (.str "behind")) (wVar 6) wPNil))))) wNil))) (wSet 3 (wVar 6)))))) (wFrzS 2 (wRet (wFrz (wVar 2))))))
theorem D__law_pages (c : Known fs fn K mg) {ct : CT}  (pf : ∀ ds s Kd Kx, ds.length = 2 → ct ds s Kd Kx → W__law_pages K  (endsOf Kd Kx) ⟨startD 7 ds, s⟩) :
    DFn P w K mg base 1 (He.fAd K ("_law_pages", none)) (fdOf K ("_law_pages", none)) ["own", "lines"] ct := okF (c.dfn 33) sc__law_pages (fun cdv A outer s H E hG hr tk hp => have hN := sc__law_pages.nd
      ((dss_cons (ds_par3 2 3 4 rfl hN (da_cons (de_lst true da_nil) (da_cons (de_dget hr.units1 (de_var 0) de_str) (da_cons (de_callTy call_list_of (son_list (b := false)) (c.free 35) (da_cons (de_dget hr.units1 (de_var 0) de_str) da_nil)) da_nil)))) (dss_cons (ds_while hp (DW.dt (dw_or (dt_cmp (op_neA hr.units) so_ne (de_var 4) (de_lst false da_nil)) (dw_or1 (dt_cmp (op_eqE hr.units) so_eqE (de_var 2) (de_lst false da_nil))))) (dss_cons (ds_par 5 4 rfl hN (da_cons (de_slA false (de_var 4) dp_none (dp_some (de_var 1))) (da_cons (de_slA false (de_var 4) (dp_some (de_var 1)) dp_none) da_nil))) (dss_cons (ds_set 6 hN (de_if (dt_cmp (op_neA hr.units) so_ne (de_var 5) (de_lst false da_nil)) (de_ix (de_ix (de_var 5) (de_neg de_int)) de_int) (de_var 3))) (dss_cons (ds_expr (de_bm PySem.F.plainAttrs_list PySem.F.slot_list_append PySem.F.type_list_append mt_append sm_append (de_var 2) (da_cons (de_disp false (dps_cons de_str (de_dget hr.units1 (de_var 0) de_str) (dps_cons de_str (de_var 3) (dps_cons de_str (de_var 5) (dps_cons de_str (de_var 6) dps_nil))))) da_nil))) (dss_one (ds_set 3 hN (de_var 6))))))) (dss_frz 2 (dss_one (ds_ret (de_frz (de_var 2))))))) : DSs _ _ d__law_pages.body (W__law_pages K ))) pf
theorem sc__law_number_of_pages : FnScope ["pages", "error"] ["pages"] d__law_number_of_pages.scope := ⟨rfl, rfl, rfl, by decide +kernel, rfl, by decide +kernel, by decide +kernel⟩
def W__law_number_of_pages (K : Fr) (ct_joined_pages : CT) : WS := (wSeq (wTry K (.ref (He.ga K "BadPages")) 1 (wExpr (wCall 1 ct_joined_pages (wCons (wVar 0) wNil))) fun a_ C_ dx_ => (wRet (wXf a_ C_ dx_ (wVar 1)))) (wRet (wC (.str ""))))
theorem D__law_number_of_pages (c : Known fs fn K mg) {ct_joined_pages ct : CT} (F_joined_pages : DFn P w K mg base 8 (He.fAd K ("joined_pages", none)) (fdOf K ("joined_pages", none)) ["pages"] ct_joined_pages) (pf : ∀ ds s Kd Kx, ds.length = 1 → ct ds s Kd Kx → W__law_number_of_pages K ct_joined_pages (endsOf Kd Kx) ⟨startD 2 ds, s⟩) :
    DFn P w K mg base 9 (He.fAd K ("_law_number_of_pages", none)) (fdOf K ("_law_number_of_pages", none)) ["pages"] ct := okF (c.dfn 34) sc__law_number_of_pages (fun cdv A outer s H E hG hr tk hp => have hN := sc__law_number_of_pages.nd
      ((dss_cons (ds_try 1 hN (c := .ref (He.ga K "BadPages")) (by exact ⟨rfl, by decide, .inl (c.glo 31)⟩) tk (fun _ _ _ tk hp => (dss_one (ds_expr (de_call F_joined_pages (by exact hG) (by exact hr.mono (by decide)) (gl_joined_pages c) (kp_joined_pages c) (bd_joined_pages c) tk (da_cons (de_var 0) da_nil))))) (fun a_ C_ dx_ oe pn xo hz hf => (dss_one (ds_ret (de_xf xo hz hf (de_var 1)))))) (dss_one (ds_ret de_str))) : DSs _ _ d__law_number_of_pages.body (W__law_number_of_pages K ct_joined_pages))) pf
theorem sc__law_bent : FnScope ["pot", "texts", "at", "way", "lines", "more", "last"] ["pot", "texts"] d__law_bent.scope := ⟨rfl, rfl, rfl, by decide +kernel, rfl, by decide +kernel, by decide +kernel⟩
def W__law_bent (K : Fr) (ct__law_of ct__law_take : CT) : WS := (wSeq (wPar 2 3 (wCons (wCall 2 ct__law_take (wCons (wVar 0) (wCons (wCB oLen (wCons (wVar 1) wNil)) wNil))) (wCons (wCall 2 ct__law_take (wCons (wVar 0) (wCons (wC (.int 7)) wNil))) wNil))) (wSeq (wSet 4 (wBM "str" (oSplit false) (wOp2 oIx (wVar 1) (wVar 2)) (wCons (wC (.str "\n")) wNil))) (wSeq (wIfS (wB (wOp2 oEq (wVar 3) (wC (.int 0)))) (wRet (wTup (wCons (wCall 2 ct__law_of (wCons (wVar 0) (wCons (wLst false (wCons (wC .non) (wCons (wTup wNil) (wCons (wCB (oList false) (wCons (wVar 1) wNil)) (wCons (wOp2 oIx (wVar 1) (wC (.int 0))) (wCons (wC (.int 0)) wNil)))))) wNil))) (wCons (wC .non) wNil)))) wSkip) (wSeq (wIfS (wB (wOp2 oEq (wVar 3) (wC (.int 1)))) (wRet (wTup (wCons (wOp2 (oAdd false) (wOp2 (oAdd false) (wSlA false (wVar 1) wPN (wPS (wVar 2))) (wTup (wCons (wCall 2 ct__law_of (wCons (wVar 0) (wCons (wLst false (wCons (wC .non) (wCons (wC (.str "")) (wCons (wC (.int 7)) (wCons (wOp2 (oAdd false) (wOp2 oIx (wVar 1) (wVar 2)) (wC (.str " "))) (wCons (wSlA false (wOp2 oIx (wVar 1) (wVar 2)) (wPS (wC (.int 1))) wPN) wNil)))))) wNil))) wNil))) (wSlA false (wVar 1) (wPS (wOp2 (oAdd false) (wVar 2) (wC (.int 1)))) wPN)) (wCons (wVar 2) wNil)))) wSkip) (wSeq (wIfS (wAndT (wB (wOp2 oEq (wVar 3) (wC (.int 2)))) (wB (wOp2 oGt (wVar 2) (wC (.int 0))))) (wRet (wTup (wCons (wOp2 (oAdd false) (wOp2 (oAdd false) (wSlA false (wVar 1) wPN (wPS (wVar 2))) (wTup (wCons (wBM "str" oJoin (wC (.str "\n")) (wCons (wOp2 (oAdd false) (wLst false (wCons (wC (.str "statement zz.zz")) wNil)) (wSlA false (wVar 4) (wPS (wC (.int 1))) wPN)) wNil)) wNil))) (wSlA false (wVar 1) (wPS (wOp2 (oAdd false) (wVar 2) (wC (.int 1)))) wPN)) (wCons (wVar 2) wNil)))) wSkip) (wSeq (wIfS (wB (wOp2 oEq (wVar 3) (wC (.int 3)))) (wRet (wTup (wCons (wOp2 (oAdd false) (wOp2 (oAdd false) (wSlA false (wVar 1) wPN (wPS (wVar 2))) (wTup (wCons (wBM "str" oJoin (wC (.str "\n")) (wCons (wOp2 (oAdd false) (wOp2 (oAdd false) (wSlA false (wVar 4) wPN (wPS (wC (.int 1)))) (wLst false (wCons (wC (.str "before 77777")) wNil))) (wSlA false (wVar 4) (wPS (wC (.int 2))) wPN)) wNil)) wNil))) (wSlA false (wVar 1) (wPS (wOp2 (oAdd false) (wVar 2) (wC (.int 1)))) wPN)) (wCons (wVar 2) wNil)))) wSkip) (wSeq (wIfS (wB (wOp2 oEq (wVar 3) (wC (.int 4)))) (wSeq (wSet 5 (wBM "str" oJoin (wC (.str "\n")) (wCons (wLst false (wCons (wOp2 oIx (wVar 4) (wC (.int 0))) (wCons (wC (.str "before 123456")) (wCons (wC (.str "behind 123456")) wNil)))) wNil))) (wRet (wTup (wCons (wOp2 (oAdd false) (wVar 1) (wTup (wCons (wVar 5) wNil))) (wCons (wCB oLen (wCons (wVar 1) wNil)) wNil))))) wSkip) (wSeq (wSet 6 (wOp2 oIx (wBM "str" (oSplit false) (wOp2 oIx (wBM "str" (oSplit false) (wOp2 oIx (wVar 1) (wOp1 oNeg (wC (.int 1)))) (wCons (wC (.str "\n")) wNil)) (wOp1 oNeg (wC (.int 1)))) (wCons (wC (.str " ")) wNil)) (wC (.int 1)))) (wSeq (wIfS (wAndT (wB (wOp2 oEq (wVar 3) (wC (.int 5)))) (wB (wOp2 oGt (wCB oLen (wCons (wBM "str" (oSplit false) (wOp2 oIx (wVar 1) (wC (.int 0))) (wCons (wC (.str "\n")) wNil)) wNil)) (wC (.int 3))))) (wSeq (wSet 5 (wBM "str" oJoin (wC (.str "\n")) (wCons (wLst false (wCons (wOp2 oIx (wVar 4) (wC (.int 0))) (wCons (wOp2 (oAdd false) (wC (.str "before ")) (wVar 6)) (wCons (wOp2 (oAdd false) (wC (.str "posting 1 0 ")) (wVar 6)) (wCons (wOp2 (oAdd false) (wC (.str "behind ")) (wVar 6)) wNil))))) wNil))) (wRet (wTup (wCons (wOp2 (oAdd false) (wVar 1) (wTup (wCons (wVar 5) wNil))) (wCons (wCB oLen (wCons (wVar 1) wNil)) wNil))))) wSkip) (wRet (wTup (wCons (wOp2 (oAdd false) (wVar 1) (wTup (wCons (wC .non) wNil))) (wCons (wCB oLen (wCons (wVar 1) wNil)) wNil)))))))))))))
theorem D__law_bent (c : Known fs fn K mg) {ct__law_of ct__law_take ct : CT} (F__law_of : DFn P w K mg base 2 (He.fAd K ("_law_of", none)) (fdOf K ("_law_of", none)) ["pot", "some"] ct__law_of) (F__law_take : DFn P w K mg base 1 (He.fAd K ("_law_take", none)) (fdOf K ("_law_take", none)) ["pot", "upto"] ct__law_take) (pf : ∀ ds s Kd Kx, ds.length = 2 → ct ds s Kd Kx → W__law_bent K ct__law_of ct__law_take (endsOf Kd Kx) ⟨startD 7 ds, s⟩) :
    DFn P w K mg base 3 (He.fAd K ("_law_bent", none)) (fdOf K ("_law_bent", none)) ["pot", "texts"] ct := okF (c.dfn 35) sc__law_bent (fun cdv A outer s H E hG hr tk hp => have hN := sc__law_bent.nd
      ((dss_cons (ds_par 2 3 rfl hN (da_cons (de_call F__law_take hG (hr.mono (by decide)) (gl__law_take c) (kp__law_take c) (bd__law_take c) tk (da_cons (de_var 0) (da_cons (de_callB call_lenA son_len (c.free 3) (da_cons (de_var 1) da_nil)) da_nil))) (da_cons (de_call F__law_take hG (hr.mono (by decide)) (gl__law_take c) (kp__law_take c) (bd__law_take c) tk (da_cons (de_var 0) (da_cons de_int da_nil))) da_nil))) (dss_cons (ds_set 4 hN (de_bm PySem.F.plainAttrs_str PySem.F.slot_str_split PySem.F.type_str_split mt_split (sm_split (b := false)) (de_ix (de_var 1) (de_var 2)) (da_cons de_str da_nil))) (dss_cons (ds_if (dt_cmp (op_eqA hr.units) so_eq (de_var 3) de_int) (dss_one (ds_ret (de_tup (da_cons (de_call F__law_of hG (hr.mono (by decide)) (gl__law_of c) (kp__law_of c) (bd__law_of c) tk (da_cons (de_var 0) (da_cons (de_lst false (da_cons de_non (da_cons (de_tup da_nil) (da_cons (de_callTy call_list_of (son_list (b := false)) (c.free 35) (da_cons (de_var 1) da_nil)) (da_cons (de_ix (de_var 1) de_int) (da_cons de_int da_nil)))))) da_nil))) (da_cons de_non da_nil))))) dss_nil) (dss_cons (ds_if (dt_cmp (op_eqA hr.units) so_eq (de_var 3) de_int) (dss_one (ds_ret (de_tup (da_cons (de_op op_addD (so_add (b := false)) (de_op op_addD (so_add (b := false)) (de_slA false (de_var 1) dp_none (dp_some (de_var 2))) (de_tup (da_cons (de_call F__law_of hG (hr.mono (by decide)) (gl__law_of c) (kp__law_of c) (bd__law_of c) tk (da_cons (de_var 0) (da_cons (de_lst false (da_cons de_non (da_cons de_str (da_cons de_int (da_cons (de_op op_addD (so_add (b := false)) (de_ix (de_var 1) (de_var 2)) de_str) (da_cons (de_slA false (de_ix (de_var 1) (de_var 2)) (dp_some de_int) dp_none) da_nil)))))) da_nil))) da_nil))) (de_slA false (de_var 1) (dp_some (de_op op_addD (so_add (b := false)) (de_var 2) de_int)) dp_none)) (da_cons (de_var 2) da_nil))))) dss_nil) (dss_cons (ds_if (DW.dt (dw_and (dt_cmp (op_eqA hr.units) so_eq (de_var 3) de_int) (dw_and1 (dt_cmp op_gtD so_ord (de_var 2) de_int)))) (dss_one (ds_ret (de_tup (da_cons (de_op op_addD (so_add (b := false)) (de_op op_addD (so_add (b := false)) (de_slA false (de_var 1) dp_none (dp_some (de_var 2))) (de_tup (da_cons (de_bm PySem.F.plainAttrs_str PySem.F.slot_str_join PySem.F.type_str_join mt_join sm_join de_str (da_cons (de_op op_addD (so_add (b := false)) (de_lst false (da_cons de_str da_nil)) (de_slA false (de_var 4) (dp_some de_int) dp_none)) da_nil)) da_nil))) (de_slA false (de_var 1) (dp_some (de_op op_addD (so_add (b := false)) (de_var 2) de_int)) dp_none)) (da_cons (de_var 2) da_nil))))) dss_nil) (dss_cons (ds_if (dt_cmp (op_eqA hr.units) so_eq (de_var 3) de_int) (dss_one (ds_ret (de_tup (da_cons (de_op op_addD (so_add (b := false)) (de_op op_addD (so_add (b := false)) (de_slA false (de_var 1) dp_none (dp_some (de_var 2))) (de_tup (da_cons (de_bm PySem.F.plainAttrs_str PySem.F.slot_str_join PySem.F.type_str_join mt_join sm_join de_str (da_cons (de_op op_addD (so_add (b := false)) (de_op op_addD (so_add (b := false)) (de_slA false (de_var 4) dp_none (dp_some de_int)) (de_lst false (da_cons de_str da_nil))) (de_slA false (de_var 4) (dp_some de_int) dp_none)) da_nil)) da_nil))) (de_slA false (de_var 1) (dp_some (de_op op_addD (so_add (b := false)) (de_var 2) de_int)) dp_none)) (da_cons (de_var 2) da_nil))))) dss_nil) (dss_cons (ds_if (dt_cmp (op_eqA hr.units) so_eq (de_var 3) de_int) (dss_cons (ds_set 5 hN (de_bm PySem.F.plainAttrs_str PySem.F.slot_str_join PySem.F.type_str_join mt_join sm_join de_str (da_cons (de_lst false (da_cons (de_ix (de_var 4) de_int) (da_cons de_str (da_cons de_str da_nil)))) da_nil))) (dss_one (ds_ret (de_tup (da_cons (de_op op_addD (so_add (b := false)) (de_var 1) (de_tup (da_cons (de_var 5) da_nil))) (da_cons (de_callB call_lenA son_len (c.free 3) (da_cons (de_var 1) da_nil)) da_nil)))))) dss_nil) (dss_cons (ds_set 6 hN (de_ix (de_bm PySem.F.plainAttrs_str PySem.F.slot_str_split PySem.F.type_str_split mt_split (sm_split (b := false)) (de_ix (de_bm PySem.F.plainAttrs_str PySem.F.slot_str_split PySem.F.type_str_split mt_split (sm_split (b := false)) (de_ix (de_var 1) (de_neg de_int)) (da_cons de_str da_nil)) (de_neg de_int)) (da_cons de_str da_nil)) de_int)) (dss_cons (ds_if (DW.dt (dw_and (dt_cmp (op_eqA hr.units) so_eq (de_var 3) de_int) (dw_and1 (dt_cmp op_gtD so_ord (de_callB call_lenA son_len (c.free 3) (da_cons (de_bm PySem.F.plainAttrs_str PySem.F.slot_str_split PySem.F.type_str_split mt_split (sm_split (b := false)) (de_ix (de_var 1) de_int) (da_cons de_str da_nil)) da_nil)) de_int)))) (dss_cons (ds_set 5 hN (de_bm PySem.F.plainAttrs_str PySem.F.slot_str_join PySem.F.type_str_join mt_join sm_join de_str (da_cons (de_lst false (da_cons (de_ix (de_var 4) de_int) (da_cons (de_op op_addD (so_add (b := false)) de_str (de_var 6)) (da_cons (de_op op_addD (so_add (b := false)) de_str (de_var 6)) (da_cons (de_op op_addD (so_add (b := false)) de_str (de_var 6)) da_nil))))) da_nil))) (dss_one (ds_ret (de_tup (da_cons (de_op op_addD (so_add (b := false)) (de_var 1) (de_tup (da_cons (de_var 5) da_nil))) (da_cons (de_callB call_lenA son_len (c.free 3) (da_cons (de_var 1) da_nil)) da_nil)))))) dss_nil) (dss_one (ds_ret (de_tup (da_cons (de_op op_addD (so_add (b := false)) (de_var 1) (de_tup (da_cons de_non da_nil))) (da_cons (de_callB call_lenA son_len (c.free 3) (da_cons (de_var 1) da_nil)) da_nil)))))))))))))) : DSs _ _ d__law_bent.body (W__law_bent K ct__law_of ct__law_take))) pf
theorem sc__law_right : FnScope ["pot", "own", "lines", "postings", "text", "rows", "told", "bent", "number", "other", "is_even", "row", "page", "one"] ["pot"] d__law_right.scope := ⟨rfl, rfl, rfl, by decide +kernel, rfl, by decide +kernel, by decide +kernel⟩
def W__law_right (K : Fr) (ct_adds_up ct_is_draft ct__law_offs ct__law_draft_text ct__law_take ct__law_number_of_pages ct__law_bent ct_joined_pages ct__law_pages ct_paged ct_read_draft ct_statement_text ct__law_own_draft : CT) : WS := (wSeq (wPar 1 2 (wCons (wCall 2 ct__law_own_draft (wCons (wVar 0) (wCons (wC (.int 9)) wNil))) (wCons (wCB oInt (wCons (wOp2 (oAdd false) (wC (.int 1)) (wCall 2 ct__law_take (wCons (wVar 0) (wCons (wC (.int 5)) wNil)))) wNil)) wNil))) (wSeq (wSet 3 (wCB oTuple (wCons (wLc false [11] (wIt (wDGet (wVar 1) (wC (.str "rows")))) (wName 11) wYes (wTup (wCons (wOp2 oIx (wVar 11) (wC (.int 0))) (wCons (wOp2 oIx (wVar 11) (wC (.int 1))) wNil)))) wNil))) (wSeq (wSet 4 (wCallK 3 ct_statement_text kg_statement_text_0_postings_before_account wNil (wCons (wVar 3) (wCons (wDGet (wVar 1) (wC (.str "before"))) (wCons (wDGet (wVar 1) (wC (.str "account"))) wNil))))) (wSeq (wSet 5 (wCB oTuple (wCons (wLc false [11] (wIt (wDGet (wVar 1) (wC (.str "rows")))) (wName 11) wYes (wCB oTuple (wCons (wVar 11) wNil))) wNil))) (wSeq (wIfS (wOrT (wB (wOp2 oNe (wVar 4) (wCall 1 ct__law_draft_text (wCons (wVar 1) wNil)))) (wOrT (wB (wOp2 oIsntB (wCall 1 ct_is_draft (wCons (wVar 4) wNil)) (wC (.bl true)))) (wB (wOp2 oIsntB (wCall 1 ct_adds_up (wCons (wVar 4) wNil)) (wC (.bl true)))))) (wRet (wC (.bl false))) wSkip) (wSeq (wIfS (wB (wOp2 oNe (wCB oRepr (wCons (wCallK 1 ct_read_draft kg_read_draft_0_draft wNil (wCons (wVar 4) wNil)) wNil)) (wCB oRepr (wCons (wTup (wCons (wDGet (wVar 1) (wC (.str "account"))) (wCons (wDGet (wVar 1) (wC (.str "before"))) (wCons (wVar 5) (wCons (wDGet (wVar 1) (wC (.str "behind"))) wNil))))) wNil)))) (wRet (wC (.bl false))) wSkip) (wSeq (wSet 6 (wCallK 4 ct_paged kg_paged_0_lines_postings_before_account wNil (wCons (wVar 2) (wCons (wVar 3) (wCons (wDGet (wVar 1) (wC (.str "before"))) (wCons (wDGet (wVar 1) (wC (.str "account"))) wNil)))))) (wSeq (wIfS (wB (wOp2 oNe (wCB oRepr (wCons (wVar 6) wNil)) (wCB oRepr (wCons (wCB oTuple (wCons (wLc false [12] (wIt (wCall 2 ct__law_pages (wCons (wVar 1) (wCons (wVar 2) wNil)))) (wName 12) wYes (wCall 1 ct__law_draft_text (wCons (wVar 12) wNil))) wNil)) wNil)))) (wRet (wC (.bl false))) wSkip) (wSeq (wIfS (wB (wOp2 oNe (wCB oRepr (wCons (wCallK 1 ct_joined_pages kg_joined_pages_0_pages wNil (wCons (wVar 6) wNil)) wNil)) (wCB oRepr (wCons (wTup (wCons (wDGet (wVar 1) (wC (.str "account"))) (wCons (wDGet (wVar 1) (wC (.str "before"))) (wCons (wVar 3) wNil)))) wNil)))) (wRet (wC (.bl false))) wSkip) (wSeq (wAsg (wCall 2 ct__law_bent (wCons (wVar 0) (wCons (wVar 6) wNil))) (wGTup 2 (wGCons (wName 7) (wGCons (wName 8) wGNil)))) (wSeq (wIfS (wB (wOp2 oNe (wCB oRepr (wCons (wCall 1 ct__law_number_of_pages (wCons (wVar 7) wNil)) wNil)) (wCB oRepr (wCons (wVar 8) wNil)))) (wRet (wC (.bl false))) wSkip) (wSeq (wSet 9 (wDisp true (wPCons (wC (.str "account")) (wDGet (wVar 1) (wC (.str "account"))) (wPCons (wC (.str "before")) (wOp2 (oAdd false) (wDGet (wVar 1) (wC (.str "before"))) (wCall 2 ct__law_take (wCons (wVar 0) (wCons (wC (.int 2)) wNil)))) (wPCons (wC (.str "rows")) (wCB (oList false) (wCons (wDGet (wVar 1) (wC (.str "rows"))) wNil)) wPNil))))) (wSeq (wDPut (wVar 9) (wC (.str "behind")) (wOp2 (oAdd false) (wDGet (wVar 1) (wC (.str "behind"))) (wCall 2 ct__law_take (wCons (wVar 0) (wCons (wC (.int 2)) wNil))))) (wSeq (wSet 4 (wCall 1 ct__law_draft_text (wCons (wVar 9) wNil))) (wSeq (wSet 10 (wCB oAll (wCons (wLc false [13] (wIt (wCall 1 ct__law_offs (wCons (wVar 9) wNil))) (wName 13) wYes (wOp2 oEq (wVar 13) (wC (.int 0)))) wNil))) (wFrzS 9 (wRet (wAndV (wOp2 oIsB (wCall 1 ct_is_draft (wCons (wVar 4) wNil)) (wC (.bl true))) (wOp2 oEq (wCB oRepr (wCons (wCallK 1 ct_adds_up kg_adds_up_0_draft wNil (wCons (wVar 4) wNil)) wNil)) (wCB oRepr (wCons (wVar 10) wNil)))))))))))))))))))))
theorem D__law_right (c : Known fs fn K mg) {ct_adds_up ct_is_draft ct__law_offs ct__law_draft_text ct__law_take ct__law_number_of_pages ct__law_bent ct_joined_pages ct__law_pages ct_paged ct_read_draft ct_statement_text ct__law_own_draft ct : CT} (F_adds_up : DFn P w K mg base 7 (He.fAd K ("adds_up", none)) (fdOf K ("adds_up", none)) ["draft"] ct_adds_up) (F_is_draft : DFn P w K mg base 6 (He.fAd K ("is_draft", none)) (fdOf K ("is_draft", none)) ["value"] ct_is_draft) (F__law_offs : DFn P w K mg base 1 (He.fAd K ("_law_offs", none)) (fdOf K ("_law_offs", none)) ["own"] ct__law_offs) (F__law_draft_text : DFn P w K mg base 1 (He.fAd K ("_law_draft_text", none)) (fdOf K ("_law_draft_text", none)) ["own"] ct__law_draft_text) (F__law_take : DFn P w K mg base 1 (He.fAd K ("_law_take", none)) (fdOf K ("_law_take", none)) ["pot", "upto"] ct__law_take) (F__law_number_of_pages : DFn P w K mg base 9 (He.fAd K ("_law_number_of_pages", none)) (fdOf K ("_law_number_of_pages", none)) ["pages"] ct__law_number_of_pages) (F__law_bent : DFn P w K mg base 3 (He.fAd K ("_law_bent", none)) (fdOf K ("_law_bent", none)) ["pot", "texts"] ct__law_bent) (F_joined_pages : DFn P w K mg base 8 (He.fAd K ("joined_pages", none)) (fdOf K ("joined_pages", none)) ["pages"] ct_joined_pages) (F__law_pages : DFn P w K mg base 1 (He.fAd K ("_law_pages", none)) (fdOf K ("_law_pages", none)) ["own", "lines"] ct__law_pages) (F_paged : DFn P w K mg base 6 (He.fAd K ("paged", none)) (fdOf K ("paged", none)) ["account", "before", "postings", "lines"] ct_paged) (F_read_draft : DFn P w K mg base 5 (He.fAd K ("read_draft", none)) (fdOf K ("read_draft", none)) ["draft"] ct_read_draft) (F_statement_text : DFn P w K mg base 6 (He.fAd K ("statement_text", none)) (fdOf K ("statement_text", none)) ["account", "before", "postings"] ct_statement_text) (F__law_own_draft : DFn P w K mg base 4 (He.fAd K ("_law_own_draft", none)) (fdOf K ("_law_own_draft", none)) ["pot", "most"] ct__law_own_draft) (pf : ∀ ds s Kd Kx, ds.length = 1 → ct ds s Kd Kx → W__law_right K ct_adds_up ct_is_draft ct__law_offs ct__law_draft_text ct__law_take ct__law_number_of_pages ct__law_bent ct_joined_pages ct__law_pages ct_paged ct_read_draft ct_statement_text ct__law_own_draft (endsOf Kd Kx) ⟨startD 14 ds, s⟩) :
    DFn P w K mg base 10 (He.fAd K ("_law_right", none)) (fdOf K ("_law_right", none)) ["pot"] ct := okF (c.dfn 36) sc__law_right (fun cdv A outer s H E hG hr tk hp => have hN := sc__law_right.nd
      ((dss_cons (ds_par 1 2 rfl hN (da_cons (de_call F__law_own_draft hG (hr.mono (by decide)) (gl__law_own_draft c) (kp__law_own_draft c) (bd__law_own_draft c) tk (da_cons (de_var 0) (da_cons de_int da_nil))) (da_cons (de_callTy call_intA son_int (c.free 2) (da_cons (de_op op_addD (so_add (b := false)) de_int (de_call F__law_take hG (hr.mono (by decide)) (gl__law_take c) (kp__law_take c) (bd__law_take c) tk (da_cons (de_var 0) (da_cons de_int da_nil)))) da_nil)) da_nil))) (dss_cons (ds_set 3 hN (de_callTy call_tuple_of son_tuple (c.free 6) (da_cons (de_lc false (own := [("row", 11)]) rfl hN (blkOk_by (N := ["pot", "own", "lines", "postings", "text", "rows", "told", "bent", "number", "other", "is_even", "row", "page", "one"]) (sc := d__law_right.scope) (by decide +kernel)) (di_any (de_dget hr.units1 (de_var 1) de_str)) (fun _ _ _ _ _ => (dg_name 11 hN)) (fun _ _ _ _ _ => dts_nil) (fun _ _ _ _ _ => (de_tup (da_cons (de_ix (de_var 11) de_int) (da_cons (de_ix (de_var 11) de_int) da_nil))))) da_nil))) (dss_cons (ds_set 4 hN (de_callK0 mx_statement_text_0_postings_before_account F_statement_text hG (hr.mono (by decide)) (gl_statement_text c) (kp_statement_text c) (kb_statement_text_0_postings_before_account c) tk (dk_cons (de_var 3) (dk_cons (de_dget hr.units1 (de_var 1) de_str) (dk_cons (de_dget hr.units1 (de_var 1) de_str) dk_nil))))) (dss_cons (ds_set 5 hN (de_callTy call_tuple_of son_tuple (c.free 6) (da_cons (de_lc false (own := [("row", 11)]) rfl hN (blkOk_by (N := ["pot", "own", "lines", "postings", "text", "rows", "told", "bent", "number", "other", "is_even", "row", "page", "one"]) (sc := d__law_right.scope) (by decide +kernel)) (di_any (de_dget hr.units1 (de_var 1) de_str)) (fun _ _ _ _ _ => (dg_name 11 hN)) (fun _ _ _ _ _ => dts_nil) (fun _ _ _ _ _ => (de_callTy call_tuple_of son_tuple (c.free 6) (da_cons (de_var 11) da_nil)))) da_nil))) (dss_cons (ds_if (DW.dt (dw_or (dt_cmp (op_neA hr.units) so_ne (de_var 4) (de_call F__law_draft_text hG (hr.mono (by decide)) (gl__law_draft_text c) (kp__law_draft_text c) (bd__law_draft_text c) tk (da_cons (de_var 1) da_nil))) (dw_or (dt_cmp op_isnotB so_isntB (de_call F_is_draft hG (hr.mono (by decide)) (gl_is_draft c) (kp_is_draft c) (bd_is_draft c) tk (da_cons (de_var 4) da_nil)) de_bl) (dw_or1 (dt_cmp op_isnotB so_isntB (de_call F_adds_up hG (hr.mono (by decide)) (gl_adds_up c) (kp_adds_up c) (bd_adds_up c) tk (da_cons (de_var 4) da_nil)) de_bl))))) (dss_one (ds_ret de_bl)) dss_nil) (dss_cons (ds_if (dt_cmp (op_neA hr.units) so_ne (de_callB (call_reprA hG hr.units66) son_repr (c.free 36) (da_cons (de_callK0 mx_read_draft_0_draft F_read_draft hG (hr.mono (by decide)) (gl_read_draft c) (kp_read_draft c) (kb_read_draft_0_draft c) tk (dk_cons (de_var 4) dk_nil)) da_nil)) (de_callB (call_reprA hG hr.units66) son_repr (c.free 36) (da_cons (de_tup (da_cons (de_dget hr.units1 (de_var 1) de_str) (da_cons (de_dget hr.units1 (de_var 1) de_str) (da_cons (de_var 5) (da_cons (de_dget hr.units1 (de_var 1) de_str) da_nil))))) da_nil))) (dss_one (ds_ret de_bl)) dss_nil) (dss_cons (ds_set 6 hN (de_callK0 mx_paged_0_lines_postings_before_account F_paged hG (hr.mono (by decide)) (gl_paged c) (kp_paged c) (kb_paged_0_lines_postings_before_account c) tk (dk_cons (de_var 2) (dk_cons (de_var 3) (dk_cons (de_dget hr.units1 (de_var 1) de_str) (dk_cons (de_dget hr.units1 (de_var 1) de_str) dk_nil)))))) (dss_cons (ds_if (dt_cmp (op_neA hr.units) so_ne (de_callB (call_reprA hG hr.units66) son_repr (c.free 36) (da_cons (de_var 6) da_nil)) (de_callB (call_reprA hG hr.units66) son_repr (c.free 36) (da_cons (de_callTy call_tuple_of son_tuple (c.free 6) (da_cons (de_lc false (own := [("page", 12)]) rfl hN (blkOk_by (N := ["pot", "own", "lines", "postings", "text", "rows", "told", "bent", "number", "other", "is_even", "row", "page", "one"]) (sc := d__law_right.scope) (by decide +kernel)) (di_any (de_call F__law_pages hG (hr.mono (by decide)) (gl__law_pages c) (kp__law_pages c) (bd__law_pages c) tk (da_cons (de_var 1) (da_cons (de_var 2) da_nil)))) (fun _ _ _ _ _ => (dg_name 12 hN)) (fun _ _ _ _ _ => dts_nil) (fun _ _ _ _ _ => (de_call F__law_draft_text (by exact hG) (by exact hr.mono (by decide)) (gl__law_draft_text c) (kp__law_draft_text c) (bd__law_draft_text c) takes0 (da_cons (de_var 12) da_nil)))) da_nil)) da_nil))) (dss_one (ds_ret de_bl)) dss_nil) (dss_cons (ds_if (dt_cmp (op_neA hr.units) so_ne (de_callB (call_reprA hG hr.units66) son_repr (c.free 36) (da_cons (de_callK0 mx_joined_pages_0_pages F_joined_pages hG (hr.mono (by decide)) (gl_joined_pages c) (kp_joined_pages c) (kb_joined_pages_0_pages c) tk (dk_cons (de_var 6) dk_nil)) da_nil)) (de_callB (call_reprA hG hr.units66) son_repr (c.free 36) (da_cons (de_tup (da_cons (de_dget hr.units1 (de_var 1) de_str) (da_cons (de_dget hr.units1 (de_var 1) de_str) (da_cons (de_var 3) da_nil)))) da_nil))) (dss_one (ds_ret de_bl)) dss_nil) (dss_cons (ds_asg (vs := [7, 8]) (de_call F__law_bent hG (hr.mono (by decide)) (gl__law_bent c) (kp__law_bent c) (bd__law_bent c) tk (da_cons (de_var 0) (da_cons (de_var 6) da_nil))) (dg_tup rfl (dgs_cons (dg_name 7 hN) (dgs_cons (dg_name 8 hN) dgs_nil)))) (dss_cons (ds_if (dt_cmp (op_neA hr.units) so_ne (de_callB (call_reprA hG hr.units66) son_repr (c.free 36) (da_cons (de_call F__law_number_of_pages hG (hr.mono (by decide)) (gl__law_number_of_pages c) (kp__law_number_of_pages c) (bd__law_number_of_pages c) tk (da_cons (de_var 7) da_nil)) da_nil)) (de_callB (call_reprA hG hr.units66) son_repr (c.free 36) (da_cons (de_var 8) da_nil))) (dss_one (ds_ret de_bl)) dss_nil) (dss_cons (ds_set 9 hN (de_disp true (dps_cons de_str (de_dget hr.units1 (de_var 1) de_str) (dps_cons de_str (de_op op_addD (so_add (b := false)) (de_dget hr.units1 (de_var 1) de_str) (de_call F__law_take hG (hr.mono (by decide)) (gl__law_take c) (kp__law_take c) (bd__law_take c) tk (da_cons (de_var 0) (da_cons de_int da_nil)))) (dps_cons de_str (de_callTy call_list_of (son_list (b := false)) (c.free 35) (da_cons (de_dget hr.units1 (de_var 1) de_str) da_nil)) dps_nil))))) (dss_cons (ds_dput hr.units1 (de_var 9) de_str (de_op op_addD (so_add (b := false)) (de_dget hr.units1 (de_var 1) de_str) (de_call F__law_take hG (hr.mono (by decide)) (gl__law_take c) (kp__law_take c) (bd__law_take c) tk (da_cons (de_var 0) (da_cons de_int da_nil))))) (dss_cons (ds_set 4 hN (de_call F__law_draft_text hG (hr.mono (by decide)) (gl__law_draft_text c) (kp__law_draft_text c) (bd__law_draft_text c) tk (da_cons (de_var 9) da_nil))) (dss_cons (ds_set 10 hN (de_callB (cr_all rfl) son_all (c.free 8) (da_cons (de_lc false (own := [("one", 13)]) rfl hN (blkOk_by (N := ["pot", "own", "lines", "postings", "text", "rows", "told", "bent", "number", "other", "is_even", "row", "page", "one"]) (sc := d__law_right.scope) (by decide +kernel)) (di_any (de_call F__law_offs hG (hr.mono (by decide)) (gl__law_offs c) (kp__law_offs c) (bd__law_offs c) tk (da_cons (de_var 9) da_nil))) (fun _ _ _ _ _ => (dg_name 13 hN)) (fun _ _ _ _ _ => dts_nil) (fun _ _ _ _ _ => (de_cmp (op_eqA (by exact hr.units)) so_eq (de_var 13) de_int))) da_nil))) (dss_frz 9 (dss_one (ds_ret (de_and (de_cmp op_isB so_isB (de_call F_is_draft hG (hr.mono (by decide)) (gl_is_draft c) (kp_is_draft c) (bd_is_draft c) tk (da_cons (de_var 4) da_nil)) de_bl) (de_bool1 (de_cmp (op_eqA hr.units) so_eq (de_callB (call_reprA hG hr.units66) son_repr (c.free 36) (da_cons (de_callK0 mx_adds_up_0_draft F_adds_up hG (hr.mono (by decide)) (gl_adds_up c) (kp_adds_up c) (kb_adds_up_0_draft c) tk (dk_cons (de_var 4) dk_nil)) da_nil)) (de_callB (call_reprA hG hr.units66) son_repr (c.free 36) (da_cons (de_var 10) da_nil))))))))))))))))))))))) : DSs _ _ d__law_right.body (W__law_right K ct_adds_up ct_is_draft ct__law_offs ct__law_draft_text ct__law_take ct__law_number_of_pages ct__law_bent ct_joined_pages ct__law_pages ct_paged ct_read_draft ct_statement_text ct__law_own_draft))) pf
theorem sc_law : FnScope ["script", "place", "pot", "lap"] ["script"] d_law.scope := ⟨rfl, rfl, rfl, by decide +kernel, rfl, by decide +kernel, by decide +kernel⟩
def W_law (K : Fr) (ct__law_cells ct__law_right ct__law_pot : CT) : WS := (wSeq (wFor (wIt (wCall 2 ct__law_cells (wCons (wVar 0) (wCons (wC (.int 2)) wNil)))) (wName 1) (wSeq (wSet 2 (wCall 2 ct__law_pot (wCons (wVar 0) (wCons (wVar 1) wNil)))) (wIfS (wNotT (wTru (wCB oAll (wCons (wLc false [3] (wRng1 (wCons (wC (.int 3)) wNil)) (wName 3) wYes (wCall 1 ct__law_right (wCons (wVar 2) wNil))) wNil)))) (wRet (wC (.bl false))) wSkip))) (wRet (wC (.bl true))))
theorem D_law (c : Known fs fn K mg) {ct__law_cells ct__law_right ct__law_pot ct : CT} (F__law_cells : DFn P w K mg base 1 (He.fAd K ("_law_cells", none)) (fdOf K ("_law_cells", none)) ["script", "most"] ct__law_cells) (F__law_right : DFn P w K mg base 10 (He.fAd K ("_law_right", none)) (fdOf K ("_law_right", none)) ["pot"] ct__law_right) (F__law_pot : DFn P w K mg base 1 (He.fAd K ("_law_pot", none)) (fdOf K ("_law_pot", none)) ["script", "place"] ct__law_pot) (pf : ∀ ds s Kd Kx, ds.length = 1 → ct ds s Kd Kx → W_law K ct__law_cells ct__law_right ct__law_pot (endsOf Kd Kx) ⟨startD 4 ds, s⟩) :
    DFn P w K mg base 11 (He.fAd K ("law", none)) (fdOf K ("law", none)) ["script"] ct := okF (c.dfn 37) sc_law (fun cdv A outer s H E hG hr tk hp => have hN := sc_law.nd
      ((dss_cons (ds_for (vs := [1]) hp rfl (di_any (de_call F__law_cells hG (hr.mono (by decide)) (gl__law_cells c) (kp__law_cells c) (bd__law_cells c) tk (da_cons (de_var 0) (da_cons de_int da_nil)))) (dg_name 1 hN) (dss_cons (ds_set 2 hN (de_call F__law_pot hG (hr.mono (by decide)) (gl__law_pot c) (kp__law_pot c) (bd__law_pot c) tk (da_cons (de_var 0) (da_cons (de_var 1) da_nil)))) (dss_one (ds_if (dt_not (dt_truth (de_callB (cr_all rfl) son_all (c.free 8) (da_cons (de_lc false (own := [("lap", 3)]) rfl hN (blkOk_by (N := ["script", "place", "pot", "lap"]) (sc := d_law.scope) (by decide +kernel)) (di_range1 (c.free 7) (da_cons de_int da_nil)) (fun _ _ _ _ _ => (dg_name 3 hN)) (fun _ _ _ _ _ => dts_nil) (fun _ _ _ _ _ => (de_call F__law_right (by exact hG) (by exact hr.mono (by decide)) (gl__law_right c) (kp__law_right c) (bd__law_right c) takes0 (da_cons (de_var 2) da_nil)))) da_nil)))) (dss_one (ds_ret de_bl)) dss_nil)))) (dss_one (ds_ret de_bl))) : DSs _ _ d_law.body (W_law K ct__law_cells ct__law_right ct__law_pot))) pf
theorem bA_law (c : Known fs fn K mg) (s : Shared) (v : Value) : BindsTo s (DL.fdOf K ("law", none)) ⟨[v], []⟩ [("script", v)] := L2.FunD.bindsA (ps := ["script"]) (c.dfn 37) (fun _ _ _ _ _ _ us hl => match us, hl with | [_], _ => rfl) s [v] rfl
end L23

end SGL23

section SP23
set_option Elab.async false
set_option linter.all false
set_option maxRecDepth 100000
namespace L23
open PySem L2 DL
local macro_rules
  | `(tactic| trivial) => `(tactic| simp only [wVar_eq, wC, wOp2, wOp1, wB_eq, wChain_eq, wTru_eq, wAndT_eq, wOrT_eq, wNotT, wAndV_eq, wOrV_eq, wNotV_eq, wIf_eq, wNil, wCons, wTup, wLst, wCB, wSkip, wSeq, wBrk, wCnt, wExpr, wRet, wRetN, wIfS_eq, wName, wGNil, wGCons, wGTup, wAsg, wSet, wCall, wRaise, oIsT, oLen, oLe, oLt, oGe, oGt, oMax2, oMin2, o2I, oOrd, oIsN, wBM, wBM0, oS0, oS1, endsOf, startD, getS, setS, opt_some, asBl_bl, asInt_int, asStr_str, asTup_tup, arg1_eq, arg2_eq, arg3_eq, List.length_nil, List.length_cons, Bool.not_true, Bool.not_false, if_true, Bool.false_eq_true, if_false, true_and, tru])
def ct_is_integer : CT := fun ds st Kd _ => arg1 ds fun d => opt (kindOf st d) fun k => Kd (.bl (k == "int")) st
theorem P_is_integer {K : Fr} : ∀ ds st Kd Kx, ds.length = 1 → ct_is_integer ds st Kd Kx → W_is_integer K (endsOf Kd Kx) ⟨startD 1 ds, st⟩ := by
  intro ds st Kd Kx hl h
  obtain ⟨d, rfl, h⟩ := arg1_ok h
  obtain ⟨k, hk, h⟩ := opt_ok h
  have m := kind_mem hk
  unfold W_is_integer
  trivial
  simp only [hk, opt_some, kitB_int m, kitB_bool m, asBl_bl]
  simp only [kinds, List.mem_cons, List.not_mem_nil, or_false] at m
  rcases m with rfl | rfl | rfl | rfl | rfl | rfl | rfl <;> simpa using h
/-- is_number: of any plain value -/
def isNum (lo hi : Int) : D → Bool
  | .int i => decide (lo ≤ i) && decide (i ≤ hi)
  | _ => false
def ct_is_number : CT := fun ds st Kd _ => arg3 ds fun d lo hi => (kindOf st d).isSome = true ∧ asInt lo fun l => asInt hi fun h => Kd (.bl (isNum l h d)) st
theorem kind_int {st : Sto} {d : D} {k : String} (h : kindOf st d = some k) : (k == "int") = true ↔ ∃ i, d = .int i := by
  unfold kindOf at h
  split at h
  case h_3 => cases h; simp
  all_goals first
    | (cases h; simp; done)
    | (split at h <;> first | (cases h; simp; done) | cases h)
    | cases h
theorem kind_str {st : Sto} {d : D} {k : String} (h : kindOf st d = some k) : (k == "str") = true ↔ ∃ i, d = .str i := by
  unfold kindOf at h
  split at h
  case h_4 => cases h; simp
  all_goals first
    | (cases h; simp; done)
    | (split at h <;> first | (cases h; simp; done) | cases h)
    | cases h
theorem P_is_number {K : Fr} : ∀ ds st Kd Kx, ds.length = 3 → ct_is_number ds st Kd Kx → W_is_number K ct_is_integer (endsOf Kd Kx) ⟨startD 3 ds, st⟩ := by
  intro ds st Kd Kx hl h0
  obtain ⟨d, lo, hi, rfl, hs, h1⟩ := arg3_ok h0
  obtain ⟨l, rfl, h2⟩ := asInt_ok h1
  obtain ⟨u, rfl, h⟩ := asInt_ok h2
  obtain ⟨k, hk⟩ := Option.isSome_iff_exists.mp hs
  unfold W_is_number
  trivial
  simp only [ct_is_integer, arg1_eq, hk, opt_some, asBl_bl]
  by_cases e : (k == "int") = true
  · obtain ⟨i, rfl⟩ := (kind_int hk).mp e
    rw [if_pos e]
    simp only [oOrd, oLe, asInt_int, asBl_bl]
    unfold isNum at h
    by_cases e1 : l ≤ i
    · rw [if_pos (decide_eq_true e1)]
      simpa [e1] using h
    · rw [if_neg (by simpa using e1)]
      simpa [e1] using h
  · rw [if_neg e]
    have : isNum l u d = false := by
      cases d <;> first | rfl | (exact absurd ((kind_int hk).mpr ⟨_, rfl⟩) e)
    rw [this] at h
    exact h
/-- is_name -/
def isLow (c : Nat) : Bool := decide (97 ≤ c) && decide (c ≤ 122)
def isNameS (x : Str) : Bool := decide (1 ≤ x.length) && (decide (x.length ≤ 8) && x.cps.toList.all isLow)
def isName : D → Bool
  | .str x => isNameS x
  | _ => false
/-- a text is not too long to be asked -/
def Fit : D → Prop
  | .str x => x.length ≤ sizeLine
  | _ => True
/-- is_word: of any plain value -/
def isWordS (m : Int) (x : Str) : Bool := decide ((1 : Int) ≤ (x.length : Int)) && (decide ((x.length : Int) ≤ m) && x.cps.toList.all isLow)
def isWord (m : Int) : D → Bool
  | .str x => isWordS m x
  | _ => false
theorem isWord8 (d : D) : isWord 8 d = isName d := by
  cases d <;> try rfl
  next x =>
    show isWordS 8 x = isNameS x
    unfold isWordS isNameS
    congr 1
    · exact decide_eq_decide.mpr (by omega)
    · congr 1
      exact decide_eq_decide.mpr (by omega)
theorem low_tab : ∀ c < 128, isLow c = (Unicode.isAlpha c && !(Unicode.isUpper c || Unicode.isTitle c)) ∧ (isLow c = true → Unicode.isLower c = true) := by decide +kernel
theorem low_txt (x : Str) (h : 1 ≤ x.length) : (Txt.isascii x && (Txt.isalpha x && Txt.islower x)) = x.cps.toList.all isLow := by
  have hl : 1 ≤ x.cps.toList.length := h
  rw [Bool.eq_iff_iff]
  simp only [Txt.isascii, Txt.isalpha, Txt.islower, Bool.and_eq_true, decide_eq_true_eq, Bool.not_eq_true', ← Array.all_toList, ← Array.any_toList, List.all_eq_true, List.any_eq_true, List.any_eq_false, Bool.not_eq_true]
  constructor
  · rintro ⟨ha, ⟨_, hb⟩, _, hc⟩ c m
    have t := (low_tab c (ha c m)).1
    rw [t, hb c m, hc c m]
    rfl
  · intro hlow
    have lt : ∀ c ∈ x.cps.toList, c < 128 := by
      intro c m
      have := hlow c m
      simp only [isLow, Bool.and_eq_true, decide_eq_true_eq] at this
      omega
    have key : ∀ c ∈ x.cps.toList, Unicode.isAlpha c = true ∧ (Unicode.isUpper c || Unicode.isTitle c) = false ∧ Unicode.isLower c = true := by
      intro c m
      have t := low_tab c (lt c m)
      have h1 := hlow c m
      have t1 := t.1
      rw [h1] at t1
      have t2 := Bool.and_eq_true_iff.mp t1.symm
      exact ⟨t2.1, by simpa using t2.2, t.2 h1⟩
    refine ⟨lt, ⟨h, fun c m => (key c m).1⟩, ?_, fun c m => (key c m).2.1⟩
    match hx : x.cps.toList, hl with
    | c :: _, _ => exact ⟨c, by simp, (key c (by rw [hx]; simp)).2.2⟩
def ct_is_word : CT := fun ds st Kd _ => arg2 ds fun d e => asInt e fun m => (kindOf st d).isSome = true ∧ Fit d ∧ Kd (.bl (isWord m d)) st
theorem P_is_word {K : Fr} : ∀ ds st Kd Kx, ds.length = 2 → ct_is_word ds st Kd Kx → W_is_word K (endsOf Kd Kx) ⟨startD 2 ds, st⟩ := by
  intro ds st Kd Kx hl h0
  obtain ⟨d, e, rfl, h1⟩ := arg2_ok h0
  obtain ⟨m0, rfl, hs, hf, h⟩ := asInt_ok h1
  obtain ⟨k, hk⟩ := Option.isSome_iff_exists.mp hs
  have m := kind_mem hk
  unfold W_is_word
  trivial
  simp only [hk, opt_some, kitB_str m, tru]
  by_cases e : (k == "str") = true
  · obtain ⟨x, rfl⟩ := (kind_str hk).mp e
    have hx : lenOf st (.str x) = some x.length := if_pos hf
    simp only [e, Bool.not_true, Bool.false_eq_true, if_false, hx, opt_some]
    have key : isWord m0 (.str x) = (decide ((1 : Int) ≤ (x.length : Int)) && (decide ((x.length : Int) ≤ m0) && x.cps.toList.all isLow)) := rfl
    rw [key] at h
    by_cases z1 : decide ((1 : Int) ≤ (x.length : Int)) = true
    · by_cases z2 : decide ((x.length : Int) ≤ m0) = true
      · simp only [z1, z2, if_true, Bool.not_true, Bool.false_eq_true, if_false]
        simp only [z1, z2, Bool.true_and] at h
        rw [← low_txt x (by have := of_decide_eq_true z1; omega)] at h
        have it : isT "str" st (.str x) := rfl
        simp only [it, true_and, asStr_str]
        by_cases a1 : Txt.isascii x = true
        · by_cases a2 : Txt.isalpha x = true
          · simpa [a1, a2] using h
          · have a2' : Txt.isalpha x = false := by simpa using a2
            simpa [a1, a2'] using h
        · have a1' : Txt.isascii x = false := by simpa using a1
          simpa [a1'] using h
      · have z2' : decide ((x.length : Int) ≤ m0) = false := by simpa using z2
        simp only [z1, z2', if_true, Bool.not_false]
        simpa only [z1, z2', Bool.true_and, Bool.false_and] using h
    · have z1' : decide ((1 : Int) ≤ (x.length : Int)) = false := by simpa using z1
      simp only [z1', Bool.false_eq_true, if_false, Bool.not_false, if_true]
      simpa only [z1', Bool.false_and] using h
  · simp only [e, Bool.not_false, if_true]
    have : isWord m0 d = false := by
      cases d <;> first | rfl | (exact absurd ((kind_str hk).mpr ⟨_, rfl⟩) e)
    rw [this] at h
    exact h
def ct_is_name : CT := fun ds st Kd _ => arg1 ds fun d => (kindOf st d).isSome = true ∧ Fit d ∧ Kd (.bl (isName d)) st
theorem P_is_name {K : Fr} : ∀ ds st Kd Kx, ds.length = 1 → ct_is_name ds st Kd Kx → W_is_name K ct_is_word (endsOf Kd Kx) ⟨startD 1 ds, st⟩ := by
  intro ds st Kd Kx hl h0
  obtain ⟨d, rfl, hs, hf, h⟩ := arg1_ok h0
  unfold W_is_name
  trivial
  simp only [ct_is_word, arg2_eq, asInt_int]
  refine ⟨hs, hf, ?_⟩
  rw [isWord8]
  exact h
end L23

end SP23

section SQ23
set_option Elab.async false
set_option linter.all false
set_option maxRecDepth 100000
namespace L23
open PySem L2 DL
local macro_rules
  | `(tactic| trivial) => `(tactic| simp only [wVar_eq, wC, wOp2, wOp1, wB_eq, wChain_eq, wTru_eq, wAndT_eq, wOrT_eq, wNotT, wAndV_eq, wOrV_eq, wNotV_eq, wIf_eq, wNil, wCons, wTup, wLst, wCB, wSkip, wSeq, wBrk, wCnt, wExpr, wRet, wRetN, wIfS_eq, wName, wGNil, wGCons, wGTup, wAsg, wSet, wCall, wRaise, oIsT, oLen, oLe, oLt, oGe, oGt, oMax2, oMin2, o2I, oOrd, oIsN, wBM, wBM0, oS0, oS1, endsOf, startD, getS, setS, opt_some, asBl_bl, asInt_int, asStr_str, asTup_tup, arg1_eq, arg2_eq, arg3_eq, List.length_nil, List.length_cons, Bool.not_true, Bool.not_false, if_true, Bool.false_eq_true, if_false, true_and, tru])
def isAccS (x : Str) : Bool := match Txt.split x "." with
  | [a, b] => isNameS a && isNameS b
  | _ => false
def isAcc : D → Bool
  | .str x => isAccS x
  | _ => false
def Fit2 : D → Prop
  | .str x => x.length + 2 ≤ sizeLine
  | _ => True
def ct_is_account : CT := fun ds st Kd _ => arg1 ds fun d => (kindOf st d).isSome = true ∧ Fit2 d ∧ Kd (.bl (isAcc d)) st
theorem dot1 : TL.tl ("." : Str) = [46] := by decide +kernel
theorem dot2 : ("." : Str).cps.all (· < 256) = true := by decide +kernel
theorem dot3 : ((("." : Str).length == 0) = false) := by decide +kernel
theorem newL_f {ds : List D} {g : G} {K : KD} : newL false ds g K = K (.lst ds) g := rfl
theorem lenOf_lst {st : Sto} {xs : List D} : lenOf st (.lst xs) = some xs.length := rfl
theorem lenOf_tup {st : Sto} {xs : List D} : lenOf st (.tup xs) = some xs.length := rfl
theorem eqD_int {st : Sto} {a b : Int} {f : Bool → Prop} : eqD st (.int a) (.int b) f = f (decide (a = b)) := rfl
theorem P_is_account {K : Fr} : ∀ ds st Kd Kx, ds.length = 1 → ct_is_account ds st Kd Kx → W_is_account K ct_is_name (endsOf Kd Kx) ⟨startD 2 ds, st⟩ := by
  intro ds st Kd Kx hl h0
  obtain ⟨d, rfl, hs, hf, h⟩ := arg1_ok h0
  obtain ⟨k, hk⟩ := Option.isSome_iff_exists.mp hs
  have m := kind_mem hk
  unfold W_is_account
  trivial
  simp only [hk, opt_some, kitB_str m, asBl_bl]
  by_cases e : (k == "str") = true
  · obtain ⟨x, rfl⟩ := (kind_str hk).mp e
    simp only [e, Bool.not_true, Bool.false_eq_true, if_false]
    refine ⟨rfl, ⟨dot3, hf⟩, ?_⟩
    rw [newL_f]
    simp only [setS, getS, opt_some]
    have key : isAcc (.str x) = isAccS x := rfl
    rw [key] at h
    have hc := split_count dot1 dot2 (x := x)
    have hp : ∀ p ∈ Txt.split x ".", p.length ≤ sizeLine := fun p hp => by
      have := split_len dot1 dot2 hp
      have : x.length + 2 ≤ sizeLine := hf
      omega
    unfold isAccS at h
    generalize hl2 : Txt.split x "." = ps at hc hp h
    rw [lenOf_lst]
    simp only [opt_some, oEq, eqD_int, asBl_bl, List.length_map, getS]
    match ps, h with
    | [a, b], h =>
      simp only [List.length_cons, List.length_nil]
      have q1 : decide (((0 + 1 + 1 : Nat) : Int) = 2) = true := rfl
      rw [if_pos q1]
      have fa : a.length ≤ sizeLine := hp a (by simp)
      have fb : b.length ≤ sizeLine := hp b (by simp)
      have h' : Kd (.bl (isNameS a && isNameS b)) st := h
      refine ⟨rfl, fa, ?_⟩
      show if isNameS a = true then _ else _
      by_cases na : isNameS a = true
      · rw [if_pos na]
        refine ⟨rfl, fb, ?_⟩
        rw [na] at h'
        exact h'
      · rw [if_neg na]
        have na' : isNameS a = false := by simpa using na
        rw [na'] at h'
        exact h'
    | [], h => rw [if_neg (by simp)]; exact h
    | [_], h => rw [if_neg (by simp)]; exact h
    | _ :: _ :: _ :: r, h =>
      rw [if_neg (by simp only [List.length_cons, decide_eq_true_eq]; omega)]
      exact h
  · have z : (k == "str") = false := by simpa using e
    have : isAcc d = false := by
      cases d <;> first | rfl | (exact absurd ((kind_str hk).mpr ⟨_, rfl⟩) e)
    rw [this] at h
    simp only [z, Bool.not_false, if_true]
    exact h
def isRow (n : Int) : D → Bool
  | .tup xs => decide ((xs.length : Int) = n)
  | _ => false
theorem kind_tup {st : Sto} {d : D} {k : String} (h : kindOf st d = some k) : (k == "tuple") = true ↔ ∃ i, d = .tup i := by
  unfold kindOf at h
  split at h
  case h_5 => cases h; simp
  all_goals first
    | (cases h; simp; done)
    | (split at h <;> first | (cases h; simp; done) | cases h)
    | cases h
def ct_is_row : CT := fun ds st Kd _ => arg2 ds fun d m => asInt m fun n => (kindOf st d).isSome = true ∧ Kd (.bl (isRow n d)) st
theorem P_is_row {K : Fr} : ∀ ds st Kd Kx, ds.length = 2 → ct_is_row ds st Kd Kx → W_is_row K (endsOf Kd Kx) ⟨startD 2 ds, st⟩ := by
  intro ds st Kd Kx hl h0
  obtain ⟨d, m0, rfl, h1⟩ := arg2_ok h0
  obtain ⟨n, rfl, hs, h⟩ := asInt_ok h1
  obtain ⟨k, hk⟩ := Option.isSome_iff_exists.mp hs
  have m := kind_mem hk
  unfold W_is_row
  trivial
  simp only [hk, opt_some, kitB_tuple m, asBl_bl]
  by_cases e : (k == "tuple") = true
  · obtain ⟨xs, rfl⟩ := (kind_tup hk).mp e
    rw [if_pos e]
    rw [lenOf_tup]
    simp only [opt_some, oEq, eqD_int]
    exact h
  · rw [if_neg e]
    have : isRow n d = false := by
      cases d <;> first | rfl | (exact absurd ((kind_tup hk).mpr ⟨_, rfl⟩) e)
    rw [this] at h
    exact h
end L23

end SQ23

section SR23
set_option Elab.async false
set_option linter.all false
set_option maxRecDepth 100000
namespace L23
open PySem L2 DL NumText
local macro_rules
  | `(tactic| trivial) => `(tactic| simp only [wVar_eq, wC, wOp2, wOp1, wB_eq, wChain_eq, wTru_eq, wAndT_eq, wOrT_eq, wNotT, wAndV_eq, wOrV_eq, wNotV_eq, wIf_eq, wNil, wCons, wTup, wLst, wCB, wSkip, wSeq, wBrk, wCnt, wExpr, wRet, wRetN, wIfS_eq, wName, wGNil, wGCons, wGTup, wAsg, wSet, wCall, wRaise, oIsT, oLen, oLe, oLt, oGe, oGt, oMax2, oMin2, o2I, oOrd, oIsN, wBM, wBM0, oS0, oS1, endsOf, startD, getS, setS, opt_some, asBl_bl, asInt_int, asStr_str, asTup_tup, arg1_eq, arg2_eq, arg3_eq, List.length_nil, List.length_cons, Bool.not_true, Bool.not_false, if_true, Bool.false_eq_true, if_false, true_and, tru])
def figs (x : Str) : Str := if Txt.startswith x "-" = true then cutS x (some 1) none else x
def plainFigs (x : Str) : Bool := decide ((figs x).length ≤ 40) && (Txt.isascii (figs x) && Txt.isdigit (figs x))
def numIn (x : Str) (lo hi : Int) : Option Int := if plainFigs x = true then (match PySem.intText? x with
  | some n => if (toString n : Str) = x ∧ lo ≤ n ∧ n ≤ hi then some n else none
  | none => none) else none
def optD : Option Int → D
  | some n => .int n
  | none => .non
def ct_number_in : CT := fun ds st Kd _ => arg3 ds fun d l h => asStr d fun x => asInt l fun lo => asInt h fun hi => x.length ≤ 16777216 ∧ Kd (optD (numIn x lo hi)) st
theorem figs_ok {x : Str} {g : G} {Kd : KD} {X : XD} (h0 : getS g.sl 0 = some (.str x)) (hx : x.length ≤ sizeLine) (h : Kd (.str (figs x)) g) :
    DL.wIf (DL.wTru (wBM "str" (oS1 Txt.startswith) (wVar 0) (wCons (wC (.str "-")) wNil))) (wSlA false (wVar 0) (wPS (wC (.int 1))) wPN) (wVar 0) g Kd X := by
  trivial
  simp only [h0, opt_some]
  refine ⟨rfl, ?_⟩
  trivial
  by_cases sw : Txt.startswith x "-" = true
  · have e : figs x = cutS x (some 1) none := if_pos sw
    rw [if_pos sw]
    unfold wSlA wPS wPN
    trivial
    simp only [h0, opt_some]
    exact ⟨hx, by rw [← e]; exact h⟩
  · have e : figs x = x := if_neg sw
    rw [if_neg sw, ← e]
    exact h
theorem dig_small : ∀ c < 128, Unicode.isDigit c = true → 48 ≤ c ∧ c ≤ 57 := by decide +kernel
theorem allDigits_of {y : Str} (h1 : Txt.isascii y = true) (h2 : Txt.isdigit y = true) : AllDigits (TL.tl y) ∧ TL.tl y ≠ [] := by
  unfold Txt.isascii at h1
  unfold Txt.isdigit at h2
  obtain ⟨h3, h4⟩ := Bool.and_eq_true_iff.mp h2
  have h3 : 0 < y.length := of_decide_eq_true h3
  refine ⟨fun c hc => ?_, fun e => ?_⟩
  · have m : c ∈ y.cps := Array.mem_toList_iff.mp hc
    have a := (Array.all_eq_true_iff_forall_mem.mp h1) c m
    have b := (Array.all_eq_true_iff_forall_mem.mp h4) c m
    exact dig_small c (of_decide_eq_true a) b
  · rw [TL.len_tl, e] at h3
    simp at h3
theorem minus_cps : ("-" : Str).cps = #[45] := by decide +kernel
theorem starts_minus {x : Str} (h : Txt.startswith x "-" = true) : ∃ cs, TL.tl x = 45 :: cs := by
  unfold Txt.startswith at h
  obtain ⟨w1, w2⟩ := Bool.and_eq_true_iff.mp h
  unfold Builtin.Str.subAt at w2
  have e : ("-" : Str).length = 1 := by decide +kernel
  rw [e, minus_cps] at w2
  have w3 := beq_iff_eq.mp w2
  have w4 := congrArg Array.toList w3
  rw [Array.toList_extract] at w4
  cases q : x.cps.toList with
  | nil => rw [q] at w4; simp at w4
  | cons c cs =>
    rw [q] at w4
    simp [List.extract] at w4
    exact ⟨cs, by show x.cps.toList = _; rw [q, w4]⟩
theorem foldl_lt : ∀ (cs : List Nat) (a : Nat), AllDigits cs → cs.foldl (fun acc c => acc * 10 + (c - 48)) a < (a + 1) * 10 ^ cs.length
  | [], a, _ => by simp
  | c :: cs, a, h => by
    have hc := h.head
    have ih := foldl_lt cs (a * 10 + (c - 48)) h.tail
    rw [List.foldl_cons, List.length_cons, Nat.pow_succ]
    refine Nat.lt_of_lt_of_le ih ?_
    have : a * 10 + (c - 48) + 1 ≤ (a + 1) * 10 := by omega
    calc (a * 10 + (c - 48) + 1) * 10 ^ cs.length ≤ ((a + 1) * 10) * 10 ^ cs.length := Nat.mul_le_mul_right _ this
      _ = (a + 1) * (10 ^ cs.length * 10) := by rw [Nat.mul_assoc, Nat.mul_comm 10]
theorem digits_lt {cs : List Nat} (h : AllDigits cs) : digitsVal cs < 10 ^ cs.length := by
  have := foldl_lt cs 0 h
  simpa [digitsVal] using this
theorem small40 {cs : List Nat} (h : AllDigits cs) (hl : cs.length ≤ 40) : digitsVal cs < 10 ^ 40 := Nat.lt_of_lt_of_le (digits_lt h) (Nat.pow_le_pow_right (by decide) hl)
theorem log_40 {n : Nat} (h : n < 10 ^ 40) : n.log2 < 1920 := PySem.Flt.log2_lt_of (by decide) (Nat.lt_of_lt_of_le h (by decide +kernel))
theorem figs_int {x : Str} (h : plainFigs x = true) : ∃ n, PySem.intText? x = some n ∧ x.length ≤ 640 ∧ n.natAbs < 10 ^ 40 := by
  unfold plainFigs at h
  obtain ⟨h1, h2⟩ := Bool.and_eq_true_iff.mp h
  obtain ⟨h3, h4⟩ := Bool.and_eq_true_iff.mp h2
  have hl : (figs x).length ≤ 40 := of_decide_eq_true h1
  obtain ⟨ad, ne⟩ := allDigits_of h3 h4
  by_cases sw : Txt.startswith x "-" = true
  · have e : figs x = cutS x (some 1) none := if_pos sw
    obtain ⟨cs, hcs⟩ := starts_minus sw
    have hl2 : x.length = cs.length + 1 := by rw [TL.len_tl, hcs]; rfl
    have ef : TL.tl (figs x) = cs := by
      rw [e]
      unfold cutS
      show (List.take _ (List.drop _ x.cps.toList)) = cs
      have q : x.cps.toList = 45 :: cs := hcs
      rw [q]
      have s1 : HT.sIx x.length 0 (some 1) = 1 := by
        show (if (1 : Int) < 0 then ((1 : Int) + (x.length : Int)).toNat else min (1 : Int).toNat x.length) = 1
        rw [if_neg (by decide)]
        show min 1 x.length = 1
        omega
      have s2 : HT.sIx x.length x.length none = x.length := rfl
      rw [s1, s2, hl2]
      simp
    rw [ef] at ad ne
    have hlc : cs.length ≤ 40 := by rw [← ef, ← TL.len_tl]; exact hl
    exact ⟨_, intText_neg hcs ad ne (by omega), by omega, by have := small40 ad hlc; omega⟩
  · have e : figs x = x := if_neg sw
    rw [e] at ad ne hl
    exact ⟨_, intText_digits ad ne (by omega), by omega, by have z : digitsVal x.cps.toList < 10 ^ 40 := small40 ad (by rw [← TL.len_tl]; exact hl); omega⟩
theorem oInt_str {x : Str} {g : G} {Kd : KD} : oInt [.str x] g Kd = opt (PySem.intText? x) fun n => x.length ≤ 640 ∧ Kd (.int n) g := rfl
theorem oStr_int {n : Int} {g : G} {Kd : KD} : oStr [.int n] g Kd = (n.natAbs.log2 < 1920 ∧ Kd (.str (toString n)) g) := rfl
theorem eqD_str {st : Sto} {a b : Str} {f : Bool → Prop} : eqD st (.str a) (.str b) f = f (decide (a = b)) := rfl
theorem P_number_in {K : Fr} : ∀ ds st Kd Kx, ds.length = 3 → ct_number_in ds st Kd Kx → W_number_in K (endsOf Kd Kx) ⟨startD 5 ds, st⟩ := by
  intro ds st Kd Kx hl h0
  obtain ⟨d, l, u, rfl, h1⟩ := arg3_ok h0
  obtain ⟨x, rfl, h2⟩ := asStr_ok h1
  obtain ⟨lo, rfl, h3⟩ := asInt_ok h2
  obtain ⟨hi, rfl, hx, h⟩ := asInt_ok h3
  unfold W_number_in
  simp only [wSeq, wSet]
  refine figs_ok (x := x) rfl (by rw [sizeLine_eq]; exact hx) ?_
  have hfl : (figs x).length ≤ x.length := by
    unfold figs
    split
    · show (List.take _ (List.drop _ x.cps.toList)).toArray.size ≤ x.cps.size
      simp only [List.size_toArray, List.length_take, List.length_drop, Array.length_toList]
      omega
    · exact Nat.le_refl _
  have hf : lenOf st (.str (figs x)) = some (figs x).length := if_pos (by rw [sizeLine_eq]; omega)
  trivial
  simp only [setS, getS, opt_some, hf]
  unfold numIn at h
  by_cases hp : plainFigs x = true
  · rw [if_pos hp] at h
    obtain ⟨n, hn, hl6, hn40⟩ := figs_int hp
    simp only [hn] at h
    have hp2 := hp
    unfold plainFigs at hp2
    obtain ⟨q1, q2⟩ := Bool.and_eq_true_iff.mp hp2
    obtain ⟨q3, q4⟩ := Bool.and_eq_true_iff.mp q2
    have q1 : (figs x).length ≤ 40 := of_decide_eq_true q1
    have z1 : decide ((40 : Int) < ((figs x).length : Int)) = false := decide_eq_false (by omega)
    simp only [z1, Bool.false_eq_true, if_false, q3, q4, Bool.not_true]
    refine ⟨rfl, rfl, ?_⟩
    rw [oInt_str, hn]
    simp only [opt_some, setS, getS]
    refine ⟨hl6, ?_⟩
    rw [oStr_int]
    refine ⟨log_40 hn40, ?_⟩
    simp only [oNe, getS, opt_some, eqD_str, asBl_bl, asInt_int]
    by_cases e1 : (toString n : Str) = x
    · simp only [e1, decide_true, Bool.not_true, Bool.false_eq_true, if_false]
      by_cases e2 : lo ≤ n
      · simp only [decide_eq_true e2, if_true]
        by_cases e3 : n ≤ hi
        · simp only [decide_eq_true e3, Bool.not_true, Bool.false_eq_true, if_false]
          rw [if_pos ⟨e1, e2, e3⟩] at h
          exact h
        · have e3' : decide (n ≤ hi) = false := decide_eq_false e3
          simp only [e3', Bool.not_false, if_true]
          rw [if_neg fun z => e3 z.2.2] at h
          exact h
      · have e2' : decide (lo ≤ n) = false := decide_eq_false e2
        simp only [e2', Bool.false_eq_true, if_false]
        rw [if_neg fun z => e2 z.2.1] at h
        exact h
    · have e1' : decide ((toString n : Str) = x) = false := decide_eq_false e1
      simp only [e1', Bool.not_false, if_true]
      rw [if_neg fun z => e1 z.1] at h
      exact h
  · have h' : Kd .non st := by rw [if_neg hp] at h; exact h
    by_cases c1 : (figs x).length ≤ 40
    · have z1 : decide ((40 : Int) < ((figs x).length : Int)) = false := decide_eq_false (by omega)
      simp only [z1, Bool.false_eq_true, if_false]
      refine ⟨rfl, ?_⟩
      by_cases c2 : Txt.isascii (figs x) = true
      · simp only [c2, Bool.not_true, Bool.false_eq_true, if_false]
        refine ⟨rfl, ?_⟩
        by_cases c3 : Txt.isdigit (figs x) = true
        · exact absurd (by unfold plainFigs; rw [decide_eq_true c1, c2, c3]; rfl) hp
        · have c3' : Txt.isdigit (figs x) = false := by simpa using c3
          simp only [c3', Bool.not_false, if_true]
          exact h'
      · have c2' : Txt.isascii (figs x) = false := by simpa using c2
        simp only [c2', Bool.not_false, if_true]
        exact h'
    · have z1 : decide ((40 : Int) < ((figs x).length : Int)) = true := decide_eq_true (by omega)
      simp only [z1, if_true]
      exact h'
end L23

end SR23

section SS23

set_option Elab.async false
set_option linter.all false
set_option maxRecDepth 100000
namespace L23
open PySem L2 DL
local macro_rules
  | `(tactic| trivial) => `(tactic| simp only [wVar_eq, wC, wOp2, wOp1, wB_eq, wChain_eq, wTru_eq, wAndT_eq, wOrT_eq, wNotT, wAndV_eq, wOrV_eq, wNotV_eq, wIf_eq, wNil, wCons, wTup, wLst, wCB, wSkip, wSeq, wBrk, wCnt, wExpr, wRet, wRetN, wIfS_eq, wName, wGNil, wGCons, wGTup, wAsg, wSet, wPar, wPar3, wCall, wCallK, wMakeK, wMethK, wFld, wSetF, wAugF, wGFld, wLPut, wSlA, oSlA_tup, oSlA_lst, cutD_mapI, oMaxL_ints, wPN, wPS, oSl_lkd, wRaise, wListRange, wIt_eq, wFor_eq, wEnumT_eq, wRng1_eq, wZipM, wFrz_eq, wFrzS_eq, oIsT, oLen, oLe, oLt, oGe, oGt, oMax2, oMin2, o2I, oI, oI0, oOrd, oIsN, wBM, wBM0, oS0, oS1, oSplit, oEq, oNe, oAbs, oDivmod, oGcd, oAdd_int, oNeg_int, oInt_int, oInt_bl, oIx_tup, oIx_lst, oIx_lkd, oIx_r, cellL_r, lstOf_lst, ixN0, ixN2, put_same, put_put, List.set, oTuple_lst, oTuple_tup, oSum_ints, oSumT_ints, wRevT_eq, wAugI_eq, oAll_bls, atI0, atI1, atI2, endsOf, startD, getS, setS, opt_some, asBl_bl, asInt_int, asStr_str, asTup_tup, arg1_eq, arg2_eq, arg3_eq, List.length_nil, List.length_cons, Bool.not_true, Bool.not_false, if_true, Bool.false_eq_true, if_false, true_and, List.length_map, tru_bl, newL_f, newL_t, lenOf_lst, lenOf_tup, lenOf_lkd, eqD_int, eqD_str, seqAt_tup, seqAt_lst, seqAt_lkd, itAny_tup, itAny_lst, itAny_lkd, lstAt_lst, kd_int, kd_tup, kt_ii, kt_ib, kt_tt])
theorem sp1 : TL.tl (" " : Str) = [32] := by decide +kernel
theorem sp2 : (" " : Str).cps.all (· < 256) = true := by decide +kernel
theorem sp3 : (((" " : Str).length == 0) = false) := by decide +kernel
/-! ### the words of a line -/
def rdAcc (x : Str) : Option Str := match Txt.split x " " with
  | [a, b] => if a = "statement" ∧ isAccS b = true then some b else none
  | _ => none
def optS : Option Str → D
  | some x => .str x
  | none => .non
def ct_read_account : CT := fun ds st Kd _ => arg1 ds fun d => ∃ x, d = .str x ∧ x.length + 4 ≤ 16777216 ∧ Kd (optS (rdAcc x)) st
theorem P_read_account {K : Fr} : ∀ ds st Kd Kx, ds.length = 1 → ct_read_account ds st Kd Kx → W_read_account K ct_is_account (endsOf Kd Kx) ⟨startD 2 ds, st⟩ := by
  intro ds st Kd Kx hl h0
  obtain ⟨_, rfl, x, rfl, hx, h⟩ := arg1_ok h0
  unfold W_read_account
  trivial
  refine ⟨rfl, ⟨sp3, by rw [sizeLine_eq]; omega⟩, ?_⟩
  have hp : ∀ p ∈ Txt.split x " ", p.length + 2 ≤ 16777216 := fun p hp => by
    have := split_len sp1 sp2 hp
    omega
  unfold rdAcc at h
  generalize Txt.split x " " = ps at hp h
  match ps, h with
  | [a, b], h =>
    trivial
    have e3 : decide (((0 + 1 + 1 : Nat) : Int) = 2) = true := rfl
    simp only [e3, Bool.not_true, Bool.false_eq_true, if_false]
    show if (!decide (a = "statement")) = true then _ else _
    have h' : Kd (optS (if a = "statement" ∧ isAccS b = true then some b else none)) st := h
    by_cases e : a = "statement"
    · rw [if_neg (by simp [e])]
      simp only [ct_is_account]
      try trivial
      refine ⟨rfl, by have := hp b (by simp); show b.length + 2 ≤ sizeLine; rw [sizeLine_eq]; omega, ?_⟩
      try trivial
      have ei : isAcc (.str b) = isAccS b := rfl
      rw [ei]
      cases q : isAccS b with
      | true => rw [if_pos ⟨e, q⟩] at h'; try trivial
                exact h'
      | false => rw [if_neg (by simp [q])] at h'; try trivial
                 exact h'
    · rw [if_neg fun z => e z.1] at h'
      rw [if_pos (by simp [e])]
      exact h'
  | [], h => exact h
  | [_], h => exact h
  | _ :: _ :: _ :: r, h =>
    rw [if_pos (by simp only [List.length_cons, Bool.not_eq_true', decide_eq_false_iff_not]; omega)]
    exact h
abbrev big : Int := 1000000000000000000
def rdBal (x w : Str) : Option Int := match Txt.split x " " with
  | [a, b] => if a = w then numIn b (-big) big else none
  | _ => none
def ct_read_balance : CT := fun ds st Kd _ => arg2 ds fun d e => ∃ x w, d = .str x ∧ e = .str w ∧ x.length + 4 ≤ 16777216 ∧ Kd (optD (rdBal x w)) st
theorem P_read_balance {K : Fr} : ∀ ds st Kd Kx, ds.length = 2 → ct_read_balance ds st Kd Kx → W_read_balance K ct_number_in (endsOf Kd Kx) ⟨startD 3 ds, st⟩ := by
  intro ds st Kd Kx hl h0
  obtain ⟨_, _, rfl, x, w, rfl, rfl, hx, h⟩ := arg2_ok h0
  unfold W_read_balance
  trivial
  refine ⟨rfl, ⟨sp3, by rw [sizeLine_eq]; omega⟩, ?_⟩
  have hp : ∀ p ∈ Txt.split x " ", p.length ≤ 16777216 := fun p hp => by
    have := split_len sp1 sp2 hp
    omega
  unfold rdBal at h
  generalize Txt.split x " " = ps at hp h
  match ps, h with
  | [a, b], h =>
    trivial
    have e3 : decide (((0 + 1 + 1 : Nat) : Int) = 2) = true := rfl
    simp only [e3, Bool.not_true, Bool.false_eq_true, if_false]
    show if (!decide (a = w)) = true then _ else _
    have h' : Kd (optD (if a = w then numIn b (-big) big else none)) st := h
    by_cases e : a = w
    · rw [if_pos e] at h'
      rw [if_neg (by simp [e])]
      exact ⟨hp b (by simp), h'⟩
    · rw [if_neg e] at h'
      rw [if_pos (by simp [e])]
      exact h'
  | [], h => exact h
  | [_], h => exact h
  | _ :: _ :: _ :: r, h =>
    rw [if_pos (by simp only [List.length_cons, Bool.not_eq_true', decide_eq_false_iff_not]; omega)]
    exact h
def rdPost (x : Str) (last : Int) : Option (Int × Int × Int) := match Txt.split x " " with
  | [a, b, c, d] => if a = "posting" then (match numIn b (last + 1) 1000000000, numIn c (-big) big, numIn d (-big) big with
    | some n, some m, some k => some (n, m, k)
    | _, _, _ => none) else none
  | _ => none
def rowD (r : Int × Int × Int) : D := .tup [.int r.1, .int r.2.1, .int r.2.2]
def optR : Option (Int × Int × Int) → D
  | some r => rowD r
  | none => .non
def ct_read_posting : CT := fun ds st Kd _ => arg2 ds fun d e => ∃ x last, d = .str x ∧ e = .int last ∧ x.length + 4 ≤ 16777216 ∧ Kd (optR (rdPost x last)) st
theorem P_read_posting {K : Fr} : ∀ ds st Kd Kx, ds.length = 2 → ct_read_posting ds st Kd Kx → W_read_posting K ct_number_in (endsOf Kd Kx) ⟨startD 6 ds, st⟩ := by
  intro ds st Kd Kx hl h0
  obtain ⟨_, _, rfl, x, last, rfl, rfl, hx, h⟩ := arg2_ok h0
  unfold W_read_posting
  trivial
  refine ⟨rfl, ⟨sp3, by rw [sizeLine_eq]; omega⟩, ?_⟩
  have hp : ∀ p ∈ Txt.split x " ", p.length ≤ 16777216 := fun p hp => by
    have := split_len sp1 sp2 hp
    omega
  unfold rdPost at h
  generalize Txt.split x " " = ps at hp h
  match ps, h with
  | [a, b, c, d], h =>
    trivial
    have e3 : decide (((0 + 1 + 1 + 1 + 1 : Nat) : Int) = 4) = true := rfl
    simp only [e3, Bool.not_true, Bool.false_eq_true, if_false]
    show if (!decide (a = "posting")) = true then _ else _
    have h' : Kd (optR (if a = "posting" then (match numIn b (last + 1) 1000000000, numIn c (-big) big, numIn d (-big) big with
      | some n, some m, some k => some (n, m, k)
      | _, _, _ => none) else none)) st := h
    by_cases e : a = "posting"
    · rw [if_pos e] at h'
      rw [if_neg (by simp [e])]
      refine ⟨hp b (by simp), ?_⟩
      try trivial
      refine ⟨hp c (by simp), ?_⟩
      try trivial
      refine ⟨hp d (by simp), ?_⟩
      cases q1 : numIn b (last + 1) 1000000000 with
      | none => rw [q1] at h'; exact h'
      | some n =>
        cases q2 : numIn c (-big) big with
        | none =>
          rw [q1, q2] at h'
          simp only [show numIn c (-1000000000000000000) 1000000000000000000 = none from q2, optD]
          exact h'
        | some m =>
          cases q3 : numIn d (-big) big with
          | none =>
            rw [q1, q2, q3] at h'
            simp only [show numIn c (-1000000000000000000) 1000000000000000000 = some m from q2, show numIn d (-1000000000000000000) 1000000000000000000 = none from q3, optD]
            exact h'
          | some k =>
            rw [q1, q2, q3] at h'
            simp only [show numIn c (-1000000000000000000) 1000000000000000000 = some m from q2, show numIn d (-1000000000000000000) 1000000000000000000 = some k from q3, optD]
            exact ⟨by rw [sizeLine_eq]; decide, h'⟩
    · rw [if_neg e] at h'
      rw [if_pos (by simp [e])]
      exact h'
  | [], h => exact h
  | [_], h => exact h
  | [_, _], h => exact h
  | [_, _, _], h => exact h
  | _ :: _ :: _ :: _ :: _ :: r, h =>
    rw [if_pos (by simp only [List.length_cons, Bool.not_eq_true', decide_eq_false_iff_not]; omega)]
    exact h
end L23

end SS23

section ST23

set_option Elab.async false
set_option linter.all false
set_option maxRecDepth 100000
namespace L23
open PySem L2 DL
local macro_rules
  | `(tactic| trivial) => `(tactic| simp only [wVar_eq, wC, wOp2, wOp1, wB_eq, wChain_eq, wTru_eq, wAndT_eq, wOrT_eq, wNotT, wAndV_eq, wOrV_eq, wNotV_eq, wIf_eq, wNil, wCons, wTup, wLst, wCB, wSkip, wSeq, wBrk, wCnt, wExpr, wRet, wRetN, wIfS_eq, wName, wGNil, wGCons, wGTup, wAsg, wSet, wPar, wPar3, wCall, wCallK, wMakeK, wMethK, wFld, wSetF, wAugF, wGFld, wLPut, wSlA, oSlA_tup, oSlA_lst, cutD_mapI, oMaxL_ints, wPN, wPS, oSl_lkd, wRaise, wListRange, wIt_eq, wFor_eq, wEnumT_eq, wRng1_eq, wZipM, wFrz_eq, wFrzS_eq, oIsT, oLen, oLe, oLt, oGe, oGt, oMax2, oMin2, o2I, oI, oI0, oOrd, oIsN, wBM, wBM0, oS0, oS1, oSplit, oEq, oNe, oAbs, oDivmod, oGcd, oAdd_int, oNeg_int, oInt_int, oInt_bl, oIx_tup, oIx_lst, oIx_lkd, oIx_r, cellL_r, lstOf_lst, ixN0, ixN2, put_same, put_put, List.set, oTuple_lst, oTuple_tup, oSum_ints, oSumT_ints, wRevT_eq, wAugI_eq, oAll_bls, atI0, atI1, atI2, endsOf, startD, getS, setS, opt_some, asBl_bl, asInt_int, asStr_str, asTup_tup, arg1_eq, arg2_eq, arg3_eq, List.length_nil, List.length_cons, Bool.not_true, Bool.not_false, if_true, Bool.false_eq_true, if_false, true_and, List.length_map, tru_bl, newL_f, newL_t, lenOf_lst, lenOf_tup, lenOf_lkd, eqD_int, eqD_str, seqAt_tup, seqAt_lst, seqAt_lkd, itAny_tup, itAny_lst, itAny_lkd, lstAt_lst, kd_int, kd_tup, kt_ii, kt_ib, kt_tt])
/-- what stood stays, more may have come -/
def Sub (s t : Sto) : Prop := ∀ a c, s a = some c → t a = some c
theorem Sub.refl {s : Sto} : Sub s s := fun _ _ h => h
theorem Sub.trans {s t u : Sto} (h : Sub s t) (h' : Sub t u) : Sub s u := fun a c e => h' a c (h a c e)
theorem Sub.put {s t : Sto} {a : Addr} {c : Cell} (h : Sub s t) (n : s a = none) : Sub s (put t a c) := fun b d e => by
  have : b ≠ a := fun z => by rw [z, n] at e; cases e
  rw [put_ne this]; exact h b d e
abbrev Row := Int × Int × Int
abbrev DR := Str × Int × List Row × Int
def lastN (rows : List Row) : Int := match rows.getLast? with
  | some r => r.1
  | none => 0
def rdLoop (n : Nat) (acc : Str) (bf : Int) : List Str → Nat → List Row → Except Int DR
  | [], _, _ => .error (n + 1)
  | l :: ls, i, rows => match rdBal l "behind" with
    | some b => if (i : Int) + 3 < n then .error ((i : Int) + 3 + 1) else .ok (acc, bf, rows, b)
    | none => match rdPost l (lastN rows) with
      | none => .error ((i : Int) + 3)
      | some r => if rows.length = 500 then .error ((i : Int) + 3) else rdLoop n acc bf ls (i + 1) (rows ++ [r])
def drD : DR → D := fun q => .tup [.str q.1, .int q.2.1, .tup (q.2.2.1.map rowD), .int q.2.2.2]
def drEnd (K : Fr) (st : Sto) (Kd : D → Sto → Prop) (Kx : Addr → D → Sto → Prop) : Except Int DR → Prop
  | .ok q => ∀ st', Sub st st' → Kd (drD q) st'
  | .error n => ∀ st', Sub st st' → Kx (He.ga K "BadDraft") (.int n) st'
def rdG : WG := (wGTup 2 (wGCons (wName 5) (wGCons (wName 6) wGNil)))
def rdBody (K : Fr) : WS := (wSeq (wSet 7 (wCall 2 ct_read_balance (wCons (wVar 6) (wCons (wC (.str "behind")) wNil)))) (wSeq (wIfS (wB (wOp2 (oIsN true) (wVar 7) (wC .non))) (wSeq (wIfS (wB (wOp2 oLt (wOp2 (oAdd false) (wVar 5) (wC (.int (3)))) (wCB oLen (wCons (wVar 1) wNil)))) (wRaise (He.ga K "BadDraft") (wCons (wOp2 (oAdd false) (wOp2 (oAdd false) (wVar 5) (wC (.int (3)))) (wC (.int 1))) wNil)) wSkip) (wRet (wTup (wCons (wVar 2) (wCons (wVar 3) (wCons (wCB oTuple (wCons (wVar 4) wNil)) (wCons (wVar 7) wNil))))))) wSkip) (wSeq (wSet 8 (wCall 2 ct_read_posting (wCons (wVar 6) (wCons (wIf (wTru (wVar 4)) (wOp2 oIx (wOp2 oIx (wVar 4) (wOp1 oNeg (wC (.int 1)))) (wC (.int 0))) (wC (.int 0))) wNil)))) (wSeq (wIfS (wOrT (wB (wOp2 (oIsN false) (wVar 8) (wC .non))) (wB (wOp2 oEq (wCB oLen (wCons (wVar 4) wNil)) (wC (.int (500)))))) (wRaise (He.ga K "BadDraft") (wCons (wOp2 (oAdd false) (wVar 5) (wC (.int (3)))) wNil)) wSkip) (wExpr (wBM "list" oAppend (wVar 4) (wCons (wVar 8) wNil)))))))
def rdRet (K : Fr) : WS := (wRaise (He.ga K "BadDraft") (wCons (wOp2 (oAdd false) (wCB oLen (wCons (wVar 1) wNil)) (wC (.int 1))) wNil))
theorem oTuple_r {a : Addr} {xs : List D} {g : G} {K : KD} (e : g.st a = some (.lst xs)) : oTuple [.ref a] g K = K (.tup xs) g := by
  show opt (seqAt g.st (.ref a)) _ = _
  rw [seqAt_ref e]; rfl
theorem tru_ref {st : Sto} {a : Addr} {xs : List D} (e : st a = some (.lst xs)) : tru st (.ref a) = some !xs.isEmpty := by unfold tru; simp only [e]
theorem atI_last {xs : List D} {d : D} (h : xs.getLast? = some d) : atI xs (-1) = some d := by
  have ne : xs ≠ [] := fun e => by rw [e] at h; cases h
  have l := List.length_pos_iff.mpr ne
  unfold atI
  have e1 : ixN xs.length (-1) = some (xs.length - 1) := by
    unfold ixN
    simp
    omega
  rw [e1, Option.bind_some, ← List.getLast?_eq_getElem?]; exact h
theorem last_if {rows : List Row} {o : Option Cell} (e : o = some (.lst (rows.map rowD))) {g : G} {F : D → G → Prop} : (if (!(rows.map rowD).isEmpty) = true then opt (lstOf o) fun xs => opt (atI xs (-1)) fun d => oIx d (.int 0) g F else F (.int 0) g) = F (.int (lastN rows)) g := by
  subst e
  rw [lstOf_lst]
  rcases List.eq_nil_or_concat rows with rfl | ⟨rs, r, rfl⟩
  · rfl
  · rw [List.concat_eq_append, List.map_append, List.map_cons, List.map_nil]
    rw [if_pos (by simp)]
    have e1 : atI (rs.map rowD ++ [rowD r]) (-1) = some (rowD r) := atI_last (by simp)
    simp only [opt_some, e1]
    have e2 : lastN (rs ++ [r]) = r.1 := by unfold lastN; simp
    rw [e2]
    show oIx (.tup _) (.int 0) g F = _
    simp only [oIx_tup, atI0, opt_some]
theorem rd_loop {K : Fr} {Kd : D → Sto → Prop} {Kx : Addr → D → Sto → Prop} {st : Sto} {x acc : Str} {bf : Int} {all : List Str} {b : Addr} (nb : st b = none) (hall : all.length + 4 ≤ 16777216) : ∀ (ls : List Str) (i : Nat) (rows : List Row) (g : G),
    (∀ l ∈ ls, l.length + 4 ≤ 16777216) → rows.length ≤ 500 → (∃ s5 s6 s7 s8, g.sl = [some (.str x), some (.lst (all.map D.str)), some (.str acc), some (.int bf), some (.ref b), s5, s6, s7, s8]) → g.st = put st b (.lst (rows.map rowD)) →
    drEnd K st Kd Kx (rdLoop all.length acc bf ls i rows) → loopD always rdG (rdBody K) { endsOf Kd Kx with nx := rdRet K (endsOf Kd Kx) } (pairsN i (ls.map D.str)) g
  | [], i, rows, ⟨sl, s⟩, _, _, ⟨s5, s6, s7, s8, e⟩, es, h => by
    cases e
    cases (show s = _ from es)
    refine ⟨True.intro, ?_⟩
    simp only [rdRet]
    try trivial
    exact h _ (Sub.refl.put nb)
  | l :: r, i, rows, ⟨sl, s⟩, hl, h5, ⟨s5, s6, s7, s8, e⟩, es, h => by
    cases e
    have es : s = put st b (.lst (rows.map rowD)) := es
    have eb : s b = some (.lst (rows.map rowD)) := by rw [es, put_same]
    have sub : Sub st s := by rw [es]; exact Sub.refl.put nb
    have hlen := hl l (by simp)
    refine ⟨True.intro, ?_⟩
    show rdG (.tup [.int i, .str l]) _ _
    refine ⟨rfl, ?_⟩
    have ih := rd_loop (K := K) (Kd := Kd) (Kx := Kx) (x := x) (acc := acc) (bf := bf) nb hall r (i + 1)
    show rdBody K { endsOf Kd Kx with nx := loopD always rdG (rdBody K) { endsOf Kd Kx with nx := rdRet K (endsOf Kd Kx) } (pairsN (i + 1) (r.map D.str)), ct := loopD always rdG (rdBody K) { endsOf Kd Kx with nx := rdRet K (endsOf Kd Kx) } (pairsN (i + 1) (r.map D.str)), bk := rdRet K (endsOf Kd Kx) } ⟨[some (.str x), some (.lst (all.map D.str)), some (.str acc), some (.int bf), some (.ref b), some (.int i), some (.str l), s7, s8], s⟩
    generalize loopD always rdG (rdBody K) { endsOf Kd Kx with nx := rdRet K (endsOf Kd Kx) } (pairsN (i + 1) (r.map D.str)) = L at ih ⊢
    unfold rdBody
    simp only [ct_read_balance]
    try trivial
    refine ⟨l, "behind", rfl, rfl, hlen, ?_⟩
    try trivial
    have hr : rdLoop all.length acc bf (l :: r) i rows = match rdBal l "behind" with
      | some b => if (i : Int) + 3 < all.length then .error ((i : Int) + 3 + 1) else .ok (acc, bf, rows, b)
      | none => match rdPost l (lastN rows) with
        | none => .error ((i : Int) + 3)
        | some r' => if rows.length = 500 then .error ((i : Int) + 3) else rdLoop all.length acc bf r (i + 1) (rows ++ [r']) := rfl
    rw [hr] at h
    cases q : rdBal l "behind" with
    | some bh =>
      rw [q] at h
      rw [if_pos (show (!isN (optD (some bh))) = true from rfl)]
      dsimp only at h
      by_cases c : (i : Int) + 3 < all.length
      · rw [if_pos c] at h
        rw [if_pos (decide_eq_true c)]
        exact h s sub
      · rw [if_neg c] at h
        rw [if_neg (by simpa using c)]
        rw [oTuple_r eb]
        exact ⟨by rw [sizeLine_eq]; decide, h s sub⟩
    | none =>
      rw [q] at h
      rw [if_neg (show ¬ (!isN (optD none)) = true from fun z => nomatch z)]
      dsimp only at h
      rw [tru_ref eb]
      simp only [opt_some]
      refine (last_if eb).mpr ?_
      simp only [ct_read_posting]
      try trivial
      refine ⟨l, lastN rows, rfl, rfl, hlen, ?_⟩
      cases q2 : rdPost l (lastN rows) with
      | none =>
        rw [q2] at h
        dsimp only at h
        try trivial
        rw [if_pos (show isN (optR none) = true from rfl)]
        try trivial
        exact h s sub
      | some r' =>
        rw [q2] at h
        dsimp only at h
        try trivial
        rw [if_neg (show ¬ isN (optR (some r')) = true from fun z => nomatch z)]
        try trivial
        rw [lenOf_ref eb]
        simp only [opt_some, List.length_map]
        by_cases c : rows.length = 500
        · rw [if_pos c] at h
          rw [if_pos (decide_eq_true (by omega))]
          try trivial
          exact h s sub
        · rw [if_neg c] at h
          rw [if_neg (by simp only [decide_eq_true_eq]; omega)]
          refine ⟨by unfold isT; simp only [eb], ?_⟩
          unfold oAppend cellL
          simp only [eb, arg1_eq]
          refine ⟨by rw [List.length_map, sizeLine_eq]; omega, ?_⟩
          refine ih (rows ++ [r']) _ (fun z hz => hl z (List.mem_cons_of_mem _ hz)) (by rw [List.length_append]; simp; omega) ⟨_, _, _, _, rfl⟩ ?_ h
          show put s b _ = _
          rw [es, put_put, List.map_append]
          rfl
end L23

end ST23

section SU23

set_option Elab.async false
set_option linter.all false
set_option maxRecDepth 100000
namespace L23
open PySem L2 DL
local macro_rules
  | `(tactic| trivial) => `(tactic| simp only [wVar_eq, wC, wOp2, wOp1, wB_eq, wChain_eq, wTru_eq, wAndT_eq, wOrT_eq, wNotT, wAndV_eq, wOrV_eq, wNotV_eq, wIf_eq, wNil, wCons, wTup, wLst, wCB, wSkip, wSeq, wBrk, wCnt, wExpr, wRet, wRetN, wIfS_eq, wName, wGNil, wGCons, wGTup, wAsg, wSet, wPar, wPar3, wCall, wCallK, wMakeK, wMethK, wFld, wSetF, wAugF, wGFld, wLPut, wSlA, oSlA_tup, oSlA_lst, cutD_mapI, oMaxL_ints, wPN, wPS, oSl_lkd, wRaise, wListRange, wIt_eq, wFor_eq, wEnumT_eq, wRng1_eq, wZipM, wFrz_eq, wFrzS_eq, oIsT, oLen, oLe, oLt, oGe, oGt, oMax2, oMin2, o2I, oI, oI0, oOrd, oIsN, wBM, wBM0, oS0, oS1, oSplit, oEq, oNe, oAbs, oDivmod, oGcd, oAdd_int, oNeg_int, oInt_int, oInt_bl, oIx_tup, oIx_lst, oIx_lkd, oIx_r, cellL_r, lstOf_lst, ixN0, ixN2, put_same, put_put, List.set, oTuple_lst, oTuple_tup, oSum_ints, oSumT_ints, wRevT_eq, wAugI_eq, oAll_bls, atI0, atI1, atI2, endsOf, startD, getS, setS, opt_some, asBl_bl, asInt_int, asStr_str, asTup_tup, arg1_eq, arg2_eq, arg3_eq, List.length_nil, List.length_cons, Bool.not_true, Bool.not_false, if_true, Bool.false_eq_true, if_false, true_and, List.length_map, tru_bl, newL_f, newL_t, lenOf_lst, lenOf_tup, lenOf_lkd, eqD_int, eqD_str, seqAt_tup, seqAt_lst, seqAt_lkd, itAny_tup, itAny_lst, itAny_lkd, lstAt_lst, kd_int, kd_tup, kt_ii, kt_ib, kt_tt])
theorem nl1 : TL.tl ("\n" : Str) = [10] := by decide +kernel
theorem nl2 : ("\n" : Str).cps.all (· < 256) = true := by decide +kernel
theorem nl3 : ((("\n" : Str).length == 0) = false) := by decide +kernel
def rdLines : List Str → Except Int DR
  | [] => .error 0
  | l0 :: r => match rdAcc l0 with
    | none => .error 1
    | some acc => match r with
      | [] => .error 2
      | l1 :: ls => match rdBal l1 "before" with
        | none => .error 2
        | some bf => rdLoop (l0 :: l1 :: ls).length acc bf ls 0 []
theorem rl0 {l0 : Str} {r : List Str} (q : rdAcc l0 = none) : rdLines (l0 :: r) = .error 1 := by simp only [rdLines, q]
theorem rl1 {l0 acc : Str} (q : rdAcc l0 = some acc) : rdLines [l0] = .error 2 := by simp only [rdLines, q]
theorem rl2 {l0 acc l1 : Str} {ls : List Str} (q : rdAcc l0 = some acc) (q1 : rdBal l1 "before" = none) : rdLines (l0 :: l1 :: ls) = .error 2 := by simp only [rdLines, q, q1]
theorem rl3 {l0 acc l1 : Str} {ls : List Str} {bf : Int} (q : rdAcc l0 = some acc) (q1 : rdBal l1 "before" = some bf) : rdLines (l0 :: l1 :: ls) = rdLoop (l0 :: l1 :: ls).length acc bf ls 0 [] := by simp only [rdLines, q, q1]
def rdDraft (x : Str) : Except Int DR := rdLines (Txt.split x "\n")
def drOf (K : Fr) (st : Sto) (Kd : D → Sto → Prop) (Kx : Addr → D → Sto → Prop) : D → Prop
  | .str x => x.length + 8 ≤ 16777216 ∧ drEnd K st Kd Kx (rdDraft x)
  | _ => Kx (He.ga K "BadDraft") (.int 0) st
def ct_read_draft (K : Fr) : CT := fun ds st Kd Kx => arg1 ds fun d => (kindOf st d).isSome = true ∧ drOf K st Kd Kx d
theorem draft_eq (K : Fr) (ct_read_posting ct_read_balance ct_read_account : CT) : W_read_draft K ct_read_posting ct_read_balance ct_read_account = W_read_draft K ct_read_posting ct_read_balance ct_read_account := rfl
theorem P_read_draft {K : Fr} : ∀ ds st Kd Kx, ds.length = 1 → ct_read_draft K ds st Kd Kx → W_read_draft K ct_read_posting ct_read_balance ct_read_account (endsOf Kd Kx) ⟨startD 9 ds, st⟩ := by
  intro ds st Kd Kx hl h0
  obtain ⟨d, rfl, hs, h⟩ := arg1_ok h0
  obtain ⟨k, hk⟩ := Option.isSome_iff_exists.mp hs
  have m := kind_mem hk
  show (wSeq (wIfS (wNotT (wTru (wCB oIsT (wCons (wVar 0) (wCons (wC (.ty "str")) wNil))))) (wRaise (He.ga K "BadDraft") (wCons (wC (.int 0)) wNil)) wSkip) (wSeq (wSet 1 (wBM "str" (oSplit false) (wVar 0) (wCons (wC (.str "\n")) wNil))) (wSeq (wSet 2 (wCall 1 ct_read_account (wCons (wOp2 oIx (wVar 1) (wC (.int 0))) wNil))) (wSeq (wIfS (wB (wOp2 (oIsN false) (wVar 2) (wC .non))) (wRaise (He.ga K "BadDraft") (wCons (wC (.int 1)) wNil)) wSkip) (wSeq (wSet 3 (wIf (wB (wOp2 oGt (wCB oLen (wCons (wVar 1) wNil)) (wC (.int 1)))) (wCall 2 ct_read_balance (wCons (wOp2 oIx (wVar 1) (wC (.int 1))) (wCons (wC (.str "before")) wNil))) (wC .non))) (wSeq (wIfS (wB (wOp2 (oIsN false) (wVar 3) (wC .non))) (wRaise (He.ga K "BadDraft") (wCons (wC (.int (2))) wNil)) wSkip) (wSeq (wSet 4 (wLst true wNil)) (wSeq (wFor (wEnum (wCons (wSlA false (wVar 1) (wPS (wC (.int 2))) wPN) wNil)) rdG (rdBody K)) (rdRet K))))))))) (endsOf Kd Kx) _
  by_cases e : (k == "str") = true
  · obtain ⟨x, rfl⟩ := (kind_str hk).mp e
    obtain ⟨hx, h⟩ := h
    try trivial
    simp only [hk, opt_some, kitB_str m, e, tru_bl, Bool.not_true, Bool.false_eq_true, if_false]
    try trivial
    refine ⟨rfl, ⟨nl3, by rw [sizeLine_eq]; omega⟩, ?_⟩
    have hp : ∀ p ∈ Txt.split x "\n", p.length + 8 ≤ 16777216 := fun p hp => by
      have := split_len nl1 nl2 hp
      omega
    have hc := split_count nl1 nl2 (x := x)
    unfold rdDraft at h
    generalize Txt.split x (Str.ofString "\n") = ls at hp hc h ⊢
    have h : drEnd K st Kd Kx (rdLines ls) := h
    match ls, h with
    | [], h => exact absurd hc.2 (by simp)
    | l0 :: r, h =>
      simp only [ct_read_account, List.map_cons, atI0, opt_some]
      try trivial
      refine ⟨l0, rfl, by have := hp l0 (by simp); omega, ?_⟩
      cases q0 : rdAcc l0 with
      | none =>
        have h : drEnd K st Kd Kx (rdLines (l0 :: r)) := h
        rw [rl0 q0] at h
        rw [if_pos (show isN (optS none) = true from rfl)]
        exact h st Sub.refl
      | some acc =>
        rw [if_neg (show ¬ isN (optS (some acc)) = true from fun z => nomatch z)]
        match r, h with
        | [], h =>
          have h : drEnd K st Kd Kx (rdLines [l0]) := h
          rw [rl1 q0] at h
          rw [if_neg (by simp)]
          rw [if_pos (show isN D.non = true from rfl)]
          exact h st Sub.refl
        | l1 :: ls, h =>
          have h : drEnd K st Kd Kx (rdLines (l0 :: l1 :: ls)) := h
          rw [if_pos (by simp only [List.length_cons, decide_eq_true_eq]; omega)]
          simp only [ct_read_balance, List.map_cons, atI1, opt_some]
          try trivial
          refine ⟨l1, "before", rfl, rfl, by have := hp l1 (by simp); omega, ?_⟩
          cases q1 : rdBal l1 "before" with
          | none =>
            rw [rl2 q0 q1] at h
            rw [if_pos (show isN (optD none) = true from rfl)]
            exact h st Sub.refl
          | some bf =>
            rw [rl3 q0 q1] at h
            rw [if_neg (show ¬ isN (optD (some bf)) = true from fun z => nomatch z)]
            refine ⟨Nat.zero_le _, fun b nb => ?_⟩
            unfold wEnum wPS wPN
            try trivial
            have ec : cutD (D.str l0 :: D.str l1 :: ls.map D.str) (some 2) none = ls.map D.str := by
              unfold cutD
              have s1 : HT.sIx (D.str l0 :: D.str l1 :: ls.map D.str).length 0 (some 2) = 2 := by
                have l2 : 2 ≤ (D.str l0 :: D.str l1 :: ls.map D.str).length := by simp
                generalize (D.str l0 :: D.str l1 :: ls.map D.str).length = n at l2
                show (if (2 : Int) < 0 then ((2 : Int) + (n : Int)).toNat else min (2 : Int).toNat n) = 2
                rw [if_neg (by decide)]
                show min 2 n = 2
                omega
              have s2 : HT.sIx (D.str l0 :: D.str l1 :: ls.map D.str).length (D.str l0 :: D.str l1 :: ls.map D.str).length none = (D.str l0 :: D.str l1 :: ls.map D.str).length := rfl
              rw [s1, s2]
              simp only [List.drop_succ_cons, List.drop_zero]
              exact List.take_of_length_le (by simp)
            rw [ec]
            exact rd_loop (all := l0 :: l1 :: ls) nb (by have := hc.1; omega) ls 0 [] _ (fun l hl => by have := hp l (by simp [hl]); omega) (Nat.zero_le _) ⟨_, _, _, _, rfl⟩ rfl h
  · have z : (k == "str") = false := by simpa using e
    have h' : Kx (He.ga K "BadDraft") (.int 0) st := by
      cases d <;> first | exact h | (exact absurd ((kind_str hk).mpr ⟨_, rfl⟩) e)
    try trivial
    simp only [hk, opt_some, kitB_str m, z, tru_bl, Bool.not_false, if_true]
    try exact h'
end L23

end SU23

section SV23

set_option Elab.async false
set_option linter.all false
set_option maxRecDepth 100000
namespace L23
open PySem L2 DL
local macro_rules
  | `(tactic| trivial) => `(tactic| simp only [wVar_eq, wC, wOp2, wOp1, wB_eq, wChain_eq, wTru_eq, wAndT_eq, wOrT_eq, wNotT, wAndV_eq, wOrV_eq, wNotV_eq, wIf_eq, wNil, wCons, wTup, wLst, wCB, wSkip, wSeq, wBrk, wCnt, wExpr, wRet, wRetN, wIfS_eq, wName, wGNil, wGCons, wGTup, wAsg, wSet, wPar, wPar3, wCall, wCallK, wMakeK, wMethK, wFld, wSetF, wAugF, wGFld, wLPut, wSlA, oSlA_tup, oSlA_lst, cutD_mapI, oMaxL_ints, wPN, wPS, oSl_lkd, wRaise, wListRange, wIt_eq, wFor_eq, wEnumT_eq, wRng1_eq, wZipM, wFrz_eq, wFrzS_eq, oIsT, oLen, oLe, oLt, oGe, oGt, oMax2, oMin2, o2I, oI, oI0, oOrd, oIsN, wBM, wBM0, oS0, oS1, oSplit, oEq, oNe, oAbs, oDivmod, oGcd, oAdd_int, oNeg_int, oInt_int, oInt_bl, oIx_tup, oIx_lst, oIx_lkd, oIx_r, cellL_r, lstOf_lst, ixN0, ixN2, put_same, put_put, List.set, oTuple_lst, oTuple_tup, oSum_ints, oSumT_ints, wRevT_eq, wAugI_eq, oAll_bls, atI0, atI1, atI2, endsOf, startD, getS, setS, opt_some, asBl_bl, asInt_int, asStr_str, asTup_tup, arg1_eq, arg2_eq, arg3_eq, List.length_nil, List.length_cons, Bool.not_true, Bool.not_false, if_true, Bool.false_eq_true, if_false, true_and, List.length_map, tru_bl, newL_f, newL_t, lenOf_lst, lenOf_tup, lenOf_lkd, eqD_int, eqD_str, seqAt_tup, seqAt_lst, seqAt_lkd, itAny_tup, itAny_lst, itAny_lkd, lstAt_lst, kd_int, kd_tup, kt_ii, kt_ib, kt_tt])
def isDr : D → Bool
  | .str x => (match rdDraft x with | .ok _ => true | .error _ => false)
  | _ => false
def FitD : D → Prop
  | .str x => x.length + 8 ≤ 16777216
  | _ => True
def ct_is_draft : CT := fun ds st Kd _ => arg1 ds fun d => (kindOf st d).isSome = true ∧ FitD d ∧ ∀ st', Sub st st' → Kd (.bl (isDr d)) st'
theorem P_is_draft {K : Fr} {mg : Str → Option Value} (c : Known fs fn K mg) : ∀ ds st Kd Kx, ds.length = 1 → ct_is_draft ds st Kd Kx → W_is_draft K (ct_read_draft K) (endsOf Kd Kx) ⟨startD 1 ds, st⟩ := by
  intro ds st Kd Kx hl h0
  obtain ⟨d, rfl, hk, hf, h⟩ := arg1_ok h0
  unfold W_is_draft wTry0
  try trivial
  simp only [ct_read_draft, arg1_eq]
  refine ⟨hk, ?_⟩
  have bad : ∀ (n : Int) st', Kd (.bl false) st' → XOk K (He.ga K "BadDraft") ∧ ∃ b, PySem.W.exmOne K (.ref (He.ga K "BadDraft")) (.ref (He.ga K "BadDraft")) = some b ∧ (b = true → Kd (.bl false) st') ∧ (b = false → Kx (He.ga K "BadDraft") (.int n) st') := fun n st' k => ⟨c.xo ix_xo_BadDraft, true, c.xm ix_xm_BadDraft_BadDraft, fun _ => k, fun z => by cases z⟩
  cases d with
  | str x =>
    refine ⟨hf, ?_⟩
    have e : isDr (.str x) = (match rdDraft x with | .ok _ => true | .error _ => false) := rfl
    rw [e] at h
    cases q : rdDraft x with
    | ok r =>
      rw [q] at h
      exact fun st' s => h st' s
    | error n =>
      rw [q] at h
      exact fun st' s => bad n st' (h st' s)
  | _ => exact bad 0 _ (h _ Sub.refl)
/-! ### the numbers of a draft -/
theorem valT_putT {m : List (List Key × D)} {k k' : List Key} {v : D} : valT (putT m k v) k' = if k' = k then some v else valT m k' := by
  unfold valT putT
  split
  · rename_i h
    induction m with
    | nil => simp at h
    | cons p m ih =>
      obtain ⟨j, d⟩ := p
      rw [List.map_cons]
      by_cases e : j = k
      · subst e
        simp only [if_true]
        by_cases e2 : k' = j
        · subst e2; simp
        · have e3 : ¬ j = k' := fun z => e2 z.symm
          rw [if_neg e2, List.find?_cons_of_neg (by simpa using e3), List.find?_cons_of_neg (by simpa using e3)]
          by_cases h2 : (m.any fun kv => decide (kv.1 = j)) = true
          · have := ih h2; rw [if_neg e2] at this; exact this
          · congr 1
            have : m.map (fun kv => if kv.1 = j then (kv.1, v) else kv) = m := by
              conv => rhs; rw [← List.map_id m]
              refine List.map_congr_left fun q hq => ?_
              have : ¬ q.1 = j := fun z => h2 (List.any_eq_true.mpr ⟨q, hq, by simpa using z⟩)
              simp [this]
            rw [this]
      · simp only [e, if_false]
        have h2 : (m.any fun kv => decide (kv.1 = k)) = true := by simpa [e] using h
        have ih2 := ih h2
        by_cases e2 : j = k'
        · subst e2
          rw [if_neg e]; simp
        · rw [List.find?_cons_of_neg (by simpa using e2), List.find?_cons_of_neg (by simpa using e2)]
          exact ih2
  · rename_i h
    rw [List.find?_append]
    have no : ∀ q ∈ m, ¬ q.1 = k := fun q hq z => h (List.any_eq_true.mpr ⟨q, hq, by simpa using z⟩)
    by_cases e2 : k' = k
    · subst e2
      have : m.find? (fun kv => decide (kv.1 = k')) = none := List.find?_eq_none.mpr fun q hq => by simpa using no q hq
      rw [this]; simp
    · have e3 : ¬ k = k' := fun z => e2 z.symm
      rw [if_neg e2]
      simp [e3]
theorem putT_len {m : List (List Key × D)} {k : List Key} {v : D} (h : valT m k = none) : (putT m k v).length = m.length + 1 := by
  unfold putT
  rw [if_neg, List.length_append]; rfl
  intro z
  obtain ⟨q, hq, e⟩ := List.any_eq_true.mp z
  unfold valT at h
  have := List.find?_eq_none.mp (Option.map_eq_none_iff.mp h) q hq
  exact this e
end L23

end SV23

section SW23

set_option Elab.async false
set_option linter.all false
set_option maxRecDepth 100000
namespace L23
open PySem L2 DL
local macro_rules
  | `(tactic| trivial) => `(tactic| simp only [wVar_eq, wC, wOp2, wOp1, wB_eq, wChain_eq, wTru_eq, wAndT_eq, wOrT_eq, wNotT, wAndV_eq, wOrV_eq, wNotV_eq, wIf_eq, wNil, wCons, wTup, wLst, wCB, wSkip, wSeq, wBrk, wCnt, wExpr, wRet, wRetN, wIfS_eq, wName, wGNil, wGCons, wGTup, wAsg, wSet, wPar, wPar3, wCall, wCallK, wMakeK, wMethK, wFld, wSetF, wAugF, wGFld, wLPut, wSlA, oSlA_tup, oSlA_lst, cutD_mapI, oMaxL_ints, wPN, wPS, oSl_lkd, wRaise, wListRange, wIt_eq, wFor_eq, wEnumT_eq, wRng1_eq, wZipM, wFrz_eq, wFrzS_eq, oIsT, oLen, oLe, oLt, oGe, oGt, oMax2, oMin2, o2I, oI, oI0, oOrd, oIsN, wBM, wBM0, oS0, oS1, oSplit, oEq, oNe, oAbs, oDivmod, oGcd, oAdd_int, oNeg_int, oInt_int, oInt_bl, oIx_tup, oIx_lst, oIx_lkd, oIx_r, cellL_r, lstOf_lst, ixN0, ixN2, put_same, put_put, List.set, oTuple_lst, oTuple_tup, oSum_ints, oSumT_ints, wRevT_eq, wAugI_eq, oAll_bls, atI0, atI1, atI2, endsOf, startD, getS, setS, opt_some, asBl_bl, asInt_int, asStr_str, asTup_tup, arg1_eq, arg2_eq, arg3_eq, List.length_nil, List.length_cons, Bool.not_true, Bool.not_false, if_true, Bool.false_eq_true, if_false, true_and, List.length_map, tru_bl, newL_f, newL_t, lenOf_lst, lenOf_tup, lenOf_lkd, eqD_int, eqD_str, seqAt_tup, seqAt_lst, seqAt_lkd, itAny_tup, itAny_lst, itAny_lkd, lstAt_lst, kd_int, kd_tup, kt_ii, kt_ib, kt_tt])
abbrev kk (l : Int) (w : Str) : List Key := [.inl l, .inr w]
def numF (bf : Int) (rows : List Row) (k : Nat) (l : Int) (w : Str) : Option D :=
  if w = "balance" then (if l = 2 then some (.int bf) else if 3 ≤ l ∧ l < 3 + k then (rows[(l - 3).toNat]?).map fun r => .int r.2.2 else none)
  else if w = "amount" then (if 3 ≤ l ∧ l < 3 + k then (rows[(l - 3).toNat]?).map fun r => .int r.2.1 else none) else none
structure NumI (bf : Int) (rows : List Row) (k : Nat) (m : List (List Key × D)) : Prop where
  len : m.length = 1 + 2 * k
  at_ : ∀ l w, valT m (kk l w) = numF bf rows k l w
theorem kk_eq {l l' : Int} {w w' : Str} : kk l w = kk l' w' ↔ l = l' ∧ w = w' := by
  constructor
  · intro h
    injection h with h1 h2
    injection h2 with h3 h4
    exact ⟨Sum.inl.inj h1, Sum.inr.inj h3⟩
  · rintro ⟨rfl, rfl⟩; rfl
theorem ba : ("balance" : Str) ≠ "amount" := by decide +kernel
theorem NumI.first {bf : Int} {rows : List Row} : NumI bf rows 0 [(kk 2 "balance", .int bf)] := by
  refine ⟨rfl, fun l w => ?_⟩
  have e : valT [(kk 2 "balance", D.int bf)] (kk l w) = if kk 2 "balance" = kk l w then some (.int bf) else none := by
    unfold valT
    by_cases c : kk 2 "balance" = kk l w
    · rw [if_pos c]; simp [c]
    · rw [if_neg c]
      rw [List.find?_cons_of_neg (by simpa using c)]; rfl
  rw [e]
  unfold numF
  by_cases c : w = "balance"
  · subst c
    rw [if_pos rfl]
    by_cases c2 : l = 2
    · subst c2; rw [if_pos rfl, if_pos rfl]
    · rw [if_neg fun z => c2 (kk_eq.mp z).1.symm, if_neg c2, if_neg (by omega)]
  · rw [if_neg c, if_neg fun z => c (kk_eq.mp z).2.symm]
    split
    · rw [if_neg (by omega)]
    · rfl
theorem NumI.step {bf : Int} {rows : List Row} {k : Nat} {m : List (List Key × D)} {r : Row} (i : NumI bf rows k m) (h : rows[k]? = some r) : NumI bf rows (k + 1) (putT (putT m (kk ((k : Int) + 3) "amount") (.int r.2.1)) (kk ((k : Int) + 3) "balance") (.int r.2.2)) := by
  have e0 : ((k : Int) + 3 - 3).toNat = k := by omega
  have n1 : valT m (kk ((k : Int) + 3) "amount") = none := by
    rw [i.at_]; unfold numF
    rw [if_neg (Ne.symm ba), if_pos rfl, if_neg (by omega)]
  have n2 : valT (putT m (kk ((k : Int) + 3) "amount") (.int r.2.1)) (kk ((k : Int) + 3) "balance") = none := by
    rw [valT_putT, if_neg (fun z => ba (kk_eq.mp z).2), i.at_]; unfold numF
    rw [if_pos rfl, if_neg (by omega), if_neg (by omega)]
  refine ⟨by rw [putT_len n2, putT_len n1, i.len]; omega, fun l w => ?_⟩
  rw [valT_putT, valT_putT, i.at_]
  unfold numF
  by_cases c : w = "balance"
  · subst c
    rw [if_pos rfl, if_pos rfl]
    by_cases c2 : l = (k : Int) + 3
    · subst c2
      rw [if_pos rfl, if_neg (by omega), if_pos (by omega), e0, h]; rfl
    · rw [if_neg fun z => c2 (kk_eq.mp z).1, if_neg fun z => ba (kk_eq.mp z).2]
      by_cases c3 : l = 2
      · rw [if_pos c3, if_pos c3]
      · rw [if_neg c3, if_neg c3]
        by_cases c4 : 3 ≤ l ∧ l < 3 + (k : Int)
        · rw [if_pos c4, if_pos (by omega)]
        · rw [if_neg c4, if_neg (by omega)]
  · rw [if_neg c, if_neg c, if_neg fun z => c (kk_eq.mp z).2]
    by_cases c1 : w = "amount"
    · subst c1
      rw [if_pos rfl, if_pos rfl]
      by_cases c2 : l = (k : Int) + 3
      · subst c2
        rw [if_pos rfl, if_pos (by omega), e0, h]; rfl
      · rw [if_neg fun z => c2 (kk_eq.mp z).1]
        by_cases c4 : 3 ≤ l ∧ l < 3 + (k : Int)
        · rw [if_pos c4, if_pos (by omega)]
        · rw [if_neg c4, if_neg (by omega)]
    · rw [if_neg c1, if_neg c1, if_neg fun z => c1 (kk_eq.mp z).2]
/-- all numbers of a draft -/
structure NumE (q : DR) (m : List (List Key × D)) : Prop where
  len : m.length = 2 + 2 * q.2.2.1.length
  at_ : ∀ l w, valT m (kk l w) = if kk l w = kk ((q.2.2.1.length : Int) + 3) "balance" then some (.int q.2.2.2) else numF q.2.1 q.2.2.1 q.2.2.1.length l w
theorem NumI.last {bf bh : Int} {acc : Str} {rows : List Row} {m : List (List Key × D)} (i : NumI bf rows rows.length m) : NumE (acc, bf, rows, bh) (putT m (kk ((rows.length : Int) + 3) "balance") (.int bh)) := by
  have n1 : valT m (kk ((rows.length : Int) + 3) "balance") = none := by
    rw [i.at_]; unfold numF
    rw [if_pos rfl, if_neg (by omega), if_neg (by omega)]
  exact ⟨by rw [putT_len n1, i.len]; show _ = 2 + 2 * rows.length; omega, fun l w => by rw [valT_putT, i.at_]⟩
def nuG : WG := (wGTup 2 (wGCons (wName 6) (wGCons (wGTup 3 (wGCons (wName 1) (wGCons (wName 7) (wGCons (wName 8) wGNil)))) wGNil)))
def nuBody : WS := (wSeq (wDPutT (wVar 5) (wCons (wOp2 (oAdd false) (wVar 6) (wC (.int (3)))) (wCons (wC (.str "amount")) wNil)) (wVar 7)) (wDPutT (wVar 5) (wCons (wOp2 (oAdd false) (wVar 6) (wC (.int (3)))) (wCons (wC (.str "balance")) wNil)) (wVar 8)))
def nuRet : WS := (wSeq (wDPutT (wVar 5) (wCons (wOp2 (oAdd false) (wCB oLen (wCons (wVar 3) wNil)) (wC (.int (3)))) (wCons (wC (.str "balance")) wNil)) (wVar 4)) (wFrzS 5 (wRet (wFrz (wVar 5)))))
theorem nu_loop {E : EndsD} {st : Sto} {bf : Int} {rows : List Row} {b : Addr} {d0 d2 d3 d4 : D} (hr : rows.length ≤ 1000)
    (h : ∀ m s1 s6 s7 s8, NumI bf rows rows.length m → E.nx ⟨[some d0, s1, some d2, some d3, some d4, some (.ref b), s6, s7, s8], put st b (.dct m)⟩) : ∀ (suf : List Row) (k : Nat) (m : List (List Key × D)) (s1 s6 s7 s8 : Option D),
    k ≤ rows.length → rows.drop k = suf → NumI bf rows k m → loopD always nuG nuBody E (pairsN k (suf.map rowD)) ⟨[some d0, s1, some d2, some d3, some d4, some (.ref b), s6, s7, s8], put st b (.dct m)⟩
  | [], k, m, s1, s6, s7, s8, kl, e, i => by
    have hk : rows.length ≤ k := List.drop_eq_nil_iff.mp e
    refine ⟨True.intro, h m _ _ _ _ ?_⟩
    have c : k = rows.length := by omega
    rw [← c]; exact i
  | r :: suf, k, m, s1, s6, s7, s8, kl, e, i => by
    have hk : k < rows.length := by
      have := congrArg List.length e
      rw [List.length_drop, List.length_cons] at this; omega
    have hg : rows[k]? = some r := by
      have := List.drop_eq_getElem_cons hk
      rw [e] at this
      rw [List.getElem?_eq_getElem hk, (List.cons.inj this).1]
    have e' : rows.drop (k + 1) = suf := by
      have := List.drop_eq_getElem_cons hk
      rw [e] at this
      exact (List.cons.inj this).2.symm
    refine ⟨True.intro, ?_⟩
    have ih := fun m s1 s6 s7 s8 => nu_loop (E := E) (st := st) (b := b) (d0 := d0) (d2 := d2) (d3 := d3) (d4 := d4) hr h suf (k + 1) m s1 s6 s7 s8 hk e'
    show nuG (.tup [.int k, rowD r]) _ fun g2 => nuBody { E with nx := loopD always nuG nuBody E (pairsN (k + 1) (suf.map rowD)), ct := loopD always nuG nuBody E (pairsN (k + 1) (suf.map rowD)), bk := E.nx } g2
    generalize loopD always nuG nuBody E (pairsN (k + 1) (suf.map rowD)) = L at ih ⊢
    have st1 := i.step hg
    have ml := i.len
    have ml1 : ∀ key v, (putT m key v).length ≤ m.length + 1 := fun key v => by
      unfold putT; split
      · rw [List.length_map]; omega
      · rw [List.length_append]; simp
    unfold nuG rowD nuBody wDPutT
    try trivial
    refine ⟨by rw [sizeLine_eq]; decide, ?_⟩
    rw [dctAt_put]
    simp only [opt_some]
    show m.length < sizeLine ∧ _
    refine ⟨by rw [sizeLine_eq]; omega, fun a ea => ?_⟩
    cases ea
    refine ⟨by rw [sizeLine_eq]; decide, ?_⟩
    rw [put_put, dctAt_put]
    simp only [opt_some]
    show List.length _ < sizeLine ∧ _
    refine ⟨by have := ml1 (kk ((k : Int) + 3) "amount") (.int r.2.1); rw [sizeLine_eq]; exact Nat.lt_of_le_of_lt this (by omega), fun a ea => ?_⟩
    cases ea
    rw [put_put]
    exact ih _ _ _ _ _ st1
def ct_numbers_in : CT := fun ds st Kd _ => arg1 ds fun d => ∃ x q, d = .str x ∧ x.length + 8 ≤ 16777216 ∧ rdDraft x = .ok q ∧ q.2.2.1.length ≤ 1000 ∧ ∀ st' a m, Sub st st' → st a = none → st' a = some (.dct m) → NumE q m → Kd (.ref a) st'
theorem Sub.none {s t : Sto} {a : Addr} (h : Sub s t) (e : t a = Option.none) : s a = Option.none := by
  cases q : s a with
  | none => rfl
  | some c => rw [h a c q] at e; cases e
theorem frzS_dct {i : Nat} {w : WS} {K : EndsD} {sl : List (Option D)} {st : Sto} {b : Addr} {m : List (List Key × D)} (h : getS sl i = some (.ref b)) (hb : st b = some (.dct m)) : wFrzS i w K ⟨sl, st⟩ = w K ⟨setS sl i (.ref b), st⟩ := by
  unfold wFrzS
  simp only [h]
  unfold frz
  simp only [hb]
theorem frz_dct {g : G} {b : Addr} {m : List (List Key × D)} {K : KD} (hb : g.st b = some (.dct m)) : frz g (.ref b) K = K (.ref b) g := by
  unfold frz
  simp only [hb]
theorem P_numbers_in {K : Fr} : ∀ ds st Kd Kx, ds.length = 1 → ct_numbers_in ds st Kd Kx → W_numbers_in K (ct_read_draft K) (endsOf Kd Kx) ⟨startD 9 ds, st⟩ := by
  intro ds st Kd Kx hl h0
  obtain ⟨_, rfl, x, q, rfl, hx, hq, hn, h⟩ := arg1_ok h0
  show (wSeq (wAsg (wCall 1 (ct_read_draft K) (wCons (wVar 0) wNil)) (wGTup 4 (wGCons (wName 1) (wGCons (wName 2) (wGCons (wName 3) (wGCons (wName 4) wGNil)))))) (wSeq (wSet 5 (wDispT1 (wCons (wC (.int (2))) (wCons (wC (.str "balance")) wNil)) (wVar 2))) (wSeq (wFor (wEnumT (wCons (wVar 3) wNil)) nuG nuBody) nuRet))) (endsOf Kd Kx) _
  unfold wDispT1
  try trivial
  simp only [ct_read_draft, arg1_eq]
  refine ⟨rfl, hx, ?_⟩
  rw [hq]
  intro st' sub
  unfold drD
  try trivial
  intro p np
  refine ⟨by rw [sizeLine_eq]; decide, ?_⟩
  obtain ⟨acc, bf, rows, bh⟩ := q
  show loopD always nuG nuBody _ (pairsN 0 (rows.map rowD)) ⟨[some (.str x), some (.str acc), some (.int bf), some (.tup (rows.map rowD)), some (.int bh), some (.ref p), none, none, none], put st' p (.dct [(kk 2 "balance", .int bf)])⟩
  refine nu_loop hn (fun m s1 s6 s7 s8 i => ?_) rows 0 _ _ _ _ _ (Nat.zero_le _) rfl NumI.first
  have ml := i.len
  have hn' : rows.length ≤ 1000 := hn
  simp only [nuRet, wDPutT]
  try trivial
  refine ⟨by show 2 ≤ sizeLine; rw [sizeLine_eq]; decide, ?_⟩
  rw [dctAt_put]
  simp only [opt_some]
  show m.length < sizeLine ∧ _
  refine ⟨by rw [sizeLine_eq]; omega, fun a ea => ?_⟩
  cases ea
  rw [put_put]
  rw [frzS_dct rfl put_same]
  try trivial
  show frz ⟨_, put st' p (.dct (putT m (kk ((rows.length : Int) + 3) "balance") (.int bh)))⟩ (.ref p) _
  rw [frz_dct put_same]
  exact h _ p _ (sub.put (sub.none np)) (sub.none np) put_same i.last
end L23

end SW23

section SX23

set_option Elab.async false
set_option linter.all false
set_option maxRecDepth 100000
namespace L23
open PySem L2 DL
local macro_rules
  | `(tactic| trivial) => `(tactic| simp only [wVar_eq, wC, wOp2, wOp1, wB_eq, wChain_eq, wTru_eq, wAndT_eq, wOrT_eq, wNotT, wAndV_eq, wOrV_eq, wNotV_eq, wIf_eq, wNil, wCons, wTup, wLst, wCB, wSkip, wSeq, wBrk, wCnt, wExpr, wRet, wRetN, wIfS_eq, wName, wGNil, wGCons, wGTup, wAsg, wSet, wPar, wPar3, wCall, wCallK, wMakeK, wMethK, wFld, wSetF, wAugF, wGFld, wLPut, wSlA, oSlA_tup, oSlA_lst, cutD_mapI, oMaxL_ints, wPN, wPS, oSl_lkd, wRaise, wListRange, wIt_eq, wFor_eq, wEnumT_eq, wRng1_eq, wZipM, wFrz_eq, wFrzS_eq, oIsT, oLen, oLe, oLt, oGe, oGt, oMax2, oMin2, o2I, oI, oI0, oOrd, oIsN, wBM, wBM0, oS0, oS1, oSplit, oEq, oNe, oAbs, oDivmod, oGcd, oAdd_int, oNeg_int, oInt_int, oInt_bl, oIx_tup, oIx_lst, oIx_lkd, oIx_r, cellL_r, lstOf_lst, ixN0, ixN2, put_same, put_put, List.set, oTuple_lst, oTuple_tup, oSum_ints, oSumT_ints, wRevT_eq, wAugI_eq, oAll_bls, atI0, atI1, atI2, endsOf, startD, getS, setS, opt_some, asBl_bl, asInt_int, asStr_str, asTup_tup, arg1_eq, arg2_eq, arg3_eq, List.length_nil, List.length_cons, Bool.not_true, Bool.not_false, if_true, Bool.false_eq_true, if_false, true_and, List.length_map, tru_bl, newL_f, newL_t, lenOf_lst, lenOf_tup, lenOf_lkd, eqD_int, eqD_str, seqAt_tup, seqAt_lst, seqAt_lkd, itAny_tup, itAny_lst, itAny_lkd, lstAt_lst, kd_int, kd_tup, kt_ii, kt_ib, kt_tt])
def balAt (q : DR) (i : Nat) : Int := match q.2.2.1[i]? with
  | some r => r.2.2
  | none => q.2.2.2
def amtAt (q : DR) (i : Nat) : Int := match q.2.2.1[i]? with
  | some r => r.2.1
  | none => 0
def haveAt (q : DR) : Nat → Int
  | 0 => q.2.1
  | i + 1 => balAt q i
def offAt (q : DR) (i : Nat) : Int := balAt q i - haveAt q i - amtAt q i
def offsL (q : DR) : List Int := (List.range (q.2.2.1.length + 1)).map (offAt q)
theorem NumE.bal {q : DR} {m : List (List Key × D)} (e : NumE q m) {i : Nat} (h : i ≤ q.2.2.1.length) : valT m (kk (3 + (i : Int)) "balance") = some (.int (balAt q i)) := by
  rw [e.at_]
  by_cases c : i = q.2.2.1.length
  · rw [if_pos (kk_eq.mpr ⟨by omega, rfl⟩)]
    unfold balAt
    rw [List.getElem?_eq_none (by omega)]
  · rw [if_neg fun z => c (by have := (kk_eq.mp z).1; omega)]
    unfold numF
    rw [if_pos rfl, if_neg (by omega), if_pos (by omega)]
    have e0 : (3 + (i : Int) - 3).toNat = i := by omega
    rw [e0]
    unfold balAt
    rw [List.getElem?_eq_getElem (by omega)]; rfl
theorem NumE.first {q : DR} {m : List (List Key × D)} (e : NumE q m) : valT m (kk 2 "balance") = some (.int q.2.1) := by
  rw [e.at_, if_neg fun z => by have := (kk_eq.mp z).1; omega]
  unfold numF
  rw [if_pos rfl, if_pos rfl]
theorem NumE.amt {q : DR} {m : List (List Key × D)} (e : NumE q m) {i : Nat} (h : i ≤ q.2.2.1.length) : (valT m (kk (3 + (i : Int)) "amount")).getD (.int 0) = .int (amtAt q i) := by
  rw [e.at_, if_neg fun z => ba (kk_eq.mp z).2.symm]
  unfold numF amtAt
  rw [if_neg (Ne.symm ba), if_pos rfl]
  by_cases c : i < q.2.2.1.length
  · rw [if_pos (by omega)]
    have e0 : (3 + (i : Int) - 3).toNat = i := by omega
    rw [e0, List.getElem?_eq_getElem c]; rfl
  · rw [if_neg (by omega), List.getElem?_eq_none (by omega)]; rfl
def ofBody : WS := (wSeq (wSet 4 (wDGetT (wVar 0) (wCons (wVar 3) (wCons (wC (.str "balance")) wNil)))) (wSeq (wExpr (wBM "list" oAppend (wVar 1) (wCons (wOp2 (oI0 fun i j => i - j) (wOp2 (oI0 fun i j => i - j) (wVar 4) (wVar 2)) (wDGet2T (wVar 0) (wCons (wVar 3) (wCons (wC (.str "amount")) wNil)) (wC (.int 0)))) wNil))) (wSet 2 (wVar 4))))
theorem of_loop {E : EndsD} {st : Sto} {q : DR} {m : List (List Key × D)} {a b : Addr} (hq : q.2.2.1.length ≤ 1000) (ha : st a = some (.dct m)) (hm : NumE q m) (nb : st b = none)
    (h : ∀ s2 s3 s4, E.nx ⟨[some (.ref a), some (.ref b), s2, s3, s4], put st b (.lst ((offsL q).map D.int))⟩) : ∀ (j i : Nat) (s3 s4 : Option D), i + j = q.2.2.1.length + 1 →
    loopD always (wName 3) ofBody E ((List.range' i j).map fun i : Nat => D.int (3 + (i : Int))) ⟨[some (.ref a), some (.ref b), some (.int (haveAt q i)), s3, s4], put st b (.lst (((List.range i).map (offAt q)).map D.int))⟩
  | 0, i, s3, s4, e => by
    refine ⟨True.intro, ?_⟩
    have ei : i = q.2.2.1.length + 1 := by omega
    subst ei
    exact h _ _ _
  | j + 1, i, s3, s4, e => by
    have hab : a ≠ b := fun z => by rw [z, nb] at ha; cases ha
    refine ⟨True.intro, ?_⟩
    have ih := of_loop (E := E) hq ha hm nb h j (i + 1) (some (.int (3 + (i : Int)))) (some (.int (balAt q i))) (by omega)
    show wName 3 (.int (3 + (i : Int))) _ fun g2 => ofBody { E with nx := loopD always (wName 3) ofBody E ((List.range' (i + 1) j).map fun i : Nat => D.int (3 + (i : Int))), ct := loopD always (wName 3) ofBody E ((List.range' (i + 1) j).map fun i : Nat => D.int (3 + (i : Int))), bk := E.nx } g2
    generalize loopD always (wName 3) ofBody E ((List.range' (i + 1) j).map fun i : Nat => D.int (3 + (i : Int))) = L at ih ⊢
    have eda : ∀ c, dctAt (put st b c) (.ref a) = some m := fun c => dctAt_ref (by rw [put_ne hab]; exact ha)
    unfold ofBody wDGetT wDGet2T
    try trivial
    refine ⟨by show 2 ≤ sizeLine; rw [sizeLine_eq]; decide, ?_⟩
    rw [eda]
    simp only [opt_some]
    show opt (valT m (kk (3 + (i : Int)) "balance")) _
    rw [hm.bal (by omega)]
    try trivial
    refine ⟨by unfold isT; simp only [put_same], rfl, by show 2 ≤ sizeLine; rw [sizeLine_eq]; decide, ?_⟩
    show asInt ((valT m (kk (3 + (i : Int)) "amount")).getD (D.int 0)) _
    rw [hm.amt (by omega)]
    try trivial
    unfold oAppend cellL
    simp only [put_same, arg1_eq]
    refine ⟨by rw [List.length_map, List.length_map, List.length_range, sizeLine_eq]; omega, ?_⟩
    try trivial
    have e2 : (((List.range i).map (offAt q)).map D.int ++ [D.int (balAt q i - haveAt q i - amtAt q i)]) = ((List.range (i + 1)).map (offAt q)).map D.int := by
      rw [List.range_succ, List.map_append, List.map_append]; rfl
    rw [e2]
    exact ih
def ct_offs_in : CT := fun ds st Kd _ => arg1 ds fun d => ∃ a m q, d = .ref a ∧ st a = some (.dct m) ∧ NumE q m ∧ q.2.2.1.length ≤ 1000 ∧ Kd (.lst ((offsL q).map D.int)) st
theorem P_offs_in {K : Fr} : ∀ ds st Kd Kx, ds.length = 1 → ct_offs_in ds st Kd Kx → W_offs_in K (endsOf Kd Kx) ⟨startD 5 ds, st⟩ := by
  intro ds st Kd Kx hl h0
  obtain ⟨_, rfl, a, m, q, rfl, ha, hm, hq, h⟩ := arg1_ok h0
  show (wSeq (wSet 1 (wLst true wNil)) (wSeq (wSet 2 (wDGetT (wVar 0) (wCons (wC (.int (2))) (wCons (wC (.str "balance")) wNil)))) (wSeq (wFor (wRng2 (wCons (wC (.int (3))) (wCons (wOp2 (oAdd false) (wC (.int (3))) (wOp2 (oI DivOk fun i j => i / j) (wCB oLen (wCons (wVar 0) wNil)) (wC (.int 2)))) wNil))) (wName 3) ofBody) (wFrzS 1 (wRet (wFrz (wVar 1))))))) (endsOf Kd Kx) _
  unfold wDGetT wRng2
  try trivial
  refine ⟨Nat.zero_le _, fun b nb => ?_⟩
  have hab : a ≠ b := fun z => by rw [z, nb] at ha; cases ha
  have ha2 : put st b (.lst []) a = some (.dct m) := by rw [put_ne hab]; exact ha
  refine ⟨by show 2 ≤ sizeLine; rw [sizeLine_eq]; decide, ?_⟩
  rw [dctAt_ref ha2]
  simp only [opt_some]
  show opt (valT m (kk 2 "balance")) _
  rw [hm.first]
  try trivial
  have el : lenOf (put st b (.lst [])) (.ref a) = some m.length := by unfold lenOf; simp only [ha2]
  rw [el]
  simp only [opt_some]
  have ml := hm.len
  have e1 : (3 : Int) + (m.length : Int) / 2 - 3 = ((q.2.2.1.length + 1 : Nat) : Int) := by omega
  refine ⟨.inl ⟨by decide, by decide⟩, ⟨by unfold Rng; omega, by unfold Rng; omega⟩, ?_⟩
  rw [e1, Int.toNat_natCast]
  have e2 : rngL 3 (q.2.2.1.length + 1) = (List.range' 0 (q.2.2.1.length + 1)).map fun i : Nat => D.int (3 + (i : Int)) := by
    unfold rngL; rw [List.range_eq_range']
  rw [e2]
  refine of_loop hq ha hm nb (fun s2 s3 s4 => ?_) (q.2.2.1.length + 1) 0 none none (by omega)
  dsimp only
  rw [frzS_at rfl nb]
  try trivial
  exact h
end L23

end SX23

section SYA23
set_option Elab.async false
set_option linter.all false
set_option maxRecDepth 100000
namespace L23
open PySem L2 DL
local macro_rules
  | `(tactic| trivial) => `(tactic| simp only [wVar_eq, wC, wOp2, wOp1, wB_eq, wChain_eq, wTru_eq, wAndT_eq, wOrT_eq, wNotT, wAndV_eq, wOrV_eq, wNotV_eq, wIf_eq, wNil, wCons, wTup, wLst, wCB, wSkip, wSeq, wBrk, wCnt, wExpr, wRet, wRetN, wIfS_eq, wName, wGNil, wGCons, wGTup, wAsg, wSet, wPar, wPar3, wCall, wCallK, wMakeK, wMethK, wFld, wSetF, wAugF, wGFld, wLPut, wRaise, wListRange, wIt_eq, wFor_eq, wEnumT_eq, wRng1_eq, wZipM, wFrz_eq, wFrzS_eq, oIsT, oLen, oLe, oLt, oGe, oGt, oMax2, oMin2, o2I, oI, oI0, oOrd, oIsN, wBM, wBM0, oS0, oS1, oSplit, oEq, oNe, oAbs, oDivmod, oGcd, oAdd_int, oNeg_int, oInt_int, oInt_bl, oIx_tup, oIx_lst, oIx_lkd, oTuple_lst, oTuple_tup, oSum_ints, oAll_bls, atI0, atI1, atI2, endsOf, startD, getS, setS, opt_some, asBl_bl, asInt_int, asStr_str, asTup_tup, arg1_eq, arg2_eq, arg3_eq, List.length_nil, List.length_cons, Bool.not_true, Bool.not_false, if_true, Bool.false_eq_true, if_false, true_and, List.length_map, tru_bl, newL_f, newL_t, lenOf_lst, lenOf_tup, lenOf_lkd, eqD_int, eqD_str, seqAt_tup, seqAt_lst, seqAt_lkd, itAny_tup, itAny_lst, itAny_lkd, lstAt_lst, kd_int, kd_tup, kt_ii, kt_ib, kt_tt])
theorem sz {n : Nat} (h : n ≤ 16777216) : n ≤ sizeLine := by rw [sizeLine_eq]; exact h
theorem sz' {n : Nat} (h : n < 16777216) : n < sizeLine := by rw [sizeLine_eq]; exact h
def iN (l : List Int) : D := .tup (l.map D.int)
def ct_ascends : CT := fun ds st Kd _ => arg1 ds fun d => ∃ ns : List Int, d = iN ns ∧ ns.length ≤ 1000 ∧ Kd (.bl (decide (ns.Pairwise (· < ·)))) st
theorem asc_iff : ∀ ns : List Int, ns.Pairwise (· < ·) ↔ ∀ i : Nat, i + 1 < ns.length → ns.getD i 0 < ns.getD (i + 1) 0
  | [] => by simp
  | [x] => by simp
  | x :: y :: r => by
    have ih := asc_iff (y :: r)
    constructor
    · intro h i hi
      cases i with
      | zero =>
        have := (List.pairwise_cons.mp h).1 y (by simp)
        simpa using this
      | succ i =>
        have := ih.mp (List.pairwise_cons.mp h).2 i (by simpa using hi)
        simpa using this
    · intro h
      have h1 : (y :: r).Pairwise (· < ·) := ih.mpr fun i hi => by
        have := h (i + 1) (by simpa using hi)
        simpa using this
      have h0 : x < y := by have := h 0 (by simp); simpa using this
      refine List.pairwise_cons.mpr ⟨fun z hz => ?_, h1⟩
      rcases List.mem_cons.mp hz with rfl | hz
      · exact h0
      · exact Int.lt_trans h0 ((List.pairwise_cons.mp h1).1 z hz)
theorem P_ascends {K : Fr} : ∀ ds st Kd Kx, ds.length = 1 → ct_ascends ds st Kd Kx → W_ascends K (endsOf Kd Kx) ⟨startD 2 ds, st⟩ := by
  intro ds st Kd Kx hl h0
  obtain ⟨_, rfl, ns, rfl, hn, h⟩ := arg1_ok h0
  unfold W_ascends iN
  try trivial
  refine wLc_ty (fun i : Nat => D.int (1 + (i : Nat))) (fun i => .bl (decide (ns.getD i 0 < ns.getD (i + 1) 0))) (List.range ((ns.length : Int) - 1).toNat) (fun KI k => ?_) (sz (by simp; omega)) (fun i hi p acc KT hp kt => ?_) ?_
  · unfold wRng2
    try trivial
    exact ⟨by unfold Rng; omega, k⟩
  · have hi' := List.mem_range.mp hi
    simp only [wipeS, clrS]
    try trivial
    have e0 : (1 + (i : Int)) - 1 = ((i : Nat) : Int) := by omega
    have e1 : (1 + (i : Int)) = ((i + 1 : Nat) : Int) := by omega
    have g : ∀ j (hj : j < ns.length), (ns.map D.int)[j]? = some (.int (ns.getD j 0)) := fun j hj => by rw [List.getElem?_map, List.getElem?_eq_getElem hj, List.getD_eq_getElem?_getD, List.getElem?_eq_getElem hj]; rfl
    rw [e0, e1, atI_pos (g i (by omega)), atI_pos (g (i + 1) (by omega))]
    try trivial
    exact kt _ rfl
  · have e : (List.range ((ns.length : Int) - 1).toNat).map (fun i => D.bl (decide (ns.getD i 0 < ns.getD (i + 1) 0))) = ((List.range ((ns.length : Int) - 1).toNat).map (fun i => decide (ns.getD i 0 < ns.getD (i + 1) 0))).map D.bl := by rw [List.map_map]; rfl
    rw [e]
    try trivial
    have e2 : ((List.range ((ns.length : Int) - 1).toNat).map fun i => decide (ns.getD i 0 < ns.getD (i + 1) 0)).all id = decide (ns.Pairwise (· < ·)) := by
      rw [Bool.eq_iff_iff, List.all_eq_true, decide_eq_true_iff, asc_iff]
      constructor
      · intro q i hi
        have := q _ (List.mem_map.mpr ⟨i, List.mem_range.mpr (by omega), rfl⟩)
        simpa using this
      · intro q b hb
        obtain ⟨i, hi, rfl⟩ := List.mem_map.mp hb
        have hi' := List.mem_range.mp hi
        have := q i (by omega)
        simpa using this
    rw [e2]
    exact h
end L23

end SYA23

section SYB23

set_option Elab.async false
set_option linter.all false
set_option maxRecDepth 100000
namespace L23
open PySem L2 DL
local macro_rules
  | `(tactic| trivial) => `(tactic| simp only [wVar_eq, wC, wOp2, wOp1, wB_eq, wChain_eq, wTru_eq, wAndT_eq, wOrT_eq, wNotT, wAndV_eq, wOrV_eq, wNotV_eq, wIf_eq, wNil, wCons, wTup, wLst, wCB, wSkip, wSeq, wBrk, wCnt, wExpr, wRet, wRetN, wIfS_eq, wName, wGNil, wGCons, wGTup, wAsg, wSet, wPar, wPar3, wCall, wCallK, wMakeK, wMethK, wFld, wSetF, wAugF, wGFld, wLPut, wSlA, oSlA_tup, oSlA_lst, cutD_mapI, oMaxL_ints, wPN, wPS, oSl_lkd, wRaise, wListRange, wIt_eq, wFor_eq, wEnumT_eq, wRng1_eq, wZipM, wFrz_eq, wFrzS_eq, oIsT, oLen, oLe, oLt, oGe, oGt, oMax2, oMin2, o2I, oI, oI0, oOrd, oIsN, wBM, wBM0, oS0, oS1, oSplit, oEq, oNe, oAbs, oDivmod, oGcd, oAdd_int, oNeg_int, oInt_int, oInt_bl, oIx_tup, oIx_lst, oIx_lkd, oIx_r, cellL_r, lstOf_lst, ixN0, ixN2, put_same, put_put, List.set, oTuple_lst, oTuple_tup, oSum_ints, oSumT_ints, wRevT_eq, wAugI_eq, oAll_bls, atI0, atI1, atI2, endsOf, startD, getS, setS, opt_some, asBl_bl, asInt_int, asStr_str, asTup_tup, arg1_eq, arg2_eq, arg3_eq, List.length_nil, List.length_cons, Bool.not_true, Bool.not_false, if_true, Bool.false_eq_true, if_false, true_and, List.length_map, tru_bl, newL_f, newL_t, lenOf_lst, lenOf_tup, lenOf_lkd, eqD_int, eqD_str, seqAt_tup, seqAt_lst, seqAt_lkd, itAny_tup, itAny_lst, itAny_lkd, lstAt_lst, kd_int, kd_tup, kt_ii, kt_ib, kt_tt])
def upB (q : DR) : Bool := !((offsL q).any fun i => i != 0)
def ct_adds_up : CT := fun ds st Kd _ => arg1 ds fun d => ∃ x q, d = .str x ∧ x.length + 8 ≤ 16777216 ∧ rdDraft x = .ok q ∧ q.2.2.1.length ≤ 1000 ∧ ∀ st', Sub st st' → Kd (.bl (upB q)) st'
theorem P_adds_up {K : Fr} : ∀ ds st Kd Kx, ds.length = 1 → ct_adds_up ds st Kd Kx → W_adds_up K ct_offs_in ct_numbers_in (endsOf Kd Kx) ⟨startD 1 ds, st⟩ := by
  intro ds st Kd Kx hl h0
  obtain ⟨_, rfl, x, q, rfl, hx, hq, hn, h⟩ := arg1_ok h0
  unfold W_adds_up
  try trivial
  simp only [ct_numbers_in]
  try trivial
  refine ⟨x, q, rfl, hx, hq, hn, fun st' a m sub _ ha hm => ?_⟩
  simp only [ct_offs_in]
  try trivial
  refine ⟨a, m, q, rfl, ha, hm, hn, ?_⟩
  rw [oAnyI_lst]
  try trivial
  exact h st' sub
def ct_are_ascending : CT := fun ds st Kd _ => arg3 ds fun d l u => ∃ ns lo hi, d = iN ns ∧ l = .int lo ∧ u = .int hi ∧ ns.length ≤ 1000 ∧ (∀ x ∈ ns, lo ≤ x ∧ x ≤ hi) ∧ ns.Pairwise (· < ·) ∧ Kd (.bl true) st
theorem P_are_ascending {K : Fr} : ∀ ds st Kd Kx, ds.length = 3 → ct_are_ascending ds st Kd Kx → W_are_ascending K ct_ascends ct_is_number (endsOf Kd Kx) ⟨startD 4 ds, st⟩ := by
  intro ds st Kd Kx hl h0
  obtain ⟨_, _, _, rfl, ns, lo, hi, rfl, rfl, rfl, hn, hb, hp, h⟩ := arg3_ok h0
  unfold W_are_ascending iN
  try trivial
  refine wLc_ty (fun i : Int => D.int i) (fun i => .bl true) ns (fun KI k => ?_) (sz (by omega)) (fun i hi' p acc KT hp' kt => ?_) ?_
  · try trivial
    exact k
  · simp only [wipeS, clrS]
    try trivial
    simp only [ct_is_number]
    try trivial
    refine ⟨rfl, ?_⟩
    have b := hb i hi'
    have e : isNum lo hi (.int i) = true := by
      show (decide (lo ≤ i) && decide (i ≤ hi)) = true
      rw [decide_eq_true b.1, decide_eq_true b.2]; rfl
    rw [e]
    exact kt _ rfl
  · have e2 : ns.map (fun _ => D.bl true) = (ns.map fun _ => true).map D.bl := by rw [List.map_map]; rfl
    rw [e2]
    try trivial
    have e3 : ((ns.map fun _ => true).all id) = true := by rw [List.all_map]; simp
    rw [e3]
    try trivial
    simp only [ct_ascends]
    try trivial
    refine ⟨ns, rfl, hn, ?_⟩
    rw [decide_eq_true hp]
    exact h
abbrev Pst := Int × Int
def psD (ps : List Pst) : D := .tup (ps.map fun p => .tup [.int p.1, .int p.2])
structure OkPs (ps : List Pst) : Prop where
  len : ps.length ≤ 500
  am : ∀ p ∈ ps, -1000000000000 ≤ p.2 ∧ p.2 ≤ 1000000000000
  nu : ∀ p ∈ ps, 1 ≤ p.1 ∧ p.1 ≤ 1000000000
  asc : (ps.map (·.1)).Pairwise (· < ·)
def ct_are_postings : CT := fun ds st Kd _ => arg1 ds fun d => ∃ ps, d = psD ps ∧ OkPs ps ∧ Kd (.bl true) st
theorem P_are_postings {K : Fr} : ∀ ds st Kd Kx, ds.length = 1 → ct_are_postings ds st Kd Kx → W_are_postings K ct_are_ascending ct_is_number ct_is_row (endsOf Kd Kx) ⟨startD 2 ds, st⟩ := by
  intro ds st Kd Kx hl h0
  obtain ⟨_, rfl, ps, rfl, ok, h⟩ := arg1_ok h0
  have l5 := ok.len
  unfold W_are_postings psD
  try trivial
  rw [if_neg (by simp only [decide_eq_true_eq, List.length_map]; omega)]
  try trivial
  refine wLc_ty (fun p : Pst => D.tup [.int p.1, .int p.2]) (fun _ => .bl true) ps (fun KI k => ?_) (sz (by omega)) (fun p hp' a acc KT hp kt => ?_) ?_
  · try trivial
    exact k
  · simp only [wipeS, clrS]
    try trivial
    simp only [ct_is_row]
    try trivial
    refine ⟨rfl, ?_⟩
    have e1 : isRow 2 (.tup [.int p.1, .int p.2]) = true := rfl
    rw [e1]
    try trivial
    simp only [ct_is_number]
    try trivial
    refine ⟨rfl, ?_⟩
    have b := ok.am p hp'
    have e : isNum (-1000000000000) 1000000000000 (.int p.2) = true := by
      show (decide (_ ≤ p.2) && decide (p.2 ≤ _)) = true
      rw [decide_eq_true b.1, decide_eq_true b.2]; rfl
    rw [e]
    exact kt _ rfl
  · have e2 : ps.map (fun _ => D.bl true) = (ps.map fun _ => true).map D.bl := by rw [List.map_map]; rfl
    rw [e2]
    try trivial
    have e3 : ((ps.map fun _ => true).all id) = true := by rw [List.all_map]; simp
    rw [e3]
    try trivial
    refine wLc_ty (fun p : Pst => D.tup [.int p.1, .int p.2]) (fun p => .int p.1) ps (fun KI k => ?_) (sz (by omega)) (fun p hp' a acc KT hp kt => ?_) ?_
    · try trivial
      exact k
    · simp only [wipeS, clrS]
      try trivial
      exact kt _ rfl
    · try trivial
      simp only [ct_are_ascending]
      try trivial
      refine ⟨ps.map (·.1), 1, 1000000000, by unfold iN; rw [List.map_map]; rfl, rfl, rfl, by rw [List.length_map]; omega, fun x hx => ?_, ok.asc, h⟩
      obtain ⟨p, hp, rfl⟩ := List.mem_map.mp hx
      exact ok.nu p hp
structure OkSt (nm : Str) (bf : Int) (ps : List Pst) : Prop where
  acc : isAccS nm = true
  al : nm.length ≤ 20
  bf : -1000000000000000 ≤ bf ∧ bf ≤ 1000000000000000
  ps : OkPs ps
def ct_check_statement : CT := fun ds st Kd _ => arg3 ds fun d e f => ∃ acc bf ps, d = .str acc ∧ e = .int bf ∧ f = psD ps ∧ OkSt acc bf ps ∧ Kd .non st
theorem P_check_statement {K : Fr} : ∀ ds st Kd Kx, ds.length = 3 → ct_check_statement ds st Kd Kx → W_check_statement K ct_are_postings ct_is_number ct_is_account (endsOf Kd Kx) ⟨startD 3 ds, st⟩ := by
  intro ds st Kd Kx hl h0
  obtain ⟨_, _, _, rfl, acc, bf, ps, rfl, rfl, rfl, ok, h⟩ := arg3_ok h0
  unfold W_check_statement
  try trivial
  simp only [ct_is_account]
  try trivial
  refine ⟨rfl, by have := ok.al; show acc.length + 2 ≤ sizeLine; rw [sizeLine_eq]; omega, ?_⟩
  have e1 : isAcc (.str acc) = true := ok.acc
  rw [e1]
  try trivial
  simp only [ct_is_number]
  try trivial
  refine ⟨rfl, ?_⟩
  have e2 : isNum (-1000000000000000) 1000000000000000 (.int bf) = true := by
    show (decide (_ ≤ bf) && decide (bf ≤ _)) = true
    rw [decide_eq_true ok.bf.1, decide_eq_true ok.bf.2]; rfl
  rw [e2]
  try trivial
  simp only [ct_are_postings]
  try trivial
  exact ⟨ps, rfl, ok.ps, h⟩
end L23

end SYB23

section SZA23
set_option Elab.async false
set_option linter.all false
set_option maxRecDepth 100000
namespace L23
open PySem L2 DL
local macro_rules
  | `(tactic| trivial) => `(tactic| simp only [wVar_eq, wC, wOp2, wOp1, wB_eq, wChain_eq, wTru_eq, wAndT_eq, wOrT_eq, wNotT, wAndV_eq, wOrV_eq, wNotV_eq, wIf_eq, wNil, wCons, wTup, wLst, wCB, wSkip, wSeq, wBrk, wCnt, wExpr, wRet, wRetN, wIfS_eq, wName, wGNil, wGCons, wGTup, wAsg, wSet, wPar, wPar3, wCall, wCallK, wMakeK, wMethK, wFld, wSetF, wAugF, wGFld, wLPut, wSl, wPN, wPS, oSl_lkd, wRaise, wListRange, wIt_eq, wFor_eq, wEnumT_eq, wRng1_eq, wZipM, wFrz_eq, wFrzS_eq, oIsT, oLen, oLe, oLt, oGe, oGt, oMax2, oMin2, o2I, oI, oI0, oOrd, oIsN, wBM, wBM0, oS0, oS1, oSplit, oEq, oNe, oAbs, oDivmod, oGcd, oAdd_int, oNeg_int, oInt_int, oInt_bl, oIx_tup, oIx_lst, oIx_lkd, oIx_r, cellL_r, lstOf_lst, ixN0, ixN2, put_same, put_put, List.set, oTuple_lst, oTuple_tup, oSum_ints, oAll_bls, atI0, atI1, atI2, endsOf, startD, getS, setS, opt_some, asBl_bl, asInt_int, asStr_str, asTup_tup, arg1_eq, arg2_eq, arg3_eq, List.length_nil, List.length_cons, Bool.not_true, Bool.not_false, if_true, Bool.false_eq_true, if_false, true_and, List.length_map, tru_bl, newL_f, newL_t, lenOf_lst, lenOf_tup, lenOf_lkd, eqD_int, eqD_str, seqAt_tup, seqAt_lst, seqAt_lkd, itAny_tup, itAny_lst, itAny_lkd, lstAt_lst, kd_int, kd_tup, kt_ii, kt_ib, kt_tt])

open NumText
/-! ### texts of numbers -/
theorem tl_nat (n : Nat) : TL.tl (toString ((n : Nat) : Int) : Str) = TL.numL n := TL.tl_num n
theorem tl_neg (m : Nat) : TL.tl (toString (-((m + 1 : Nat) : Int)) : Str) = 45 :: TL.numL (m + 1) := by
  have e : (toString (-((m + 1 : Nat) : Int)) : String) = "-" ++ toString (m + 1) := rfl
  show TL.tl (Str.ofString (toString (-((m + 1 : Nat) : Int)))) = _
  rw [e, TL.tl_ofString, String.toList_append, List.map_append]
  have e2 : (toString (m + 1)).toList = Nat.toDigits 10 (m + 1) := by
    show (Nat.repr (m + 1)).toList = _
    simp [Nat.repr]
  rw [e2]
  rfl
theorem digit_uni : ∀ c : Nat, 48 ≤ c → c ≤ 57 → Unicode.isDigit c = true := by
  intro c h1 h2
  have : c = 48 ∨ c = 49 ∨ c = 50 ∨ c = 51 ∨ c = 52 ∨ c = 53 ∨ c = 54 ∨ c = 55 ∨ c = 56 ∨ c = 57 := by omega
  rcases this with rfl | rfl | rfl | rfl | rfl | rfl | rfl | rfl | rfl | rfl <;> decide +kernel
theorem figs_all {y : Str} (ad : AllDigits (TL.tl y)) (ne : TL.tl y ≠ []) (hl : (TL.tl y).length ≤ 40) : (decide (y.length ≤ 40) && (Txt.isascii y && Txt.isdigit y)) = true := by
  have h1 : Txt.isascii y = true := by
    unfold Txt.isascii
    refine Array.all_eq_true_iff_forall_mem.mpr fun c hc => decide_eq_true ?_
    have := ad c (Array.mem_toList_iff.mpr hc)
    omega
  have h2 : Txt.isdigit y = true := by
    unfold Txt.isdigit
    rw [Bool.and_eq_true_iff]
    refine ⟨decide_eq_true ?_, Array.all_eq_true_iff_forall_mem.mpr fun c hc => ?_⟩
    · rw [TL.len_tl]
      cases q : TL.tl y with
      | nil => exact absurd q ne
      | cons _ _ => simp
    · have := ad c (Array.mem_toList_iff.mpr hc)
      exact digit_uni c this.1 this.2
  rw [h1, h2, decide_eq_true (by rw [TL.len_tl]; exact hl)]
  rfl
theorem starts_no {x : Str} {c : Nat} {cs : List Nat} (e : TL.tl x = c :: cs) (h : c ≠ 45) : Txt.startswith x "-" = false := by
  cases q : Txt.startswith x "-" with
  | false => rfl
  | true =>
    obtain ⟨r, hr⟩ := starts_minus q
    rw [e] at hr
    cases hr
    exact absurd rfl h
theorem starts_yes {x : Str} {cs : List Nat} (e : TL.tl x = 45 :: cs) : Txt.startswith x "-" = true := by
  unfold Txt.startswith
  have e1 : ("-" : Str).length = 1 := by decide +kernel
  have l : x.length = cs.length + 1 := by rw [TL.len_tl, e]; rfl
  rw [Bool.and_eq_true_iff]
  refine ⟨decide_eq_true (by rw [e1, l]; omega), ?_⟩
  unfold Builtin.Str.subAt
  rw [e1, minus_cps]
  refine beq_iff_eq.mpr (Array.toList_inj.mp ?_)
  rw [Array.toList_extract]
  have e2 : x.cps.toList = 45 :: cs := e
  rw [e2]
  simp [List.extract]
theorem cut1 {x : Str} {c : Nat} {cs : List Nat} (e : TL.tl x = c :: cs) : TL.tl (cutS x (some 1) none) = cs := by
  unfold cutS
  show (List.take _ (List.drop _ x.cps.toList)) = cs
  have q : x.cps.toList = c :: cs := e
  have hl2 : x.length = cs.length + 1 := by rw [TL.len_tl, e]; rfl
  rw [q]
  have s1 : HT.sIx x.length 0 (some 1) = 1 := by
    show (if (1 : Int) < 0 then ((1 : Int) + (x.length : Int)).toNat else min (1 : Int).toNat x.length) = 1
    rw [if_neg (by decide)]
    show min 1 x.length = 1
    omega
  have s2 : HT.sIx x.length x.length none = x.length := rfl
  rw [s1, s2, hl2]
  simp
theorem num_free (i : Int) : ∀ c ∈ TL.tl (toString i : Str), c = 45 ∨ (48 ≤ c ∧ c ≤ 57) := by
  intro c hc
  obtain ⟨n, rfl | rfl⟩ := Int.eq_nat_or_neg i
  · rw [tl_nat] at hc
    exact .inr (TL.numL_digits n c hc)
  · cases n with
    | zero =>
      have : (-((0 : Nat) : Int)) = ((0 : Nat) : Int) := rfl
      rw [this, tl_nat] at hc
      exact .inr (TL.numL_digits 0 c hc)
    | succ m =>
      rw [tl_neg] at hc
      rcases List.mem_cons.mp hc with rfl | hc
      · exact .inl rfl
      · exact .inr (TL.numL_digits _ c hc)
theorem numL_head (n : Nat) : ∃ c cs, TL.numL n = c :: cs ∧ c ≠ 45 := by
  cases q : TL.numL n with
  | nil => exact absurd q (TL.numL_ne n)
  | cons c cs => exact ⟨c, cs, rfl, fun e => by have := TL.numL_digits n c (by rw [q]; simp); omega⟩
theorem p40 {n : Nat} (h : n < 10 ^ 30) : (TL.numL n).length ≤ 40 := Nat.le_trans (TL.numL_len (k := 30) (by decide) h) (by decide)
/-- a number's text is read back -/
theorem numIn_text {i lo hi : Int} (h : i.natAbs < 10 ^ 30) : numIn (toString i : Str) lo hi = if lo ≤ i ∧ i ≤ hi then some i else none := by
  have key : plainFigs (toString i : Str) = true ∧ PySem.intText? (toString i : Str) = some i := by
    obtain ⟨n, rfl | rfl⟩ := Int.eq_nat_or_neg i
    · obtain ⟨c, cs, q, hc⟩ := numL_head n
      have hn : n < 10 ^ 30 := by simpa using h
      have e : TL.tl (toString ((n : Nat) : Int) : Str) = TL.numL n := tl_nat n
      have sw := starts_no (e.trans q) hc
      have ef : figs (toString ((n : Nat) : Int) : Str) = (toString ((n : Nat) : Int) : Str) := if_neg (by rw [sw]; decide)
      constructor
      · unfold plainFigs
        rw [ef]
        exact figs_all (by rw [e]; exact TL.numL_digits n) (by rw [e]; exact TL.numL_ne n) (by rw [e]; exact p40 hn)
      · have := @intText_digits (toString ((n : Nat) : Int) : Str) (by show AllDigits (TL.tl _); rw [e]; exact TL.numL_digits n) (by show TL.tl _ ≠ []; rw [e]; exact TL.numL_ne n) (by rw [TL.len_tl, e]; exact Nat.le_trans (p40 hn) (by decide))
        rw [this]
        have e3 : digitsVal (toString ((n : Nat) : Int) : Str).cps.toList = n := by
          show digitsVal (TL.tl _) = n
          rw [e, TL.numL_val]
        rw [e3]
    · cases n with
      | zero =>
        have e0 : (-((0 : Nat) : Int)) = ((0 : Nat) : Int) := rfl
        rw [e0]
        exact ⟨by decide +kernel, by decide +kernel⟩
      | succ m =>
        have hn : m + 1 < 10 ^ 30 := by rw [Int.natAbs_neg, Int.natAbs_natCast] at h; exact h
        have e := tl_neg m
        have sw := starts_yes e
        have ef : figs (toString (-((m + 1 : Nat) : Int)) : Str) = cutS (toString (-((m + 1 : Nat) : Int)) : Str) (some 1) none := if_pos sw
        have ec := cut1 e
        constructor
        · unfold plainFigs
          rw [ef]
          exact figs_all (by rw [ec]; exact TL.numL_digits _) (by rw [ec]; exact TL.numL_ne _) (by rw [ec]; exact p40 hn)
        · have := @intText_neg (toString (-((m + 1 : Nat) : Int)) : Str) _ e (TL.numL_digits _) (TL.numL_ne _) (by rw [TL.len_tl, e]; have := p40 hn; simp; omega)
          rw [this, TL.numL_val]
  unfold numIn
  rw [if_pos key.1, key.2]
  by_cases q : lo ≤ i ∧ i ≤ hi
  · rw [if_pos q]
    simp [q]
  · rw [if_neg q]
    simp [q]
/-! ### lines -/
theorem cut_pre (s : Nat) : ∀ (p acc l : List Nat), s ∉ p → cut s acc (p ++ l) = cut s (acc ++ p) l
  | [], acc, l, _ => by simp
  | c :: p, acc, l, h => by
    have hc : ¬ c = s := fun e => h (by simp [e])
    have hp : s ∉ p := fun e => h (by simp [e])
    rw [List.cons_append]
    show (if c = s then acc :: cut s [] (p ++ l) else cut s (acc ++ [c]) (p ++ l)) = _
    rw [if_neg hc, cut_pre s p (acc ++ [c]) l hp, List.append_assoc]
    rfl
theorem cut_acc (s : Nat) : ∀ (l acc : List Nat), ∃ x xs, cut s [] l = x :: xs ∧ cut s acc l = (acc ++ x) :: xs
  | [], acc => ⟨[], [], rfl, by simp [cut]⟩
  | c :: r, acc => by
    unfold cut
    by_cases e : c = s
    · rw [if_pos e, if_pos e]
      exact ⟨[], _, rfl, by simp⟩
    · rw [if_neg e, if_neg e]
      obtain ⟨x1, xs1, h1, h2⟩ := cut_acc s r ([] ++ [c])
      obtain ⟨x2, xs2, h3, h4⟩ := cut_acc s r (acc ++ [c])
      rw [h1] at h3
      cases h3
      exact ⟨_, _, h2, by rw [h4]; simp⟩
/-- a text without spaces ahead of another -/
theorem split_ahead {N suf w : Str} {ws : List Str} (hN : 32 ∉ TL.tl N) (h : Txt.split suf " " = w :: ws) : Txt.split (N ++ suf) " " = (N ++ w) :: ws := by
  refine TL.map_tl_inj ?_
  have e1 := split_cut (x := suf) sp1 sp2
  rw [split_cut sp1 sp2, TL.tl_append, cut_pre 32 _ _ _ hN]
  rw [h] at e1
  obtain ⟨x, xs, h1, h2⟩ := cut_acc 32 (TL.tl suf) ([] ++ TL.tl N)
  rw [h1] at e1
  rw [h2]
  injection e1 with e2 e3
  rw [List.map_cons, TL.tl_append, e2, e3]
  rfl
/-- a word, a space, the rest -/
theorem split_word {a r : Str} (ha : 32 ∉ TL.tl a) : Txt.split (a ++ (" " : Str) ++ r) " " = a :: Txt.split r " " := by
  refine TL.map_tl_inj ?_
  rw [split_cut sp1 sp2, TL.tl_append, TL.tl_append, sp1, List.append_assoc, cut_pre 32 _ _ _ ha, List.map_cons, split_cut sp1 sp2]
  rfl
theorem split_one {a : Str} (ha : 32 ∉ TL.tl a) : Txt.split a " " = [a] := by
  refine TL.map_tl_inj ?_
  rw [split_cut sp1 sp2]
  have := cut_pre 32 (TL.tl a) [] [] ha
  rw [List.append_nil] at this
  rw [this]
  rfl
theorem num_nosp (i : Int) : 32 ∉ TL.tl (toString i : Str) := fun h => by have := num_free i _ h; omega
theorem name_low {x : Str} (h : isNameS x = true) : ∀ c ∈ TL.tl x, 97 ≤ c ∧ c ≤ 122 := by
  intro c hc
  unfold isNameS at h
  have h2 := (Bool.and_eq_true_iff.mp (Bool.and_eq_true_iff.mp h).2).2
  have h3 := List.all_eq_true.mp h2 c hc
  unfold isLow at h3
  exact ⟨of_decide_eq_true (Bool.and_eq_true_iff.mp h3).1, of_decide_eq_true (Bool.and_eq_true_iff.mp h3).2⟩
theorem name_nosp {x : Str} (h : isNameS x = true) : 32 ∉ TL.tl x := fun hc => by have := name_low h _ hc; omega
/-- what was cut, put together -/
def glue (s : Nat) : List (List Nat) → List Nat
  | [] => []
  | [p] => p
  | p :: q :: r => p ++ s :: glue s (q :: r)
theorem glue_cut (s : Nat) : ∀ (l acc : List Nat), glue s (cut s acc l) = acc ++ l
  | [], acc => by simp [cut, glue]
  | c :: r, acc => by
    unfold cut
    by_cases e : c = s
    · rw [if_pos e]
      have := glue_cut s r []
      obtain ⟨x, xs, h1, _⟩ := cut_acc s r []
      rw [h1] at this ⊢
      show acc ++ s :: glue s (x :: xs) = _
      rw [this, e]; rfl
    · rw [if_neg e, glue_cut s r (acc ++ [c])]
      simp
theorem cut_back {s : Nat} {l a b : List Nat} (h : cut s [] l = [a, b]) : l = a ++ s :: b := by
  have := glue_cut s l []
  rw [h] at this
  exact this.symm
/-- an account's parts -/
theorem acc_parts {x : Str} (h : isAccS x = true) : ∃ a b, isNameS a = true ∧ isNameS b = true ∧ TL.tl x = TL.tl a ++ 46 :: TL.tl b := by
  unfold isAccS at h
  split at h
  · rename_i a b q
    obtain ⟨h1, h2⟩ := Bool.and_eq_true_iff.mp h
    have e1 := split_cut (x := x) dot1 dot2
    rw [q] at e1
    refine ⟨a, b, h1, h2, ?_⟩
    have h3 : cut 46 [] (TL.tl x) = [TL.tl a, TL.tl b] := e1.symm
    exact cut_back h3
  · cases h
theorem name_len {x : Str} (h : isNameS x = true) : 1 ≤ x.length ∧ x.length ≤ 8 := by
  unfold isNameS at h
  obtain ⟨h1, h2⟩ := Bool.and_eq_true_iff.mp h
  exact ⟨of_decide_eq_true h1, of_decide_eq_true (Bool.and_eq_true_iff.mp h2).1⟩
theorem acc_facts {x : Str} (h : isAccS x = true) : 32 ∉ TL.tl x ∧ x.length ≤ 17 := by
  obtain ⟨a, b, h1, h2, e⟩ := acc_parts h
  refine ⟨fun hc => ?_, ?_⟩
  · rw [e] at hc
    rcases List.mem_append.mp hc with hc | hc
    · exact name_nosp h1 hc
    · rcases List.mem_cons.mp hc with hc | hc
      · cases hc
      · exact name_nosp h2 hc
  · rw [TL.len_tl, e]
    have l1 := (name_len h1).2
    have l2 := (name_len h2).2
    rw [TL.len_tl] at l1 l2
    rw [List.length_append, List.length_cons]; omega
theorem app_assoc (x y z : Str) : (x ++ y) ++ z = x ++ (y ++ z) := TL.ext_tl (by simp only [TL.tl_append, List.append_assoc])
theorem num_no10 (i : Int) : 10 ∉ TL.tl (toString i : Str) := fun h => by have := num_free i _ h; omega
theorem line_no10 {a b : Str} (ha : 10 ∉ TL.tl a) (hb : 10 ∉ TL.tl b) : 10 ∉ TL.tl (a ++ b) := by
  rw [TL.tl_append]
  intro h
  rcases List.mem_append.mp h with h | h
  · exact ha h
  · exact hb h
theorem name_no10 {x : Str} (h : isNameS x = true) : 10 ∉ TL.tl x := fun hc => by have := name_low h _ hc; omega
theorem acc_no10 {x : Str} (h : isAccS x = true) : 10 ∉ TL.tl x := by
  obtain ⟨a, b, h1, h2, e⟩ := acc_parts h
  intro hc
  rw [e] at hc
  rcases List.mem_append.mp hc with hc | hc
  · exact name_no10 h1 hc
  · rcases List.mem_cons.mp hc with hc | hc
    · cases hc
    · exact name_no10 h2 hc
theorem split_lines {ls : List Str} (h1 : ls ≠ []) (h : ∀ l ∈ ls, 10 ∉ TL.tl l) : Txt.split (Txt.join "\n" ls) "\n" = ls := TL.split_join (S := []) nl1 nl2 h1 h
theorem num_len {i : Int} (h1 : -1000000000000000 ≤ i) (h2 : i ≤ 1000000000000000) : (toString i : Str).length ≤ 17 := by
  show (Str.ofString (toString i)).length ≤ 17
  rw [ofString_length]
  exact int_text_length_le10 (k := 16) (by decide) (Nat.lt_of_le_of_lt (show i.natAbs ≤ 1000000000000000 by omega) (by decide +kernel))
theorem app_len (a b : Str) : (a ++ b).length = a.length + b.length := by rw [TL.len_tl, TL.tl_append, List.length_append, ← TL.len_tl, ← TL.len_tl]
theorem emp_app (x : Str) : Str.empty ++ x = x := TL.ext_tl (by rw [TL.tl_append]; rfl)
theorem sum_le {M : Nat} : ∀ {ls : List Str}, (∀ l ∈ ls, l.length ≤ M) → (ls.map (·.length)).sum ≤ ls.length * M
  | [], _ => by simp
  | l :: r, h => by
    have := sum_le (ls := r) fun z hz => h z (by simp [hz])
    have h2 := h l (by simp)
    rw [List.map_cons, List.sum_cons, List.length_cons, Nat.add_mul]; omega
theorem nl_len : ("\n" : Str).length = 1 := by decide +kernel
theorem join_ok {st : Sto} {ls : List Str} {g : G} {K : KD} {M : Nat} (h : ∀ l ∈ ls, l.length ≤ M) (hm : ls.length * (M + 1) ≤ 16777216) (k : K (.str (Txt.join "\n" ls)) g) : oJoin (.str "\n") [.lst (ls.map D.str)] g K := by
  unfold oJoin
  simp only [asStr_str, arg1_eq, seqAt_lst, opt_some, asStrs_map, nl_len]
  have := sum_le h
  rw [Nat.mul_add] at hm
  exact ⟨by omega, k⟩
theorem oAdd_lst {xs ys : List D} {g : G} {K : KD} : oAdd false (.lst xs) (.lst ys) g K = (xs.length + ys.length ≤ sizeLine ∧ K (.lst (xs ++ ys)) g) := id rfl
end L23

end SZA23

section SZB23

set_option Elab.async false
set_option linter.all false
set_option maxRecDepth 100000
namespace L23
open PySem L2 DL
local macro_rules
  | `(tactic| trivial) => `(tactic| simp only [wVar_eq, wC, wOp2, wOp1, wB_eq, wChain_eq, wTru_eq, wAndT_eq, wOrT_eq, wNotT, wAndV_eq, wOrV_eq, wNotV_eq, wIf_eq, wNil, wCons, wTup, wLst, wCB, wSkip, wSeq, wBrk, wCnt, wExpr, wRet, wRetN, wIfS_eq, wName, wGNil, wGCons, wGTup, wAsg, wSet, wPar, wPar3, wCall, wCallK, wMakeK, wMethK, wFld, wSetF, wAugF, wGFld, wLPut, wSlA, oSlA_tup, oSlA_lst, cutD_mapI, oMaxL_ints, wPN, wPS, oSl_lkd, wRaise, wListRange, wIt_eq, wFor_eq, wEnumT_eq, wRng1_eq, wZipM, wFrz_eq, wFrzS_eq, oIsT, oLen, oLe, oLt, oGe, oGt, oMax2, oMin2, o2I, oI, oI0, oOrd, oIsN, wBM, wBM0, oS0, oS1, oSplit, oEq, oNe, oAbs, oDivmod, oGcd, oAdd_int, oNeg_int, oInt_int, oInt_bl, oIx_tup, oIx_lst, oIx_lkd, oIx_r, cellL_r, lstOf_lst, ixN0, ixN2, put_same, put_put, List.set, oTuple_lst, oTuple_tup, oSum_ints, oSumT_ints, wRevT_eq, wAugI_eq, oAll_bls, atI0, atI1, atI2, endsOf, startD, getS, setS, opt_some, asBl_bl, asInt_int, asStr_str, asTup_tup, arg1_eq, arg2_eq, arg3_eq, List.length_nil, List.length_cons, Bool.not_true, Bool.not_false, if_true, Bool.false_eq_true, if_false, true_and, List.length_map, tru_bl, newL_f, newL_t, lenOf_lst, lenOf_tup, lenOf_lkd, eqD_int, eqD_str, seqAt_tup, seqAt_lst, seqAt_lkd, itAny_tup, itAny_lst, itAny_lkd, lstAt_lst, kd_int, kd_tup, kt_ii, kt_ib, kt_tt])
def stL (a : Str) : Str := ("statement " : Str) ++ a
def bfL (b : Int) : Str := ("before " : Str) ++ (toString b : Str)
def bhL (b : Int) : Str := ("behind " : Str) ++ (toString b : Str)
def poL (r : Row) : Str := ((((("posting " : Str) ++ (toString r.1 : Str)) ++ (" " : Str)) ++ (toString r.2.1 : Str)) ++ (" " : Str)) ++ (toString r.2.2 : Str)
def draftLines (q : DR) : List Str := stL q.1 :: bfL q.2.1 :: (q.2.2.1.map poL ++ [bhL q.2.2.2])
def draftText (q : DR) : Str := Txt.join "\n" (draftLines q)
def balR : Int → List Pst → List Row
  | _, [] => []
  | h, p :: r => (p.1, p.2, h + p.2) :: balR (h + p.2) r
def endB : Int → List Pst → Int
  | h, [] => h
  | h, p :: r => endB (h + p.2) r
theorem balR_length : ∀ (ps : List Pst) (h : Int), (balR h ps).length = ps.length
  | [], _ => rfl
  | p :: r, h => by unfold balR; rw [List.length_cons, List.length_cons, balR_length r]
/-- a number that can be written -/
def Sm (i : Int) : Prop := i.natAbs < 10 ^ 30
theorem sm_of {i : Int} (h1 : -100000000000000000000 ≤ i) (h2 : i ≤ 100000000000000000000) : Sm i := Nat.lt_of_le_of_lt (show i.natAbs ≤ 100000000000000000000 by omega) (by decide +kernel)
theorem Sm.log {i : Int} (h : Sm i) : i.natAbs.log2 < 1920 := log_40 (Nat.lt_trans h (by decide +kernel))
theorem Sm.len {i : Int} (h : Sm i) : (toString i : Str).length ≤ 41 := by
  cases i with
  | ofNat n =>
    have h : n < 10 ^ 30 := h
    show (toString ((n : Nat) : Int) : Str).length ≤ 41
    rw [TL.len_tl, tl_nat]
    have := p40 h; omega
  | negSucc m =>
    have h : m + 1 < 10 ^ 30 := h
    have e : Int.negSucc m = -((m + 1 : Nat) : Int) := rfl
    rw [e, TL.len_tl, tl_neg, List.length_cons]
    have := p40 h; omega
theorem po_len {r : Row} (h1 : Sm r.1) (h2 : Sm r.2.1) (h3 : Sm r.2.2) : (poL r).length ≤ 200 := by
  have a := h1.len; have b := h2.len; have c := h3.len
  have s1 : ("posting " : Str).length = 8 := by decide +kernel
  have s2 : (" " : Str).length = 1 := by decide +kernel
  unfold poL
  simp only [app_len]; omega
theorem wJs_nil {acc : Str} {g : G} {K : Str → G → Prop} {X : XD} : wJs [] acc g K X = K acc g := id rfl
theorem wJs_cons {w : WE} {ws : List WE} {acc : Str} {g : G} {K : Str → G → Prop} {X : XD} : wJs (w :: ws) acc g K X = w g (fun d g1 => asStr d fun y => (acc ++ y).length ≤ sizeLine ∧ wJs ws (acc ++ y) g1 K X) X := id rfl
theorem oFmt_int {i : Int} {g : G} {K : KD} : oFmt (.int i) g K = (i.natAbs.log2 < 1920 ∧ K (.str (toString i)) g) := id rfl
theorem oFmt_str {y : Str} {g : G} {K : KD} : oFmt (.str y) g K = (y.length ≤ sizeLine ∧ K (.str y) g) := id rfl
theorem w_po : ("posting " : Str).length = 8 := by decide +kernel
theorem w_st : ("statement " : Str).length = 10 := by decide +kernel
theorem w_bf : ("before " : Str).length = 7 := by decide +kernel
theorem w_bh : ("behind " : Str).length = 7 := by decide +kernel
theorem w_sp : (" " : Str).length = 1 := by decide +kernel
def toG : WG := (wGTup 2 (wGCons (wName 5) (wGCons (wName 6) wGNil)))
def toBody : WS := (wSeq (wAugI 4 (fun i j => i + j) (wVar 6)) (wExpr (wBM "list" oAppend (wVar 3) (wCons (wJoin [(wC (.str "posting ")), (wOp1 oFmt (wVar 5)), (wC (.str " ")), (wOp1 oFmt (wVar 6)), (wC (.str " ")), (wOp1 oFmt (wVar 4))]) wNil))))
theorem to_loop {E : EndsD} {st : Sto} {b : Addr} {d0 d1 d2 : D} : ∀ (ps : List Pst) (have_ : Int) (ls : List Str) (s5 s6 : Option D),
    (∀ p ∈ ps, Sm p.1 ∧ -1000000000000 ≤ p.2 ∧ p.2 ≤ 1000000000000) → ls.length + ps.length ≤ 1000 → -1000000000000000000 - 1000000000000 * (1000 - ps.length) ≤ have_ → have_ ≤ 1000000000000000000 + 1000000000000 * (1000 - ps.length) →
    (∀ s5 s6, E.nx ⟨[some d0, some d1, some d2, some (.ref b), some (.int (endB have_ ps)), s5, s6], put st b (.lst ((ls ++ (balR have_ ps).map poL).map D.str))⟩) →
    loopD always toG toBody E (ps.map fun p => D.tup [.int p.1, .int p.2]) ⟨[some d0, some d1, some d2, some (.ref b), some (.int have_), s5, s6], put st b (.lst (ls.map D.str))⟩
  | [], have_, ls, s5, s6, _, _, _, _, h => by
    refine ⟨True.intro, ?_⟩
    have := h s5 s6
    simp only [balR, List.map_nil, List.append_nil] at this
    exact this
  | p :: ps, have_, ls, s5, s6, hp, hl, b1, b2, h => by
    refine ⟨True.intro, ?_⟩
    obtain ⟨p1, p2, p3⟩ := hp p (by simp)
    rw [List.length_cons] at hl b1 b2
    have ih := to_loop (E := E) (st := st) (b := b) (d0 := d0) (d1 := d1) (d2 := d2) ps (have_ + p.2) (ls ++ [poL (p.1, p.2, have_ + p.2)]) (some (.int p.1)) (some (.int p.2)) (fun z hz => hp z (by simp [hz])) (by rw [List.length_append]; simp; omega) (by omega) (by omega) (fun s5 s6 => by
      have := h s5 s6
      simp only [balR, List.map_cons, endB] at this
      rw [List.append_assoc]
      exact this)
    show toG (.tup [.int p.1, .int p.2]) _ fun g2 => toBody { E with nx := loopD always toG toBody E (ps.map fun p => D.tup [.int p.1, .int p.2]), ct := loopD always toG toBody E (ps.map fun p => D.tup [.int p.1, .int p.2]), bk := E.nx } g2
    generalize loopD always toG toBody E (ps.map fun p => D.tup [.int p.1, .int p.2]) = L at ih ⊢
    have q1 : Sm p.2 := sm_of (by omega) (by omega)
    have q2 : Sm (have_ + p.2) := sm_of (by omega) (by omega)
    unfold toG toBody wJoin
    try trivial
    simp only [wJs_cons, wJs_nil]
    try trivial
    have l1 := p1.len; have l2 := q1.len; have l3 := q2.len
    have bd : ∀ {x : Str}, x.length ≤ 300 → x.length ≤ sizeLine := fun h => by rw [sizeLine_eq]; omega
    simp only [oFmt_int, asStr_str, emp_app]
    refine ⟨by unfold isT; simp only [put_same], bd (by rw [w_po]; decide), p1.log, bd (by simp only [app_len, w_po]; omega), bd (by simp only [app_len, w_po, w_sp]; omega), ?_⟩
    try trivial
    simp only [oFmt_int, asStr_str]
    refine ⟨q1.log, bd (by simp only [app_len, w_po, w_sp]; omega), bd (by simp only [app_len, w_po, w_sp]; omega), ?_⟩
    try trivial
    simp only [oFmt_int, asStr_str]
    refine ⟨q2.log, bd (by simp only [app_len, w_po, w_sp]; omega), ?_⟩
    unfold oAppend cellL
    simp only [put_same, arg1_eq]
    refine ⟨by rw [List.length_map, sizeLine_eq]; omega, ?_⟩
    rw [put_put]
    have e : ls.map D.str ++ [D.str (poL (p.1, p.2, have_ + p.2))] = (ls ++ [poL (p.1, p.2, have_ + p.2)]).map D.str := by rw [List.map_append]; rfl
    show L ⟨_, put st b (.lst (ls.map D.str ++ [D.str (poL (p.1, p.2, have_ + p.2))]))⟩
    rw [e]
    exact ih
end L23

end SZB23

section SZC23

set_option Elab.async false
set_option linter.all false
set_option maxRecDepth 100000
namespace L23
open PySem L2 DL
local macro_rules
  | `(tactic| trivial) => `(tactic| simp only [wVar_eq, wC, wOp2, wOp1, wB_eq, wChain_eq, wTru_eq, wAndT_eq, wOrT_eq, wNotT, wAndV_eq, wOrV_eq, wNotV_eq, wIf_eq, wNil, wCons, wTup, wLst, wCB, wSkip, wSeq, wBrk, wCnt, wExpr, wRet, wRetN, wIfS_eq, wName, wGNil, wGCons, wGTup, wAsg, wSet, wPar, wPar3, wCall, wCallK, wMakeK, wMethK, wFld, wSetF, wAugF, wGFld, wLPut, wSlA, oSlA_tup, oSlA_lst, cutD_mapI, oMaxL_ints, wPN, wPS, oSl_lkd, wRaise, wListRange, wIt_eq, wFor_eq, wEnumT_eq, wRng1_eq, wZipM, wFrz_eq, wFrzS_eq, oIsT, oLen, oLe, oLt, oGe, oGt, oMax2, oMin2, o2I, oI, oI0, oOrd, oIsN, wBM, wBM0, oS0, oS1, oSplit, oEq, oNe, oAbs, oDivmod, oGcd, oAdd_int, oNeg_int, oInt_int, oInt_bl, oIx_tup, oIx_lst, oIx_lkd, oIx_r, cellL_r, lstOf_lst, ixN0, ixN2, put_same, put_put, List.set, oTuple_lst, oTuple_tup, oSum_ints, oSumT_ints, wRevT_eq, wAugI_eq, oAll_bls, atI0, atI1, atI2, endsOf, startD, getS, setS, opt_some, asBl_bl, asInt_int, asStr_str, asTup_tup, arg1_eq, arg2_eq, arg3_eq, List.length_nil, List.length_cons, Bool.not_true, Bool.not_false, if_true, Bool.false_eq_true, if_false, true_and, List.length_map, tru_bl, newL_f, newL_t, lenOf_lst, lenOf_tup, lenOf_lkd, eqD_int, eqD_str, seqAt_tup, seqAt_lst, seqAt_lkd, itAny_tup, itAny_lst, itAny_lkd, lstAt_lst, kd_int, kd_tup, kt_ii, kt_ib, kt_tt])
structure TxOk (nm : Str) (bf : Int) (ps : List Pst) : Prop where
  al : nm.length ≤ 20
  bf : -1000000000000000000 ≤ bf ∧ bf ≤ 1000000000000000000
  len : ps.length ≤ 500
  ps : ∀ p ∈ ps, Sm p.1 ∧ -1000000000000 ≤ p.2 ∧ p.2 ≤ 1000000000000
abbrev mkDR (nm : Str) (bf : Int) (ps : List Pst) : DR := (nm, bf, balR bf ps, endB bf ps)
theorem endB_bd : ∀ (ps : List Pst) (h : Int), (∀ p ∈ ps, -1000000000000 ≤ p.2 ∧ p.2 ≤ 1000000000000) → h - 1000000000000 * ps.length ≤ endB h ps ∧ endB h ps ≤ h + 1000000000000 * ps.length
  | [], h, _ => by unfold endB; simp
  | p :: r, h, hp => by
    have b := hp p (by simp)
    have ih := endB_bd r (h + p.2) fun z hz => hp z (by simp [hz])
    unfold endB
    rw [List.length_cons]; omega
theorem balR_sm : ∀ (ps : List Pst) (h : Int), (∀ p ∈ ps, Sm p.1 ∧ -1000000000000 ≤ p.2 ∧ p.2 ≤ 1000000000000) → ps.length ≤ 500 → -1000000000000000000 - 1000000000000 * (500 - ps.length) ≤ h → h ≤ 1000000000000000000 + 1000000000000 * (500 - ps.length) → ∀ r ∈ balR h ps, Sm r.1 ∧ Sm r.2.1 ∧ Sm r.2.2
  | [], _, _, _, _, _, r, hr => by cases hr
  | p :: ps, h, hp, l, b1, b2, r, hr => by
    obtain ⟨p1, p2, p3⟩ := hp p (by simp)
    rw [List.length_cons] at l b1 b2
    unfold balR at hr
    rcases List.mem_cons.mp hr with rfl | hr
    · show Sm p.1 ∧ Sm p.2 ∧ Sm (h + p.2)
      exact ⟨p1, sm_of (by omega) (by omega), sm_of (by omega) (by omega)⟩
    · exact balR_sm ps (h + p.2) (fun z hz => hp z (by simp [hz])) (by omega) (by omega) (by omega) r hr
theorem lines_len {nm : Str} {bf : Int} {ps : List Pst} (ok : TxOk nm bf ps) : ∀ l ∈ draftLines (mkDR nm bf ps), l.length ≤ 200 := by
  intro l hl
  have b := ok.bf
  have lp := ok.len
  have e := endB_bd ps bf fun p hp => (ok.ps p hp).2
  have al := ok.al
  unfold draftLines at hl
  rcases List.mem_cons.mp hl with rfl | hl
  · show (stL nm).length ≤ 200
    unfold stL; rw [app_len, w_st]; omega
  rcases List.mem_cons.mp hl with rfl | hl
  · show (bfL bf).length ≤ 200
    have := (sm_of (i := bf) (by omega) (by omega)).len
    unfold bfL; rw [app_len, w_bf]; omega
  rcases List.mem_append.mp hl with hl | hl
  · obtain ⟨r, hr, rfl⟩ := List.mem_map.mp hl
    obtain ⟨h1, h2, h3⟩ := balR_sm ps bf ok.ps lp (by omega) (by omega) r hr
    exact po_len h1 h2 h3
  · rw [List.mem_singleton] at hl
    subst hl
    show (bhL (endB bf ps)).length ≤ 200
    have := (sm_of (i := endB bf ps) (by omega) (by omega)).len
    unfold bhL; rw [app_len, w_bh]; omega
theorem lines_cnt {nm : Str} {bf : Int} {ps : List Pst} : (draftLines (mkDR nm bf ps)).length = ps.length + 3 := by
  unfold draftLines
  simp [balR_length]
def ct_text_of : CT := fun ds st Kd _ => arg3 ds fun d e f => ∃ nm bf ps, d = .str nm ∧ e = .int bf ∧ f = psD ps ∧ TxOk nm bf ps ∧ Kd (.str (draftText (mkDR nm bf ps))) st
theorem P_text_of {K : Fr} : ∀ ds st Kd Kx, ds.length = 3 → ct_text_of ds st Kd Kx → W_text_of K (endsOf Kd Kx) ⟨startD 7 ds, st⟩ := by
  intro ds st Kd Kx hl h0
  obtain ⟨_, _, _, rfl, nm, bf, ps, rfl, rfl, rfl, ok, h⟩ := arg3_ok h0
  have al := ok.al; have bb := ok.bf; have lp := ok.len
  have eb := endB_bd ps bf fun p hp => (ok.ps p hp).2
  have bd : ∀ {x : Str}, x.length ≤ 300 → x.length ≤ sizeLine := fun h => by rw [sizeLine_eq]; omega
  have s1 : Sm bf := sm_of (by omega) (by omega)
  have s2 : Sm (endB bf ps) := sm_of (by omega) (by omega)
  have l1 := s1.len; have l2 := s2.len
  show (wSeq (wSet 3 (wLst true (wCons (wJoin [(wC (.str "statement ")), (wOp1 oFmt (wVar 0))]) (wCons (wJoin [(wC (.str "before ")), (wOp1 oFmt (wVar 1))]) wNil)))) (wSeq (wSet 4 (wVar 1)) (wSeq (wFor (wIt (wVar 2)) toG toBody) (wFrzS 3 (wRet (wBM "str" oJoin (wC (.str "\n")) (wCons (wOp2 (oAdd false) (wVar 3) (wLst false (wCons (wJoin [(wC (.str "behind ")), (wOp1 oFmt (wVar 4))]) wNil))) wNil))))))) (endsOf Kd Kx) _
  unfold wJoin psD
  try trivial
  simp only [wJs_cons, wJs_nil]
  try trivial
  simp only [oFmt_int, oFmt_str, asStr_str, emp_app]
  refine ⟨bd (by rw [w_st]; decide), bd (by omega), bd (by simp only [app_len, w_st]; omega), bd (by rw [w_bf]; decide), s1.log, bd (by simp only [app_len, w_bf]; omega), ?_⟩
  try trivial
  refine ⟨by show 2 ≤ sizeLine; rw [sizeLine_eq]; decide, fun b nb => ?_⟩
  refine to_loop (st := st) (b := b) ps bf [stL nm, bfL bf] _ _ (fun p hp => ok.ps p hp) (by simp; omega) (by omega) (by omega) (fun s5 s6 => ?_)
  dsimp only
  rw [frzS_at rfl nb]
  try trivial
  simp only [oFmt_int, asStr_str]
  refine ⟨rfl, bd (by rw [w_bh]; decide), s2.log, bd (by simp only [app_len, w_bh]; omega), ?_⟩
  try trivial
  · show ([stL nm, bfL bf] ++ (balR bf ps).map poL).length + 1 ≤ sizeLine
    rw [List.length_append, List.length_map, balR_length, sizeLine_eq]; simp; omega
  · have e : ([stL nm, bfL bf] ++ (balR bf ps).map poL).map D.str ++ [D.str (("behind " : Str) ++ (toString (endB bf ps) : Str))] = (draftLines (mkDR nm bf ps)).map D.str := by
      unfold draftLines
      simp only [List.map_cons, List.map_append, List.cons_append, List.nil_append, List.map_nil]
      rfl
    rw [e]
    exact join_ok (st := st) (M := 200) (lines_len ok) (by rw [lines_cnt]; omega) h
end L23

end SZC23

section SZD23

set_option Elab.async false
set_option linter.all false
set_option maxRecDepth 100000
namespace L23
open PySem L2 DL
local macro_rules
  | `(tactic| trivial) => `(tactic| simp only [wVar_eq, wC, wOp2, wOp1, wB_eq, wChain_eq, wTru_eq, wAndT_eq, wOrT_eq, wNotT, wAndV_eq, wOrV_eq, wNotV_eq, wIf_eq, wNil, wCons, wTup, wLst, wCB, wSkip, wSeq, wBrk, wCnt, wExpr, wRet, wRetN, wIfS_eq, wName, wGNil, wGCons, wGTup, wAsg, wSet, wPar, wPar3, wCall, wCallK, wMakeK, wMethK, wFld, wSetF, wAugF, wGFld, wLPut, wSlA, oSlA_tup, oSlA_lst, cutD_mapI, oMaxL_ints, wPN, wPS, oSl_lkd, wRaise, wListRange, wIt_eq, wFor_eq, wEnumT_eq, wRng1_eq, wZipM, wFrz_eq, wFrzS_eq, oIsT, oLen, oLe, oLt, oGe, oGt, oMax2, oMin2, o2I, oI, oI0, oOrd, oIsN, wBM, wBM0, oS0, oS1, oSplit, oEq, oNe, oAbs, oDivmod, oGcd, oAdd_int, oNeg_int, oInt_int, oInt_bl, oIx_tup, oIx_lst, oIx_lkd, oIx_r, cellL_r, lstOf_lst, ixN0, ixN2, put_same, put_put, List.set, oTuple_lst, oTuple_tup, oSum_ints, oSumT_ints, wRevT_eq, wAugI_eq, oAll_bls, atI0, atI1, atI2, endsOf, startD, getS, setS, opt_some, asBl_bl, asInt_int, asStr_str, asTup_tup, arg1_eq, arg2_eq, arg3_eq, List.length_nil, List.length_cons, Bool.not_true, Bool.not_false, if_true, Bool.false_eq_true, if_false, true_and, List.length_map, tru_bl, newL_f, newL_t, lenOf_lst, lenOf_tup, lenOf_lkd, eqD_int, eqD_str, seqAt_tup, seqAt_lst, seqAt_lkd, itAny_tup, itAny_lst, itAny_lkd, lstAt_lst, kd_int, kd_tup, kt_ii, kt_ib, kt_tt])
theorem OkSt.tx {nm : Str} {bf : Int} {ps : List Pst} (h : OkSt nm bf ps) : TxOk nm bf ps where
  al := h.al
  bf := by have := h.bf; omega
  len := h.ps.len
  ps := fun p hp => by
    have a := h.ps.am p hp; have n := h.ps.nu p hp
    exact ⟨sm_of (by omega) (by omega), a⟩
def ct_statement_text : CT := fun ds st Kd _ => arg3 ds fun d e f => ∃ nm bf ps, d = .str nm ∧ e = .int bf ∧ f = psD ps ∧ OkSt nm bf ps ∧ Kd (.str (draftText (mkDR nm bf ps))) st
theorem P_statement_text {K : Fr} : ∀ ds st Kd Kx, ds.length = 3 → ct_statement_text ds st Kd Kx → W_statement_text K ct_text_of ct_check_statement (endsOf Kd Kx) ⟨startD 3 ds, st⟩ := by
  intro ds st Kd Kx hl h0
  obtain ⟨_, _, _, rfl, nm, bf, ps, rfl, rfl, rfl, ok, h⟩ := arg3_ok h0
  unfold W_statement_text
  try trivial
  simp only [ct_check_statement]
  try trivial
  refine ⟨nm, bf, ps, rfl, rfl, rfl, ok, ?_⟩
  simp only [ct_text_of]
  try trivial
  exact ⟨nm, bf, ps, rfl, rfl, rfl, ok.tx, h⟩
def firstN (rows : List Row) : Int := match rows with
  | r :: _ => r.1
  | [] => 0
def goB (nm : Str) (rows : List Row) (bh : Int) (p : DR) : Bool := decide (p.1 = nm) && (decide (p.2.1 = bh) && (rows.isEmpty || (p.2.2.1.isEmpty || decide (lastN rows < firstN p.2.2.1))))
def ct_goes_on : CT := fun ds st Kd _ => arg2 ds fun d e => ∃ nm a bh rows p, d = .tup [.str nm, .ref a, .int bh] ∧ e = drD p ∧ st a = some (.lst (rows.map rowD)) ∧ Kd (.bl (goB nm rows bh p)) st
theorem P_goes_on {K : Fr} : ∀ ds st Kd Kx, ds.length = 2 → ct_goes_on ds st Kd Kx → W_goes_on K (endsOf Kd Kx) ⟨startD 5 ds, st⟩ := by
  intro ds st Kd Kx hl h0
  obtain ⟨_, _, rfl, nm, a, bh, rows, ⟨pn, pb, pr, pe⟩, rfl, rfl, ha, h⟩ := arg2_ok h0
  unfold W_goes_on drD
  try trivial
  try trivial
  unfold goB at h
  dsimp only at h
  by_cases e1 : pn = nm
  · rw [decide_eq_true e1] at h
    rw [if_neg (by simpa using e1)]
    by_cases e2 : pb = bh
    · rw [decide_eq_true e2] at h
      rw [if_neg (by simpa using e2)]
      unfold wNotT'
      try trivial
      rw [tru_ref ha]
      try trivial
      rcases List.eq_nil_or_concat rows with rfl | ⟨rs, r, rfl⟩
      · exact h
      rw [List.concat_eq_append] at ha h ⊢
      rw [if_neg (by simp)]
      cases pr with
      | nil =>
        simp only [tru, List.map_nil, opt_some, List.isEmpty_nil, Bool.not_true, Bool.not_false, if_true]
        simpa using h
      | cons p pr =>
        simp only [tru, List.map_cons, opt_some, List.isEmpty_cons, Bool.not_true, Bool.not_false, if_true, Bool.false_eq_true, if_false]
        have e3 : atI ((rs ++ [r]).map rowD) (-1) = some (rowD r) := atI_last (by simp)
        rw [ha]
        try trivial
        rw [e3]
        unfold rowD
        try trivial
        have e4 : lastN (rs ++ [r]) = r.1 := by unfold lastN; simp
        rw [e4] at h
        have e5 : (rs ++ [r]).isEmpty = false := by cases rs <;> rfl
        rw [e5] at h; exact h
    · rw [if_pos (by simpa using e2)]
      rw [decide_eq_false e2] at h
      exact h
  · rw [if_pos (by simpa using e1)]
    rw [decide_eq_false e1] at h
    exact h
end L23

end SZD23

section SZE23

set_option Elab.async false
set_option linter.all false
set_option maxRecDepth 100000
namespace L23
open PySem L2 DL
local macro_rules
  | `(tactic| trivial) => `(tactic| simp only [wVar_eq, wC, wOp2, wOp1, wB_eq, wChain_eq, wTru_eq, wAndT_eq, wOrT_eq, wNotT, wAndV_eq, wOrV_eq, wNotV_eq, wIf_eq, wNil, wCons, wTup, wLst, wCB, wSkip, wSeq, wBrk, wCnt, wExpr, wRet, wRetN, wIfS_eq, wName, wGNil, wGCons, wGTup, wAsg, wSet, wPar, wPar3, wCall, wCallK, wMakeK, wMethK, wFld, wSetF, wAugF, wGFld, wLPut, wSlA, oSlA_tup, oSlA_lst, cutD_mapI, oMaxL_ints, wPN, wPS, oSl_lkd, wRaise, wListRange, wIt_eq, wFor_eq, wEnumT_eq, wRng1_eq, wZipM, wFrz_eq, wFrzS_eq, oIsT, oLen, oLe, oLt, oGe, oGt, oMax2, oMin2, o2I, oI, oI0, oOrd, oIsN, wBM, wBM0, oS0, oS1, oSplit, oEq, oNe, oAbs, oDivmod, oGcd, oAdd_int, oNeg_int, oInt_int, oInt_bl, oIx_tup, oIx_lst, oIx_lkd, oIx_r, cellL_r, lstOf_lst, ixN0, ixN2, put_same, put_put, List.set, oTuple_lst, oTuple_tup, oSum_ints, oSumT_ints, wRevT_eq, wAugI_eq, oAll_bls, atI0, atI1, atI2, endsOf, startD, getS, setS, opt_some, asBl_bl, asInt_int, asStr_str, asTup_tup, arg1_eq, arg2_eq, arg3_eq, List.length_nil, List.length_cons, Bool.not_true, Bool.not_false, if_true, Bool.false_eq_true, if_false, true_and, List.length_map, tru_bl, newL_f, newL_t, lenOf_lst, lenOf_tup, lenOf_lkd, eqD_int, eqD_str, seqAt_tup, seqAt_lst, seqAt_lkd, itAny_tup, itAny_lst, itAny_lkd, lstAt_lst, kd_int, kd_tup, kt_ii, kt_ib, kt_tt])
theorem cutD_nn {xs : List D} (a b : Nat) (ab : a ≤ b) : cutD xs (some (a : Int)) (some (b : Int)) = (xs.drop a).take (b - a) := by
  have s1 : ∀ k : Nat, HT.sIx xs.length 0 (some (k : Int)) = min k xs.length := fun k => by
    show (if ((k : Int)) < 0 then (((k : Int)) + (xs.length : Int)).toNat else min ((k : Int)).toNat xs.length) = min k xs.length
    rw [if_neg (by omega)]; rfl
  have s2 : ∀ k : Nat, HT.sIx xs.length xs.length (some (k : Int)) = min k xs.length := fun k => by
    show (if ((k : Int)) < 0 then (((k : Int)) + (xs.length : Int)).toNat else min ((k : Int)).toNat xs.length) = min k xs.length
    rw [if_neg (by omega)]; rfl
  unfold cutD
  rw [s1, s2]
  by_cases c : a ≤ xs.length
  · rw [Nat.min_eq_left c]
    by_cases d : b ≤ xs.length
    · rw [Nat.min_eq_left d]
    · rw [Nat.min_eq_right (by omega)]
      rw [List.take_of_length_le (by rw [List.length_drop]; omega), List.take_of_length_le (by rw [List.length_drop]; omega)]
  · rw [Nat.min_eq_right (show xs.length ≤ a by omega), List.drop_of_length_le (Nat.le_refl _), List.drop_of_length_le (show xs.length ≤ a by omega)]
    simp
theorem endB_sum : ∀ (ps : List Pst) (h : Int), endB h ps = h + (ps.map (·.2)).sum
  | [], h => by unfold endB; simp
  | p :: r, h => by unfold endB; rw [endB_sum r, List.map_cons, List.sum_cons]; omega
def nPg (c l : Nat) : Nat := (l - 1) / c + 1
theorem rgC_pg {c l : Nat} (c1 : 1 ≤ c) (c2 : c ≤ 500) (hl : l ≤ 1000) : RgC 0 (if (1 : Int) > (l : Int) then 1 else (l : Int)) (c : Int) (nPg c l) := by
  have hm : (if (1 : Int) > (l : Int) then 1 else (l : Int)) = ((l - 1 : Nat) : Int) + 1 := by split <;> omega
  rw [hm]
  have e : Builtin.Range.rangeSize 0 (((l - 1 : Nat) : Int) + 1) (c : Int) = (nPg c l : Nat) := by
    unfold Builtin.Range.rangeSize nPg
    rw [if_pos (by omega), if_pos (by omega)]
    have : ((l - 1 : Nat) : Int) + 1 - 0 - 1 = ((l - 1 : Nat) : Int) := by omega
    rw [this]
    norm_cast
  refine ⟨by omega, by omega, ?_, e⟩
  have b : nPg c l ≤ 1001 := by
    unfold nPg
    have := Nat.div_le_self (l - 1) c
    omega
  unfold Builtin.Range.small
  rw [e]
  simp only [Builtin.Range.rangeFitsLong, Bool.and_eq_true, Bool.or_eq_true, decide_eq_true_eq, beq_iff_eq]
  rw [if_pos (by omega)]
  refine ⟨by omega, .inr ?_⟩
  rw [decide_eq_true (by omega), decide_eq_true (by omega)]; rfl
def pgs (nm : Str) (c : Nat) : Nat → Int → List Pst → List DR
  | 0, _, _ => []
  | n + 1, bf, ps => mkDR nm bf (ps.take c) :: pgs nm c n (endB bf (ps.take c)) (ps.drop c)
def txD (q : DR) : D := .str (draftText q)
def pgBody : WS := (wSeq (wSet 7 (wSlA false (wVar 2) (wPS (wVar 6)) (wPS (wOp2 (oAdd false) (wVar 6) (wVar 3))))) (wSeq (wExpr (wBM "list" oAppend (wVar 4) (wCons (wCall 3 ct_text_of (wCons (wVar 0) (wCons (wVar 5) (wCons (wVar 7) wNil)))) wNil))) (wAugI 5 (fun i j => i + j) (wCB oSum (wCons (wLc false [8, 9] (wIt (wVar 7)) (wGTup 2 (wGCons (wName 8) (wGCons (wName 9) wGNil))) wYes (wVar 9)) wNil)))))
theorem endB_app : ∀ (xs ys : List Pst) (h : Int), endB h (xs ++ ys) = endB (endB h xs) ys
  | [], _, _ => rfl
  | x :: xs, ys, h => by
    rw [List.cons_append]
    show endB (h + x.2) (xs ++ ys) = endB (endB (h + x.2) xs) ys
    exact endB_app xs ys _
theorem part_ok {nm : Str} {bf : Int} {ps : List Pst} (ok : OkSt nm bf ps) (n c : Nat) : TxOk nm (endB bf (ps.take n)) ((ps.drop n).take c) where
  al := ok.al
  bf := by
    have b := endB_bd (ps.take n) bf fun p hp => ok.ps.am p (List.mem_of_mem_take hp)
    have l : (ps.take n).length ≤ 500 := by have := ok.ps.len; rw [List.length_take]; omega
    have := ok.bf
    omega
  len := by have := ok.ps.len; rw [List.length_take, List.length_drop]; omega
  ps := fun p hp => ok.tx.ps p (List.mem_of_mem_drop (List.mem_of_mem_take hp))
theorem pg_loop {E : EndsD} {st : Sto} {b : Addr} {nm : Str} {bf : Int} {ps : List Pst} {c : Nat} (ok : OkSt nm bf ps) : ∀ (m k : Nat) (acc : List DR) (s6 s7 : Option D), acc.length + m ≤ 2000 →
    (∀ s5 s6 s7, E.nx ⟨[some (.str nm), some (.int bf), some (psD ps), some (.int c), some (.ref b), s5, s6, s7, none, none], put st b (.lst ((acc ++ pgs nm c m (endB bf (ps.take (k * c))) (ps.drop (k * c))).map txD))⟩) →
    loopD always (wName 6) pgBody E ((List.range' k m).map fun t : Nat => D.int (0 + ((t : Nat) : Int) * (c : Int))) ⟨[some (.str nm), some (.int bf), some (psD ps), some (.int c), some (.ref b), some (.int (endB bf (ps.take (k * c)))), s6, s7, none, none], put st b (.lst (acc.map txD))⟩
  | 0, k, acc, s6, s7, _, h => by
    refine ⟨True.intro, ?_⟩
    have := h (some (.int (endB bf (ps.take (k * c))))) s6 s7
    simp only [pgs, List.append_nil] at this
    exact this
  | m + 1, k, acc, s6, s7, hl, h => by
    refine ⟨True.intro, ?_⟩
    have e1 : endB bf (ps.take ((k + 1) * c)) = endB (endB bf (ps.take (k * c))) ((ps.drop (k * c)).take c) := by
      rw [← endB_app, Nat.succ_mul, List.take_add]
    have e2 : ps.drop ((k + 1) * c) = (ps.drop (k * c)).drop c := by rw [List.drop_drop, Nat.succ_mul]
    have ih := pg_loop (E := E) (st := st) (b := b) (c := c) ok m (k + 1) (acc ++ [mkDR nm (endB bf (ps.take (k * c))) ((ps.drop (k * c)).take c)]) (some (.int (0 + ((k : Nat) : Int) * (c : Int)))) (some (psD ((ps.drop (k * c)).take c))) (by rw [List.length_append]; simp; omega) (fun s5 s6 s7 => by
      have := h s5 s6 s7
      simp only [pgs] at this
      rw [e1, e2, List.append_assoc]
      exact this)
    show wName 6 (D.int (0 + ((k : Nat) : Int) * (c : Int))) _ fun g2 => pgBody { E with nx := loopD always (wName 6) pgBody E ((List.range' (k + 1) m).map fun t : Nat => D.int (0 + ((t : Nat) : Int) * (c : Int))), ct := loopD always (wName 6) pgBody E ((List.range' (k + 1) m).map fun t : Nat => D.int (0 + ((t : Nat) : Int) * (c : Int))), bk := E.nx } g2
    generalize loopD always (wName 6) pgBody E ((List.range' (k + 1) m).map fun t : Nat => D.int (0 + ((t : Nat) : Int) * (c : Int))) = L at ih ⊢
    have e3 : cutD (ps.map fun p => D.tup [.int p.1, .int p.2]) (some (0 + ((k : Nat) : Int) * (c : Int))) (some (0 + ((k : Nat) : Int) * (c : Int) + (c : Int))) = ((ps.drop (k * c)).take c).map fun p => D.tup [.int p.1, .int p.2] := by
      have e4 : (0 + ((k : Nat) : Int) * (c : Int)) = ((k * c : Nat) : Int) := by rw [Int.zero_add]; exact (Int.natCast_mul k c).symm
      rw [e4, show ((k * c : Nat) : Int) + (c : Int) = ((k * c + c : Nat) : Int) from rfl, cutD_nn _ _ (by omega), List.map_take, List.map_drop, Nat.add_sub_cancel_left]
    have pl : ((ps.drop (k * c)).take c).length ≤ 500 := by have := ok.ps.len; rw [List.length_take, List.length_drop]; omega
    unfold pgBody psD
    try trivial
    rw [e3]
    simp only [ct_text_of]
    try trivial
    refine ⟨by unfold isT; simp only [put_same], nm, _, _, rfl, rfl, rfl, part_ok ok (k * c) c, ?_⟩
    unfold oAppend cellL
    simp only [put_same, arg1_eq]
    refine ⟨by rw [List.length_map, sizeLine_eq]; omega, ?_⟩
    rw [put_put]
    try trivial
    refine wLc_ty (fun p : Pst => D.tup [.int p.1, .int p.2]) (fun p => .int p.2) ((ps.drop (k * c)).take c) (fun KI k => ?_) (sz (by omega)) (fun p hp' a acc KT hp kt => ?_) ?_
    · try trivial
      exact k
    · simp only [wipeS, clrS]
      try trivial
      exact kt _ rfl
    · have e5 : (((ps.drop (k * c)).take c).map fun p : Pst => D.int p.2) = (((ps.drop (k * c)).take c).map (·.2)).map D.int := by rw [List.map_map]; rfl
      rw [e5]
      try trivial
      have e6 : acc.map txD ++ [D.str (draftText (mkDR nm (endB bf (ps.take (k * c))) ((ps.drop (k * c)).take c)))] = (acc ++ [mkDR nm (endB bf (ps.take (k * c))) ((ps.drop (k * c)).take c)]).map txD := by rw [List.map_append]; rfl
      rw [e6]
      rw [e1, endB_sum ((ps.drop (k * c)).take c)] at ih
      exact ih
def arg4 (ds : List D) (f : D → D → D → D → Prop) : Prop := match ds with
  | [a, b, c, d] => f a b c d
  | _ => False
theorem arg4_ok {ds : List D} {f : D → D → D → D → Prop} (h : arg4 ds f) : ∃ a b c d, ds = [a, b, c, d] ∧ f a b c d := by
  match ds, h with
  | [a, b, c, d], h => exact ⟨a, b, c, d, rfl, h⟩
def ct_paged : CT := fun ds st Kd _ => arg4 ds fun d e f l => ∃ nm bf ps c, d = .str nm ∧ e = .int bf ∧ f = psD ps ∧ l = .int ((c : Nat) : Int) ∧ OkSt nm bf ps ∧ 1 ≤ c ∧ c ≤ 500 ∧ Kd (.tup ((pgs nm c (nPg c ps.length) bf ps).map txD)) st
theorem nPg_le (c l : Nat) : nPg c l ≤ l + 1 := by
  unfold nPg
  have := Nat.div_le_self (l - 1) c
  omega
theorem P_paged {K : Fr} : ∀ ds st Kd Kx, ds.length = 4 → ct_paged ds st Kd Kx → W_paged K ct_text_of ct_is_number ct_check_statement (endsOf Kd Kx) ⟨startD 10 ds, st⟩ := by
  intro ds st Kd Kx hl h0
  obtain ⟨_, _, _, _, rfl, nm, bf, ps, c, rfl, rfl, rfl, rfl, ok, c1, c2, h⟩ := arg4_ok h0
  unfold W_paged
  try trivial
  simp only [ct_check_statement]
  try trivial
  refine ⟨nm, bf, ps, rfl, rfl, rfl, ok, ?_⟩
  simp only [ct_is_number]
  try trivial
  refine ⟨rfl, ?_⟩
  have e2 : isNum 1 500 (.int (c : Int)) = true := by
    show (decide (_ ≤ (c : Int)) && decide ((c : Int) ≤ _)) = true
    rw [decide_eq_true (by omega), decide_eq_true (by omega)]; rfl
  rw [e2]
  try trivial
  refine ⟨Nat.zero_le _, fun b nb => ?_⟩
  unfold wRng3 psD
  try trivial
  have lp := ok.ps.len
  refine ⟨nPg c ps.length, rgC_pg c1 c2 (by omega), ?_⟩
  have z0 : ps.take (0 * c) = [] := by simp
  have z1 : ps.drop (0 * c) = ps := by simp
  have lb := nPg_le c ps.length
  unfold rngC
  rw [List.range_eq_range']
  have e0 : (some (D.int bf) : Option D) = some (.int (endB bf (ps.take (0 * c)))) := by rw [z0]; rfl
  rw [show ([some (D.str nm), some (D.int bf), some (D.tup (List.map (fun p : Pst => D.tup [D.int p.1, D.int p.2]) ps)), some (D.int (c : Int)), some (D.ref b), some (D.int bf), none, none, none, none] : List (Option D)) = [some (D.str nm), some (D.int bf), some (psD ps), some (D.int (c : Int)), some (D.ref b), some (.int (endB bf (ps.take (0 * c)))), none, none, none, none] by rw [z0]; rfl]
  refine pg_loop (c := c) (st := st) (b := b) ok (nPg c ps.length) 0 [] none none (by simp; omega) (fun s5 s6 s7 => ?_)
  dsimp only
  rw [frzS_at rfl nb, z0, z1]
  try trivial
  exact h
end L23
end SZE23

section SZF23

set_option Elab.async false
set_option linter.all false
set_option maxRecDepth 100000
namespace L23
open PySem L2 DL
local macro_rules
  | `(tactic| trivial) => `(tactic| simp only [wVar_eq, wC, wOp2, wOp1, wB_eq, wChain_eq, wTru_eq, wAndT_eq, wOrT_eq, wNotT, wAndV_eq, wOrV_eq, wNotV_eq, wIf_eq, wNil, wCons, wTup, wLst, wCB, wSkip, wSeq, wBrk, wCnt, wExpr, wRet, wRetN, wIfS_eq, wName, wGNil, wGCons, wGTup, wAsg, wSet, wPar, wPar3, wCall, wCallK, wMakeK, wMethK, wFld, wSetF, wAugF, wGFld, wLPut, wSlA, oSlA_tup, oSlA_lst, cutD_mapI, oMaxL_ints, wPN, wPS, oSl_lkd, wRaise, wListRange, wIt_eq, wFor_eq, wEnumT_eq, wRng1_eq, wZipM, wFrz_eq, wFrzS_eq, oIsT, oLen, oLe, oLt, oGe, oGt, oMax2, oMin2, o2I, oI, oI0, oOrd, oIsN, wBM, wBM0, oS0, oS1, oSplit, oEq, oNe, oAbs, oDivmod, oGcd, oAdd_int, oNeg_int, oInt_int, oInt_bl, oIx_tup, oIx_lst, oIx_lkd, oIx_r, cellL_r, lstOf_lst, ixN0, ixN2, put_same, put_put, List.set, oTuple_lst, oTuple_tup, oSum_ints, oSumT_ints, wRevT_eq, wAugI_eq, oAll_bls, atI0, atI1, atI2, endsOf, startD, getS, setS, opt_some, asBl_bl, asInt_int, asStr_str, asTup_tup, arg1_eq, arg2_eq, arg3_eq, List.length_nil, List.length_cons, Bool.not_true, Bool.not_false, if_true, Bool.false_eq_true, if_false, true_and, List.length_map, tru_bl, newL_f, newL_t, lenOf_lst, lenOf_tup, lenOf_lkd, eqD_int, eqD_str, seqAt_tup, seqAt_lst, seqAt_lkd, itAny_tup, itAny_lst, itAny_lkd, lstAt_lst, kd_int, kd_tup, kt_ii, kt_ib, kt_tt])
theorem w_posting : 32 ∉ TL.tl ("posting" : Str) := by decide +kernel
theorem w_behind : 32 ∉ TL.tl ("behind" : Str) := by decide +kernel
theorem w_before : 32 ∉ TL.tl ("before" : Str) := by decide +kernel
theorem w_statement : 32 ∉ TL.tl ("statement" : Str) := by decide +kernel
theorem e_posting : ("posting " : Str) = ("posting" : Str) ++ (" " : Str) := TL.ext_tl (by decide +kernel)
theorem e_behind : ("behind " : Str) = ("behind" : Str) ++ (" " : Str) := TL.ext_tl (by decide +kernel)
theorem e_before : ("before " : Str) = ("before" : Str) ++ (" " : Str) := TL.ext_tl (by decide +kernel)
theorem e_statement : ("statement " : Str) = ("statement" : Str) ++ (" " : Str) := TL.ext_tl (by decide +kernel)
theorem app_assoc3 (a b c : Str) : a ++ (b ++ c) = (a ++ b) ++ c := (app_assoc a b c).symm
theorem poL_eq (r : Row) : poL r = ("posting" : Str) ++ (" " : Str) ++ ((toString r.1 : Str) ++ (" " : Str) ++ ((toString r.2.1 : Str) ++ (" " : Str) ++ (toString r.2.2 : Str))) := by
  unfold poL; rw [e_posting]; simp only [app_assoc]
theorem po_split (r : Row) : Txt.split (poL r) " " = [("posting" : Str), (toString r.1 : Str), (toString r.2.1 : Str), (toString r.2.2 : Str)] := by
  rw [poL_eq, split_word w_posting, split_word (num_nosp _), split_word (num_nosp _), split_one (num_nosp _)]
theorem bh_split (i : Int) : Txt.split (bhL i) " " = [("behind" : Str), (toString i : Str)] := by
  unfold bhL; rw [e_behind, split_word w_behind, split_one (num_nosp _)]
theorem bf_split (i : Int) : Txt.split (bfL i) " " = [("before" : Str), (toString i : Str)] := by
  unfold bfL; rw [e_before, split_word w_before, split_one (num_nosp _)]
theorem st_split {nm : Str} (h : 32 ∉ TL.tl nm) : Txt.split (stL nm) " " = [("statement" : Str), nm] := by
  unfold stL; rw [e_statement, split_word w_statement, split_one h]
theorem sm_big {i : Int} (h : -big ≤ i ∧ i ≤ big) : i.natAbs < 10 ^ 30 := by
  have h1 : -1000000000000000000 ≤ i := h.1
  have h2 : i ≤ 1000000000000000000 := h.2
  exact sm_of (by omega) (by omega)
theorem bal_bh {i : Int} (h : -big ≤ i ∧ i ≤ big) : rdBal (bhL i) "behind" = some i := by
  unfold rdBal; rw [bh_split]
  show (if ("behind" : Str) = "behind" then numIn (toString i : Str) (-big) big else none) = some i
  rw [if_pos rfl, numIn_text (sm_big h), if_pos h]
theorem bal_bf {i : Int} (h : -big ≤ i ∧ i ≤ big) : rdBal (bfL i) "before" = some i := by
  unfold rdBal; rw [bf_split]
  show (if ("before" : Str) = "before" then numIn (toString i : Str) (-big) big else none) = some i
  rw [if_pos rfl, numIn_text (sm_big h), if_pos h]
theorem bal_po (r : Row) : rdBal (poL r) "behind" = none := by
  unfold rdBal; rw [po_split]
theorem acc_st {nm : Str} (h : isAccS nm = true) : rdAcc (stL nm) = some nm := by
  unfold rdAcc; rw [st_split (acc_facts h).1]
  show (if ("statement" : Str) = "statement" ∧ isAccS nm = true then some nm else none) = some nm
  rw [if_pos ⟨rfl, h⟩]
structure RowOk (last : Int) (r : Row) : Prop where
  lo : last + 1 ≤ r.1
  hi : r.1 ≤ 1000000000
  am : -big ≤ r.2.1 ∧ r.2.1 ≤ big
  ba : -big ≤ r.2.2 ∧ r.2.2 ≤ big
theorem post_po {r : Row} {last : Int} (h : RowOk last r) (p : -1 ≤ last) : rdPost (poL r) last = some r := by
  unfold rdPost; rw [po_split]
  have l := h.lo; have u := h.hi
  have s1 : (r.1).natAbs < 10 ^ 30 := sm_of (by omega) (by omega)
  have e1 : numIn (toString r.1 : Str) (last + 1) 1000000000 = some r.1 := by rw [numIn_text s1, if_pos ⟨l, u⟩]
  have e2 : numIn (toString r.2.1 : Str) (-big) big = some r.2.1 := by rw [numIn_text (sm_big h.am), if_pos h.am]
  have e3 : numIn (toString r.2.2 : Str) (-big) big = some r.2.2 := by rw [numIn_text (sm_big h.ba), if_pos h.ba]
  show (if ("posting" : Str) = "posting" then (match numIn (toString r.1 : Str) (last + 1) 1000000000, numIn (toString r.2.1 : Str) (-big) big, numIn (toString r.2.2 : Str) (-big) big with
    | some n, some m, some k => some (n, m, k)
    | _, _, _ => none) else none) = some r
  rw [if_pos rfl, e1, e2, e3]
def RowsOk : Int → List Row → Prop
  | _, [] => True
  | last, r :: rs => RowOk last r ∧ RowsOk r.1 rs
theorem lastN_snoc (xs : List Row) (r : Row) : lastN (xs ++ [r]) = r.1 := by unfold lastN; simp
theorem loop_tail {n : Nat} {acc : Str} {bf : Int} {ending : List Str} {out : Except Int DR} : ∀ (rs : List Row) (i : Nat) (done : List Row), RowsOk (lastN done) rs → -1 ≤ lastN done → done.length + rs.length ≤ 500 →
    rdLoop n acc bf ending (i + rs.length) (done ++ rs) = out → rdLoop n acc bf (rs.map poL ++ ending) i done = out
  | [], i, done, _, _, _, h => by simpa using h
  | r :: rs, i, done, hr, hp, hl, h => by
    obtain ⟨h1, h2⟩ := hr
    rw [List.length_cons] at hl h
    show (match rdBal (poL r) "behind" with
      | some b => if (i : Int) + 3 < n then .error ((i : Int) + 3 + 1) else .ok (acc, bf, done, b)
      | none => match rdPost (poL r) (lastN done) with
        | none => .error ((i : Int) + 3)
        | some r => if done.length = 500 then .error ((i : Int) + 3) else rdLoop n acc bf (rs.map poL ++ ending) (i + 1) (done ++ [r])) = out
    rw [bal_po, post_po h1 hp]
    dsimp only
    rw [if_neg (by omega)]
    have e := lastN_snoc done r
    refine loop_tail rs (i + 1) (done ++ [r]) (by rw [e]; exact h2) (by rw [e]; have := h1.lo; omega) (by rw [List.length_append]; simp; omega) ?_
    rw [List.append_assoc]
    rw [show i + 1 + rs.length = i + (rs.length + 1) by omega]
    exact h
structure RdOk (q : DR) : Prop where
  acc : isAccS q.1 = true
  bf : -big ≤ q.2.1 ∧ q.2.1 ≤ big
  bh : -big ≤ q.2.2.2 ∧ q.2.2.2 ≤ big
  len : q.2.2.1.length ≤ 500
  rows : RowsOk 0 q.2.2.1
theorem k_st : 10 ∉ TL.tl ("statement " : Str) := by decide +kernel
theorem k_bf : 10 ∉ TL.tl ("before " : Str) := by decide +kernel
theorem k_bh : 10 ∉ TL.tl ("behind " : Str) := by decide +kernel
theorem k_po : 10 ∉ TL.tl ("posting " : Str) := by decide +kernel
theorem k_sp : 10 ∉ TL.tl (" " : Str) := by decide +kernel
theorem st_no10 {nm : Str} (h : isAccS nm = true) : 10 ∉ TL.tl (stL nm) := line_no10 k_st (acc_no10 h)
theorem bf_no10 (i : Int) : 10 ∉ TL.tl (bfL i) := line_no10 k_bf (num_no10 i)
theorem bh_no10 (i : Int) : 10 ∉ TL.tl (bhL i) := line_no10 k_bh (num_no10 i)
theorem po_no10 (r : Row) : 10 ∉ TL.tl (poL r) := line_no10 (line_no10 (line_no10 (line_no10 (line_no10 k_po (num_no10 _)) k_sp) (num_no10 _)) k_sp) (num_no10 _)
theorem dl_no10 {q : DR} (h : isAccS q.1 = true) : ∀ l ∈ draftLines q, 10 ∉ TL.tl l := by
  intro l hl
  unfold draftLines at hl
  rcases List.mem_cons.mp hl with rfl | hl
  · exact st_no10 h
  rcases List.mem_cons.mp hl with rfl | hl
  · exact bf_no10 _
  rcases List.mem_append.mp hl with hl | hl
  · obtain ⟨r, _, rfl⟩ := List.mem_map.mp hl
    exact po_no10 r
  · rw [List.mem_singleton] at hl; subst hl; exact bh_no10 _
theorem dt_split {q : DR} (h : isAccS q.1 = true) : Txt.split (draftText q) "\n" = draftLines q := split_lines (by unfold draftLines; simp) (dl_no10 h)
theorem rd_text {q : DR} (h : RdOk q) : rdDraft (draftText q) = .ok q := by
  unfold rdDraft
  rw [dt_split h.acc]
  show rdLines (stL q.1 :: bfL q.2.1 :: (q.2.2.1.map poL ++ [bhL q.2.2.2])) = _
  rw [rl3 (acc_st h.acc) (bal_bf h.bf)]
  refine loop_tail q.2.2.1 0 [] h.rows (by decide) (by simpa using h.len) ?_
  show (match rdBal (bhL q.2.2.2) "behind" with
      | some b => if ((0 + q.2.2.1.length : Nat) : Int) + 3 < ((stL q.1 :: bfL q.2.1 :: (q.2.2.1.map poL ++ [bhL q.2.2.2])).length : Nat) then (Except.error (((0 + q.2.2.1.length : Nat) : Int) + 3 + 1) : Except Int DR) else Except.ok (q.1, q.2.1, [] ++ q.2.2.1, b)
      | none => _) = _
  rw [bal_bh h.bh]
  dsimp only
  rw [if_neg (by simp; omega)]
  rfl
theorem rd_bent0 : rdDraft "" = .error 1 := by
  have e : Txt.split ("" : Str) "\n" = [("" : Str)] := by decide +kernel
  have e2 : Txt.split ("" : Str) " " = [("" : Str)] := by decide +kernel
  unfold rdDraft
  rw [e]
  exact rl0 (by unfold rdAcc; rw [e2])
theorem join_snoc (a b : Str) : ∀ xs : List Str, Txt.join "\n" (xs ++ [a]) ++ b = Txt.join "\n" (xs ++ [a ++ b]) := by
  intro xs
  rw [TL.join_eq, TL.join_eq]
  induction xs with
  | nil => rfl
  | cons x r ih =>
    cases r with
    | nil =>
      show (x ++ "\n" ++ a) ++ b = x ++ "\n" ++ (a ++ b)
      simp only [app_assoc]
    | cons y r =>
      show (x ++ "\n" ++ Str.join "\n" (y :: r ++ [a])) ++ b = x ++ "\n" ++ Str.join "\n" (y :: r ++ [a ++ b])
      rw [← ih]; simp only [app_assoc]
theorem sp_empty : Txt.split ("" : Str) " " = [("" : Str)] := by decide +kernel
theorem app_empty (x : Str) : x ++ ("" : Str) = x := TL.ext_tl (by rw [TL.tl_append]; exact List.append_nil _)
theorem bhs_split (i : Int) : Txt.split (bhL i ++ (" " : Str)) " " = [("behind" : Str), (toString i : Str), ("" : Str)] := by
  have e : bhL i ++ (" " : Str) = ("behind" : Str) ++ (" " : Str) ++ ((toString i : Str) ++ (" " : Str) ++ ("" : Str)) := by
    unfold bhL; rw [e_behind, app_empty]; simp only [app_assoc]
  rw [e, split_word w_behind, split_word (num_nosp _), sp_empty]
theorem rd_space {q : DR} (h : RdOk q) : ∃ n, rdDraft (draftText q ++ (" " : Str)) = .error n := by
  have e1 : draftText q ++ (" " : Str) = Txt.join "\n" (stL q.1 :: bfL q.2.1 :: (q.2.2.1.map poL ++ [bhL q.2.2.2 ++ (" " : Str)])) := join_snoc _ _ (stL q.1 :: bfL q.2.1 :: q.2.2.1.map poL)
  have e2 : Txt.split (draftText q ++ (" " : Str)) "\n" = stL q.1 :: bfL q.2.1 :: (q.2.2.1.map poL ++ [bhL q.2.2.2 ++ (" " : Str)]) := by
    rw [e1]
    refine split_lines (by simp) fun l hl => ?_
    rcases List.mem_cons.mp hl with rfl | hl
    · exact st_no10 h.acc
    rcases List.mem_cons.mp hl with rfl | hl
    · exact bf_no10 _
    rcases List.mem_append.mp hl with hl | hl
    · obtain ⟨r, _, rfl⟩ := List.mem_map.mp hl
      exact po_no10 r
    · rw [List.mem_singleton] at hl; subst hl; exact line_no10 (bh_no10 _) k_sp
  unfold rdDraft
  rw [e2, rl3 (acc_st h.acc) (bal_bf h.bf)]
  refine ⟨((0 + q.2.2.1.length : Nat) : Int) + 3, loop_tail q.2.2.1 0 [] h.rows (by decide) (by simpa using h.len) ?_⟩
  have b1 : rdBal (bhL q.2.2.2 ++ (" " : Str)) "behind" = none := by unfold rdBal; rw [bhs_split]
  have b2 : ∀ l, rdPost (bhL q.2.2.2 ++ (" " : Str)) l = none := fun l => by unfold rdPost; rw [bhs_split]
  show (match rdBal (bhL q.2.2.2 ++ (" " : Str)) "behind" with
      | some b => _
      | none => match rdPost (bhL q.2.2.2 ++ (" " : Str)) (lastN ([] ++ q.2.2.1)) with
        | none => (Except.error (((0 + q.2.2.1.length : Nat) : Int) + 3) : Except Int DR)
        | some r => _) = _
  rw [b1, b2]
theorem w_tat : 32 ∉ TL.tl ("tatement" : Str) := by decide +kernel
theorem k_tat : 10 ∉ TL.tl ("tatement " : Str) := by decide +kernel
theorem e_tat : ("tatement " : Str) = ("tatement" : Str) ++ (" " : Str) := TL.ext_tl (by decide +kernel)
theorem tl_st : TL.tl ("statement " : Str) = 115 :: TL.tl ("tatement " : Str) := by decide +kernel
theorem cut_text {q : DR} : cutS (draftText q) (some 1) none = Txt.join "\n" ((("tatement " : Str) ++ q.1) :: bfL q.2.1 :: (q.2.2.1.map poL ++ [bhL q.2.2.2])) := by
  refine TL.ext_tl ?_
  refine cut1 (c := 115) ?_
  show TL.tl (Txt.join "\n" (stL q.1 :: bfL q.2.1 :: (q.2.2.1.map poL ++ [bhL q.2.2.2]))) = _
  rw [TL.join_eq, TL.join_eq]
  show TL.tl (stL q.1 ++ "\n" ++ Str.join "\n" _) = 115 :: TL.tl ((("tatement " : Str) ++ q.1) ++ "\n" ++ Str.join "\n" _)
  unfold stL
  simp only [TL.tl_append, tl_st, List.cons_append]
theorem rd_cut {q : DR} (h : isAccS q.1 = true) : rdDraft (cutS (draftText q) (some 1) none) = .error 1 := by
  have e2 : Txt.split (cutS (draftText q) (some 1) none) "\n" = (("tatement " : Str) ++ q.1) :: bfL q.2.1 :: (q.2.2.1.map poL ++ [bhL q.2.2.2]) := by
    rw [cut_text]
    refine split_lines (by simp) fun l hl => ?_
    rcases List.mem_cons.mp hl with rfl | hl
    · exact line_no10 k_tat (acc_no10 h)
    exact dl_no10 (q := q) h l (by unfold draftLines; exact List.mem_cons_of_mem _ hl)
  unfold rdDraft
  rw [e2]
  refine rl0 ?_
  unfold rdAcc
  rw [e_tat, split_word w_tat, split_one (acc_facts h).1]
  show (if ("tatement" : Str) = "statement" ∧ isAccS q.1 = true then some q.1 else none) = none
  rw [if_neg fun z => absurd z.1 (by decide +kernel)]
end L23

end SZF23

section SZG23

set_option Elab.async false
set_option linter.all false
set_option maxRecDepth 100000
namespace L23
open PySem L2 DL
local macro_rules
  | `(tactic| trivial) => `(tactic| simp only [wVar_eq, wC, wOp2, wOp1, wB_eq, wChain_eq, wTru_eq, wAndT_eq, wOrT_eq, wNotT, wAndV_eq, wOrV_eq, wNotV_eq, wIf_eq, wNil, wCons, wTup, wLst, wCB, wSkip, wSeq, wBrk, wCnt, wExpr, wRet, wRetN, wIfS_eq, wName, wGNil, wGCons, wGTup, wAsg, wSet, wPar, wPar3, wCall, wCallK, wMakeK, wMethK, wFld, wSetF, wAugF, wGFld, wLPut, wSlA, oSlA_tup, oSlA_lst, cutD_mapI, oMaxL_ints, wPN, wPS, oSl_lkd, wRaise, wListRange, wIt_eq, wFor_eq, wEnumT_eq, wRng1_eq, wZipM, wFrz_eq, wFrzS_eq, oIsT, oLen, oLe, oLt, oGe, oGt, oMax2, oMin2, o2I, oI, oI0, oOrd, oIsN, wBM, wBM0, oS0, oS1, oSplit, oEq, oNe, oAbs, oDivmod, oGcd, oAdd_int, oNeg_int, oInt_int, oInt_bl, oIx_tup, oIx_lst, oIx_lkd, oIx_r, cellL_r, lstOf_lst, ixN0, ixN2, put_same, put_put, List.set, oTuple_lst, oTuple_tup, oSum_ints, oSumT_ints, wRevT_eq, wAugI_eq, oAll_bls, atI0, atI1, atI2, endsOf, startD, getS, setS, opt_some, asBl_bl, asInt_int, asStr_str, asTup_tup, arg1_eq, arg2_eq, arg3_eq, List.length_nil, List.length_cons, Bool.not_true, Bool.not_false, if_true, Bool.false_eq_true, if_false, true_and, List.length_map, tru_bl, newL_f, newL_t, lenOf_lst, lenOf_tup, lenOf_lkd, eqD_int, eqD_str, seqAt_tup, seqAt_lst, seqAt_lkd, itAny_tup, itAny_lst, itAny_lkd, lstAt_lst, kd_int, kd_tup, kt_ii, kt_ib, kt_tt])
theorem rdLoop_len {n : Nat} {acc : Str} {bf : Int} {q : DR} : ∀ (ls : List Str) (i : Nat) (rows : List Row), rows.length ≤ 500 → rdLoop n acc bf ls i rows = .ok q → q.2.2.1.length ≤ 500
  | [], i, rows, _, h => by cases h
  | l :: ls, i, rows, hl, h => by
    have h : (match rdBal l "behind" with
      | some b => if (i : Int) + 3 < n then (Except.error ((i : Int) + 3 + 1) : Except Int DR) else Except.ok (acc, bf, rows, b)
      | none => match rdPost l (lastN rows) with
        | none => .error ((i : Int) + 3)
        | some r => if rows.length = 500 then .error ((i : Int) + 3) else rdLoop n acc bf ls (i + 1) (rows ++ [r])) = .ok q := h
    cases e : rdBal l "behind" with
    | some b =>
      rw [e] at h
      dsimp only at h
      split at h
      · cases h
      · cases h; exact hl
    | none =>
      rw [e] at h
      dsimp only at h
      cases e2 : rdPost l (lastN rows) with
      | none => rw [e2] at h; cases h
      | some r =>
        rw [e2] at h
        dsimp only at h
        split at h
        · cases h
        · rename_i c
          exact rdLoop_len ls (i + 1) (rows ++ [r]) (by rw [List.length_append]; simp; omega) h
theorem rd_len {x : Str} {q : DR} (h : rdDraft x = .ok q) : q.2.2.1.length ≤ 500 := by
  unfold rdDraft at h
  generalize Txt.split x (Str.ofString "\n") = ls at h
  match ls, h with
  | [], h => cases h
  | l0 :: r, h =>
    cases q0 : rdAcc l0 with
    | none => rw [rl0 q0] at h; cases h
    | some acc =>
      match r, h with
      | [], h => rw [rl1 q0] at h; cases h
      | l1 :: ls, h =>
        cases q1 : rdBal l1 "before" with
        | none => rw [rl2 q0 q1] at h; cases h
        | some bf =>
          rw [rl3 q0 q1] at h
          exact rdLoop_len ls 0 [] (Nat.zero_le _) h
def pageOf : D → Option DR
  | .str x => match rdDraft x with
    | .ok q => if upB q = true then some q else none
    | .error _ => none
  | _ => none
def firstOf (first : Option DR) (p : DR) : DR := match first with
  | some f => f
  | none => p
def joinL : List D → Nat → Option DR → List Row → Int → Except Nat (DR × List Row)
  | [], k, none, _, _ => .error k
  | [], _, some f, rows, _ => .ok (f, rows)
  | d :: ds, k, first, rows, bh => match pageOf d with
    | none => .error k
    | some p => if k > 0 ∧ goB (firstOf first p).1 rows bh p = false then .error k else joinL ds (k + 1) (some (firstOf first p)) (rows ++ p.2.2.1) p.2.2.2
def joinEnd (K : Fr) (st : Sto) (Kd : D → Sto → Prop) (Kx : Addr → D → Sto → Prop) : Except Nat (DR × List Row) → Prop
  | .ok (f, rows) => ∀ st', Sub st st' → Kd (.tup [.str f.1, .int f.2.1, psD (rows.map fun r => (r.1, r.2.1))]) st'
  | .error n => ∀ st', Sub st st' → Kx (He.ga K "BadPages") (.int ((n : Nat) : Int)) st'
def strOk (x : Str) : Prop := PyData.strOk x = true
def PgD : D → Prop
  | .str x => x.length + 8 ≤ 16777216 ∧ strOk x
  | .non => True
  | .int _ => True
  | _ => False
def jpG : WG := (wGTup 2 (wGCons (wName 4) (wGCons (wName 5) wGNil)))
def jpTail (K : Fr) : WS := (wSeq (wIfS (wAndT (wB (wOp2 oGt (wVar 4) (wC (.int 0)))) (wNotT (wTru (wCall 2 ct_goes_on (wCons (wTup (wCons (wOp2 oIx (wVar 2) (wC (.int 0))) (wCons (wVar 1) (wCons (wVar 3) wNil)))) (wCons (wVar 6) wNil)))))) (wRaise (He.ga K "BadPages") (wCons (wVar 4) wNil)) wSkip) (wSeq (wExpr (wBM "list" oExtendT (wVar 1) (wCons (wOp2 oIx (wVar 6) (wC (.int 2))) wNil))) (wSet 3 (wOp2 oIx (wVar 6) (wC (.int 3))))))
def jpBody (K : Fr) : WS := (wSeq (wIfS (wOrT (wNotT (wTru (wCall 1 ct_is_draft (wCons (wVar 5) wNil)))) (wNotT (wTru (wCall 1 ct_adds_up (wCons (wVar 5) wNil))))) (wRaise (He.ga K "BadPages") (wCons (wVar 4) wNil)) wSkip) (wSeq (wSet 6 (wCall 1 (ct_read_draft K) (wCons (wVar 5) wNil))) (wSeq (wSet 2 (wOrT' (wVar 2) (wVar 6))) (jpTail K))))
def jpRet : WS := (wRet (wTup (wCons (wOp2 oIx (wVar 2) (wC (.int 0))) (wCons (wOp2 oIx (wVar 2) (wC (.int 1))) (wCons (wCB oTuple (wCons (wLc false [7] (wIt (wVar 1)) (wName 7) wYes (wSlA false (wVar 7) wPN (wPS (wC (.int 2))))) wNil)) wNil)))))
theorem kind_pg {st : Sto} {d : D} (h : PgD d) : (kindOf st d).isSome = true := by cases d <;> first | rfl | exact h.elim
theorem fit_pg {d : D} (h : PgD d) : FitD d := by cases d <;> first | exact h.1 | trivial
theorem isDr_cases (d : D) : (isDr d = false ∧ pageOf d = none) ∨ ∃ x q, d = .str x ∧ rdDraft x = .ok q ∧ isDr d = true := by
  cases d with
  | str x =>
    have e1 : isDr (.str x) = (match rdDraft x with | .ok _ => true | .error _ => false) := rfl
    have e2 : pageOf (.str x) = (match rdDraft x with
          | .ok q => if upB q = true then some q else none
          | .error _ => none) := rfl
    rw [e1, e2]
    cases q : rdDraft x with
    | ok r => exact .inr ⟨x, r, rfl, q, rfl⟩
    | error n => exact .inl ⟨rfl, rfl⟩
  | _ => exact .inl ⟨rfl, rfl⟩
def optF : Option DR → D
  | some f => drD f
  | none => .non
theorem jp_tail {K : Fr} {E : EndsD} {b : Addr} {pages : D} {f q : DR} {rows : List Row} {bh : Int} {k : Nat} {x : Str} {t : Sto} (ht : t b = some (.lst (rows.map rowD))) (hl : rows.length + q.2.2.1.length ≤ 1000000)
    (h1 : k > 0 ∧ goB f.1 rows bh q = false → ∀ g, g.st = t → E.ex (He.ga K "BadPages") (.int (k : Int)) g)
    (h2 : ¬ (k > 0 ∧ goB f.1 rows bh q = false) → E.nx ⟨[some pages, some (.ref b), some (drD f), some (.int q.2.2.2), some (.int (k : Int)), some (.str x), some (drD q), none], put t b (.lst ((rows ++ q.2.2.1).map rowD))⟩) :
    jpTail K E ⟨[some pages, some (.ref b), some (drD f), some (.int bh), some (.int (k : Int)), some (.str x), some (drD q), none], t⟩ := by
  have fin : ¬ (k > 0 ∧ goB f.1 rows bh q = false) → (wSeq (wExpr (wBM "list" oExtendT (wVar 1) (wCons (wOp2 oIx (wVar 6) (wC (.int 2))) wNil))) (wSet 3 (wOp2 oIx (wVar 6) (wC (.int 3))))) E ⟨[some pages, some (.ref b), some (drD f), some (.int bh), some (.int (k : Int)), some (.str x), some (drD q), none], t⟩ := fun z => by
    have h2 := h2 z
    unfold drD at h2 ⊢
    try trivial
    refine ⟨isT_ref ht, ?_⟩
    have i2 : atI [D.str q.1, .int q.2.1, .tup (q.2.2.1.map rowD), .int q.2.2.2] 2 = some (.tup (q.2.2.1.map rowD)) := rfl
    have i3 : atI [D.str q.1, .int q.2.1, .tup (q.2.2.1.map rowD), .int q.2.2.2] 3 = some (.int q.2.2.2) := rfl
    rw [oExtT_r]
    dsimp only
    rw [ht]
    try trivial
    rw [i3]
    try trivial
    refine ⟨by rw [sizeLine_eq]; omega, ?_⟩
    rw [← List.map_append]
    exact h2
  unfold jpTail
  by_cases c : k = 0
  · have fin := fin (by omega)
    generalize wSeq (wExpr _) _ = T at fin ⊢
    try trivial
    rw [if_neg (by simp [c])]
    exact fin
  · generalize eT : wSeq (wExpr _) _ = T at fin ⊢
    try trivial
    rw [if_pos (decide_eq_true (by omega))]
    unfold drD at fin ⊢
    try trivial
    refine ⟨by rw [sizeLine_eq]; decide, ?_⟩
    simp only [ct_goes_on]
    try trivial
    refine ⟨f.1, b, bh, rows, q, rfl, rfl, ht, ?_⟩
    cases e : goB f.1 rows bh q with
    | false =>
      try trivial
      exact h1 ⟨by omega, e⟩ _ rfl
    | true =>
      try trivial
      exact fin (fun z => by rw [e] at z; cases z.2)
def cut2D : D → D
  | .tup xs => .tup (cutD xs none (some 2))
  | d => d
theorem jp_loop {K : Fr} {Kd : D → Sto → Prop} {Kx : Addr → D → Sto → Prop} {st : Sto} {b : Addr} {pages : D} (nb : st b = none) : ∀ (ds : List D) (k : Nat) (first : Option DR) (rows : List Row) (bh : Int) (t : Sto) (s4 s5 s6 : Option D),
    (∀ d ∈ ds, PgD d) → rows.length + 500 * ds.length ≤ 600000 → (ds = [] → first.isSome = true) → Sub st t → t b = some (.lst (rows.map rowD)) → joinEnd K st Kd Kx (joinL ds k first rows bh) →
    loopD always jpG (jpBody K) { endsOf Kd Kx with nx := jpRet (endsOf Kd Kx) } (pairsN k ds) ⟨[some pages, some (.ref b), some (optF first), some (.int bh), s4, s5, s6, none], t⟩
  | [], k, first, rows, bh, t, s4, s5, s6, _, hl, hf, sub, ht, h => by
    refine ⟨True.intro, ?_⟩
    cases first with
    | none => cases hf rfl
    | some f =>
      unfold jpRet optF drD
      try trivial
      refine wLc_mapS (rows.map rowD) (fun s => s b = some (.lst (rows.map rowD))) cut2D (fun KI k => wIt_ref ht (fun Kv q => ?_) KI k) (fun p acc hp => stays ht p acc hp) (by rw [List.length_map, sizeLine_eq]; omega) (fun y hy p acc KT hp kt => ?_) ?_
      · try trivial
        exact q
      · obtain ⟨r, hr, rfl⟩ := List.mem_map.mp hy
        unfold rowD at kt ⊢
        simp only [wipeS, clrS]
        try trivial
        exact kt _ rfl
      · rw [List.map_map]
        try trivial
        refine ⟨by rw [sizeLine_eq]; decide, ?_⟩
        have e : rows.map (cut2D ∘ rowD) = (rows.map fun r => (r.1, r.2.1)).map fun p : Pst => D.tup [.int p.1, .int p.2] := by rw [List.map_map]; rfl
        rw [e]
        exact h _ sub
  | d :: ds, k, first, rows, bh, t, s4, s5, s6, hp, hl, hf, sub, ht, h => by
    refine ⟨True.intro, ?_⟩
    rw [List.length_cons] at hl
    have hd := hp d (by simp)
    have ih := fun (q : DR) (t' : Sto) (hq : q.2.2.1.length ≤ 500) (hs : Sub st t') (ht : t' b = some (.lst ((rows ++ q.2.2.1).map rowD))) s4 s5 s6 (he : joinEnd K st Kd Kx (joinL ds (k + 1) (some (firstOf first q)) (rows ++ q.2.2.1) q.2.2.2)) => jp_loop (K := K) (Kd := Kd) (Kx := Kx) (st := st) (b := b) (pages := pages) nb ds (k + 1) (some (firstOf first q)) (rows ++ q.2.2.1) q.2.2.2 t' s4 s5 s6 (fun z hz => hp z (List.mem_cons_of_mem _ hz)) (by rw [List.length_append]; omega) (fun _ => rfl) hs ht he
    show jpG (.tup [.int ((k : Nat) : Int), d]) _ fun g2 => jpBody K { endsOf Kd Kx with nx := loopD always jpG (jpBody K) { endsOf Kd Kx with nx := jpRet (endsOf Kd Kx) } (pairsN (k + 1) ds), ct := loopD always jpG (jpBody K) { endsOf Kd Kx with nx := jpRet (endsOf Kd Kx) } (pairsN (k + 1) ds), bk := jpRet (endsOf Kd Kx) } g2
    generalize loopD always jpG (jpBody K) { endsOf Kd Kx with nx := jpRet (endsOf Kd Kx) } (pairsN (k + 1) ds) = L at ih ⊢
    have h : joinEnd K st Kd Kx (match pageOf d with
      | none => .error k
      | some p => if k > 0 ∧ goB (firstOf first p).1 rows bh p = false then .error k else joinL ds (k + 1) (some (firstOf first p)) (rows ++ p.2.2.1) p.2.2.2) := h
    unfold jpG jpBody
    try trivial
    simp only [ct_is_draft]
    try trivial
    refine ⟨kind_pg hd, fit_pg hd, fun t1 s1 => ?_⟩
    have sub1 := sub.trans s1
    have ht1 := s1 _ _ ht
    rcases isDr_cases d with ⟨e, pn⟩ | ⟨x, q, rfl, hq, e⟩
    · rw [pn] at h
      rw [e]
      try trivial
      exact h _ sub1
    · have ep : pageOf (.str x) = if upB q = true then some q else none := by
        show (match rdDraft x with
          | .ok q => if upB q = true then some q else none
          | .error _ => none) = _
        rw [hq]
      have lq := rd_len hq
      rw [ep] at h
      rw [e]
      try trivial
      simp only [ct_adds_up]
      try trivial
      refine ⟨x, q, rfl, hd.1, hq, by omega, fun t2 s2 => ?_⟩
      have sub2 := sub1.trans s2
      have ht2 := s2 _ _ ht1
      cases e2 : upB q with
      | false =>
        rw [e2] at h
        try trivial
        exact h _ sub2
      | true =>
        rw [e2] at h
        have h : joinEnd K st Kd Kx (if k > 0 ∧ goB (firstOf first q).1 rows bh q = false then .error k else joinL ds (k + 1) (some (firstOf first q)) (rows ++ q.2.2.1) q.2.2.2) := h
        try trivial
        simp only [ct_read_draft, arg1_eq]
        refine ⟨kind_pg hd, hd.1, ?_⟩
        rw [hq]
        intro t3 s3
        have sub3 := sub2.trans s3
        have ht3 := s3 _ _ ht2
        rw [wOrT'_eq]
        try trivial
        have go : ∀ f, f = firstOf first q → jpTail K { endsOf Kd Kx with nx := L, ct := L, bk := jpRet (endsOf Kd Kx) } ⟨[some pages, some (.ref b), some (drD f), some (.int bh), some (.int (k : Int)), some (.str x), some (drD q), none], t3⟩ := by
          rintro f rfl
          refine jp_tail ht3 (by omega) (fun z g eg => ?_) (fun z => ?_)
          · rw [if_pos z] at h
            exact h _ (by rw [eg]; exact sub3)
          · rw [if_neg z] at h
            exact ih q _ lq (sub3.put nb) put_same _ _ _ h
        cases first with
        | none => exact go _ rfl
        | some f => exact go _ rfl
def jpOf (K : Fr) (st : Sto) (Kd : D → Sto → Prop) (Kx : Addr → D → Sto → Prop) : D → Prop
  | .tup (d :: ds) => (∀ z ∈ d :: ds, PgD z) ∧ ds.length ≤ 900 ∧ joinEnd K st Kd Kx (joinL (d :: ds) 0 none [] 0)
  | _ => Kx (He.ga K "BadPages") .non st
def ct_joined_pages (K : Fr) : CT := fun ds st Kd Kx => arg1 ds fun d => (kindOf st d).isSome = true ∧ jpOf K st Kd Kx d
def pPg : D → PyData
  | .str x => .str x
  | .int i => .int i
  | _ => .none
theorem pyL_pg : ∀ ds : List D, (∀ d ∈ ds, PgD d) → pyL ds = some (ds.map pPg)
  | [], _ => rfl
  | d :: ds, h => by
    have ih := pyL_pg ds fun z hz => h z (by simp [hz])
    have hd := h d (by simp)
    rw [pyL, ih]
    cases d <;> first | rfl | exact hd.elim
theorem lay_pg : ∀ ds : List D, (∀ d ∈ ds, PgD d) → PyData.canLayAll0 (ds.map pPg) = true ∧ PyData.depthAll (ds.map pPg) ≤ 0
  | [], _ => by simp [PyData.canLayAll0, PyData.depthAll]
  | d :: ds, h => by
    obtain ⟨a, c⟩ := lay_pg ds fun z hz => h z (by simp [hz])
    have hd := h d (by simp)
    have e : PyData.canLay0 (pPg d) = true ∧ PyData.depth (pPg d) ≤ 0 := by
      cases d <;> first | exact hd.elim | skip
      · simp [pPg, PyData.canLay0, PyData.depth]
      · simp [pPg, PyData.canLay0, PyData.depth]
      · have o : PyData.strOk _ = true := hd.2
        simp [pPg, PyData.canLay0, PyData.depth, o]
    constructor
    · simp [PyData.canLayAll0, e.1, a]
    · simp only [List.map_cons, PyData.depthAll]; omega
theorem eq_nil {st : Sto} {d : D} {ds : List D} {f : Bool → Prop} (h : ∀ z ∈ d :: ds, PgD z) (k : f false) : eqD st (.tup (d :: ds)) (.tup []) f := by
  have e : eqS (.tup (d :: ds)) (.tup []) = none := rfl
  unfold eqD
  rw [e]
  have e2 : pyT st (.tup (d :: ds)) = some (.tuple ((d :: ds).map pPg)) := by
    show (pyL (d :: ds)).map _ = _
    rw [pyL_pg _ h]; rfl
  have e3 : pyT st (.tup []) = some (.tuple []) := rfl
  simp only [e2, e3, opt_some]
  obtain ⟨a, c⟩ := lay_pg _ h
  refine ⟨⟨?_, rfl⟩, k⟩
  unfold SeqAt.shaped
  rw [Bool.and_eq_true_iff]
  exact ⟨a, decide_eq_true (by show PyData.depthAll _ + 1 ≤ 64; omega)⟩
theorem eq_nn {st : Sto} {f : Bool → Prop} (k : f true) : eqD st (.tup []) (.tup []) f := ⟨⟨rfl, rfl⟩, k⟩
theorem P_joined_pages {K : Fr} : ∀ ds st Kd Kx, ds.length = 1 → ct_joined_pages K ds st Kd Kx → W_joined_pages K ct_goes_on (ct_read_draft K) ct_adds_up ct_is_draft (endsOf Kd Kx) ⟨startD 8 ds, st⟩ := by
  intro ds st Kd Kx hl h0
  obtain ⟨d, rfl, hs, h⟩ := arg1_ok h0
  obtain ⟨k, hk⟩ := Option.isSome_iff_exists.mp hs
  have m := kind_mem hk
  show (wSeq (wIfS (wOrT (wNotT (wTru (wCB oIsT (wCons (wVar 0) (wCons (wC (.ty "tuple")) wNil))))) (wB (wOp2 oEq (wVar 0) (wTup wNil)))) (wRaise (He.ga K "BadPages") (wCons (wC .non) wNil)) wSkip) (wSeq (wSet 1 (wLst true wNil)) (wSeq (wSet 2 (wC .non)) (wSeq (wSet 3 (wC (.int 0))) (wSeq (wFor (wEnumT (wCons (wVar 0) wNil)) jpG (jpBody K)) jpRet))))) (endsOf Kd Kx) _
  by_cases e : (k == "tuple") = true
  · obtain ⟨xs, rfl⟩ := (kind_tup hk).mp e
    try trivial
    try simp only [hk, opt_some, kitB_tuple m, e, tru_bl, Bool.not_true, Bool.false_eq_true, if_false]
    try trivial
    cases xs with
    | nil =>
      exact ⟨Nat.zero_le _, eq_nn (by try trivial
                                      exact h)⟩
    | cons d ds =>
      obtain ⟨hp, hn, h⟩ := h
      refine ⟨Nat.zero_le _, eq_nil hp ?_⟩
      try trivial
      refine ⟨Nat.zero_le _, fun b nb => ?_⟩
      exact jp_loop nb (d :: ds) 0 none [] 0 _ none none none hp (by simp; omega) (fun z => by cases z) (Sub.refl.put nb) put_same h
  · have z : (k == "tuple") = false := by simpa using e
    have h' : Kx (He.ga K "BadPages") .non st := by
      cases d <;> first | exact h | (exact absurd ((kind_tup hk).mpr ⟨_, rfl⟩) e)
    try trivial
    simp only [hk, opt_some, kitB_tuple m, z, tru_bl, Bool.not_false, if_true]
    try exact h'
end L23

end SZG23

section SZH23
set_option Elab.async false
set_option linter.all false
set_option maxRecDepth 100000
namespace L23
open PySem L2 DL
theorem oSlA_lkd {b : Bool} {xs : List D} {lo hi : Option Int} {g : G} {K : KD} : oSlA b (.lkd xs) lo hi g K = newL b (cutD xs lo hi) g K := by
  show oSl b (.lkd xs) lo hi g K = _
  exact oSl_lkd
local macro_rules
  | `(tactic| trivial) => `(tactic| simp only [wVar_eq, wC, wOp2, wOp1, wB_eq, wChain_eq, wTru_eq, wAndT_eq, wOrT_eq, wNotT, wAndV_eq, wOrV_eq, wNotV_eq, wIf_eq, wNil, wCons, wTup, wLst, wCB, wSkip, wSeq, wBrk, wCnt, wExpr, wRet, wRetN, wIfS_eq, wName, wGNil, wGCons, wGTup, wAsg, wSet, wPar, wPar3, wCall, wCallK, wMakeK, wMethK, wFld, wSetF, wAugF, wGFld, wLPut, wSlA, oSlA_lkd, wPN, wPS, oSl_lkd, wRaise, wListRange, wIt_eq, wFor_eq, wEnumT_eq, wRng1_eq, wZipM, wFrz_eq, wFrzS_eq, oIsT, oLen, oLe, oLt, oGe, oGt, oMax2, oMin2, o2I, oI, oI0, oOrd, oIsN, wBM, wBM0, oS0, oS1, oSplit, oEq, oNe, oAbs, oDivmod, oGcd, oAdd_int, oNeg_int, oInt_int, oInt_bl, oIx_tup, oIx_lst, oIx_lkd, oIx_r, cellL_r, lstOf_lst, ixN0, ixN2, put_same, put_put, List.set, oTuple_lst, oTuple_tup, oSum_ints, oAll_bls, atI0, atI1, atI2, endsOf, startD, getS, setS, opt_some, asBl_bl, asInt_int, asStr_str, asTup_tup, arg1_eq, arg2_eq, arg3_eq, List.length_nil, List.length_cons, Bool.not_true, Bool.not_false, if_true, Bool.false_eq_true, if_false, true_and, List.length_map, tru_bl, newL_f, newL_t, lenOf_lst, lenOf_tup, lenOf_lkd, eqD_int, eqD_str, seqAt_tup, seqAt_lst, seqAt_lkd, itAny_tup, itAny_lst, itAny_lkd, lstAt_lst, kd_int, kd_tup, kt_ii, kt_ib, kt_tt])
/-! ### draws -/
theorem log2_small {n k : Nat} (hk : 0 < k) (h : n < 2 ^ k) : n.log2 < k := by
  by_cases e : n = 0
  · subst e; simpa using hk
  · exact (Nat.log2_lt e).mpr h
def ct__law_pot : CT := fun ds st Kd _ => arg2 ds fun d e => ∃ (ns : List Int) (k : Nat), d = .lkd (ns.map D.int) ∧ e = .int (k : Int) ∧ k < 1000 ∧ ∀ a t, st a = none → Pots st a 0 t → Kd (.ref a) t
theorem own_ok {x : Int} {b : Bool} : 0 ≤ x % ((10 : Int) ^ (60 : Int).toNat) ^ (5 : Int).toNat * (if b = true then 1 else 0) ∧ x % ((10 : Int) ^ (60 : Int).toNat) ^ (5 : Int).toNat * (if b = true then 1 else 0) < 10 ^ 300 := by
  have e : ((10 : Int) ^ (60 : Int).toNat) ^ (5 : Int).toNat = 10 ^ 300 := by decide +kernel
  rw [e]
  have h0 : (0 : Int) < 10 ^ 300 := by decide +kernel
  have h1 := Int.emod_nonneg x (Int.ne_of_gt h0)
  have h2 := Int.emod_lt_of_pos x h0
  generalize (10 : Int) ^ 300 = N at h0 h1 h2 ⊢
  cases b
  · simp only [Bool.false_eq_true, if_false]; omega
  · simp only [if_true]; omega
theorem pow1 : DL.PowOk 10 60 := by unfold DL.PowOk; decide +kernel
theorem pow2 : DL.PowOk ((10 : Int) ^ (60 : Int).toNat) 5 := by unfold DL.PowOk; decide +kernel
theorem pow3 : DL.PowOk 10 18 := by unfold DL.PowOk; decide +kernel
theorem mod1 {x : Int} : DL.ModOk x (((10 : Int) ^ (60 : Int).toNat) ^ (5 : Int).toNat) := by unfold DL.ModOk; decide +kernel
theorem P__law_pot {K : Fr} : ∀ ds st Kd Kx, ds.length = 2 → ct__law_pot ds st Kd Kx → W__law_pot K (endsOf Kd Kx) ⟨startD 5 ds, st⟩ := by
  intro ds st Kd Kx hl h0
  obtain ⟨_, _, rfl, ns, k, rfl, rfl, hk, h⟩ := arg2_ok h0
  have core : ∀ cell : Int, ∀ a, st a = none → Kd (.ref a) (put st a (.lst [.int ((if cell < 0 then -cell else cell) % ((10 : Int) ^ (60 : Int).toNat) ^ (5 : Int).toNat * (if (decide ((10 : Int) ^ (18 : Int).toNat ≤ (if cell < 0 then -cell else cell))) = true then 1 else 0)), .int ((cell % 2305843009213693951 * 91199 + 9949 * (k : Int) * (k : Int) + 1303) % 2305843009213693921), .int 0])) := fun cell a ha => by
    refine h a _ ha ⟨_, _, 0, rfl, own_ok, ?_, by decide, by decide⟩
    have h2 : (2 : Int) ^ 62 = 4611686018427387904 := by decide
    rw [h2]; omega
  have bools : ∀ b : Bool, DL.MulOk (0 : Int) (if b = true then 1 else 0) ∧ ∀ x : Int, DL.MulOk x (if b = true then 1 else 0) := fun b => by cases b <;> exact ⟨mul_r (by decide) (by decide), fun x => mul_r (by decide) (by decide)⟩
  have m1 : ∀ x : Int, DL.MulOk x 91199 := fun x => mul_r (by decide) (by decide)
  have m2 : DL.MulOk 9949 (k : Int) := mul_l (by decide) (by decide)
  have m3 : ∀ x : Int, DL.MulOk x (k : Int) := fun x => mul_r (by omega) (by omega)
  have m4 : DL.MulOk 9277 (k : Int) := mul_l (by decide) (by decide)
  have o1 : ∀ x : Int, DL.ModOk x 2305843009213693951 := fun _ => mod_ok (by decide)
  have o2 : ∀ x : Int, DL.ModOk x 2305843009213693921 := fun _ => mod_ok (by decide)
  have o3 : ∀ x : Int, DL.ModOk x 1000003 := fun _ => mod_ok (by decide)
  have z3 : 3 ≤ sizeLine := by rw [sizeLine_eq]; decide
  unfold W__law_pot
  trivial
  by_cases e : k < ns.length
  · have e1 : decide ((k : Int) < (ns.length : Int)) = true := decide_eq_true (by omega)
    have e2 : atI (ns.map D.int) (k : Int) = some (.int ns[k]) := atI_pos (by simp [e])
    rw [if_pos e1]
    simp only [e2, opt_some, asInt_int]
    trivial
    exact ⟨pow1, pow2, mod1, pow3, (bools _).2 _, o1 _, m1 _, m2, m3 _, o2 _, z3, fun a ha => core _ a ha⟩
  · have e1 : ¬ (decide ((k : Int) < (ns.length : Int)) = true) := by simp; omega
    rw [if_neg e1]
    obtain ⟨ys, ey, _⟩ := cutD_map D.int ns none (some 1)
    simp only [ey]
    trivial
    exact ⟨o3 _, m4, pow1, pow2, mod1, pow3, (bools _).2 _, o1 _, m1 _, m2, m3 _, o2 _, z3, fun a ha => core _ a ha⟩
theorem prime_ok (x : Int) : ∃ q, atI [D.int 2147483647, D.int 2147483629, D.int 2147483587, D.int 2147483579, D.int 2147483563] (x % 5) = some (.int q) ∧ 2147483563 ≤ q ∧ q ≤ 2147483647 := by
  have h0 := Int.emod_nonneg x (show (5 : Int) ≠ 0 by decide)
  have h1 := Int.emod_lt_of_pos x (show (0 : Int) < 5 by decide)
  generalize x % 5 = r at h0 h1
  have : r = 0 ∨ r = 1 ∨ r = 2 ∨ r = 3 ∨ r = 4 := by omega
  rcases this with rfl | rfl | rfl | rfl | rfl
  · exact ⟨_, rfl, by decide, by decide⟩
  · exact ⟨_, rfl, by decide, by decide⟩
  · exact ⟨_, rfl, by decide, by decide⟩
  · exact ⟨_, rfl, by decide, by decide⟩
  · exact ⟨_, rfl, by decide, by decide⟩
theorem nat200 {x : Int} (x0 : 0 ≤ x) (x1 : x < 2 ^ 200) : x.natAbs < 2 ^ 200 := by
  have e : ((2 : Int) ^ 200) = ((2 ^ 200 : Nat) : Int) := by decide +kernel
  rw [e] at x1
  omega
theorem sq0 {c : Int} (h : 0 ≤ c + 1) : 0 ≤ 108193 * (c + 1) * (c + 1) := Int.mul_nonneg (Int.mul_nonneg (by decide) h) h
theorem sq1 {c : Int} (h : 0 ≤ c + 1) (h2 : c + 1 ≤ 1000001) : 108193 * (c + 1) * (c + 1) ≤ 108193 * 1000001 * 1000001 := Int.mul_le_mul (Int.mul_le_mul_of_nonneg_left h2 (by decide)) h2 h (by decide)
def ct__law_take : CT := fun ds st Kd _ => arg2 ds fun p u => ∃ a n k, p = .ref a ∧ u = .int n ∧ (1 ≤ n ∧ n < 2 ^ 62) ∧ k ≤ 1000000 ∧ PotAt st a k ∧ ∀ j t, 0 ≤ j → j < n → Pots st a (k + 1) t → Kd (.int j) t
theorem P__law_take {K : Fr} : ∀ ds st Kd Kx, ds.length = 2 → ct__law_take ds st Kd Kx → W__law_take K (endsOf Kd Kx) ⟨startD 5 ds, st⟩ := by
  intro ds st Kd Kx hl h0
  obtain ⟨_, _, rfl, a, n, k, rfl, rfl, ⟨hn1, hn2⟩, hk, hp, h⟩ := arg2_ok h0
  obtain ⟨o, s, c, hat, ⟨ho1, ho2⟩, ⟨hs1, hs2⟩, hc1, hc2⟩ := hp.at
  unfold W__law_take
  trivial
  simp only [hat, potL]
  trivial
  have z5 : 0 + 1 + 1 + 1 + 1 + 1 ≤ sizeLine := by rw [sizeLine_eq]; decide
  by_cases e : 0 < o
  · rw [if_pos (decide_eq_true e)]
    try trivial
    simp only [hat, potL]
    try trivial
    refine ⟨mod_ok (by omega), div_ok (by omega) (by omega), h _ _ (Int.emod_nonneg _ (by omega)) (Int.emod_lt_of_pos _ (by omega)) ⟨_, _, _, rfl, ⟨Int.ediv_nonneg ho1 (by omega), Int.lt_of_le_of_lt (Int.ediv_le_self _ ho1) ho2⟩, ⟨hs1, hs2⟩, hc1, by omega⟩⟩
  · rw [if_neg (by simpa using e)]
    try trivial
    simp only [hat, potL]
    try trivial
    refine ⟨z5, mod_ok (by decide), ?_⟩
    obtain ⟨q, hq, q1, q2⟩ := prime_ok (c + 1)
    rw [hq]
    try trivial
    have pw : ∀ x : Int, 0 ≤ x → x < 2 ^ 200 → DL.PowOk x 3 := fun x x0 x1 => ⟨by decide, by
      have h1 : Builtin.Int.intBits x ≤ 200 := PyProof.Rows.intBits_le (nat200 x0 x1)
      have h2 : ((2 : Int) ^ 27) = 134217728 := by decide
      rw [h2]; omega⟩
    refine ⟨mul_l (by decide) (by decide), mul_r (by omega) (by omega), pw _ ?_ ?_, mod_ok (by omega), mod_ok (by decide), mul_l (by decide) (by decide), mul_r ?_ ?_, mod_ok (by decide), div_ok (by decide) (by decide), mod_ok (by omega), h _ _ (Int.emod_nonneg _ (by omega)) (Int.emod_lt_of_pos _ (by omega)) ⟨_, _, _, rfl, ⟨ho1, ho2⟩, ⟨hs1, hs2⟩, by omega, by omega⟩⟩
    · have m := sq0 (c := c) (by omega); omega
    · have m := sq1 (c := c) (by omega) (by omega)
      have e2 : (9223372036854775808 : Int) < 2 ^ 200 := by decide +kernel
      have e3 : (2 : Int) ^ 62 = 4611686018427387904 := by decide
      rw [e3] at hs2
      omega
    · have m := Int.emod_nonneg ((s + 108193 * (c + 1) * (c + 1) + 1307) ^ Int.toNat 3 % q) (show (10009 : Int) ≠ 0 by decide)
      omega
    · have m := Int.emod_lt_of_pos ((s + 108193 * (c + 1) * (c + 1) + 1307) ^ Int.toNat 3 % q) (show (0 : Int) < 10009 by decide)
      omega
def ct__law_of : CT := fun ds st Kd _ => arg2 ds fun p u => ∃ a xs k, p = .ref a ∧ u = .lst xs ∧ (1 ≤ xs.length ∧ xs.length ≤ 1000000) ∧ k ≤ 1000000 ∧ PotAt st a k ∧ ∀ x t, x ∈ xs → Pots st a (k + 1) t → Kd x t
theorem P__law_of {K : Fr} : ∀ ds st Kd Kx, ds.length = 2 → ct__law_of ds st Kd Kx → W__law_of K ct__law_take (endsOf Kd Kx) ⟨startD 2 ds, st⟩ := by
  intro ds st Kd Kx hl h0
  obtain ⟨_, _, rfl, a, xs, k, rfl, rfl, ⟨l1, l2⟩, hk, hp, h⟩ := arg2_ok h0
  unfold W__law_of
  trivial
  simp only [ct__law_take]
  try trivial
  refine ⟨a, _, k, rfl, rfl, ⟨by omega, by omega⟩, hk, hp, fun j t h1 h2 ht => ?_⟩
  try trivial
  obtain ⟨i, rfl⟩ := Int.eq_ofNat_of_zero_le h1
  have hi : i < xs.length := by omega
  have e : xs[i]? = some xs[i] := by simp [hi]
  rw [atI_pos e]
  exact h _ t (List.getElem_mem hi) ht
def ct__law_cells : CT := fun ds st Kd _ => arg2 ds fun p u => ∃ (xs : List D) (m : Nat), p = .lkd xs ∧ u = .int (m : Int) ∧ m < 1000 ∧ ∀ n : Nat, 1 ≤ n → n ≤ max 1 m → Kd (.lst (rngL 0 n)) st
theorem P__law_cells {K : Fr} : ∀ ds st Kd Kx, ds.length = 2 → ct__law_cells ds st Kd Kx → W__law_cells K (endsOf Kd Kx) ⟨startD 2 ds, st⟩ := by
  intro ds st Kd Kx hl h0
  obtain ⟨_, _, rfl, xs, m, rfl, rfl, hm, h⟩ := arg2_ok h0
  unfold W__law_cells
  trivial
  have key : ∃ n : Nat, (if (if (xs.length : Int) < m then (xs.length : Int) else m) > 1 then (if (xs.length : Int) < m then (xs.length : Int) else m) else 1) = (n : Int) ∧ 1 ≤ n ∧ n ≤ max 1 m := by
    refine ⟨max 1 (min m xs.length), ?_, by omega, by omega⟩
    split <;> split <;> omega
  obtain ⟨n, e, h1, h2⟩ := key
  rw [e]
  refine ⟨⟨by decide, by decide, by omega, by omega⟩, ?_⟩
  rw [Int.toNat_natCast]
  exact h n h1 h2
end L23

end SZH23

section SZI23

set_option Elab.async false
set_option linter.all false
set_option maxRecDepth 100000
namespace L23
open PySem L2 DL
local macro_rules
  | `(tactic| trivial) => `(tactic| simp only [wVar_eq, wC, wOp2, wOp1, wB_eq, wChain_eq, wTru_eq, wAndT_eq, wOrT_eq, wNotT, wAndV_eq, wOrV_eq, wNotV_eq, wIf_eq, wNil, wCons, wTup, wLst, wCB, wSkip, wSeq, wBrk, wCnt, wExpr, wRet, wRetN, wIfS_eq, wName, wGNil, wGCons, wGTup, wAsg, wSet, wPar, wPar3, wCall, wCallK, wMakeK, wMethK, wFld, wSetF, wAugF, wGFld, wLPut, wSlA, oSlA_tup, oSlA_lst, cutD_mapI, oMaxL_ints, wPN, wPS, oSl_lkd, wRaise, wListRange, wIt_eq, wFor_eq, wEnumT_eq, wRng1_eq, wZipM, wFrz_eq, wFrzS_eq, oIsT, oLen, oLe, oLt, oGe, oGt, oMax2, oMin2, o2I, oI, oI0, oOrd, oIsN, wBM, wBM0, oS0, oS1, oSplit, oEq, oNe, oAbs, oDivmod, oGcd, oAdd_int, oNeg_int, oInt_int, oInt_bl, oIx_tup, oIx_lst, oIx_lkd, oIx_r, cellL_r, lstOf_lst, ixN0, ixN2, put_same, put_put, List.set, oTuple_lst, oTuple_tup, oSum_ints, oSumT_ints, wRevT_eq, wAugI_eq, oAll_bls, atI0, atI1, atI2, endsOf, startD, getS, setS, opt_some, asBl_bl, asInt_int, asStr_str, asTup_tup, arg1_eq, arg2_eq, arg3_eq, List.length_nil, List.length_cons, Bool.not_true, Bool.not_false, if_true, Bool.false_eq_true, if_false, true_and, List.length_map, tru_bl, newL_f, newL_t, lenOf_lst, lenOf_tup, lenOf_lkd, eqD_int, eqD_str, seqAt_tup, seqAt_lst, seqAt_lkd, itAny_tup, itAny_lst, itAny_lkd, lstAt_lst, kd_int, kd_tup, kt_ii, kt_ib, kt_tt])
def Am (x : Int) : Prop := (-7 ≤ x ∧ x ≤ 7) ∨ x = 1000000000000 ∨ x = -1000000000000
theorem pw12 : DL.PowOk 10 12 := by unfold DL.PowOk; decide +kernel
theorem e12 : (10 : Int) ^ (12 : Int).toNat = 1000000000000 := by decide +kernel
theorem pw15 : DL.PowOk 10 15 := by unfold DL.PowOk; decide +kernel
theorem e15 : (10 : Int) ^ (15 : Int).toNat = 1000000000000000 := by decide +kernel
def ct__law_sums : CT := fun ds st Kd _ => arg2 ds fun p u => ∃ (a : Addr) (n k : Nat), p = .ref a ∧ u = .int (n : Int) ∧ n ≤ 9 ∧ k ≤ 900000 ∧ PotAt st a k ∧ ∀ (ns : List Int) t, ns.length = n → (∀ x ∈ ns, Am x) → Pots st a (k + 20) t → Kd (.lst (ns.map D.int)) t
theorem P__law_sums {K : Fr} : ∀ ds st Kd Kx, ds.length = 2 → ct__law_sums ds st Kd Kx → W__law_sums K ct__law_of ct__law_take (endsOf Kd Kx) ⟨startD 4 ds, st⟩ := by
  intro ds st Kd Kx hl h0
  obtain ⟨_, _, rfl, a, n, k, rfl, rfl, hn, hk, hp, h⟩ := arg2_ok h0
  unfold W__law_sums
  try trivial
  rw [wLc_eq]
  try trivial
  refine ⟨⟨by decide, by decide⟩, ?_⟩
  rw [show (3 : Int).toNat = 3 from rfl, rng_map]
  refine lcAt_inv (g := ⟨[some (.ref a), some (.int (n : Int)), none, none], st⟩) (fun i : Nat => D.int ((i : Nat) : Int)) (List.range 3) (fun rest acc u => ∃ ts : List Int, acc = ts.map D.int ∧ ts.length + rest.length = 3 ∧ (∀ x ∈ ts, Am x) ∧ Pots st a (k + ts.length) u) (sz (by simp)) ⟨[], rfl, by simp, by simp, hp⟩ ?_ ?_
  · rintro p i rest acc u KT KF ⟨ts, rfl, hl, bd, hu⟩ up k1 _
    have pa : p ≠ a := hu.pot.some up
    simp only [List.length_cons] at hl
    simp only [wipeS, clrS]
    try trivial
    simp only [ct__law_take]
    try trivial
    refine ⟨a, 9, _, rfl, rfl, ⟨by decide, by decide⟩, ?_, hu.pot.put pa, fun x v x0 x1 hv => ?_⟩
    · omega
    obtain ⟨v', rfl, hv'⟩ := hv.unput pa
    try trivial
    refine k1 (.int (x - 4)) v' ⟨ts ++ [x - 4], by simp, by simp; omega, fun y hy => ?_, ?_⟩ ?_ _ rfl
    · rcases List.mem_append.mp hy with hy | hy
      · exact bd y hy
      · rw [List.mem_singleton.mp hy]; exact .inl ⟨by omega, by omega⟩
    · exact (hu.trans hv').mono (by simp; omega)
    · rw [hv'.ne pa]; exact up
  rintro acc u ⟨ts, rfl, hl, bd, hu⟩
  have hl' : ts.length = 3 := by simpa using hl
  try trivial
  refine ⟨pw12, pw12, sz (by decide), ?_⟩
  rw [e12]
  simp only [ct__law_of]
  try trivial
  refine ⟨a, _, _, rfl, rfl, ⟨by simp, by simp⟩, ?_, hu.pot, fun y v hy hv => ?_⟩
  · omega
  obtain ⟨z, rfl, hz⟩ : ∃ z : Int, y = .int z ∧ Am z := by
    simp only [List.mem_cons, List.not_mem_nil, or_false] at hy
    rcases hy with rfl | rfl | rfl | rfl
    · exact ⟨_, rfl, .inr (.inl rfl)⟩
    · exact ⟨_, rfl, .inr (.inr rfl)⟩
    · exact ⟨_, rfl, .inl ⟨by decide, by decide⟩⟩
    · exact ⟨_, rfl, .inl ⟨by decide, by decide⟩⟩
  try trivial
  refine ⟨sz (by decide), ?_⟩
  have e1 : D.lst [D.int z] = .lst ([z].map D.int) := rfl
  rw [e1, oAdd_lst, ← List.map_append]
  refine ⟨sz (by simp; omega), ?_⟩
  have ham : ∀ x ∈ ts ++ [z], Am x := fun x hx => by
    rcases List.mem_append.mp hx with hx | hx
    · exact bd x hx
    · rw [List.mem_singleton.mp hx]; exact hz
  have hlen : (ts ++ [z]).length = 4 := by simp [hl']
  have hpv : Pots st a (k + 4) v := (hu.trans hv).mono (by omega)
  generalize ts ++ [z] = some_ at ham hlen ⊢
  rw [wLc_eq]
  try trivial
  refine ⟨⟨by omega, by omega⟩, ?_⟩
  rw [Int.toNat_natCast, rng_map]
  refine lcAt_inv (g := ⟨[some (.ref a), some (.int (n : Int)), some (.lst (some_.map D.int)), none], v⟩) (fun i : Nat => D.int ((i : Nat) : Int)) (List.range n) (fun rest acc u => ∃ cs : List Int, acc = cs.map D.int ∧ cs.length + rest.length = n ∧ (∀ x ∈ cs, Am x) ∧ Pots st a (k + 4 + cs.length) u) (sz (by simp; omega)) ⟨[], rfl, by simp, by simp, hpv.mono (Nat.le_add_right _ _)⟩ ?_ ?_
  · rintro p i rest acc u KT KF ⟨cs, rfl, hl, bc, hu⟩ up k1 _
    have pa : p ≠ a := hu.pot.some up
    simp only [List.length_cons] at hl
    simp only [wipeS, clrS]
    try trivial
    simp only [ct__law_of]
    try trivial
    refine ⟨a, _, _, rfl, rfl, ⟨by simp [hlen], by simp [hlen]⟩, ?_, hu.pot.put pa, fun y w hy hw => ?_⟩
    · omega
    obtain ⟨w', rfl, hw'⟩ := hw.unput pa
    obtain ⟨x, hx, rfl⟩ := List.mem_map.mp hy
    try trivial
    refine k1 (.int x) w' ⟨cs ++ [x], by simp, by simp; omega, fun y hy => ?_, ?_⟩ ?_ _ rfl
    · rcases List.mem_append.mp hy with hy | hy
      · exact bc y hy
      · rw [List.mem_singleton.mp hy]; exact ham x hx
    · exact (hu.trans hw').mono (by simp; omega)
    · rw [hw'.ne pa]; exact up
  rintro acc u ⟨cs, rfl, hl, bc, hu⟩
  have hc : cs.length = n := by simpa using hl
  exact h cs u hc bc (hu.mono (by omega))
end L23

end SZI23

section SZJ23

set_option Elab.async false
set_option linter.all false
set_option maxRecDepth 100000
namespace L23
open PySem L2 DL
local macro_rules
  | `(tactic| trivial) => `(tactic| simp only [wVar_eq, wC, wOp2, wOp1, wB_eq, wChain_eq, wTru_eq, wAndT_eq, wOrT_eq, wNotT, wAndV_eq, wOrV_eq, wNotV_eq, wIf_eq, wNil, wCons, wTup, wLst, wCB, wSkip, wSeq, wBrk, wCnt, wExpr, wRet, wRetN, wIfS_eq, wName, wGNil, wGCons, wGTup, wAsg, wSet, wPar, wPar3, wCall, wCallK, wMakeK, wMethK, wFld, wSetF, wAugF, wGFld, wLPut, wSlA, oSlA_tup, oSlA_lst, cutD_mapI, oMaxL_ints, wPN, wPS, oSl_lkd, wRaise, wListRange, wIt_eq, wFor_eq, wEnumT_eq, wRng1_eq, wZipM, wFrz_eq, wFrzS_eq, oIsT, oLen, oLe, oLt, oGe, oGt, oMax2, oMin2, o2I, oI, oI0, oOrd, oIsN, wBM, wBM0, oS0, oS1, oSplit, oEq, oNe, oAbs, oDivmod, oGcd, oAdd_int, oNeg_int, oInt_int, oInt_bl, oIx_tup, oIx_lst, oIx_lkd, oIx_r, cellL_r, lstOf_lst, ixN0, ixN2, put_same, put_put, List.set, oTuple_lst, oTuple_tup, oSum_ints, oSumT_ints, wRevT_eq, wAugI_eq, oAll_bls, atI0, atI1, atI2, endsOf, startD, getS, setS, opt_some, asBl_bl, asInt_int, asStr_str, asTup_tup, arg1_eq, arg2_eq, arg3_eq, List.length_nil, List.length_cons, Bool.not_true, Bool.not_false, if_true, Bool.false_eq_true, if_false, true_and, List.length_map, tru_bl, newL_f, newL_t, lenOf_lst, lenOf_tup, lenOf_lkd, eqD_int, eqD_str, seqAt_tup, seqAt_lst, seqAt_lkd, itAny_tup, itAny_lst, itAny_lkd, lstAt_lst, kd_int, kd_tup, kt_ii, kt_ib, kt_tt])
def Over (a : Addr) (f : Sto → Sto) : Prop := ∀ t c, f (put t a c) = put (f t) a c
theorem Over.id {a : Addr} : Over a fun t => t := fun _ _ => rfl
theorem Over.put {a b : Addr} {f : Sto → Sto} {c : Cell} (h : Over a f) (n : b ≠ a) : Over a fun t => DL.put (f t) b c := fun t d => by
  show DL.put (f (DL.put t a d)) b c = _
  rw [h, put_comm (Ne.symm n)]
theorem Over.pot {a : Addr} {f : Sto → Sto} {st t : Sto} {k : Nat} (h : Over a f) (p : Pots st a k t) : PotAt (f t) a k := by
  obtain ⟨o, s, c, e, r⟩ := p.pot
  exact ⟨o, s, c, by rw [← h, ← e], r⟩
theorem Over.back {a : Addr} {f : Sto → Sto} {st t t' : Sto} {k j : Nat} (h : Over a f) (p : Pots st a k t) (p' : Pots (f t) a j t') : ∃ u, t' = f u ∧ Pots st a j u := by
  obtain ⟨o, s, c, rfl, r⟩ := p'
  exact ⟨DL.put t a (.lst (potL o s c)), (h _ _).symm, p.trans ⟨o, s, c, rfl, r⟩⟩
def AscP : Int → List Pst → Prop
  | _, [] => True
  | last, p :: r => (last + 1 ≤ p.1 ∧ p.1 ≤ last + 3) ∧ AscP p.1 r
def lastP : Int → List Pst → Int
  | l, [] => l
  | _, p :: r => lastP p.1 r
theorem ascP_snoc : ∀ (ps : List Pst) (l : Int) (p : Pst), AscP l ps → (lastP l ps + 1 ≤ p.1 ∧ p.1 ≤ lastP l ps + 3) → AscP l (ps ++ [p])
  | [], l, p, _, h => ⟨h, trivial⟩
  | q :: r, l, p, ⟨h1, h2⟩, h => ⟨h1, ascP_snoc r q.1 p h2 h⟩
theorem lastP_snoc : ∀ (ps : List Pst) (l : Int) (p : Pst), lastP l (ps ++ [p]) = p.1
  | [], l, p => rfl
  | q :: r, l, p => lastP_snoc r q.1 p
theorem lastP_bd : ∀ (ps : List Pst) (l : Int), AscP l ps → l ≤ lastP l ps ∧ lastP l ps ≤ l + 3 * ps.length
  | [], l, _ => ⟨Int.le_refl _, by unfold lastP; simp⟩
  | q :: r, l, ⟨h1, h2⟩ => by
    have := lastP_bd r q.1 h2
    show l ≤ lastP q.1 r ∧ lastP q.1 r ≤ l + 3 * ((r.length + 1 : Nat) : Int)
    omega
theorem balR_snoc : ∀ (ps : List Pst) (h : Int) (p : Pst), balR h (ps ++ [p]) = balR h ps ++ [(p.1, p.2, endB h ps + p.2)]
  | [], h, p => rfl
  | q :: r, h, p => by
    show (q.1, q.2, h + q.2) :: balR (h + q.2) (r ++ [p]) = _
    rw [balR_snoc r]; rfl
structure OwnOk (nm : Str) (bf : Int) (ps : List Pst) : Prop where
  nm : nm = "a.ann" ∨ nm = "east.b" ∨ nm = "posting.before" ∨ nm = "abcdefgh.abcdefgh"
  bf : bf = 0 ∨ bf = 100 ∨ bf = -5 ∨ bf = 1000000000000000 ∨ bf = -1000000000000000
  len : ps.length ≤ 9
  am : ∀ p ∈ ps, Am p.2
  asc : AscP 0 ps
def rlD (r : Row) : D := .lst [.int r.1, .int r.2.1, .int r.2.2]
def ownK1 (nm : Str) (b : Addr) : List (Key × D) := [(.inr "account", .str nm), (.inr "rows", .ref b)]
def ownK2 (nm : Str) (b : Addr) (bf : Int) : List (Key × D) := [(.inr "account", .str nm), (.inr "rows", .ref b), (.inr "before", .int bf)]
def ownKs (nm : Str) (rv : D) (bf bh : Int) : List (Key × D) := [(.inr "account", .str nm), (.inr "rows", rv), (.inr "before", .int bf), (.inr "behind", .int bh)]
abbrev kA : Key := .inr "account"
abbrev kR : Key := .inr "rows"
abbrev kB : Key := .inr "before"
abbrev kE : Key := .inr "behind"
theorem d_ar : decide (kA = kR) = false := by decide +kernel
theorem d_ab : decide (kA = kB) = false := by decide +kernel
theorem d_ae : decide (kA = kE) = false := by decide +kernel
theorem d_rb : decide (kR = kB) = false := by decide +kernel
theorem d_re : decide (kR = kE) = false := by decide +kernel
theorem d_be : decide (kB = kE) = false := by decide +kernel
theorem d_br : decide (kB = kR) = false := by decide +kernel
theorem d_ra : decide (kR = kA) = false := by decide +kernel
theorem v_a {nm : Str} {rv : D} {bf bh : Int} : valD (ownKs nm rv bf bh) kA = some (.str nm) := by simp only [valD, ownKs, List.find?, decide_true, Option.map]
theorem v_r {nm : Str} {rv : D} {bf bh : Int} : valD (ownKs nm rv bf bh) kR = some rv := by simp only [valD, ownKs, List.find?, d_ar, decide_true, Option.map]
theorem v_b {nm : Str} {rv : D} {bf bh : Int} : valD (ownKs nm rv bf bh) kB = some (.int bf) := by simp only [valD, ownKs, List.find?, d_ab, d_rb, decide_true, Option.map]
theorem v_e {nm : Str} {rv : D} {bf bh : Int} : valD (ownKs nm rv bf bh) kE = some (.int bh) := by simp only [valD, ownKs, List.find?, d_ae, d_re, d_be, decide_true, Option.map]
theorem v2_b {nm : Str} {b : Addr} {bf : Int} : valD (ownK2 nm b bf) kB = some (.int bf) := by simp only [valD, ownK2, List.find?, d_ab, d_rb, decide_true, Option.map]
theorem v2_r {nm : Str} {b : Addr} {bf : Int} : valD (ownK2 nm b bf) kR = some (.ref b) := by simp only [valD, ownK2, List.find?, d_ar, decide_true, Option.map]
theorem m1 {nm : Str} {b : Addr} : mergeD [] [(.inr "account", .str nm), (.inr "rows", .ref b)] = ownK1 nm b := by
  simp only [ownK1, mergeD, List.foldl, putKD, List.any, List.nil_append, List.cons_append, d_ar, Bool.or_false, Bool.false_or, Bool.false_eq_true, if_false]
theorem p2 {nm : Str} {b : Addr} {bf : Int} : putKD (ownK1 nm b) kB (.int bf) = ownK2 nm b bf := by
  simp only [putKD, ownK1, ownK2, List.any, d_ab, d_rb, Bool.or_false, Bool.false_eq_true, if_false, List.cons_append, List.nil_append]
theorem p3 {nm : Str} {b : Addr} {bf bh : Int} : putKD (ownK2 nm b bf) kE (.int bh) = ownKs nm (.ref b) bf bh := by
  simp only [putKD, ownKs, ownK2, List.any, d_ae, d_re, d_be, Bool.or_false, Bool.false_eq_true, if_false, List.cons_append, List.nil_append]
theorem cellD_at {a : Addr} {st : Sto} {xs : List (Key × D)} {f : Addr → List (Key × D) → Prop} (e : st a = some (.dic xs)) : cellD (.ref a) st f = f a xs := by unfold cellD; simp only [e]
theorem dicAt_at {a : Addr} {st : Sto} {xs : List (Key × D)} (e : st a = some (.dic xs)) : dicAt st (.ref a) = some xs := by unfold dicAt; simp only [e]
theorem k_a : keyD (.str "account") = some kA := rfl
theorem k_r : keyD (.str "rows") = some kR := rfl
theorem k_b : keyD (.str "before") = some kB := rfl
theorem k_e : keyD (.str "behind") = some kE := rfl
/-- what stood at other addresses stays -/
def SubX (a : Addr) (s t : Sto) : Prop := ∀ x c, x ≠ a → s x = some c → t x = some c
def ct__law_own_draft : CT := fun ds st Kd _ => arg2 ds fun p u => ∃ (a : Addr) (k : Nat), p = .ref a ∧ u = .int 9 ∧ k ≤ 800000 ∧ PotAt st a k ∧ ∀ (nm : Str) (bf : Int) (ps : List Pst) (b : Addr) (t : Sto), OwnOk nm bf ps → b ≠ a → st b = none → t b = some (.lst ((balR bf ps).map rlD)) → SubX a st t → PotAt t a (k + 60) → Kd (.dic (ownKs nm (.ref b) bf (endB bf ps))) t
theorem wDPut_eq {wo wi wv : WE} {K : EndsD} {g : G} : wDPut wo wi wv K g = wv g (fun v g1 => wo g1 (fun d g2 => wi g2 (fun y g3 => cellD d g3.st fun a kvs => opt (keyD y) fun k => kvs.length < sizeLine ∧ K.nx ⟨g3.sl, put g3.st a (.dic (putKD kvs k v))⟩) K.ex) K.ex) K.ex := id rfl
theorem wDGet_eq {wo wi : WE} {g : G} {K : KD} {X : XD} : wDGet wo wi g K X = wo g (fun d g1 => wi g1 (fun y g2 => opt (dicAt g2.st d) fun kvs => opt (keyD y) fun k => opt (valD kvs k) fun v => K v g2) X) X := id rfl
def odBody : WS := (wSeq (wPar 3 5 (wCons (wOp2 (oAdd false) (wOp2 (oAdd false) (wVar 3) (wC (.int 1))) (wCall 2 ct__law_take (wCons (wVar 0) (wCons (wC (.int 3)) wNil)))) (wCons (wOp2 (oAdd false) (wVar 5) (wVar 6)) wNil))) (wExpr (wBM "list" oAppend (wDGet (wVar 4) (wC (.str "rows"))) (wCons (wLst false (wCons (wCB oInt (wCons (wVar 3) wNil)) (wCons (wCB oInt (wCons (wVar 6) wNil)) (wCons (wCB oInt (wCons (wVar 5) wNil)) wNil)))) wNil))))
theorem frz_dic {sl : List (Option D)} {t : Sto} {p : Addr} {kvs : List (Key × D)} {K : KD} (h : t p = none) : frz ⟨sl, put t p (.dic kvs)⟩ (.ref p) K = K (.dic kvs) ⟨sl, t⟩ := by
  unfold frz
  simp only [put_same]
  rw [drop_put h]
theorem P__law_own_draft {K : Fr} : ∀ ds st Kd Kx, ds.length = 2 → ct__law_own_draft ds st Kd Kx → W__law_own_draft K ct__law_sums ct__law_take ct__law_of (endsOf Kd Kx) ⟨startD 7 ds, st⟩ := by
  intro ds st Kd Kx hl h0
  obtain ⟨_, _, rfl, a, k, rfl, rfl, hk, hp, h⟩ := arg2_ok h0
  unfold W__law_own_draft
  try trivial
  simp only [ct__law_take]
  try trivial
  refine ⟨a, 10, k, rfl, rfl, ⟨by decide, by decide⟩, by omega, hp, fun j t1 j0 j1 h1 => ?_⟩
  obtain ⟨n, rfl⟩ := Int.eq_ofNat_of_zero_le j0
  unfold wDisp wPCons wPNil
  intro p np
  have pa : p ≠ a := h1.pot.some np
  try trivial
  refine ⟨sz (by decide), ?_⟩
  simp only [ct__law_of]
  try trivial
  refine ⟨a, _, _, rfl, rfl, ⟨by simp, by simp⟩, ?_, h1.pot.put pa, fun y t2' hy h2 => ?_⟩
  · omega
  obtain ⟨t2, rfl, h2b⟩ := h2.unput pa
  obtain ⟨nm, rfl, hnm⟩ : ∃ nm : Str, y = .str nm ∧ (nm = "a.ann" ∨ nm = "east.b" ∨ nm = "posting.before" ∨ nm = "abcdefgh.abcdefgh") := by
    simp only [List.mem_cons, List.not_mem_nil, or_false] at hy
    rcases hy with rfl | rfl | rfl | rfl
    · exact ⟨_, rfl, .inl rfl⟩
    · exact ⟨_, rfl, .inr (.inl rfl)⟩
    · exact ⟨_, rfl, .inr (.inr (.inl rfl))⟩
    · exact ⟨_, rfl, .inr (.inr (.inr rfl))⟩
  try trivial
  refine ⟨Nat.zero_le _, fun b nb => ?_⟩
  have bp : b ≠ p := fun e => by rw [e, put_same] at nb; cases nb
  have nb2 : t2 b = none := by rw [put_ne bp] at nb; exact nb
  have ba : b ≠ a := h2b.pot.some nb2
  have ht2 : Pots st a (k + 2) t2 := (h1.trans h2b).mono (by omega)
  have o2 : ∀ {L F : Cell}, Over a fun t => put (put t b L) p F := fun {L F} => (Over.id.put ba).put pa
  refine ⟨by rw [put_ne (Ne.symm bp), put_same], ?_⟩
  have ek : keysD [(D.str "account", D.str nm), (D.str "rows", D.ref b)] = some [(kA, .str nm), (kR, .ref b)] := rfl
  rw [ek]
  try trivial
  refine ⟨by decide, ?_⟩
  rw [m1]
  rw [wDPut_eq]
  try trivial
  refine ⟨pw15, pw15, sz (by decide), ?_⟩
  rw [e15]
  try trivial
  have eo : put (put (put t2 p (.dic [])) b (.lst [])) p (.dic (ownK1 nm b)) = put (put t2 b (.lst [])) p (.dic (ownK1 nm b)) := by
    rw [put_comm (Ne.symm bp), put_put]
  rw [eo]
  refine ⟨a, _, _, rfl, rfl, ⟨by simp, by simp⟩, ?_, o2.pot ht2, fun y t3' hy h3 => ?_⟩
  · omega
  obtain ⟨t3, rfl, h3b⟩ := o2.back ht2 h3
  obtain ⟨bf, rfl, hbf⟩ : ∃ bf : Int, y = .int bf ∧ (bf = 0 ∨ bf = 100 ∨ bf = -5 ∨ bf = 1000000000000000 ∨ bf = -1000000000000000) := by
    simp only [List.mem_cons, List.not_mem_nil, or_false] at hy
    rcases hy with rfl | rfl | rfl | rfl | rfl | rfl
    · exact ⟨_, rfl, by simp⟩
    · exact ⟨_, rfl, by simp⟩
    · exact ⟨_, rfl, by simp⟩
    · exact ⟨_, rfl, by simp⟩
    · exact ⟨_, rfl, by simp⟩
    · exact ⟨_, rfl, by simp⟩
  try trivial
  rw [cellD_at put_same]
  simp only [k_b, opt_some]
  refine ⟨sz' (by show 2 < 16777216; decide), ?_⟩
  rw [put_put, p2]
  rw [wDGet_eq]
  try trivial
  rw [dicAt_at put_same]
  simp only [k_b, opt_some, v2_b]
  try trivial
  simp only [ct__law_sums]
  try trivial
  have ht3 : Pots st a (k + 3) t3 := h3b.mono (by omega)
  refine ⟨a, n, _, rfl, rfl, by omega, ?_, o2.pot ht3, fun ns t4' nl ham h4 => ?_⟩
  · omega
  obtain ⟨t4, rfl, h4b⟩ := o2.back ht3 h4
  try trivial
  have hsub : ∀ u j, Pots st a j u → ∀ x c, x ≠ a → st x = some c → u x = some c := fun u j hu x c hx hc => by rw [hu.ne hx]; exact hc
  have nst : st b = none := by
    have := ht2.ne ba
    rw [← this]; exact nb2
  have npst : st p = none := by
    have := h1.ne pa
    rw [← this]; exact np
  refine loopM D.int (fun rest g => ∃ (ps : List Pst) (u : Sto) (s6 : Option D), AscP 0 ps ∧ ps.length + rest.length = n ∧ (∀ q ∈ ps, Am q.2) ∧ (∀ x ∈ rest, Am x) ∧ Pots st a (k + 30 + ps.length) u ∧ g = ⟨[some (.ref a), some (.int 9), some (.int (n : Int)), some (.int (lastP 0 ps)), some (.ref p), some (.int (endB bf ps)), s6], put (put u b (.lst ((balR bf ps).map rlD))) p (.dic (ownK2 nm b bf))⟩) ?_ ?_ ns _ ⟨[], t4, none, trivial, by simpa using nl, by simp, ham, h4b.mono (by simp only [List.length_nil]; omega), rfl⟩
  · rintro x rest g N kk ⟨ps, u, s6, as, hl, am, ar, hu, rfl⟩
    rw [List.length_cons] at hl
    refine ⟨True.intro, ?_⟩
    show odBody { nx := N, rt := _, bk := _, ct := N, ex := _ } ⟨[some (.ref a), some (.int 9), some (.int (n : Int)), some (.int (lastP 0 ps)), some (.ref p), some (.int (endB bf ps)), some (.int x)], put (put u b (.lst ((balR bf ps).map rlD))) p (.dic (ownK2 nm b bf))⟩
    unfold odBody
    try trivial
    simp only [ct__law_take]
    try trivial
    refine ⟨a, 3, _, rfl, rfl, ⟨by decide, by decide⟩, ?_, o2.pot hu, fun i t' i0 i1 ht' => ?_⟩
    · omega
    obtain ⟨u2, rfl, hu2⟩ := o2.back hu ht'
    try trivial
    rw [wDGet_eq]
    try trivial
    rw [dicAt_at put_same]
    simp only [k_r, opt_some, v2_r]
    have rb : put (put u2 b (.lst ((balR bf ps).map rlD))) p (.dic (ownK2 nm b bf)) b = some (.lst ((balR bf ps).map rlD)) := by rw [put_ne bp, put_same]
    refine ⟨isT_ref rb, ?_⟩
    try trivial
    refine ⟨sz (by decide), ?_⟩
    rw [oApp_r]
    dsimp only
    rw [rb]
    try trivial
    refine ⟨sz' (by rw [balR_length]; omega), ?_⟩
    have ep : put (put (put u2 b (.lst ((balR bf ps).map rlD))) p (.dic (ownK2 nm b bf))) b (.lst ((balR bf ps).map rlD ++ [D.lst [D.int (lastP 0 ps + 1 + i), D.int x, D.int (endB bf ps + x)]])) = put (put u2 b (.lst ((balR bf (ps ++ [(lastP 0 ps + 1 + i, x)])).map rlD))) p (.dic (ownK2 nm b bf)) := by
      rw [put_comm (Ne.symm bp), put_put, balR_snoc, List.map_append]; rfl
    rw [ep]
    refine kk _ ⟨ps ++ [(lastP 0 ps + 1 + i, x)], u2, some (.int x), ascP_snoc ps 0 _ as ⟨by show lastP 0 ps + 1 ≤ lastP 0 ps + 1 + i; omega, by show lastP 0 ps + 1 + i ≤ lastP 0 ps + 3; omega⟩, by rw [List.length_append]; simp; omega, fun q hq => ?_, fun z hz => ar z (List.mem_cons_of_mem _ hz), hu2.mono (by rw [List.length_append]; simp; omega), ?_⟩
    · rcases List.mem_append.mp hq with hq | hq
      · exact am q hq
      · rw [List.mem_singleton.mp hq]; exact ar x (by simp)
    · rw [lastP_snoc, endB_app]; rfl
  · rintro g ⟨ps, u, s6, as, hl, am, ar, hu, rfl⟩
    refine ⟨True.intro, ?_⟩
    try trivial
    rw [wDPut_eq]
    try trivial
    rw [cellD_at put_same]
    simp only [k_e, opt_some]
    refine ⟨sz' (by show 3 < 16777216; decide), ?_⟩
    rw [put_put, p3]
    have l0 : ps.length = n := by simpa using hl
    have up : u p = none := by rw [hu.ne pa]; exact npst
    rw [frz_dic (by rw [put_ne (Ne.symm bp)]; exact up)]
    try trivial
    show Kd (.dic (ownKs nm (.ref b) bf (endB bf ps))) _
    refine h nm bf ps b _ ⟨hnm, hbf, by omega, am, as⟩ ba nst put_same (fun x c hx hc => ?_) ?_
    · have : x ≠ b := fun e => by rw [e, nst] at hc; cases hc
      dsimp only
      rw [put_ne this]; exact hsub u _ hu x c hx hc
    · exact ((hu.pot.put ba).mono (by omega))
end L23

end SZJ23

section SZK23

set_option Elab.async false
set_option linter.all false
set_option maxRecDepth 100000
namespace L23
open PySem L2 DL
local macro_rules
  | `(tactic| trivial) => `(tactic| simp only [wVar_eq, wC, wOp2, wOp1, wB_eq, wChain_eq, wTru_eq, wAndT_eq, wOrT_eq, wNotT, wAndV_eq, wOrV_eq, wNotV_eq, wIf_eq, wNil, wCons, wTup, wLst, wCB, wSkip, wSeq, wBrk, wCnt, wExpr, wRet, wRetN, wIfS_eq, wName, wGNil, wGCons, wGTup, wAsg, wSet, wPar, wPar3, wCall, wCallK, wMakeK, wMethK, wFld, wSetF, wAugF, wGFld, wLPut, wSlA, oSlA_tup, oSlA_lst, cutD_mapI, oMaxL_ints, wPN, wPS, oSl_lkd, wRaise, wListRange, wIt_eq, wFor_eq, wEnumT_eq, wRng1_eq, wZipM, wFrz_eq, wFrzS_eq, oIsT, oLen, oLe, oLt, oGe, oGt, oMax2, oMin2, o2I, oI, oI0, oOrd, oIsN, wBM, wBM0, oS0, oS1, oSplit, oEq, oNe, oAbs, oDivmod, oGcd, oAdd_int, oNeg_int, oInt_int, oInt_bl, oIx_tup, oIx_lst, oIx_lkd, oIx_r, cellL_r, lstOf_lst, ixN0, ixN2, put_same, put_put, List.set, oTuple_lst, oTuple_tup, oSum_ints, oSumT_ints, wRevT_eq, wAugI_eq, oAll_bls, atI0, atI1, atI2, endsOf, startD, getS, setS, opt_some, asBl_bl, asInt_int, asStr_str, asTup_tup, arg1_eq, arg2_eq, arg3_eq, List.length_nil, List.length_cons, Bool.not_true, Bool.not_false, if_true, Bool.false_eq_true, if_false, true_and, List.length_map, tru_bl, newL_f, newL_t, lenOf_lst, lenOf_tup, lenOf_lkd, eqD_int, eqD_str, seqAt_tup, seqAt_lst, seqAt_lkd, itAny_tup, itAny_lst, itAny_lkd, lstAt_lst, kd_int, kd_tup, kt_ii, kt_ib, kt_tt])
theorem oAdd_str {s t : Str} {b : Bool} {g : G} {K : KD} : oAdd b (.str s) (.str t) g K = (s.length + t.length ≤ sizeLine ∧ K (.str (s ++ t)) g) := id rfl
def RowsAt (st : Sto) (rv : D) (rows : List Row) : Prop := rv = .lst (rows.map rlD) ∨ ∃ b, rv = .ref b ∧ st b = some (.lst (rows.map rlD))
/-- an own draft: its dict, or the dict in a cell -/
structure OwnAt (st : Sto) (d : D) (nm : Str) (bf : Int) (rows : List Row) (bh : Int) : Prop where
  ex : ∃ kvs rv, dicAt st d = some kvs ∧ valD kvs kA = some (.str nm) ∧ valD kvs kB = some (.int bf) ∧ valD kvs kE = some (.int bh) ∧ valD kvs kR = some rv ∧ RowsAt st rv rows
/-- an own draft of this shape can be written -/
structure TxQ (q : DR) : Prop where
  al : q.1.length ≤ 20
  bf : Sm q.2.1
  bh : Sm q.2.2.2
  len : q.2.2.1.length ≤ 500
  rows : ∀ r ∈ q.2.2.1, Sm r.1 ∧ Sm r.2.1 ∧ Sm r.2.2
theorem TxQ.lines {q : DR} (ok : TxQ q) : ∀ l ∈ draftLines q, l.length ≤ 200 := by
  intro l hl
  have al := ok.al
  unfold draftLines at hl
  rcases List.mem_cons.mp hl with rfl | hl
  · show (stL q.1).length ≤ 200
    unfold stL; rw [app_len, w_st]; omega
  rcases List.mem_cons.mp hl with rfl | hl
  · show (bfL q.2.1).length ≤ 200
    have := ok.bf.len
    unfold bfL; rw [app_len, w_bf]; omega
  rcases List.mem_append.mp hl with hl | hl
  · obtain ⟨r, hr, rfl⟩ := List.mem_map.mp hl
    obtain ⟨h1, h2, h3⟩ := ok.rows r hr
    exact po_len h1 h2 h3
  · rw [List.mem_singleton] at hl
    subst hl
    show (bhL q.2.2.2).length ≤ 200
    have := ok.bh.len
    unfold bhL; rw [app_len, w_bh]; omega
theorem q_cnt {q : DR} : (draftLines q).length = q.2.2.1.length + 3 := by
  unfold draftLines; simp
def ct__law_draft_text : CT := fun ds st Kd _ => arg1 ds fun d => ∃ nm bf rows bh, OwnAt st d nm bf rows bh ∧ TxQ (nm, bf, rows, bh) ∧ Kd (.str (draftText (nm, bf, rows, bh))) st
theorem itRows {st : Sto} {rv : D} {rows : List Row} (h : RowsAt st rv rows) : ∃ ok, itAny st rv = some (rows.map rlD, ok) ∧ ∀ p acc, st p = none → ok (put st p (.lst acc)) := by
  rcases h with rfl | ⟨b, rfl, hb⟩
  · exact ⟨always, rfl, fun _ _ _ => trivial⟩
  · refine ⟨fun s => s b = some (.lst (rows.map rlD)), ?_, fun p acc hp => stays hb p acc hp⟩
    unfold itAny lstAt; simp only [hb]
theorem dicAt_put {st : Sto} {d : D} {kvs : List (Key × D)} {b : Addr} {c : Cell} (h : dicAt st d = some kvs) (nb : st b = none) : dicAt (put st b c) d = some kvs := by
  cases d <;> first | exact h | skip
  rename_i a
  unfold dicAt at h ⊢
  have : a ≠ b := fun e => by rw [e] at h; simp only [nb] at h; cases h
  dsimp only at h ⊢
  rw [put_ne this]; exact h
theorem RowsAt.put {st : Sto} {rv : D} {rows : List Row} {b : Addr} {c : Cell} (h : RowsAt st rv rows) (nb : st b = none) : RowsAt (put st b c) rv rows := by
  rcases h with rfl | ⟨a, rfl, ha⟩
  · exact .inl rfl
  · exact .inr ⟨a, rfl, by rw [put_ne (sto_ne ha nb)]; exact ha⟩
theorem bd' {n : Nat} (h : n ≤ 300) : n ≤ sizeLine := by rw [sizeLine_eq]; omega
theorem join_any {s : Str} {ls : List Str} {g : G} {K : KD} (hm : (ls.map (·.length)).sum + ls.length * s.length ≤ 16777216) (k : K (.str (Txt.join s ls)) g) : oJoin (.str s) [.lst (ls.map D.str)] g K := by
  unfold oJoin
  simp only [asStr_str, arg1_eq, seqAt_lst, opt_some, asStrs_map]
  exact ⟨hm, k⟩
def poF : D → D
  | .lst [.int a, .int b, .int c] => .str (poL (a, b, c))
  | d => d
theorem poL_join (r : Row) : ("posting " : Str) ++ Txt.join " " [(toString r.1 : Str), (toString r.2.1 : Str), (toString r.2.2 : Str)] = poL r := by
  rw [TL.join_eq]
  show ("posting " : Str) ++ ((toString r.1 : Str) ++ (" " : Str) ++ ((toString r.2.1 : Str) ++ (" " : Str) ++ (toString r.2.2 : Str))) = poL r
  unfold poL
  simp only [app_assoc]
theorem P__law_draft_text {K : Fr} : ∀ ds st Kd Kx, ds.length = 1 → ct__law_draft_text ds st Kd Kx → W__law_draft_text K (endsOf Kd Kx) ⟨startD 4 ds, st⟩ := by
  intro ds st Kd Kx hl h0
  obtain ⟨d, rfl, nm, bf, rows, bh, ⟨kvs, rv, hd, ha, hb, he, hr, hrw⟩, ok, h⟩ := arg1_ok h0
  have al := ok.al; have l1 := ok.bf.len; have l2 := ok.bh.len; have ln := ok.len
  dsimp only at al l1 l2 ln
  have bd : ∀ {x : Str}, x.length ≤ 300 → x.length ≤ sizeLine := fun h => by rw [sizeLine_eq]; omega
  obtain ⟨okp, hit, hok⟩ := itRows hrw
  unfold W__law_draft_text
  try trivial
  simp only [wDGet_eq]
  try trivial
  rw [hd]
  simp only [k_a, k_b, opt_some, ha, hb]
  rw [oAdd_str]
  try trivial
  rw [hd]
  simp only [opt_some, hb, oStr_int]
  refine ⟨bd' (by rw [w_st]; omega), ok.bf.log, ?_⟩
  rw [oAdd_str]
  try trivial
  refine ⟨bd' (by rw [w_bf]; omega), sz (by decide), fun b nb => ?_⟩
  refine ⟨by unfold isT; simp only [put_same], ?_⟩
  have hd2 : ∀ c, dicAt (put st b c) d = some kvs := fun c => dicAt_put hd nb
  have hrw2 : ∀ c, RowsAt (put st b c) rv rows := fun c => hrw.put nb
  obtain ⟨okp, hit, hok⟩ := itRows (hrw2 (.lst [D.str (("statement " : Str) ++ nm), D.str (("before " : Str) ++ (toString bf : Str))]))
  refine wLc_mapS (rows.map rlD) okp poF (fun KI k => ?_) hok (sz (by rw [List.length_map]; omega)) (fun y hy p acc KT hp kt => ?_) ?_
  · try trivial
    rw [wDGet_eq]
    try trivial
    rw [hd2]
    simp only [k_r, opt_some, hr]
    rw [hit]
    exact k
  · obtain ⟨r, hr, rfl⟩ := List.mem_map.mp hy
    obtain ⟨r1, r2, r3⟩ := ok.rows r hr
    have k1 := r1.len; have k2 := r2.len; have k3 := r3.len
    simp only [wipeS, clrS]
    try trivial
    unfold rlD
    try trivial
    refine ⟨rfl, ?_⟩
    have lg : ∀ i ∈ [r.1, r.2.1, r.2.2], Sm i := fun i hi => by
      simp only [List.mem_cons, List.not_mem_nil, or_false] at hi
      rcases hi with rfl | rfl | rfl
      · exact r1
      · exact r2
      · exact r3
    refine wLc_ty (fun i : Int => D.int i) (fun i => .str (toString i)) [r.1, r.2.1, r.2.2] (fun KI k => ?_) (sz (by simp)) (fun i hi q acc2 KT2 hq kt2 => ?_) ?_
    · try trivial
      exact k
    · simp only [wipeS, clrS]
      try trivial
      simp only [oStr_int]
      exact ⟨(lg i hi).log, kt2 _ rfl⟩
    · have ej : ([r.1, r.2.1, r.2.2].map fun i : Int => D.str (toString i)) = [(toString r.1 : Str), (toString r.2.1 : Str), (toString r.2.2 : Str)].map D.str := rfl
      rw [ej]
      refine join_any (by simp only [List.map_cons, List.map_nil, List.sum_cons, List.sum_nil, List.length_cons, List.length_nil, w_sp]; omega) ?_
      rw [oAdd_str]
      have lj : ("posting " : Str).length + (Txt.join " " [(toString r.1 : Str), (toString r.2.1 : Str), (toString r.2.2 : Str)]).length ≤ 200 := by
        rw [← app_len, poL_join]; exact po_len r1 r2 r3
      refine ⟨bd' (by omega), ?_⟩
      rw [poL_join]
      exact kt _ rfl
  · rw [List.map_map]
    rw [oExt_r]
    dsimp only
    rw [put_same]
    try trivial
    refine ⟨sz (by omega), ?_⟩
    rw [frz_lst put_same, drop_put nb]
    try trivial
    refine ⟨rfl, ?_⟩
    rw [hd]
    simp only [k_e, opt_some, he, oStr_int]
    refine ⟨ok.bh.log, ?_⟩
    rw [oAdd_str]
    refine ⟨bd' (by rw [w_bh]; omega), sz (by decide), ?_⟩
    rw [oAdd_lst]
    refine ⟨sz (by simp only [List.length_append, List.length_cons, List.length_nil, List.length_map]; omega), ?_⟩
    have e : [D.str (("statement " : Str) ++ nm), D.str (("before " : Str) ++ (toString bf : Str))] ++ rows.map (poF ∘ rlD) ++ [D.str (("behind " : Str) ++ (toString bh : Str))] = (draftLines (nm, bf, rows, bh)).map D.str := by
      unfold draftLines
      simp only [List.map_cons, List.map_append, List.cons_append, List.nil_append, List.map_nil, List.map_map]
      rfl
    rw [e]
    exact join_ok (st := st) (M := 200) ok.lines (by rw [q_cnt]; show (rows.length + 3) * 201 ≤ _; omega) h
end L23

end SZK23

section SZL23

set_option Elab.async false
set_option linter.all false
set_option maxRecDepth 100000
namespace L23
open PySem L2 DL
local macro_rules
  | `(tactic| trivial) => `(tactic| simp only [wVar_eq, wC, wOp2, wOp1, wB_eq, wChain_eq, wTru_eq, wAndT_eq, wOrT_eq, wNotT, wAndV_eq, wOrV_eq, wNotV_eq, wIf_eq, wNil, wCons, wTup, wLst, wCB, wSkip, wSeq, wBrk, wCnt, wExpr, wRet, wRetN, wIfS_eq, wName, wGNil, wGCons, wGTup, wAsg, wSet, wPar, wPar3, wCall, wCallK, wMakeK, wMethK, wFld, wSetF, wAugF, wGFld, wLPut, wSlA, oSlA_tup, oSlA_lst, cutD_mapI, oMaxL_ints, wPN, wPS, oSl_lkd, wRaise, wListRange, wIt_eq, wFor_eq, wEnumT_eq, wRng1_eq, wZipM, wFrz_eq, wFrzS_eq, oIsT, oLen, oLe, oLt, oGe, oGt, oMax2, oMin2, o2I, oI, oI0, oOrd, oIsN, wBM, wBM0, oS0, oS1, oSplit, oEq, oNe, oAbs, oDivmod, oGcd, oAdd_int, oNeg_int, oInt_int, oInt_bl, oIx_tup, oIx_lst, oIx_lkd, oIx_r, cellL_r, lstOf_lst, ixN0, ixN2, put_same, put_put, List.set, oTuple_lst, oTuple_tup, oSum_ints, oSumT_ints, wRevT_eq, wAugI_eq, oAll_bls, atI0, atI1, atI2, endsOf, startD, getS, setS, opt_some, asBl_bl, asInt_int, asStr_str, asTup_tup, arg1_eq, arg2_eq, arg3_eq, List.length_nil, List.length_cons, Bool.not_true, Bool.not_false, if_true, Bool.false_eq_true, if_false, true_and, List.length_map, tru_bl, newL_f, newL_t, lenOf_lst, lenOf_tup, lenOf_lkd, eqD_int, eqD_str, seqAt_tup, seqAt_lst, seqAt_lkd, itAny_tup, itAny_lst, itAny_lkd, lstAt_lst, kd_int, kd_tup, kt_ii, kt_ib, kt_tt, oAdd_str, oStr_int])
/-- the law's own offs -/
def offsOf : Int → List Row → Int → List Int
  | here, [], bh => [bh - here]
  | here, r :: rs, bh => (r.2.2 - here - r.2.1) :: offsOf r.2.2 rs bh
def offsB : Int → List Row → List Int
  | _, [] => []
  | here, r :: rs => (r.2.2 - here - r.2.1) :: offsB r.2.2 rs
def lastB : Int → List Row → Int
  | here, [] => here
  | _, r :: rs => lastB r.2.2 rs
theorem offsOf_eq : ∀ (rs : List Row) (here bh : Int), offsOf here rs bh = offsB here rs ++ [bh - lastB here rs]
  | [], _, _ => rfl
  | r :: rs, here, bh => by
    show _ :: offsOf r.2.2 rs bh = _ :: (offsB r.2.2 rs ++ [bh - lastB r.2.2 rs])
    rw [offsOf_eq rs]
def ct__law_offs : CT := fun ds st Kd _ => arg1 ds fun d => ∃ nm bf rows bh, OwnAt st d nm bf rows bh ∧ rows.length ≤ 500 ∧ Kd (.lst ((offsOf bf rows bh).map D.int)) st
def ofsBody : WS := (wSeq (wExpr (wBM "list" oAppend (wVar 1) (wCons (wCB oInt (wCons (wOp2 (oI0 fun i j => i - j) (wOp2 (oI0 fun i j => i - j) (wVar 5) (wVar 2)) (wVar 4)) wNil)) wNil))) (wSet 2 (wVar 5)))
def ofsG : WG := (wGLst 3 (wGCons (wName 3) (wGCons (wName 4) (wGCons (wName 5) wGNil))))
theorem ofs_loop {E : EndsD} {st : Sto} {b : Addr} {d : D} {ok : Sto → Prop} (hok : ∀ acc, ok (put st b (.lst acc))) : ∀ (rs : List Row) (here : Int) (acc : List Int) (s3 s4 s5 : Option D), acc.length + rs.length ≤ 1000 →
    (∀ s3 s4 s5, E.nx ⟨[some d, some (.ref b), some (.int (lastB here rs)), s3, s4, s5], put st b (.lst ((acc ++ offsB here rs).map D.int))⟩) →
    loopD ok ofsG ofsBody E (rs.map rlD) ⟨[some d, some (.ref b), some (.int here), s3, s4, s5], put st b (.lst (acc.map D.int))⟩
  | [], here, acc, s3, s4, s5, _, h => by
    refine ⟨hok _, ?_⟩
    have := h s3 s4 s5
    simp only [offsB, List.append_nil] at this
    exact this
  | r :: rs, here, acc, s3, s4, s5, hl, h => by
    refine ⟨hok _, ?_⟩
    rw [List.length_cons] at hl
    have ih := ofs_loop (E := E) (st := st) (b := b) (d := d) (ok := ok) hok rs r.2.2 (acc ++ [r.2.2 - here - r.2.1]) (some (.int r.1)) (some (.int r.2.1)) (some (.int r.2.2)) (by rw [List.length_append]; simp; omega) (fun s3 s4 s5 => by
      have := h s3 s4 s5
      simp only [offsB, lastB] at this
      rw [List.append_assoc]
      exact this)
    show ofsG (rlD r) _ fun g2 => ofsBody { E with nx := loopD ok ofsG ofsBody E (rs.map rlD), ct := loopD ok ofsG ofsBody E (rs.map rlD), bk := E.nx } g2
    generalize loopD ok ofsG ofsBody E (rs.map rlD) = L at ih ⊢
    unfold ofsG ofsBody rlD wGLst
    try trivial
    refine ⟨by unfold isT; simp only [put_same], ?_⟩
    unfold oAppend cellL
    simp only [put_same, arg1_eq]
    refine ⟨by rw [List.length_map, sizeLine_eq]; omega, ?_⟩
    rw [put_put]
    have e : acc.map D.int ++ [D.int (r.2.2 - here - r.2.1)] = (acc ++ [r.2.2 - here - r.2.1]).map D.int := by rw [List.map_append]; rfl
    try trivial
    rw [e]
    exact ih
theorem P__law_offs {K : Fr} : ∀ ds st Kd Kx, ds.length = 1 → ct__law_offs ds st Kd Kx → W__law_offs K (endsOf Kd Kx) ⟨startD 6 ds, st⟩ := by
  intro ds st Kd Kx hl h0
  obtain ⟨d, rfl, nm, bf, rows, bh, ⟨kvs, rv, hd, ha, hb, he, hr, hrw⟩, ln, h⟩ := arg1_ok h0
  unfold W__law_offs
  try trivial
  refine ⟨Nat.zero_le _, fun b nb => ?_⟩
  simp only [wDGet_eq]
  try trivial
  have hd2 : ∀ c, dicAt (put st b c) d = some kvs := fun c => dicAt_put hd nb
  have hrw2 : ∀ c, RowsAt (put st b c) rv rows := fun c => hrw.put nb
  rw [hd2]
  simp only [k_b, opt_some, hb]
  try trivial
  simp only [k_r, opt_some, hr]
  have hit : ∃ ok, itAny (put st b (.lst [])) rv = some (rows.map rlD, ok) ∧ ∀ acc, ok (put st b (.lst acc)) := by
    rcases hrw with rfl | ⟨c, rfl, hc⟩
    · exact ⟨always, rfl, fun _ => trivial⟩
    · have n := sto_ne hc nb
      refine ⟨fun s => s c = some (.lst (rows.map rlD)), ?_, fun acc => by show put st b (.lst acc) c = _; rw [put_ne n]; exact hc⟩
      unfold itAny lstAt; simp only [put_ne n, hc]
  obtain ⟨ok, e1, e2⟩ := hit
  rw [e1]
  try trivial
  refine ofs_loop (b := b) (st := st) e2 rows bf [] none none none (by simp; omega) (fun s3 s4 s5 => ?_)
  dsimp only
  rw [frzS_at rfl nb]
  try trivial
  rw [wDGet_eq]
  try trivial
  rw [hd]
  simp only [k_e, opt_some, he]
  try trivial
  refine ⟨sz (by decide), ?_⟩
  have e3 : D.lst [D.int (bh - lastB bf rows)] = .lst ([bh - lastB bf rows].map D.int) := rfl
  rw [e3, oAdd_lst, ← List.map_append, List.nil_append]
  rw [offsOf_eq] at h
  have lo : ∀ (rs : List Row) (x : Int), (offsB x rs).length = rs.length := by
    intro rs
    induction rs with
    | nil => intro x; rfl
    | cons r rs ih => intro x; show (offsB r.2.2 rs).length + 1 = _; rw [ih]; rfl
  exact ⟨sz (by rw [List.length_map, lo]; simp; omega), h⟩
end L23

end SZL23

section SZM23

set_option Elab.async false
set_option linter.all false
set_option maxRecDepth 100000
namespace L23
open PySem L2 DL
local macro_rules
  | `(tactic| trivial) => `(tactic| simp only [wVar_eq, wC, wOp2, wOp1, wB_eq, wChain_eq, wTru_eq, wAndT_eq, wOrT_eq, wNotT, wAndV_eq, wOrV_eq, wNotV_eq, wIf_eq, wNil, wCons, wTup, wLst, wCB, wSkip, wSeq, wBrk, wCnt, wExpr, wRet, wRetN, wIfS_eq, wName, wGNil, wGCons, wGTup, wAsg, wSet, wPar, wPar3, wCall, wCallK, wMakeK, wMethK, wFld, wSetF, wAugF, wGFld, wLPut, wSlA, oSlA_tup, oSlA_lst, cutD_mapI, oMaxL_ints, wPN, wPS, oSl_lkd, wRaise, wListRange, wIt_eq, wFor_eq, wEnumT_eq, wRng1_eq, wZipM, wFrz_eq, wFrzS_eq, oIsT, oLen, oLe, oLt, oGe, oGt, oMax2, oMin2, o2I, oI, oI0, oOrd, oIsN, wBM, wBM0, oS0, oS1, oSplit, oEq, oNe, oAbs, oDivmod, oGcd, oAdd_int, oNeg_int, oInt_int, oInt_bl, oIx_tup, oIx_lst, oIx_lkd, oIx_r, cellL_r, lstOf_lst, ixN0, ixN2, put_same, put_put, List.set, oTuple_lst, oTuple_tup, oSum_ints, oSumT_ints, wRevT_eq, wAugI_eq, oAll_bls, atI0, atI1, atI2, endsOf, startD, getS, setS, opt_some, asBl_bl, asInt_int, asStr_str, asTup_tup, arg1_eq, arg2_eq, arg3_eq, List.length_nil, List.length_cons, Bool.not_true, Bool.not_false, if_true, Bool.false_eq_true, if_false, true_and, List.length_map, tru_bl, newL_f, newL_t, lenOf_lst, lenOf_tup, lenOf_lkd, eqD_int, eqD_str, seqAt_tup, seqAt_lst, seqAt_lkd, itAny_tup, itAny_lst, itAny_lkd, lstAt_lst, kd_int, kd_tup, kt_ii, kt_ib, kt_tt, oAdd_str, oStr_int])
theorem cut_drop {xs : List D} {k : Nat} : cutD xs (some (k : Int)) none = xs.drop k := by
  unfold cutD
  rw [HT.sIx_nat, HT.sIx_none]
  by_cases h : k ≤ xs.length
  · rw [Nat.min_eq_left h, List.take_of_length_le (by rw [List.length_drop]; omega)]
  · rw [Nat.min_eq_right (by omega), List.drop_eq_nil_of_le (Nat.le_refl _), List.drop_eq_nil_of_le (by omega)]
    simp
theorem cut_take {xs : List D} {k : Nat} : cutD xs none (some (k : Int)) = xs.take k := by
  unfold cutD
  rw [HT.sIx_nat, HT.sIx_none, List.drop_zero, Nat.sub_zero]
  by_cases h : k ≤ xs.length
  · rw [Nat.min_eq_left h]
  · rw [Nat.min_eq_right (by omega), List.take_length, List.take_of_length_le (by omega)]
theorem whileM {t : WT} {wb : WS} {E : EndsD} (I : Nat → G → Prop) (step : ∀ n g (N : G → Prop), (∀ m g', m < n → I m g' → N g') → I n g → t g (fun b g1 => match b with | true => wb { E with nx := N, ct := N, bk := E.nx } g1 | false => E.nx g1) E.ex) {n : Nat} {g : G} (h : I n g) : wWhile t wb E g := by
  have key : ∀ k m g, m < k → I m g → whileD t wb E k g := by
    intro k
    induction k with
    | zero => intro m g hm _; exact absurd hm (Nat.not_lt_zero _)
    | succ k ih =>
      intro m g hm hI
      rw [whileD]
      exact step m g _ (fun m' g' hl hI' => ih m' g' (by omega) hI') hI
  exact ⟨n + 1, key (n + 1) n g (Nat.lt_succ_self _) h⟩
def pRl (r : Row) : PyData := .list [.int r.1, .int r.2.1, .int r.2.2]
theorem pyL_rl : ∀ rows : List Row, pyL (rows.map rlD) = some (rows.map pRl)
  | [] => rfl
  | r :: rs => by rw [List.map_cons, pyL, pyL_rl rs]; rfl
theorem lay_rl : ∀ rows : List Row, PyData.canLayAll0 (rows.map pRl) = true ∧ PyData.depthAll (rows.map pRl) ≤ 2
  | [] => by simp [PyData.canLayAll0, PyData.depthAll]
  | r :: rs => by
    obtain ⟨a, b⟩ := lay_rl rs
    constructor
    · simp [PyData.canLayAll0, pRl, PyData.canLay0, a]
    · simp only [List.map_cons, PyData.depthAll, pRl, PyData.depth]; omega
theorem ne_rows {st : Sto} {rows : List Row} {k : Bool → Prop} : eqD st (.lst (rows.map rlD)) (.lst []) k = k (decide (rows = [])) := by
  have e1 : eqD st (.lst (rows.map rlD)) (.lst []) k = opt (pyT st (.lst (rows.map rlD))) fun p => opt (pyT st (.lst [])) fun q => (SeqAt.shaped p = true ∧ SeqAt.shaped q = true) ∧ k (PyData.eqv p q) := rfl
  have e2 : pyT st (.lst (rows.map rlD)) = some (.list (rows.map pRl)) := by
    show (pyL (rows.map rlD)).map PyData.list = _
    rw [pyL_rl]; rfl
  have e3 : pyT st (.lst []) = some (.list []) := rfl
  rw [e1, e2, e3, opt_some, opt_some]
  have e4 : PyData.eqv (.list (rows.map pRl)) (.list []) = decide (rows = []) := by cases rows <;> simp [PyData.eqv, PyData.eqvAll]
  have e5 : SeqAt.shaped (.list ([] : List PyData)) = true := rfl
  have e6 : SeqAt.shaped (.list (rows.map pRl)) = true := by
    obtain ⟨a, b⟩ := lay_rl rows
    unfold SeqAt.shaped
    rw [Bool.and_eq_true_iff]
    exact ⟨a, decide_eq_true (by show PyData.depthAll _ + 1 ≤ 64; omega)⟩
  simp only [e4, e5, e6, true_and]
theorem nPg_small {c l : Nat} (c1 : 1 ≤ c) (h : l ≤ c) : nPg c l = 1 := by
  unfold nPg
  rw [Nat.div_eq_of_lt (by omega)]
theorem nPg_step {c l : Nat} (c1 : 1 ≤ c) (h : c < l) : nPg c l = nPg c (l - c) + 1 := by
  unfold nPg
  have e : l - 1 = (l - c - 1) + c := by omega
  rw [e, Nat.add_div_right _ (by omega)]
theorem balR_take : ∀ (ps : List Pst) (h : Int) (n : Nat), (balR h ps).take n = balR h (ps.take n)
  | [], h, n => by simp [balR]
  | p :: ps, h, 0 => by simp [balR]
  | p :: ps, h, n + 1 => by
    show _ :: (balR (h + p.2) ps).take n = _ :: balR (h + p.2) (ps.take n)
    rw [balR_take ps]
theorem balR_drop : ∀ (ps : List Pst) (h : Int) (n : Nat), (balR h ps).drop n = balR (endB h (ps.take n)) (ps.drop n)
  | [], h, n => by simp [balR]
  | p :: ps, h, 0 => rfl
  | p :: ps, h, n + 1 => by
    show (balR (h + p.2) ps).drop n = balR (endB (h + p.2) (ps.take n)) (ps.drop n)
    rw [balR_drop ps]
theorem balR_last : ∀ (ps : List Pst) (h : Int), ps ≠ [] → ∃ r, (balR h ps).getLast? = some r ∧ r.2.2 = endB h ps
  | [], h, n => absurd rfl n
  | [p], h, _ => ⟨(p.1, p.2, h + p.2), rfl, rfl⟩
  | p :: q :: ps, h, _ => by
    obtain ⟨r, e1, e2⟩ := balR_last (q :: ps) (h + p.2) (by simp)
    refine ⟨r, ?_, e2⟩
    show ((p.1, p.2, h + p.2) :: balR (h + p.2) (q :: ps)).getLast? = some r
    have : balR (h + p.2) (q :: ps) ≠ [] := by simp [balR]
    rw [List.getLast?_cons, e1]; rfl
def pgK (q : DR) : List (Key × D) := [(.inr "account", .str q.1), (.inr "before", .int q.2.1), (.inr "rows", .lst (q.2.2.1.map rlD)), (.inr "behind", .int q.2.2.2)]
def pgD (q : DR) : D := .dic (pgK q)
theorem d_eb : decide (kE = kB) = false := by decide +kernel
theorem d_er : decide (kE = kR) = false := by decide +kernel
theorem vp_a {q : DR} : valD (pgK q) kA = some (.str q.1) := by simp only [valD, pgK, List.find?, decide_true, Option.map]
theorem vp_b {q : DR} : valD (pgK q) kB = some (.int q.2.1) := by simp only [valD, pgK, List.find?, d_ab, decide_true, Option.map]
theorem vp_r {q : DR} : valD (pgK q) kR = some (.lst (q.2.2.1.map rlD)) := by simp only [valD, pgK, List.find?, d_ar, d_br, decide_true, Option.map]
theorem vp_e {q : DR} : valD (pgK q) kE = some (.int q.2.2.2) := by simp only [valD, pgK, List.find?, d_ae, d_be, d_re, decide_true, Option.map]
theorem mp {a b c d : D} : mergeD [] [(.inr "account", a), (.inr "before", b), (.inr "rows", c), (.inr "behind", d)] = [(.inr "account", a), (.inr "before", b), (.inr "rows", c), (.inr "behind", d)] := by
  simp only [mergeD, List.foldl, putKD, List.any, List.nil_append, List.cons_append, d_ab, d_ar, d_ae, d_br, d_be, d_re, Bool.or_false, Bool.false_or, Bool.false_eq_true, if_false]
theorem oList_rows {st : Sto} {sl : List (Option D)} {rv : D} {rows : List Row} {K : KD} (h : RowsAt st rv rows) : oList false [rv] ⟨sl, st⟩ K = K (.lst (rows.map rlD)) ⟨sl, st⟩ := by
  have e : seqAt st rv = some (rows.map rlD) := by
    rcases h with rfl | ⟨b, rfl, hb⟩
    · rfl
    · unfold seqAt tlst; simp only [hb]
  show opt (seqAt st rv) _ = _
  rw [e]; rfl
def ct__law_pages : CT := fun ds st Kd _ => arg2 ds fun d e => ∃ nm bf ps bh c, OwnAt st d nm bf (balR bf ps) bh ∧ e = .int ((c : Nat) : Int) ∧ 1 ≤ c ∧ ps.length ≤ 500 ∧ Kd (.lst ((pgs nm c (nPg c ps.length) bf ps).map pgD)) st
theorem balR_nil {h : Int} {ps : List Pst} : balR h ps = [] ↔ ps = [] := by
  cases ps with
  | nil => simp [balR]
  | cons p r => simp [balR]
def pgBd : WS := (wSeq (wPar 5 4 (wCons (wSlA false (wVar 4) wPN (wPS (wVar 1))) (wCons (wSlA false (wVar 4) (wPS (wVar 1)) wPN) wNil))) (wSeq (wSet 6 (wIf (wB (wOp2 oNe (wVar 5) (wLst false wNil))) (wOp2 oIx (wOp2 oIx (wVar 5) (wOp1 oNeg (wC (.int 1)))) (wC (.int 2))) (wVar 3))) (wSeq (wExpr (wBM "list" oAppend (wVar 2) (wCons (wDisp false (wPCons (wC (.str "account")) (wDGet (wVar 0) (wC (.str "account"))) (wPCons (wC (.str "before")) (wVar 3) (wPCons (wC (.str "rows")) (wVar 5) (wPCons (wC (.str "behind")) (wVar 6) wPNil))))) wNil))) (wSet 3 (wVar 6)))))
theorem P__law_pages {K : Fr} : ∀ ds st Kd Kx, ds.length = 2 → ct__law_pages ds st Kd Kx → W__law_pages K (endsOf Kd Kx) ⟨startD 7 ds, st⟩ := by
  intro ds st Kd Kx hl h0
  obtain ⟨d, _, rfl, nm, bf, ps, bh, c, ⟨kvs, rv, hd, ha, hb, he, hr, hrw⟩, rfl, c1, ln, h⟩ := arg2_ok h0
  unfold W__law_pages
  try trivial
  refine ⟨Nat.zero_le _, fun b nb => ?_⟩
  have hd2 : ∀ c, dicAt (put st b c) d = some kvs := fun c => dicAt_put hd nb
  have hrw2 : ∀ c, RowsAt (put st b c) rv (balR bf ps) := fun c => hrw.put nb
  simp only [wDGet_eq]
  try trivial
  rw [hd2]
  simp only [k_b, opt_some, hb]
  try trivial
  simp only [k_r, opt_some, hr]
  rw [oList_rows (hrw2 _)]
  try trivial
  show wWhile (wOrT (wB (wOp2 oNe (wVar 4) (wLst false wNil))) (wB (wOp2 oEqE (wVar 2) (wLst false wNil)))) pgBd _ _
  generalize eall : pgs nm c (nPg c ps.length) bf ps = all at h
  refine whileM (fun m g => ∃ acc here ps' s5 s6, all = acc ++ pgs nm c m here ps' ∧ (m = 0 → ps' = [] ∧ acc ≠ []) ∧ (m ≠ 0 → m = nPg c ps'.length ∧ (ps' ≠ [] ∨ acc = [])) ∧ ps'.length ≤ 500 ∧ acc.length + m ≤ 600 ∧ g = ⟨[some d, some (.int (c : Int)), some (.ref b), some (.int here), some (.lst ((balR here ps').map rlD)), s5, s6], put st b (.lst (acc.map pgD))⟩) ?_ (n := nPg c ps.length) ⟨[], bf, ps, none, none, by rw [← eall]; rfl, fun z => absurd z (Nat.succ_ne_zero _), fun _ => ⟨rfl, .inr rfl⟩, ln, by have := nPg_le c ps.length; simp; omega, rfl⟩
  rintro m g N kk ⟨acc, here, ps', s5, s6, ea, h0, h1, l5, l6, rfl⟩
  by_cases m0 : m = 0
  · obtain ⟨rfl, an⟩ := h0 m0
    subst m0
    try trivial
    rw [ne_rows]
    rw [if_neg (by simp [balR])]
    rw [oEqE_ref put_same]
    have ae : (acc.map pgD).isEmpty = false := by
      cases acc with
      | nil => exact absurd rfl an
      | cons x y => rfl
    rw [ae]
    try trivial
    refine ⟨Nat.zero_le _, Nat.zero_le _, ?_⟩
    rw [frz_lst put_same, drop_put nb]
    try trivial
    rw [show all = acc from by rw [ea]; simp [pgs]] at h
    exact h
  · obtain ⟨hm, hc⟩ := h1 m0
    have body : pgBd { endsOf Kd Kx with nx := N, ct := N, bk := (wFrzS 2 (wRet (wFrz (wVar 2)))) (endsOf Kd Kx) } ⟨[some d, some (.int (c : Int)), some (.ref b), some (.int here), some (.lst ((balR here ps').map rlD)), s5, s6], put st b (.lst (acc.map pgD))⟩ := by
      unfold pgBd
      try trivial
      rw [cut_take, cut_drop, ← List.map_take, ← List.map_drop, balR_take, balR_drop]
      try trivial
      rw [ne_rows]
      have tail : ∀ s6', N ⟨[some d, some (.int (c : Int)), some (.ref b), some (.int (endB here (ps'.take c))), some (.lst ((balR (endB here (ps'.take c)) (ps'.drop c)).map rlD)), some (.lst ((balR here (ps'.take c)).map rlD)), s6'], put st b (.lst ((acc ++ [mkDR nm here (ps'.take c)]).map pgD))⟩ := fun s6' => by
        by_cases lc : ps'.length ≤ c
        · have m1 : m = 1 := by rw [hm, nPg_small c1 lc]
          have dr : ps'.drop c = [] := List.drop_of_length_le lc
          refine kk 0 _ (by omega) ⟨acc ++ [mkDR nm here (ps'.take c)], endB here (ps'.take c), ps'.drop c, _, s6', ?_, fun _ => ⟨dr, by simp⟩, fun z => absurd rfl z, by rw [dr]; simp, by rw [List.length_append]; simp; omega, rfl⟩
          rw [ea, m1]; simp [pgs]
        · have ms : m = nPg c (ps'.length - c) + 1 := by rw [hm, nPg_step c1 (by omega)]
          have dl : (ps'.drop c).length = ps'.length - c := List.length_drop
          refine kk (nPg c (ps'.length - c)) _ (by omega) ⟨acc ++ [mkDR nm here (ps'.take c)], endB here (ps'.take c), ps'.drop c, _, s6', ?_, fun z => absurd z (Nat.succ_ne_zero _), fun _ => ⟨by rw [dl], .inl (fun z => by rw [z] at dl; simp at dl; omega)⟩, by rw [dl]; omega, by rw [List.length_append]; simp; omega, rfl⟩
          rw [ea, ms, List.append_assoc]; rfl
      have disp : isT "list" (put st b (.lst (acc.map pgD))) (.ref b) ∧ wDisp false (wPCons (wC (.str "account")) (wDGet (wVar 0) (wC (.str "account"))) (wPCons (wC (.str "before")) (wVar 3) (wPCons (wC (.str "rows")) (wVar 5) (wPCons (wC (.str "behind")) (wVar 6) wPNil)))) ⟨[some d, some (.int (c : Int)), some (.ref b), some (.int here), some (.lst ((balR (endB here (ps'.take c)) (ps'.drop c)).map rlD)), some (.lst ((balR here (ps'.take c)).map rlD)), some (.int (endB here (ps'.take c)))], put st b (.lst (acc.map pgD))⟩ (fun dd g1 => oAppend (.ref b) [dd] g1 fun x g1 => opt (getS g1.sl 6) fun d => N ⟨setS g1.sl 3 d, g1.st⟩) fun C d g => Kx C d g.st := by
        refine ⟨by unfold isT; simp only [put_same], ?_⟩
        unfold wDisp wPCons wPNil
        intro p np
        dsimp only at np
        have bp : b ≠ p := fun e => by rw [← e, put_same] at np; cases np
        have nps : st p = none := by rw [put_ne (Ne.symm bp)] at np; exact np
        try trivial
        simp only [wDGet_eq]
        try trivial
        rw [dicAt_put (hd2 (.lst (acc.map pgD))) np]
        simp only [k_a, opt_some, ha]
        refine ⟨by show 4 ≤ 15; decide, ?_⟩
        rw [mp, drop_put np, oApp_r]
        dsimp only
        rw [put_same]
        try trivial
        refine ⟨sz' (by omega), ?_⟩
        have e : acc.map pgD ++ [D.dic [(.inr "account", D.str nm), (.inr "before", D.int here), (.inr "rows", D.lst ((balR here (ps'.take c)).map rlD)), (.inr "behind", D.int (endB here (ps'.take c)))]] = (acc ++ [mkDR nm here (ps'.take c)]).map pgD := by rw [List.map_append]; rfl
        rw [e]
        exact tail _
      refine ⟨Nat.zero_le _, ?_⟩
      by_cases hp : ps'.take c = []
      · rw [if_neg (by rw [balR_nil.mpr hp]; simp)]
        rw [hp] at disp ⊢
        exact disp
      · rw [if_pos (by simp [balR_nil, hp])]
        obtain ⟨r, r1, r2⟩ := balR_last (ps'.take c) here hp
        rw [atI_last (d := rlD r) (by rw [List.getLast?_map, r1]; rfl)]
        have r3 : oIx (rlD r) (.int 2) = fun g (K : KD) => K (.int r.2.2) g := by
          unfold rlD; funext g K; rfl
        rw [opt_some, r3, r2]
        exact disp
    try trivial
    rw [ne_rows]
    refine ⟨Nat.zero_le _, ?_⟩
    by_cases pn : ps' = []
    · rw [if_neg (by rw [balR_nil.mpr pn]; simp)]
      have an : acc = [] := by
        rcases hc with z | z
        · exact absurd pn z
        · exact z
      rw [oEqE_ref put_same]
      have ae : (acc.map pgD).isEmpty = true := by rw [an]; rfl
      rw [ae]
      try trivial
      exact ⟨Nat.zero_le _, body⟩
    · rw [if_pos (by simp [balR_nil, pn])]
      exact body
end L23

end SZM23

section SZN23

set_option Elab.async false
set_option linter.all false
set_option maxRecDepth 100000
namespace L23
open PySem L2 DL
local macro_rules
  | `(tactic| trivial) => `(tactic| simp only [wVar_eq, wC, wOp2, wOp1, wB_eq, wChain_eq, wTru_eq, wAndT_eq, wOrT_eq, wNotT, wAndV_eq, wOrV_eq, wNotV_eq, wIf_eq, wNil, wCons, wTup, wLst, wCB, wSkip, wSeq, wBrk, wCnt, wExpr, wRet, wRetN, wIfS_eq, wName, wGNil, wGCons, wGTup, wAsg, wSet, wPar, wPar3, wCall, wCallK, wMakeK, wMethK, wFld, wSetF, wAugF, wGFld, wLPut, wSlA, oSlA_tup, oSlA_lst, cutD_mapI, oMaxL_ints, wPN, wPS, oSl_lkd, wRaise, wListRange, wIt_eq, wFor_eq, wEnumT_eq, wRng1_eq, wZipM, wFrz_eq, wFrzS_eq, oIsT, oLen, oLe, oLt, oGe, oGt, oMax2, oMin2, o2I, oI, oI0, oOrd, oIsN, wBM, wBM0, oS0, oS1, oSplit, oEq, oNe, oAbs, oDivmod, oGcd, oAdd_int, oNeg_int, oInt_int, oInt_bl, oIx_tup, oIx_lst, oIx_lkd, oIx_r, cellL_r, lstOf_lst, ixN0, ixN2, put_same, put_put, List.set, oTuple_lst, oTuple_tup, oSum_ints, oSumT_ints, wRevT_eq, wAugI_eq, oAll_bls, atI0, atI1, atI2, endsOf, startD, getS, setS, opt_some, asBl_bl, asInt_int, asStr_str, asTup_tup, arg1_eq, arg2_eq, arg3_eq, List.length_nil, List.length_cons, Bool.not_true, Bool.not_false, if_true, Bool.false_eq_true, if_false, true_and, List.length_map, tru_bl, newL_f, newL_t, lenOf_lst, lenOf_tup, lenOf_lkd, eqD_int, eqD_str, seqAt_tup, seqAt_lst, seqAt_lkd, itAny_tup, itAny_lst, itAny_lkd, lstAt_lst, kd_int, kd_tup, kt_ii, kt_ib, kt_tt])
/-! ### the law's own offs are the program's -/
theorem offs_eq (nm : Str) (bh : Int) : ∀ (rows : List Row) (bf : Int), offsL (nm, bf, rows, bh) = offsOf bf rows bh
  | [], bf => by
    show [balAt _ 0 - haveAt _ 0 - amtAt _ 0] = _
    show [bh - bf - 0] = [bh - bf]
    rw [Int.sub_zero]
  | r :: rs, bf => by
    rw [show offsOf bf (r :: rs) bh = (r.2.2 - bf - r.2.1) :: offsOf r.2.2 rs bh from rfl, ← offs_eq nm bh rs r.2.2]
    unfold offsL
    dsimp only
    rw [List.length_cons, List.range_succ_eq_map, List.map_cons, List.map_map]
    have hm : (List.range (rs.length + 1)).map (offAt (nm, bf, r :: rs, bh) ∘ Nat.succ) = (List.range (rs.length + 1)).map (offAt (nm, r.2.2, rs, bh)) := List.map_congr_left fun i _ => by
      show offAt (nm, bf, r :: rs, bh) (i + 1) = offAt (nm, r.2.2, rs, bh) i
      unfold offAt
      have e1 : balAt (nm, bf, r :: rs, bh) (i + 1) = balAt (nm, r.2.2, rs, bh) i := rfl
      have e2 : amtAt (nm, bf, r :: rs, bh) (i + 1) = amtAt (nm, r.2.2, rs, bh) i := rfl
      have e3 : haveAt (nm, bf, r :: rs, bh) (i + 1) = haveAt (nm, r.2.2, rs, bh) i := by
        cases i with
        | zero => rfl
        | succ i => rfl
      rw [e1, e2, e3]
    rw [hm]; rfl
theorem up_eq (q : DR) : upB q = (offsOf q.2.1 q.2.2.1 q.2.2.2).all fun i => decide (i = 0) := by
  obtain ⟨nm, bf, rows, bh⟩ := q
  unfold upB
  rw [offs_eq]
  dsimp only
  rw [List.not_any_eq_all_not]
  refine congrArg (fun f => List.all (offsOf bf rows bh) f) (funext fun i => ?_)
  by_cases h : i = 0 <;> simp [h]
theorem offs_bal : ∀ (ps : List Pst) (h : Int), ∀ x ∈ offsOf h (balR h ps) (endB h ps), x = 0
  | [], h, x, hx => by
    have : x ∈ [h - h] := hx
    rw [List.mem_singleton] at this; omega
  | p :: ps, h, x, hx => by
    have hx : x ∈ (h + p.2 - h - p.2) :: offsOf (h + p.2) (balR (h + p.2) ps) (endB (h + p.2) ps) := hx
    rcases List.mem_cons.mp hx with rfl | hx
    · omega
    · exact offs_bal ps _ x hx
theorem up_mk (nm : Str) (h : Int) (ps : List Pst) : upB (mkDR nm h ps) = true := by
  rw [up_eq]
  exact List.all_eq_true.mpr fun x hx => decide_eq_true (offs_bal ps h x hx)
theorem up_not {nm : Str} {h h' : Int} {ps : List Pst} (n : h' ≠ h) : upB (nm, h', balR h ps, endB h ps) = false := by
  rw [up_eq]
  dsimp only
  cases ps with
  | nil =>
    show ([h - h'].all fun i => decide (i = 0)) = false
    simp; omega
  | cons p ps =>
    show (((h + p.2 - h' - p.2) :: _).all fun i => decide (i = 0)) = false
    rw [List.all_cons, decide_eq_false (by omega)]; rfl
/-! ### signs and lengths of texts -/
def Asc (x : Str) : Prop := ∀ c ∈ TL.tl x, c < 1000000
theorem Asc.ok {x : Str} (h : Asc x) : strOk x := by
  unfold strOk PyData.strOk
  refine Array.all_eq_true_iff_forall_mem.mpr fun c hc => decide_eq_true (Nat.lt_trans (h c ?_) (by decide))
  exact Array.mem_toList_iff.mpr hc
theorem Asc.app {x y : Str} (h : Asc x) (h' : Asc y) : Asc (x ++ y) := fun c hc => by
  rw [TL.tl_append] at hc
  rcases List.mem_append.mp hc with hc | hc
  · exact h c hc
  · exact h' c hc
theorem asc_num (i : Int) : Asc (toString i : Str) := fun c hc => by have := num_free i c hc; omega
theorem asc_acc {x : Str} (h : isAccS x = true) : Asc x := fun c hc => by
  obtain ⟨a, b, h1, h2, e⟩ := acc_parts h
  rw [e] at hc
  rcases List.mem_append.mp hc with hc | hc
  · have := name_low h1 c hc; omega
  · rcases List.mem_cons.mp hc with rfl | hc
    · decide
    · have := name_low h2 c hc; omega
theorem a_st : Asc ("statement " : Str) := by unfold Asc; decide +kernel
theorem a_bf : Asc ("before " : Str) := by unfold Asc; decide +kernel
theorem a_bh : Asc ("behind " : Str) := by unfold Asc; decide +kernel
theorem a_po : Asc ("posting " : Str) := by unfold Asc; decide +kernel
theorem a_sp : Asc (" " : Str) := by unfold Asc; decide +kernel
theorem a_nl : Asc ("\n" : Str) := by unfold Asc; decide +kernel
theorem asc_join : ∀ ls : List Str, (∀ l ∈ ls, Asc l) → Asc (Str.join "\n" ls)
  | [], _ => fun c hc => by cases hc
  | [x], h => h x (by simp)
  | x :: y :: r, h => by
    show Asc (x ++ "\n" ++ Str.join "\n" (y :: r))
    exact ((h x (by simp)).app a_nl).app (asc_join (y :: r) fun l hl => h l (List.mem_cons_of_mem _ hl))
theorem asc_text {q : DR} (h : isAccS q.1 = true) : Asc (draftText q) := by
  unfold draftText
  rw [TL.join_eq]
  refine asc_join _ fun l hl => ?_
  unfold draftLines at hl
  rcases List.mem_cons.mp hl with rfl | hl
  · exact a_st.app (asc_acc h)
  rcases List.mem_cons.mp hl with rfl | hl
  · exact a_bf.app (asc_num _)
  rcases List.mem_append.mp hl with hl | hl
  · obtain ⟨r, _, rfl⟩ := List.mem_map.mp hl
    exact ((((a_po.app (asc_num _)).app a_sp).app (asc_num _)).app a_sp).app (asc_num _)
  · rw [List.mem_singleton] at hl; subst hl; exact a_bh.app (asc_num _)
theorem join_len {M : Nat} : ∀ {ls : List Str}, (∀ l ∈ ls, l.length ≤ M) → (Str.join "\n" ls).length ≤ ls.length * (M + 1)
  | [], _ => by simp [Str.join]; rfl
  | [x], h => by
    have := h x (by simp)
    show x.length ≤ 1 * (M + 1)
    omega
  | x :: y :: r, h => by
    have h1 := h x (by simp)
    have ih := join_len (ls := y :: r) fun l hl => h l (List.mem_cons_of_mem _ hl)
    show (x ++ "\n" ++ Str.join "\n" (y :: r)).length ≤ ((y :: r).length + 1) * (M + 1)
    rw [app_len, app_len, nl_len, Nat.add_mul]; omega
theorem text_len {q : DR} (h : TxQ q) : (draftText q).length ≤ 101103 := by
  unfold draftText
  rw [TL.join_eq]
  refine Nat.le_trans (join_len h.lines) ?_
  rw [q_cnt]
  have := h.len
  omega
theorem RdOk.txq {q : DR} (h : RdOk q) : TxQ q where
  al := by have := (acc_facts h.acc).2; omega
  bf := sm_big h.bf
  bh := sm_big h.bh
  len := h.len
  rows := by
    have key : ∀ (rows : List Row) (l : Int), -1 ≤ l → RowsOk l rows → ∀ r ∈ rows, Sm r.1 ∧ Sm r.2.1 ∧ Sm r.2.2 := by
      intro rows
      induction rows with
      | nil => intro l _ _ r hr; cases hr
      | cons x xs ih =>
        intro l hl ⟨h1, h2⟩ r hr
        have a := h1.lo; have b := h1.hi
        rcases List.mem_cons.mp hr with rfl | hr
        · exact ⟨sm_of (by omega) (by omega), sm_big h1.am, sm_big h1.ba⟩
        · exact ih x.1 (by omega) h2 r hr
    exact key q.2.2.1 0 (by decide) h.rows
theorem pg_text {q : DR} (h : RdOk q) : PgD (.str (draftText q)) := ⟨by have := text_len h.txq; omega, (asc_text h.acc).ok⟩
theorem page_ok {q : DR} (h : RdOk q) (u : upB q = true) : pageOf (.str (draftText q)) = some q := by
  show (match rdDraft (draftText q) with
    | .ok q => if upB q = true then some q else none
    | .error _ => none) = some q
  rw [rd_text h]
  dsimp only
  rw [if_pos u]
theorem page_no {q : DR} (h : RdOk q) (u : upB q = false) : pageOf (.str (draftText q)) = none := by
  show (match rdDraft (draftText q) with
    | .ok q => if upB q = true then some q else none
    | .error _ => none) = none
  rw [rd_text h]
  dsimp only
  rw [u]; rfl
theorem page_err {x : Str} {n : Int} (h : rdDraft x = .error n) : pageOf (.str x) = none := by
  show (match rdDraft x with
    | .ok q => if upB q = true then some q else none
    | .error _ => none) = none
  rw [h]
end L23

end SZN23

section SZO23

set_option Elab.async false
set_option linter.all false
set_option maxRecDepth 100000
namespace L23
open PySem L2 DL
local macro_rules
  | `(tactic| trivial) => `(tactic| simp only [wVar_eq, wC, wOp2, wOp1, wB_eq, wChain_eq, wTru_eq, wAndT_eq, wOrT_eq, wNotT, wAndV_eq, wOrV_eq, wNotV_eq, wIf_eq, wNil, wCons, wTup, wLst, wCB, wSkip, wSeq, wBrk, wCnt, wExpr, wRet, wRetN, wIfS_eq, wName, wGNil, wGCons, wGTup, wAsg, wSet, wPar, wPar3, wCall, wCallK, wMakeK, wMethK, wFld, wSetF, wAugF, wGFld, wLPut, wSlA, oSlA_tup, oSlA_lst, cutD_mapI, oMaxL_ints, wPN, wPS, oSl_lkd, wRaise, wListRange, wIt_eq, wFor_eq, wEnumT_eq, wRng1_eq, wZipM, wFrz_eq, wFrzS_eq, oIsT, oLen, oLe, oLt, oGe, oGt, oMax2, oMin2, o2I, oI, oI0, oOrd, oIsN, wBM, wBM0, oS0, oS1, oSplit, oEq, oNe, oAbs, oDivmod, oGcd, oAdd_int, oNeg_int, oInt_int, oInt_bl, oIx_tup, oIx_lst, oIx_lkd, oIx_r, cellL_r, lstOf_lst, ixN0, ixN2, put_same, put_put, List.set, oTuple_lst, oTuple_tup, oSum_ints, oSumT_ints, wRevT_eq, wAugI_eq, oAll_bls, atI0, atI1, atI2, endsOf, startD, getS, setS, opt_some, asBl_bl, asInt_int, asStr_str, asTup_tup, arg1_eq, arg2_eq, arg3_eq, List.length_nil, List.length_cons, Bool.not_true, Bool.not_false, if_true, Bool.false_eq_true, if_false, true_and, List.length_map, tru_bl, newL_f, newL_t, lenOf_lst, lenOf_tup, lenOf_lkd, eqD_int, eqD_str, seqAt_tup, seqAt_lst, seqAt_lkd, itAny_tup, itAny_lst, itAny_lkd, lstAt_lst, kd_int, kd_tup, kt_ii, kt_ib, kt_tt, oAdd_str, oStr_int])
theorem own_acc {nm : Str} {bf : Int} {ps : List Pst} (ok : OwnOk nm bf ps) : isAccS nm = true := by
  rcases ok.nm with rfl | rfl | rfl | rfl <;> decide +kernel
theorem Am.bd {x : Int} (h : Am x) : -1000000000000 ≤ x ∧ x ≤ 1000000000000 := by
  rcases h with h | h | h <;> omega
theorem ascP_mem : ∀ (ps : List Pst) (l : Int), AscP l ps → ∀ p ∈ ps, l + 1 ≤ p.1 ∧ p.1 ≤ l + 3 * ps.length
  | [], _, _, p, hp => by cases hp
  | q :: r, l, ⟨h1, h2⟩, p, hp => by
    rw [List.length_cons]
    rcases List.mem_cons.mp hp with rfl | hp
    · omega
    · have := ascP_mem r q.1 h2 p hp; omega
theorem ascP_pair : ∀ (ps : List Pst) (l : Int), AscP l ps → (ps.map (·.1)).Pairwise (· < ·)
  | [], _, _ => List.Pairwise.nil
  | q :: r, l, ⟨h1, h2⟩ => by
    rw [List.map_cons]
    refine List.Pairwise.cons (fun x hx => ?_) (ascP_pair r q.1 h2)
    obtain ⟨p, hp, rfl⟩ := List.mem_map.mp hx
    have := ascP_mem r q.1 h2 p hp; omega
theorem OwnOk.st {nm : Str} {bf : Int} {ps : List Pst} (ok : OwnOk nm bf ps) : OkSt nm bf ps where
  acc := own_acc ok
  al := by have := (acc_facts (own_acc ok)).2; omega
  bf := by rcases ok.bf with h | h | h | h | h <;> omega
  ps := { len := by have := ok.len; omega
          am := fun p hp => (ok.am p hp).bd
          nu := fun p hp => by have := ascP_mem ps 0 ok.asc p hp; have := ok.len; omega
          asc := ascP_pair ps 0 ok.asc }
def Wd (n : Nat) (x : Int) : Prop := ∃ k s : Int, x = 1000000000000 * k + s ∧ -5 - 7 * n ≤ s ∧ s ≤ 100 + 7 * n
theorem endB_wd : ∀ (ps : List Pst) (h : Int) (n : Nat), Wd n h → (∀ p ∈ ps, Am p.2) → Wd (n + ps.length) (endB h ps)
  | [], h, n, w, _ => w
  | p :: r, h, n, ⟨k, s, e, s1, s2⟩, ha => by
    have a := ha p (by simp)
    have w : Wd (n + 1) (h + p.2) := by
      rcases a with ⟨a1, a2⟩ | a | a
      · exact ⟨k, s + p.2, by omega, by omega, by omega⟩
      · exact ⟨k + 1, s, by omega, by omega, by omega⟩
      · exact ⟨k - 1, s, by omega, by omega, by omega⟩
    have := endB_wd r (h + p.2) (n + 1) w fun z hz => ha z (by simp [hz])
    rw [List.length_cons, show n + (r.length + 1) = n + 1 + r.length by omega]
    exact this
theorem own_wd {nm : Str} {bf : Int} {ps : List Pst} (ok : OwnOk nm bf ps) (j : Nat) : endB bf (ps.take j) ≠ 77777 ∧ endB bf (ps.take j) ≠ 123456 := by
  have w : Wd 0 bf := by
    rcases ok.bf with h | h | h | h | h
    · exact ⟨0, 0, by omega, by omega, by omega⟩
    · exact ⟨0, 100, by omega, by omega, by omega⟩
    · exact ⟨0, -5, by omega, by omega, by omega⟩
    · exact ⟨1000, 0, by omega, by omega, by omega⟩
    · exact ⟨-1000, 0, by omega, by omega, by omega⟩
  obtain ⟨k, s, e, s1, s2⟩ := endB_wd (ps.take j) bf 0 w fun p hp => ok.am p (List.mem_of_mem_take hp)
  have l : (ps.take j).length ≤ 9 := by have := ok.len; rw [List.length_take]; omega
  omega
theorem asc_take : ∀ (ps : List Pst) (l : Int) (j : Nat), AscP l ps → AscP l (ps.take j)
  | [], l, j, _ => by simp [AscP]
  | p :: r, l, 0, _ => True.intro
  | p :: r, l, j + 1, ⟨h1, h2⟩ => ⟨h1, asc_take r p.1 j h2⟩
theorem asc_drop : ∀ (ps : List Pst) (l : Int) (j : Nat), AscP l ps → AscP (lastP l (ps.take j)) (ps.drop j)
  | [], l, j, _ => by simp [AscP]
  | p :: r, l, 0, h => h
  | p :: r, l, j + 1, ⟨h1, h2⟩ => asc_drop r p.1 j h2
theorem RowsOk.mono : ∀ {rows : List Row} {l l' : Int}, RowsOk l rows → l' ≤ l → RowsOk l' rows
  | [], _, _, _, _ => True.intro
  | r :: rs, l, l', ⟨h1, h2⟩, h => ⟨⟨by have := h1.lo; omega, h1.hi, h1.am, h1.ba⟩, h2⟩
theorem rowsOk_bal : ∀ (ps : List Pst) (l h : Int), AscP l ps → l + 3 * ps.length ≤ 1000 → (∀ p ∈ ps, -1000000000000 ≤ p.2 ∧ p.2 ≤ 1000000000000) → ps.length ≤ 500 → -100000000000000000 - 1000000000000 * (500 - ps.length) ≤ h → h ≤ 100000000000000000 + 1000000000000 * (500 - ps.length) → RowsOk l (balR h ps)
  | [], _, _, _, _, _, _, _, _ => True.intro
  | p :: r, l, h, ⟨h1, h2⟩, hl, ha, hn, b1, b2 => by
    rw [List.length_cons] at hl hn b1 b2
    have a := ha p (by simp)
    refine ⟨⟨h1.1, ?_, ?_, ?_⟩, rowsOk_bal r p.1 (h + p.2) h2 (by omega) (fun z hz => ha z (by simp [hz])) (by omega) (by omega) (by omega)⟩
    · show p.1 ≤ 1000000000; omega
    · show -1000000000000000000 ≤ p.2 ∧ p.2 ≤ 1000000000000000000; omega
    · show -1000000000000000000 ≤ h + p.2 ∧ h + p.2 ≤ 1000000000000000000; omega
theorem own_end {nm : Str} {bf : Int} {ps : List Pst} (ok : OwnOk nm bf ps) (j : Nat) : -2000000000000000 ≤ endB bf (ps.take j) ∧ endB bf (ps.take j) ≤ 2000000000000000 := by
  have b := endB_bd (ps.take j) bf fun p hp => (ok.am p (List.mem_of_mem_take hp)).bd
  have l : (ps.take j).length ≤ 9 := by have := ok.len; rw [List.length_take]; omega
  rcases ok.bf with h | h | h | h | h <;> omega
theorem own_rows {nm : Str} {bf : Int} {ps : List Pst} (ok : OwnOk nm bf ps) (j c : Nat) : RowsOk 0 (balR (endB bf (ps.take j)) ((ps.drop j).take c)) := by
  have e := own_end ok j
  have l9 := ok.len
  have lt : (ps.take j).length + (ps.drop j).length = ps.length := by rw [List.length_take, List.length_drop]; omega
  have lp := lastP_bd (ps.take j) 0 (asc_take ps 0 j ok.asc)
  have lc : ((ps.drop j).take c).length ≤ (ps.drop j).length := by rw [List.length_take]; omega
  refine RowsOk.mono (rowsOk_bal _ (lastP 0 (ps.take j)) _ (asc_take _ _ c (asc_drop ps 0 j ok.asc)) (by omega) (fun p hp => (ok.am p (List.mem_of_mem_drop (List.mem_of_mem_take hp))).bd) (by omega) (by omega) (by omega)) lp.1
theorem part_end {nm : Str} {bf : Int} {ps : List Pst} (ok : OwnOk nm bf ps) (j c : Nat) : -big ≤ endB (endB bf (ps.take j)) ((ps.drop j).take c) ∧ endB (endB bf (ps.take j)) ((ps.drop j).take c) ≤ big := by
  rw [← endB_app, ← List.take_add]
  have := own_end ok (j + c)
  show -1000000000000000000 ≤ _ ∧ _ ≤ 1000000000000000000
  omega
theorem page_rd {nm : Str} {bf : Int} {ps : List Pst} (ok : OwnOk nm bf ps) (j c : Nat) : RdOk (mkDR nm (endB bf (ps.take j)) ((ps.drop j).take c)) where
  acc := own_acc ok
  bf := by have := own_end ok j; show -1000000000000000000 ≤ endB bf (ps.take j) ∧ endB bf (ps.take j) ≤ 1000000000000000000; omega
  bh := part_end ok j c
  len := by show (balR _ _).length ≤ 500; rw [balR_length, List.length_take, List.length_drop]; have := ok.len; omega
  rows := own_rows ok j c
theorem lastN_bal : ∀ (ps : List Pst) (h : Int) (l : Int), ps ≠ [] → lastN (balR h ps) = lastP l ps
  | [], _, _, n => absurd rfl n
  | [p], h, l, _ => rfl
  | p :: q :: r, h, l, _ => by
    have ih := lastN_bal (q :: r) (h + p.2) p.1 (by simp)
    show lastN ((p.1, p.2, h + p.2) :: balR (h + p.2) (q :: r)) = lastP p.1 (q :: r)
    rw [← ih]
    unfold lastN
    have : (balR (h + p.2) (q :: r)) ≠ [] := by simp [balR]
    obtain ⟨x, e, _⟩ := balR_last (q :: r) (h + p.2) (by simp)
    rw [List.getLast?_cons, e]; rfl
theorem go_ok {nm : Str} {bf : Int} {ps : List Pst} (ok : OwnOk nm bf ps) (j c : Nat) : goB nm (balR bf (ps.take j)) (endB bf (ps.take j)) (mkDR nm (endB bf (ps.take j)) ((ps.drop j).take c)) = true := by
  unfold goB
  dsimp only
  rw [decide_eq_true rfl, decide_eq_true rfl, Bool.true_and, Bool.true_and]
  by_cases e : ps.take j = []
  · rw [e]; rfl
  · have l := lastN_bal (ps.take j) bf 0 e
    have a := asc_take _ _ c (asc_drop ps 0 j ok.asc)
    cases ep : (ps.drop j).take c with
    | nil => simp [balR]
    | cons p r =>
      rw [ep] at a
      obtain ⟨a1, _⟩ := a
      rw [l]
      have : decide (lastP 0 (ps.take j) < firstN (balR (endB bf (ps.take j)) (p :: r))) = true := decide_eq_true (by show lastP 0 (ps.take j) < p.1; omega)
      rw [this]; simp
theorem pgs_snoc (nm : Str) (c : Nat) : ∀ (k : Nat) (bf : Int) (ps : List Pst), pgs nm c (k + 1) bf ps = pgs nm c k bf ps ++ [mkDR nm (endB bf (ps.take (k * c))) ((ps.drop (k * c)).take c)]
  | 0, bf, ps => by simp [pgs, endB]
  | k + 1, bf, ps => by
    show mkDR nm bf (ps.take c) :: pgs nm c (k + 1) (endB bf (ps.take c)) (ps.drop c) = mkDR nm bf (ps.take c) :: (pgs nm c k (endB bf (ps.take c)) (ps.drop c) ++ _)
    rw [pgs_snoc nm c k]
    have e1 : endB (endB bf (ps.take c)) ((ps.drop c).take (k * c)) = endB bf (ps.take ((k + 1) * c)) := by
      rw [← endB_app, ← List.take_add, Nat.succ_mul, Nat.add_comm]
    have e2 : (ps.drop c).drop (k * c) = ps.drop ((k + 1) * c) := by rw [List.drop_drop, Nat.succ_mul, Nat.add_comm]
    rw [e1, e2]
theorem pgs_len (nm : Str) (c : Nat) : ∀ (k : Nat) (bf : Int) (ps : List Pst), (pgs nm c k bf ps).length = k
  | 0, _, _ => rfl
  | k + 1, bf, ps => by show (pgs nm c k _ _).length + 1 = k + 1; rw [pgs_len nm c k]
theorem pgs_add (nm : Str) (c : Nat) (bf : Int) (ps : List Pst) : ∀ (m k : Nat), ∃ rest, pgs nm c (k + m) bf ps = pgs nm c k bf ps ++ rest
  | 0, k => ⟨[], by simp⟩
  | m + 1, k => by
    obtain ⟨r, e⟩ := pgs_add nm c bf ps m k
    exact ⟨r ++ [_], by rw [show k + (m + 1) = k + m + 1 from rfl, pgs_snoc, e, List.append_assoc]⟩
theorem pgs_take (nm : Str) (c : Nat) (bf : Int) (ps : List Pst) {k n : Nat} (h : k ≤ n) : (pgs nm c n bf ps).take k = pgs nm c k bf ps := by
  obtain ⟨r, e⟩ := pgs_add nm c bf ps (n - k) k
  rw [show k + (n - k) = n by omega] at e
  rw [e, List.take_append_of_le_length (by rw [pgs_len]; omega), List.take_of_length_le (by rw [pgs_len]; omega)]
theorem pgs_get (nm : Str) (c : Nat) (bf : Int) (ps : List Pst) {k n : Nat} (h : k < n) : (pgs nm c n bf ps)[k]? = some (mkDR nm (endB bf (ps.take (k * c))) ((ps.drop (k * c)).take c)) := by
  obtain ⟨r, e⟩ := pgs_add nm c bf ps (n - (k + 1)) (k + 1)
  rw [show k + 1 + (n - (k + 1)) = n by omega, pgs_snoc] at e
  rw [e, List.append_assoc, List.getElem?_append_right (by rw [pgs_len]; omega), pgs_len]
  simp
theorem joinL_cons {d : D} {ds : List D} {k : Nat} {first : Option DR} {rows : List Row} {bh : Int} : joinL (d :: ds) k first rows bh = (match pageOf d with
    | none => (Except.error k : Except Nat (DR × List Row))
    | some p => if k > 0 ∧ goB (firstOf first p).1 rows bh p = false then .error k else joinL ds (k + 1) (some (firstOf first p)) (rows ++ p.2.2.1) p.2.2.2) := rfl
theorem joinL_some {d : D} {ds : List D} {k : Nat} {first : Option DR} {rows : List Row} {bh : Int} {p : DR} (h : pageOf d = some p) (g : ¬ (k > 0 ∧ goB (firstOf first p).1 rows bh p = false)) : joinL (d :: ds) k first rows bh = joinL ds (k + 1) (some (firstOf first p)) (rows ++ p.2.2.1) p.2.2.2 := by
  rw [joinL_cons, h]
  dsimp only
  rw [if_neg g]
theorem joinL_none {d : D} {ds : List D} {k : Nat} {first : Option DR} {rows : List Row} {bh : Int} (h : pageOf d = none) : joinL (d :: ds) k first rows bh = .error k := by
  rw [joinL_cons, h]
theorem joinL_bad {d : D} {ds : List D} {k : Nat} {first : Option DR} {rows : List Row} {bh : Int} {p : DR} (h : pageOf d = some p) (g : k > 0 ∧ goB (firstOf first p).1 rows bh p = false) : joinL (d :: ds) k first rows bh = .error k := by
  rw [joinL_cons, h]
  dsimp only
  rw [if_pos g]
theorem balR_app : ∀ (xs ys : List Pst) (h : Int), balR h (xs ++ ys) = balR h xs ++ balR (endB h xs) ys
  | [], _, _ => rfl
  | x :: xs, ys, h => by show _ :: balR (h + x.2) (xs ++ ys) = _ :: (balR (h + x.2) xs ++ balR (endB (h + x.2) xs) ys); rw [balR_app xs]
theorem join_pre {nm : Str} {bf : Int} {ps : List Pst} (ok : OwnOk nm bf ps) (c : Nat) : ∀ (k : Nat) (rest : List D), 0 < k → joinL ((pgs nm c k bf ps).map txD ++ rest) 0 none [] 0 = joinL rest k (some (mkDR nm bf (ps.take c))) (balR bf (ps.take (k * c))) (endB bf (ps.take (k * c)))
  | 0, rest, h => absurd h (Nat.lt_irrefl 0)
  | k + 1, rest, _ => by
    rw [pgs_snoc, List.map_append, List.append_assoc]
    have pk : pageOf (txD (mkDR nm (endB bf (ps.take (k * c))) ((ps.drop (k * c)).take c))) = some (mkDR nm (endB bf (ps.take (k * c))) ((ps.drop (k * c)).take c)) := page_ok (page_rd ok (k * c) c) (up_mk _ _ _)
    have e1 : endB (endB bf (ps.take (k * c))) ((ps.drop (k * c)).take c) = endB bf (ps.take ((k + 1) * c)) := by
      rw [← endB_app, ← List.take_add, Nat.succ_mul]
    have e2 : balR bf (ps.take (k * c)) ++ balR (endB bf (ps.take (k * c))) ((ps.drop (k * c)).take c) = balR bf (ps.take ((k + 1) * c)) := by
      rw [← balR_app, ← List.take_add, Nat.succ_mul]
    by_cases k0 : k = 0
    · subst k0
      simp only [Nat.zero_mul, List.take_zero, List.drop_zero] at pk e1 e2 ⊢
      show joinL (txD (mkDR nm (endB bf []) (ps.take c)) :: rest) 0 none [] 0 = _
      rw [joinL_some pk (fun z => absurd z.1 (Nat.lt_irrefl 0))]
      show joinL rest 1 (some (mkDR nm bf (ps.take c))) (balR bf (ps.take c)) (endB bf (ps.take c)) = joinL rest 1 (some (mkDR nm bf (ps.take c))) (balR bf (ps.take (1 * c))) (endB bf (ps.take (1 * c)))
      rw [Nat.one_mul]
    · rw [join_pre ok c k _ (by omega)]
      show joinL (txD (mkDR nm (endB bf (ps.take (k * c))) ((ps.drop (k * c)).take c)) :: rest) k (some (mkDR nm bf (ps.take c))) (balR bf (ps.take (k * c))) (endB bf (ps.take (k * c))) = _
      rw [joinL_some pk (fun z => by
        have g := go_ok ok (k * c) c
        have z2 : goB nm (balR bf (ps.take (k * c))) (endB bf (ps.take (k * c))) (mkDR nm (endB bf (ps.take (k * c))) ((ps.drop (k * c)).take c)) = false := z.2
        rw [g] at z2; cases z2)]
      show joinL rest (k + 1) (some (mkDR nm bf (ps.take c))) (balR bf (ps.take (k * c)) ++ balR (endB bf (ps.take (k * c))) ((ps.drop (k * c)).take c)) (endB (endB bf (ps.take (k * c))) ((ps.drop (k * c)).take c)) = _
      rw [e1, e2]
end L23

end SZO23

section SZP23

set_option Elab.async false
set_option linter.all false
set_option maxRecDepth 100000
namespace L23
open PySem L2 DL
local macro_rules
  | `(tactic| trivial) => `(tactic| simp only [wVar_eq, wC, wOp2, wOp1, wB_eq, wChain_eq, wTru_eq, wAndT_eq, wOrT_eq, wNotT, wAndV_eq, wOrV_eq, wNotV_eq, wIf_eq, wNil, wCons, wTup, wLst, wCB, wSkip, wSeq, wBrk, wCnt, wExpr, wRet, wRetN, wIfS_eq, wName, wGNil, wGCons, wGTup, wAsg, wSet, wPar, wPar3, wCall, wCallK, wMakeK, wMethK, wFld, wSetF, wAugF, wGFld, wLPut, wSlA, oSlA_tup, oSlA_lst, cutD_mapI, oMaxL_ints, wPN, wPS, oSl_lkd, wRaise, wListRange, wIt_eq, wFor_eq, wEnumT_eq, wRng1_eq, wZipM, wFrz_eq, wFrzS_eq, oIsT, oLen, oLe, oLt, oGe, oGt, oMax2, oMin2, o2I, oI, oI0, oOrd, oIsN, wBM, wBM0, oS0, oS1, oSplit, oEq, oNe, oAbs, oDivmod, oGcd, oAdd_int, oNeg_int, oInt_int, oInt_bl, oIx_tup, oIx_lst, oIx_lkd, oIx_r, cellL_r, lstOf_lst, ixN0, ixN2, put_same, put_put, List.set, oTuple_lst, oTuple_tup, oSum_ints, oSumT_ints, wRevT_eq, wAugI_eq, oAll_bls, atI0, atI1, atI2, endsOf, startD, getS, setS, opt_some, asBl_bl, asInt_int, asStr_str, asTup_tup, arg1_eq, arg2_eq, arg3_eq, List.length_nil, List.length_cons, Bool.not_true, Bool.not_false, if_true, Bool.false_eq_true, if_false, true_and, List.length_map, tru_bl, newL_f, newL_t, lenOf_lst, lenOf_tup, lenOf_lkd, eqD_int, eqD_str, seqAt_tup, seqAt_lst, seqAt_lkd, itAny_tup, itAny_lst, itAny_lkd, lstAt_lst, kd_int, kd_tup, kt_ii, kt_ib, kt_tt, oAdd_str, oStr_int])
def numOf : D → D
  | .tup (d :: ds) => match joinL (d :: ds) 0 none [] 0 with
    | .ok _ => .str ""
    | .error n => .int ((n : Nat) : Int)
  | _ => .non
structure PgFit (d : D) : Prop where
  kd : ∀ st, (kindOf st d).isSome = true
  fit : ∀ z zs, d = .tup (z :: zs) → (∀ y ∈ z :: zs, PgD y) ∧ zs.length ≤ 900
def ct__law_number_of_pages : CT := fun ds st Kd _ => arg1 ds fun d => PgFit d ∧ ∀ st', Sub st st' → Kd (numOf d) st'
theorem P__law_number_of_pages {K : Fr} {mg : Str → Option Value} (c : Known fs fn K mg) : ∀ ds st Kd Kx, ds.length = 1 → ct__law_number_of_pages ds st Kd Kx → W__law_number_of_pages K (ct_joined_pages K) (endsOf Kd Kx) ⟨startD 2 ds, st⟩ := by
  intro ds st Kd Kx hl h0
  obtain ⟨d, rfl, ⟨kd, fit⟩, h⟩ := arg1_ok h0
  unfold W__law_number_of_pages wTry
  try trivial
  simp only [ct_joined_pages, arg1_eq]
  refine ⟨kd st, ?_⟩
  have bad : ∀ (n : D) st', Kd n st' → XOk K (He.ga K "BadPages") ∧ ∃ b, PySem.W.exmOne K (.ref (He.ga K "BadPages")) (.ref (He.ga K "BadPages")) = some b ∧ (b = true → ∀ a dx, st' a = none → st' dx = none → Kd n st') ∧ (b = false → Kx (He.ga K "BadPages") n st') := fun n st' k => ⟨c.xo ix_xo_BadPages, true, c.xm ix_xm_BadPages_BadPages, fun _ _ _ _ _ => k, fun z => by cases z⟩
  have err : ∀ (n : D) st', Kd n st' → XOk K (He.ga K "BadPages") ∧ ∃ b, PySem.W.exmOne K (.ref (He.ga K "BadPages")) (.ref (He.ga K "BadPages")) = some b ∧ (b = true → ∀ a dx, st' a = none → st' dx = none → wXf a (He.ga K "BadPages") dx (wVar 1) ⟨[some d, some (.exc a (He.ga K "BadPages") dx n)], st'⟩ (fun d g => Kd d g.st) noX) ∧ (b = false → Kx (He.ga K "BadPages") n st') := fun n st' k => by
    refine ⟨c.xo ix_xo_BadPages, true, c.xm ix_xm_BadPages_BadPages, fun _ a dx _ _ => ?_, fun z => by cases z⟩
    unfold wXf
    try trivial
    exact ⟨_, rfl, k⟩
  cases d with
  | tup xs =>
    cases xs with
    | nil => trace_state; exact err .non st (h st Sub.refl)
    | cons z zs =>
      obtain ⟨f1, f2⟩ := fit z zs rfl
      refine ⟨f1, f2, ?_⟩
      have e : numOf (.tup (z :: zs)) = (match joinL (z :: zs) 0 none [] 0 with
        | .ok _ => D.str ""
        | .error n => D.int ((n : Nat) : Int)) := rfl
      rw [e] at h
      cases q : joinL (z :: zs) 0 none [] 0 with
      | ok r =>
        rw [q] at h
        exact fun st' s => h st' s
      | error n =>
        rw [q] at h
        exact fun st' s => err _ st' (h st' s)
  | _ => exact err .non st (h st Sub.refl)
theorem joined_all {nm : Str} {bf : Int} {ps : List Pst} (ok : OwnOk nm bf ps) {c : Nat} (c1 : 1 ≤ c) : joinL ((pgs nm c (nPg c ps.length) bf ps).map txD) 0 none [] 0 = .ok (mkDR nm bf (ps.take c), balR bf ps) := by
  have h := join_pre ok c (nPg c ps.length) [] (Nat.succ_pos _)
  rw [List.append_nil] at h
  have le : ps.length ≤ nPg c ps.length * c := by
    have := Nat.lt_mul_div_succ (ps.length - 1) (show 0 < c by omega)
    unfold nPg
    rw [Nat.mul_comm]
    omega
  rw [h, List.take_of_length_le le]
  rfl
theorem fit_tup {ds : List D} (h : ∀ y ∈ ds, PgD y) (hl : ds.length ≤ 900) : PgFit (.tup ds) where
  kd := fun st => rfl
  fit := fun z zs e => by
    cases e
    exact ⟨h, by rw [List.length_cons] at hl; omega⟩
theorem tx_pg {nm : Str} {bf : Int} {ps : List Pst} (ok : OwnOk nm bf ps) (c : Nat) : ∀ (n : Nat), ∀ y ∈ (pgs nm c n bf ps).map txD, PgD y := by
  intro n y hy
  obtain ⟨q, hq, rfl⟩ := List.mem_map.mp hy
  obtain ⟨k, hk, e⟩ := List.mem_iff_getElem.mp hq
  rw [pgs_len] at hk
  have g := pgs_get nm c bf ps hk
  rw [List.getElem?_eq_getElem (by rw [pgs_len]; exact hk), e] at g
  cases g
  exact pg_text (page_rd ok (k * c) c)
theorem num_err {ds : List D} {n : Nat} (h : joinL ds 0 none [] 0 = .error n) (ne : ds ≠ []) : numOf (.tup ds) = .int (n : Int) := by
  cases ds with
  | nil => exact absurd rfl ne
  | cons d r =>
    show (match joinL (d :: r) 0 none [] 0 with
      | .ok _ => D.str ""
      | .error n => D.int ((n : Nat) : Int)) = _
    rw [h]
section
variable {nm : Str} {bf : Int} {ps : List Pst} {c n k : Nat} {x : D}
theorem bent_at (ok : OwnOk nm bf ps) (hx : pageOf x = none) (post : List D) : numOf (.tup ((pgs nm c k bf ps).map txD ++ x :: post)) = .int (k : Int) := by
  refine num_err ?_ (by simp)
  by_cases k0 : k = 0
  · subst k0
    exact joinL_none hx
  · rw [join_pre ok c k _ (by omega), joinL_none hx]
theorem bent_go (ok : OwnOk nm bf ps) {q : DR} (k0 : 0 < k) (hx : pageOf x = some q) (hg : goB nm (balR bf (ps.take (k * c))) (endB bf (ps.take (k * c))) q = false) (post : List D) : numOf (.tup ((pgs nm c k bf ps).map txD ++ x :: post)) = .int (k : Int) := by
  refine num_err ?_ (by simp)
  rw [join_pre ok c k _ k0]
  exact joinL_bad (first := some (mkDR nm bf (ps.take c))) hx ⟨k0, hg⟩
end
theorem le_nPg {c l : Nat} (c1 : 1 ≤ c) : l ≤ nPg c l * c := by
  have := Nat.lt_mul_div_succ (l - 1) (show 0 < c by omega)
  unfold nPg
  rw [Nat.mul_comm]
  omega
end L23

end SZP23

section SZQ23

set_option Elab.async false
set_option linter.all false
set_option maxRecDepth 100000
namespace L23
open PySem L2 DL
local macro_rules
  | `(tactic| trivial) => `(tactic| simp only [wVar_eq, wC, wOp2, wOp1, wB_eq, wChain_eq, wTru_eq, wAndT_eq, wOrT_eq, wNotT, wAndV_eq, wOrV_eq, wNotV_eq, wIf_eq, wNil, wCons, wTup, wLst, wCB, wSkip, wSeq, wBrk, wCnt, wExpr, wRet, wRetN, wIfS_eq, wName, wGNil, wGCons, wGTup, wAsg, wSet, wPar, wPar3, wCall, wCallK, wMakeK, wMethK, wFld, wSetF, wAugF, wGFld, wLPut, wSlA, oSlA_tup, oSlA_lst, cutD_mapI, oMaxL_ints, wPN, wPS, oSl_lkd, wRaise, wListRange, wIt_eq, wFor_eq, wEnumT_eq, wRng1_eq, wZipM, wFrz_eq, wFrzS_eq, oIsT, oLen, oLe, oLt, oGe, oGt, oMax2, oMin2, o2I, oI, oI0, oOrd, oIsN, wBM, wBM0, oS0, oS1, oSplit, oEq, oNe, oAbs, oDivmod, oGcd, oAdd_int, oNeg_int, oInt_int, oInt_bl, oIx_tup, oIx_lst, oIx_lkd, oIx_r, cellL_r, lstOf_lst, ixN0, ixN2, put_same, put_put, List.set, oTuple_lst, oTuple_tup, oSum_ints, oSumT_ints, wRevT_eq, wAugI_eq, oAll_bls, atI0, atI1, atI2, endsOf, startD, getS, setS, opt_some, asBl_bl, asInt_int, asStr_str, asTup_tup, arg1_eq, arg2_eq, arg3_eq, List.length_nil, List.length_cons, Bool.not_true, Bool.not_false, if_true, Bool.false_eq_true, if_false, true_and, List.length_map, tru_bl, newL_f, newL_t, lenOf_lst, lenOf_tup, lenOf_lkd, eqD_int, eqD_str, seqAt_tup, seqAt_lst, seqAt_lkd, itAny_tup, itAny_lst, itAny_lkd, lstAt_lst, kd_int, kd_tup, kt_ii, kt_ib, kt_tt, oAdd_str, oStr_int])
def bt0 : WS := (wIfS (wB (wOp2 oEq (wVar 3) (wC (.int 0)))) (wRet (wTup (wCons (wCall 2 ct__law_of (wCons (wVar 0) (wCons (wLst false (wCons (wC .non) (wCons (wTup wNil) (wCons (wCB (oList false) (wCons (wVar 1) wNil)) (wCons (wOp2 oIx (wVar 1) (wC (.int 0))) (wCons (wC (.int 0)) wNil)))))) wNil))) (wCons (wC .non) wNil)))) wSkip)
def bt1 : WS := (wIfS (wB (wOp2 oEq (wVar 3) (wC (.int 1)))) (wRet (wTup (wCons (wOp2 (oAdd false) (wOp2 (oAdd false) (wSlA false (wVar 1) wPN (wPS (wVar 2))) (wTup (wCons (wCall 2 ct__law_of (wCons (wVar 0) (wCons (wLst false (wCons (wC .non) (wCons (wC (.str "")) (wCons (wC (.int 7)) (wCons (wOp2 (oAdd false) (wOp2 oIx (wVar 1) (wVar 2)) (wC (.str " "))) (wCons (wSlA false (wOp2 oIx (wVar 1) (wVar 2)) (wPS (wC (.int 1))) wPN) wNil)))))) wNil))) wNil))) (wSlA false (wVar 1) (wPS (wOp2 (oAdd false) (wVar 2) (wC (.int 1)))) wPN)) (wCons (wVar 2) wNil)))) wSkip)
def bt2 : WS := (wIfS (wAndT (wB (wOp2 oEq (wVar 3) (wC (.int 2)))) (wB (wOp2 oGt (wVar 2) (wC (.int 0))))) (wRet (wTup (wCons (wOp2 (oAdd false) (wOp2 (oAdd false) (wSlA false (wVar 1) wPN (wPS (wVar 2))) (wTup (wCons (wBM "str" oJoin (wC (.str "\n")) (wCons (wOp2 (oAdd false) (wLst false (wCons (wC (.str "statement zz.zz")) wNil)) (wSlA false (wVar 4) (wPS (wC (.int 1))) wPN)) wNil)) wNil))) (wSlA false (wVar 1) (wPS (wOp2 (oAdd false) (wVar 2) (wC (.int 1)))) wPN)) (wCons (wVar 2) wNil)))) wSkip)
def bt3 : WS := (wIfS (wB (wOp2 oEq (wVar 3) (wC (.int 3)))) (wRet (wTup (wCons (wOp2 (oAdd false) (wOp2 (oAdd false) (wSlA false (wVar 1) wPN (wPS (wVar 2))) (wTup (wCons (wBM "str" oJoin (wC (.str "\n")) (wCons (wOp2 (oAdd false) (wOp2 (oAdd false) (wSlA false (wVar 4) wPN (wPS (wC (.int 1)))) (wLst false (wCons (wC (.str "before 77777")) wNil))) (wSlA false (wVar 4) (wPS (wC (.int 2))) wPN)) wNil)) wNil))) (wSlA false (wVar 1) (wPS (wOp2 (oAdd false) (wVar 2) (wC (.int 1)))) wPN)) (wCons (wVar 2) wNil)))) wSkip)
def bt4 : WS := (wIfS (wB (wOp2 oEq (wVar 3) (wC (.int 4)))) (wSeq (wSet 5 (wBM "str" oJoin (wC (.str "\n")) (wCons (wLst false (wCons (wOp2 oIx (wVar 4) (wC (.int 0))) (wCons (wC (.str "before 123456")) (wCons (wC (.str "behind 123456")) wNil)))) wNil))) (wRet (wTup (wCons (wOp2 (oAdd false) (wVar 1) (wTup (wCons (wVar 5) wNil))) (wCons (wCB oLen (wCons (wVar 1) wNil)) wNil))))) wSkip)
def bt5s : WS := (wSet 6 (wOp2 oIx (wBM "str" (oSplit false) (wOp2 oIx (wBM "str" (oSplit false) (wOp2 oIx (wVar 1) (wOp1 oNeg (wC (.int 1)))) (wCons (wC (.str "\n")) wNil)) (wOp1 oNeg (wC (.int 1)))) (wCons (wC (.str " ")) wNil)) (wC (.int 1))))
def bt5 : WS := (wIfS (wAndT (wB (wOp2 oEq (wVar 3) (wC (.int 5)))) (wB (wOp2 oGt (wCB oLen (wCons (wBM "str" (oSplit false) (wOp2 oIx (wVar 1) (wC (.int 0))) (wCons (wC (.str "\n")) wNil)) wNil)) (wC (.int 3))))) (wSeq (wSet 5 (wBM "str" oJoin (wC (.str "\n")) (wCons (wLst false (wCons (wOp2 oIx (wVar 4) (wC (.int 0))) (wCons (wOp2 (oAdd false) (wC (.str "before ")) (wVar 6)) (wCons (wOp2 (oAdd false) (wC (.str "posting 1 0 ")) (wVar 6)) (wCons (wOp2 (oAdd false) (wC (.str "behind ")) (wVar 6)) wNil))))) wNil))) (wRet (wTup (wCons (wOp2 (oAdd false) (wVar 1) (wTup (wCons (wVar 5) wNil))) (wCons (wCB oLen (wCons (wVar 1) wNil)) wNil))))) wSkip)
def bt6 : WS := (wRet (wTup (wCons (wOp2 (oAdd false) (wVar 1) (wTup (wCons (wC .non) wNil))) (wCons (wCB oLen (wCons (wVar 1) wNil)) wNil))))
theorem bent_eq (K : Fr) : W__law_bent K ct__law_of ct__law_take = (wSeq (wPar 2 3 (wCons (wCall 2 ct__law_take (wCons (wVar 0) (wCons (wCB oLen (wCons (wVar 1) wNil)) wNil))) (wCons (wCall 2 ct__law_take (wCons (wVar 0) (wCons (wC (.int 7)) wNil))) wNil))) (wSeq (wSet 4 (wBM "str" (oSplit false) (wOp2 oIx (wVar 1) (wVar 2)) (wCons (wC (.str "\n")) wNil))) (wSeq bt0 (wSeq bt1 (wSeq bt2 (wSeq bt3 (wSeq bt4 (wSeq bt5s (wSeq bt5 bt6))))))))) := rfl
def NumD (d : D) : Prop := d = .non ∨ ∃ i : Nat, d = .int (i : Int) ∧ i ≤ 100
abbrev pgJ (nm : Str) (bf : Int) (ps : List Pst) (c j : Nat) : DR := mkDR nm (endB bf (ps.take (j * c))) ((ps.drop (j * c)).take c)
abbrev pgT (nm : Str) (bf : Int) (ps : List Pst) (c : Nat) : List DR := pgs nm c (nPg c ps.length) bf ps
def slB (a : Addr) (T : List DR) (j w : Nat) (L : List Str) (s5 s6 : Option D) : List (Option D) := [some (.ref a), some (.tup (T.map txD)), some (.int (j : Int)), some (.int (w : Int)), some (.lst (L.map D.str)), s5, s6]
theorem oAdd_tt {b : Bool} {xs ys : List D} {g : G} {K : KD} : oAdd b (.tup xs) (.tup ys) g K = (xs.length + ys.length ≤ sizeLine ∧ K (.tup (xs ++ ys)) g) := id rfl
theorem fit_no {d : D} (h : ∀ st, (kindOf st d).isSome = true) (n : ∀ z zs, d ≠ .tup (z :: zs)) : PgFit d := ⟨h, fun z zs e => absurd e (n z zs)⟩
section
variable {nm : Str} {bf : Int} {ps : List Pst} {c j w k : Nat} {a : Addr} {Kd : D → Sto → Prop} {Kx : Addr → D → Sto → Prop} {t : Sto} {s5 s6 : Option D} {R : WS}
theorem T_len (ok : OwnOk nm bf ps) : (pgT nm bf ps c).length ≤ 10 := by
  rw [pgs_len]
  have := nPg_le c ps.length; have := ok.len; omega
theorem T_get (hj : j < nPg c ps.length) : ((pgT nm bf ps c).map txD)[j]? = some (txD (pgJ nm bf ps c j)) := by
  rw [List.getElem?_map, pgs_get nm c bf ps hj]; rfl
theorem T_mid (ok : OwnOk nm bf ps) (hj : j < nPg c ps.length) (x : D) (hx : PgD x) : PgFit (.tup (((pgs nm c j bf ps).map txD ++ [x]) ++ ((pgT nm bf ps c).map txD).drop (j + 1))) := by
  have l := T_len (c := c) ok
  refine fit_tup (fun y hy => ?_) ?_
  · rcases List.mem_append.mp hy with hy | hy
    · rcases List.mem_append.mp hy with hy | hy
      · exact tx_pg ok c j y hy
      · rw [List.mem_singleton.mp hy]; exact hx
    · exact tx_pg ok c _ y (List.mem_of_mem_drop hy)
  · rw [List.length_append, List.length_append, List.length_map, pgs_len, List.length_drop, List.length_map, pgs_len]
    rw [pgs_len] at l
    simp; omega
theorem T_end (ok : OwnOk nm bf ps) (x : D) (hx : PgD x) : PgFit (.tup ((pgT nm bf ps c).map txD ++ [x])) := by
  have l := T_len (c := c) ok
  refine fit_tup (fun y hy => ?_) (by rw [List.length_append, List.length_map]; simp; omega)
  rcases List.mem_append.mp hy with hy | hy
  · exact tx_pg ok c _ y hy
  · rw [List.mem_singleton.mp hy]; exact hx
theorem numD_nat {i : Nat} (h : i ≤ 100) : NumD (.int (i : Int)) := .inr ⟨i, rfl, h⟩
theorem oList_tup {xs : List D} {g : G} {K : KD} : oList false [.tup xs] g K = K (.lst xs) g := id rfl
theorem bt0_ok {L : List Str} (ok : OwnOk nm bf ps) (hk : k ≤ 900000) (hp : PotAt t a k) (h : ∀ bent num t', PgFit bent → numOf bent = num → NumD num → Pots t a (k + 1) t' → Kd (.tup [bent, num]) t')
    (r : w ≠ 0 → R (endsOf Kd Kx) ⟨slB a (pgT nm bf ps c) j w L s5 s6, t⟩) : (wSeq bt0 R) (endsOf Kd Kx) ⟨slB a (pgT nm bf ps c) j w L s5 s6, t⟩ := by
  show bt0 { endsOf Kd Kx with nx := R (endsOf Kd Kx) } _
  generalize R (endsOf Kd Kx) = RR at r ⊢
  unfold bt0
  unfold slB at r ⊢
  try trivial
  by_cases w0 : w = 0
  · rw [if_pos (by rw [w0]; rfl)]
    have e0 : atI ((pgT nm bf ps c).map txD) 0 = some (txD (pgJ nm bf ps c 0)) := atI_pos (n := 0) (T_get (Nat.succ_pos _))
    refine ⟨Nat.zero_le _, ?_⟩
    rw [oList_tup]
    try trivial
    rw [e0, opt_some]
    refine ⟨sz (by decide), ?_⟩
    simp only [ct__law_of, arg2_eq]
    refine ⟨a, _, k, rfl, rfl, ⟨by simp, by simp⟩, by omega, hp, fun y t' hy ht => ⟨sz (by decide), ?_⟩⟩
    simp only [List.mem_cons, List.not_mem_nil, or_false] at hy
    rcases hy with rfl | rfl | rfl | rfl | rfl
    · exact h _ _ t' (fit_no (fun _ => rfl) (fun _ _ e => nomatch e)) rfl (.inl rfl) ht
    · exact h _ _ t' (fit_no (fun _ => rfl) (fun _ _ e => nomatch e)) rfl (.inl rfl) ht
    · exact h _ _ t' (fit_no (fun _ => rfl) (fun _ _ e => nomatch e)) rfl (.inl rfl) ht
    · exact h _ _ t' (fit_no (fun _ => rfl) (fun _ _ e => nomatch e)) rfl (.inl rfl) ht
    · exact h _ _ t' (fit_no (fun _ => rfl) (fun _ _ e => nomatch e)) rfl (.inl rfl) ht
  · rw [if_neg (by simp; omega)]
    exact r w0
theorem cut_pg {q : DR} (h : RdOk q) : PgD (.str (cutS (draftText q) (some 1) none)) := by
  have a_tat : Asc ("tatement " : Str) := by unfold Asc; decide +kernel
  have tx := h.txq
  have key : ∀ l ∈ (("tatement " : Str) ++ q.1) :: bfL q.2.1 :: (q.2.2.1.map poL ++ [bhL q.2.2.2]), Asc l ∧ l.length ≤ 200 := by
    intro l hl
    rcases List.mem_cons.mp hl with rfl | hl
    · refine ⟨a_tat.app (asc_acc h.acc), ?_⟩
      have w : ("tatement " : Str).length = 9 := by decide +kernel
      have al := tx.al
      rw [app_len, w]; omega
    · have hd : l ∈ draftLines q := by unfold draftLines; exact List.mem_cons_of_mem _ hl
      refine ⟨?_, tx.lines l hd⟩
      rcases List.mem_cons.mp hl with rfl | hl
      · exact a_bf.app (asc_num _)
      rcases List.mem_append.mp hl with hl | hl
      · obtain ⟨r, _, rfl⟩ := List.mem_map.mp hl
        exact ((((a_po.app (asc_num _)).app a_sp).app (asc_num _)).app a_sp).app (asc_num _)
      · rw [List.mem_singleton] at hl; subst hl; exact a_bh.app (asc_num _)
  rw [cut_text, TL.join_eq]
  refine ⟨?_, (asc_join _ fun l hl => (key l hl).1).ok⟩
  have := join_len fun l hl => (key l hl).2
  have ln := tx.len
  rw [List.length_cons, List.length_cons, List.length_append, List.length_map, List.length_singleton] at this
  omega
theorem mid_ok {L : List Str} {t' : Sto} {x : D} (ok : OwnOk nm bf ps) (hj : j < nPg c ps.length) (hx : PgD x) (hn : ∀ post, numOf (.tup ((pgs nm c j bf ps).map txD ++ x :: post)) = .int (j : Int)) (h : ∀ bent num, PgFit bent → numOf bent = num → NumD num → Kd (.tup [bent, num]) t') :
    oAdd false (.tup (((pgT nm bf ps c).map txD).take j)) (.tup [x]) ⟨[some (.ref a), some (.tup ((pgT nm bf ps c).map txD)), some (.int (j : Int)), some (.int (w : Int)), some (.lst (L.map D.str)), s5, s6], t'⟩ fun a g1 => opt (getS g1.sl 1) fun d => opt (getS g1.sl 2) fun d5 => oAdd false d5 (.int 1) g1 fun d6 g1 => asInt d6 fun i => oSlA false d (some i) none g1 fun b g2 => oAdd false a b g2 fun d g1 => opt (getS g1.sl 2) fun d7 => 0 + 1 + 1 ≤ sizeLine ∧ Kd (.tup [d, d7]) g1.st := by
  have l := T_len (c := c) ok
  have ln : nPg c ps.length ≤ 10 := by rw [pgs_len] at l; exact l
  rw [← List.map_take, pgs_take nm c bf ps (Nat.le_of_lt hj), oAdd_tt]
  refine ⟨sz (by rw [List.length_map, pgs_len]; simp; omega), ?_⟩
  try trivial
  rw [show ((j : Int) + 1) = ((j + 1 : Nat) : Int) from rfl, cut_drop, oAdd_tt]
  have f := T_mid (c := c) ok hj x hx
  refine ⟨sz (by rw [List.length_append, List.length_map, pgs_len, List.length_drop, List.length_map]; simp; omega), sz (by decide), h _ _ f ?_ (numD_nat (i := j) (by omega))⟩
  rw [List.append_assoc]
  exact hn _
theorem bt1_ok {L : List Str} (ok : OwnOk nm bf ps) (hj : j < nPg c ps.length) (hk : k ≤ 900000) (hp : PotAt t a k) (h : ∀ bent num t', PgFit bent → numOf bent = num → NumD num → Pots t a (k + 1) t' → Kd (.tup [bent, num]) t')
    (r : w ≠ 1 → R (endsOf Kd Kx) ⟨slB a (pgT nm bf ps c) j w L s5 s6, t⟩) : (wSeq bt1 R) (endsOf Kd Kx) ⟨slB a (pgT nm bf ps c) j w L s5 s6, t⟩ := by
  show bt1 { endsOf Kd Kx with nx := R (endsOf Kd Kx) } _
  generalize R (endsOf Kd Kx) = RR at r ⊢
  unfold bt1
  unfold slB at r ⊢
  try trivial
  by_cases w0 : w = 1
  · rw [if_pos (by rw [w0]; rfl)]
    have ej : atI ((pgT nm bf ps c).map txD) (j : Int) = some (txD (pgJ nm bf ps c j)) := atI_pos (T_get hj)
    have rd : RdOk (pgJ nm bf ps c j) := page_rd ok (j * c) c
    have tl : (draftText (pgJ nm bf ps c j)).length ≤ 101103 := text_len rd.txq
    have up := up_mk nm (endB bf (ps.take (j * c))) ((ps.drop (j * c)).take c)
    have as := asc_text rd.acc
    rw [cut_take]
    rw [ej, opt_some]
    unfold txD at ej ⊢
    rw [oAdd_str]
    have l1 : (" " : Str).length = 1 := w_sp
    refine ⟨sz (by rw [l1]; omega), ?_⟩
    try trivial
    rw [ej, opt_some]
    refine ⟨sz (by omega), sz (by decide), ?_⟩
    simp only [ct__law_of, arg2_eq]
    refine ⟨a, _, k, rfl, rfl, ⟨by simp, by simp⟩, by omega, hp, fun y t' hy ht => ⟨sz (by decide), ?_⟩⟩
    have go : ∀ x, PgD x → pageOf x = none → _ := fun x hx hn => mid_ok (Kd := Kd) (a := a) (w := w) (s5 := s5) (s6 := s6) (L := L) (t' := t') ok hj hx (bent_at ok hn) fun bent num b1 b2 b3 => h bent num t' b1 b2 b3 ht
    simp only [List.mem_cons, List.not_mem_nil, or_false] at hy
    rcases hy with rfl | rfl | rfl | rfl | rfl
    · exact go _ True.intro rfl
    · exact go _ ⟨by decide +kernel, by unfold strOk; decide +kernel⟩ (page_err rd_bent0)
    · exact go _ True.intro rfl
    · obtain ⟨n, e⟩ := rd_space rd
      exact go _ ⟨by rw [app_len, l1]; omega, (as.app a_sp).ok⟩ (page_err e)
    · exact go _ (cut_pg rd) (page_err (rd_cut rd.acc))
  · rw [if_neg (by simp; omega)]
    exact r w0
end
end L23

end SZQ23

section SZR23

set_option Elab.async false
set_option linter.all false
set_option maxRecDepth 100000
namespace L23
open PySem L2 DL
local macro_rules
  | `(tactic| trivial) => `(tactic| simp only [wVar_eq, wC, wOp2, wOp1, wB_eq, wChain_eq, wTru_eq, wAndT_eq, wOrT_eq, wNotT, wAndV_eq, wOrV_eq, wNotV_eq, wIf_eq, wNil, wCons, wTup, wLst, wCB, wSkip, wSeq, wBrk, wCnt, wExpr, wRet, wRetN, wIfS_eq, wName, wGNil, wGCons, wGTup, wAsg, wSet, wPar, wPar3, wCall, wCallK, wMakeK, wMethK, wFld, wSetF, wAugF, wGFld, wLPut, wSlA, oSlA_tup, oSlA_lst, cutD_mapI, oMaxL_ints, wPN, wPS, oSl_lkd, wRaise, wListRange, wIt_eq, wFor_eq, wEnumT_eq, wRng1_eq, wZipM, wFrz_eq, wFrzS_eq, oIsT, oLen, oLe, oLt, oGe, oGt, oMax2, oMin2, o2I, oI, oI0, oOrd, oIsN, wBM, wBM0, oS0, oS1, oSplit, oEq, oNe, oAbs, oDivmod, oGcd, oAdd_int, oNeg_int, oInt_int, oInt_bl, oIx_tup, oIx_lst, oIx_lkd, oIx_r, cellL_r, lstOf_lst, ixN0, ixN2, put_same, put_put, List.set, oTuple_lst, oTuple_tup, oSum_ints, oSumT_ints, wRevT_eq, wAugI_eq, oAll_bls, atI0, atI1, atI2, endsOf, startD, getS, setS, opt_some, asBl_bl, asInt_int, asStr_str, asTup_tup, arg1_eq, arg2_eq, arg3_eq, List.length_nil, List.length_cons, Bool.not_true, Bool.not_false, if_true, Bool.false_eq_true, if_false, true_and, List.length_map, tru_bl, newL_f, newL_t, lenOf_lst, lenOf_tup, lenOf_lkd, eqD_int, eqD_str, seqAt_tup, seqAt_lst, seqAt_lkd, itAny_tup, itAny_lst, itAny_lkd, lstAt_lst, kd_int, kd_tup, kt_ii, kt_ib, kt_tt, oAdd_str, oStr_int])
theorem up_nm (nm nm' : Str) (h : Int) (rows : List Row) (e : Int) : upB (nm, h, rows, e) = upB (nm', h, rows, e) := by rw [up_eq, up_eq]
theorem zz_acc : isAccS "zz.zz" = true := by decide +kernel
theorem b77 : -big ≤ (77777 : Int) ∧ (77777 : Int) ≤ big := ⟨by decide, by decide⟩
theorem b12 : -big ≤ (123456 : Int) ∧ (123456 : Int) ≤ big := ⟨by decide, by decide⟩
theorem row5 {e : Int} (be : -big ≤ e ∧ e ≤ big) : RowOk 0 (1, 0, e) := ⟨show (0 : Int) + 1 ≤ 1 by decide, show (1 : Int) ≤ 1000000000 by decide, ⟨show -big ≤ (0 : Int) by decide, show (0 : Int) ≤ big by decide⟩, be⟩
theorem dl_last (q : DR) : (draftLines q).getLast? = some (bhL q.2.2.2) := by
  have : draftLines q = (stL q.1 :: bfL q.2.1 :: q.2.2.1.map poL) ++ [bhL q.2.2.2] := rfl
  rw [this, List.getLast?_concat]
theorem e_zz : ("statement zz.zz" : Str) = stL "zz.zz" := TL.ext_tl (by decide +kernel)
theorem e_77 : ("before 77777" : Str) = bfL 77777 := TL.ext_tl (by decide +kernel)
theorem e_12 : ("before 123456" : Str) = bfL 123456 := TL.ext_tl (by decide +kernel)
theorem e_bh12 : ("behind 123456" : Str) = bhL 123456 := TL.ext_tl (by decide +kernel)
theorem zz_ne {nm : Str} {bf : Int} {ps : List Pst} (ok : OwnOk nm bf ps) : ("zz.zz" : Str) ≠ nm := by
  rcases ok.nm with rfl | rfl | rfl | rfl <;> decide +kernel
theorem joinQ {q : DR} {g : G} {K : KD} (h : TxQ q) (k : K (.str (draftText q)) g) : oJoin (.str "
") [.lst ((draftLines q).map D.str)] g K :=
  join_ok (st := g.st) (M := 200) h.lines (by rw [q_cnt]; have := h.len; omega) k
theorem oAdd_ll {xs ys : List D} {g : G} {K : KD} : oAdd false (.lst xs) (.lst ys) g K = (xs.length + ys.length ≤ sizeLine ∧ K (.lst (xs ++ ys)) g) := id rfl
theorem q_len {nm : Str} {bf : Int} {ps : List Pst} (ok : OwnOk nm bf ps) (c j : Nat) : (draftLines (pgJ nm bf ps c j)).length ≤ 20 := by
  rw [q_cnt]
  show (balR _ _).length + 3 ≤ 20
  rw [balR_length, List.length_take, List.length_drop]
  have := ok.len; omega
theorem n_end {ps : List Pst} {c : Nat} (c1 : 1 ≤ c) : ps.take (nPg c ps.length * c) = ps := List.take_of_length_le (le_nPg c1)
section
variable {nm : Str} {bf : Int} {ps : List Pst} {c j w k : Nat} {a : Addr} {Kd : D → Sto → Prop} {Kx : Addr → D → Sto → Prop} {t : Sto} {s5 s6 : Option D} {R : WS}
abbrev pgL (nm : Str) (bf : Int) (ps : List Pst) (c j : Nat) : List Str := draftLines (pgJ nm bf ps c j)
theorem bt2_ok (ok : OwnOk nm bf ps) (hj : j < nPg c ps.length) (h : ∀ bent num, PgFit bent → numOf bent = num → NumD num → Kd (.tup [bent, num]) t)
    (r : R (endsOf Kd Kx) ⟨slB a (pgT nm bf ps c) j w (pgL nm bf ps c j) s5 s6, t⟩) : (wSeq bt2 R) (endsOf Kd Kx) ⟨slB a (pgT nm bf ps c) j w (pgL nm bf ps c j) s5 s6, t⟩ := by
  show bt2 { endsOf Kd Kx with nx := R (endsOf Kd Kx) } _
  generalize R (endsOf Kd Kx) = RR at r ⊢
  unfold bt2
  unfold slB at r ⊢
  try trivial
  by_cases w0 : w = 2
  · rw [if_pos (by rw [w0]; rfl)]
    by_cases j0 : j = 0
    · rw [if_neg (by simp; omega)]
      exact r
    · rw [if_pos (decide_eq_true (by omega))]
      have ll : (pgL nm bf ps c j).length ≤ 20 := q_len ok c j
      have rd : RdOk (pgJ nm bf ps c j) := page_rd ok (j * c) c
      have rz : RdOk ("zz.zz", (pgJ nm bf ps c j).2) := ⟨zz_acc, rd.bf, rd.bh, rd.len, rd.rows⟩
      have uz : upB ("zz.zz", (pgJ nm bf ps c j).2) = true := by
        have := up_mk nm (endB bf (ps.take (j * c))) ((ps.drop (j * c)).take c)
        rw [← this]; exact up_nm _ _ _ _ _
      refine ⟨rfl, sz (by decide), ?_⟩
      have c1 : cutD ((pgL nm bf ps c j).map D.str) (some 1) none = ((pgL nm bf ps c j).map D.str).drop 1 := cut_drop (k := 1)
      rw [c1, oAdd_ll]
      refine ⟨sz (by rw [List.length_drop, List.length_map]; simp; omega), ?_⟩
      have e : [D.str ("statement zz.zz" : Str)] ++ ((pgL nm bf ps c j).map D.str).drop 1 = (draftLines ("zz.zz", (pgJ nm bf ps c j).2)).map D.str := by rw [e_zz]; rfl
      rw [e]
      refine joinQ rz.txq ⟨sz (by decide), ?_⟩
      rw [cut_take]
      refine mid_ok (L := pgL nm bf ps c j) ok hj (pg_text rz) (bent_go ok (by omega) (page_ok rz uz) ?_) h
      unfold goB
      rw [decide_eq_false (zz_ne ok)]; rfl
  · rw [if_neg (by simp; omega)]
    exact r
theorem bt3_ok (ok : OwnOk nm bf ps) (hj : j < nPg c ps.length) (h : ∀ bent num, PgFit bent → numOf bent = num → NumD num → Kd (.tup [bent, num]) t)
    (r : R (endsOf Kd Kx) ⟨slB a (pgT nm bf ps c) j w (pgL nm bf ps c j) s5 s6, t⟩) : (wSeq bt3 R) (endsOf Kd Kx) ⟨slB a (pgT nm bf ps c) j w (pgL nm bf ps c j) s5 s6, t⟩ := by
  show bt3 { endsOf Kd Kx with nx := R (endsOf Kd Kx) } _
  generalize R (endsOf Kd Kx) = RR at r ⊢
  unfold bt3
  unfold slB at r ⊢
  try trivial
  by_cases w0 : w = 3
  · rw [if_pos (by rw [w0]; rfl)]
    have ll : (pgL nm bf ps c j).length ≤ 20 := q_len ok c j
    have rd : RdOk (pgJ nm bf ps c j) := page_rd ok (j * c) c
    have rz : RdOk (nm, 77777, (pgJ nm bf ps c j).2.2) := ⟨rd.acc, b77, rd.bh, rd.len, rd.rows⟩
    have uz : upB (nm, 77777, (pgJ nm bf ps c j).2.2) = false := up_not (Ne.symm (own_wd ok (j * c)).1)
    refine ⟨rfl, sz (by decide), ?_⟩
    have c1 : cutD ((pgL nm bf ps c j).map D.str) none (some 1) = ((pgL nm bf ps c j).map D.str).take 1 := cut_take (k := 1)
    have c2 : cutD ((pgL nm bf ps c j).map D.str) (some 2) none = ((pgL nm bf ps c j).map D.str).drop 2 := cut_drop (k := 2)
    rw [c1, oAdd_ll]
    refine ⟨sz (by rw [List.length_take, List.length_map]; simp; omega), ?_⟩
    try trivial
    rw [c2, oAdd_ll]
    refine ⟨sz (by rw [List.length_append, List.length_take, List.length_drop, List.length_map]; simp; omega), ?_⟩
    have e : ((pgL nm bf ps c j).map D.str).take 1 ++ [D.str ("before 77777" : Str)] ++ ((pgL nm bf ps c j).map D.str).drop 2 = (draftLines (nm, 77777, (pgJ nm bf ps c j).2.2)).map D.str := by rw [e_77]; rfl
    rw [e]
    refine joinQ rz.txq ⟨sz (by decide), ?_⟩
    rw [cut_take]
    exact mid_ok (L := pgL nm bf ps c j) ok hj (pg_text rz) (bent_at ok (page_no rz uz)) h
  · rw [if_neg (by simp; omega)]
    exact r
theorem bt4_ok (ok : OwnOk nm bf ps) (hj : j < nPg c ps.length) (h : ∀ bent num, PgFit bent → numOf bent = num → NumD num → Kd (.tup [bent, num]) t)
    (r : R (endsOf Kd Kx) ⟨slB a (pgT nm bf ps c) j w (pgL nm bf ps c j) s5 s6, t⟩) : (wSeq bt4 R) (endsOf Kd Kx) ⟨slB a (pgT nm bf ps c) j w (pgL nm bf ps c j) s5 s6, t⟩ := by
  show bt4 { endsOf Kd Kx with nx := R (endsOf Kd Kx) } _
  generalize R (endsOf Kd Kx) = RR at r ⊢
  unfold bt4
  unfold slB at r ⊢
  try trivial
  by_cases w0 : w = 4
  · rw [if_pos (by rw [w0]; rfl)]
    have rz : RdOk (nm, 123456, [], 123456) := ⟨own_acc ok, b12, b12, Nat.zero_le _, True.intro⟩
    have uz : upB (nm, 123456, [], 123456) = true := up_mk nm 123456 []
    refine ⟨rfl, ?_⟩
    rw [show atI ((pgL nm bf ps c j).map D.str) 0 = some (.str (stL nm)) from atI0, opt_some]
    refine ⟨sz (by decide), ?_⟩
    have e : [D.str (stL nm), D.str ("before 123456" : Str), D.str ("behind 123456" : Str)] = (draftLines (nm, 123456, [], 123456)).map D.str := by rw [e_12, e_bh12]; rfl
    rw [e]
    refine joinQ rz.txq ?_
    try trivial
    refine ⟨sz (by decide), ?_⟩
    rw [oAdd_tt]
    have l := T_len (c := c) ok
    refine ⟨sz (by rw [List.length_map]; simp; omega), ?_⟩
    try trivial
    refine ⟨sz (by decide), ?_⟩
    rw [pgs_len] at l ⊢
    refine h _ _ (T_end ok _ (pg_text rz)) (bent_go (k := nPg c ps.length) ok (Nat.succ_pos _) (page_ok rz uz) ?_ []) (numD_nat (i := nPg c ps.length) (by omega))
    unfold goB
    rw [decide_eq_true rfl, decide_eq_false (Ne.symm (own_wd ok _).2)]; rfl
  · rw [if_neg (by simp; omega)]
    exact r
theorem bt5_ok (ok : OwnOk nm bf ps) (c1 : 1 ≤ c) (hj : j < nPg c ps.length) (h : ∀ bent num, PgFit bent → numOf bent = num → NumD num → Kd (.tup [bent, num]) t)
    (r : R (endsOf Kd Kx) ⟨slB a (pgT nm bf ps c) j w (pgL nm bf ps c j) s5 (some (.str (toString (endB bf ps)))), t⟩) : (wSeq bt5 R) (endsOf Kd Kx) ⟨slB a (pgT nm bf ps c) j w (pgL nm bf ps c j) s5 (some (.str (toString (endB bf ps)))), t⟩ := by
  show bt5 { endsOf Kd Kx with nx := R (endsOf Kd Kx) } _
  generalize R (endsOf Kd Kx) = RR at r ⊢
  unfold bt5
  unfold slB at r ⊢
  try trivial
  have n0 : 0 < nPg c ps.length := Nat.succ_pos _
  have eN := n_end (ps := ps) c1
  have ll := T_len (c := c) ok
  by_cases w0 : w = 5
  · rw [if_pos (by rw [w0]; rfl)]
    have r0 : RdOk (pgJ nm bf ps c 0) := page_rd ok (0 * c) c
    have t0 := text_len r0.txq
    rw [show atI ((pgT nm bf ps c).map txD) 0 = some (txD (pgJ nm bf ps c 0)) from atI_pos (n := 0) (T_get n0), opt_some]
    refine ⟨rfl, ?_⟩
    unfold txD
    rw [asStr_str]
    refine ⟨⟨nl3, sz (by omega)⟩, ?_⟩
    rw [dt_split r0.acc]
    have el : (draftLines (pgJ nm bf ps c 0)).length = (ps.take c).length + 3 := by
      rw [q_cnt]
      show (balR (endB bf (ps.take (0 * c))) ((ps.drop (0 * c)).take c)).length + 3 = _
      rw [balR_length, Nat.zero_mul, List.drop_zero]
    rw [el]
    by_cases pz : ps.take c = []
    · rw [if_neg (by rw [pz]; simp)]
      exact r
    · have pl : 0 < (ps.take c).length := List.length_pos_iff.mpr pz
      have pn : ps ≠ [] := fun z => pz (by rw [z]; simp)
      rw [if_pos (decide_eq_true (by omega))]
      have be : -big ≤ endB bf ps ∧ endB bf ps ≤ big := by
        have := part_end ok 0 ps.length
        simpa [endB] using this
      have rz : RdOk (nm, endB bf ps, [(1, 0, endB bf ps)], endB bf ps) := ⟨own_acc ok, be, be, by show 1 ≤ 500; decide, ⟨row5 be, True.intro⟩⟩
      have uz : upB (nm, endB bf ps, [(1, 0, endB bf ps)], endB bf ps) = true := by
        have := up_mk nm (endB bf ps) [(1, 0)]
        have e1 : endB bf ps + 0 = endB bf ps := by omega
        simp only [mkDR, balR, endB, e1] at this
        exact this
      refine ⟨rfl, ?_⟩
      rw [show atI ((pgL nm bf ps c j).map D.str) 0 = some (.str (stL nm)) from atI0, opt_some]
      have l1 : (toString (endB bf ps) : Str).length ≤ 41 := (show Sm (endB bf ps) from sm_big be).len
      have wp : ("posting 1 0 " : Str).length = 12 := by decide +kernel
      refine ⟨bd' (by rw [w_bf]; omega), bd' (by rw [wp]; omega), bd' (by rw [w_bh]; omega), sz (by decide), ?_⟩
      have ep : ("posting 1 0 " : Str) ++ (toString (endB bf ps) : Str) = poL (1, 0, endB bf ps) := by
        have : ("posting 1 0 " : Str) = ((("posting " : Str) ++ (toString (1 : Int) : Str)) ++ (" " : Str)) ++ (toString (0 : Int) : Str) ++ (" " : Str) := TL.ext_tl (by decide +kernel)
        rw [this]; rfl
      have e : [D.str (stL nm), D.str (("before " : Str) ++ (toString (endB bf ps) : Str)), D.str (("posting 1 0 " : Str) ++ (toString (endB bf ps) : Str)), D.str (("behind " : Str) ++ (toString (endB bf ps) : Str))] = (draftLines (nm, endB bf ps, [(1, 0, endB bf ps)], endB bf ps)).map D.str := by rw [ep]; rfl
      rw [e]
      refine joinQ rz.txq ?_
      try trivial
      refine ⟨sz (by decide), ?_⟩
      rw [oAdd_tt]
      refine ⟨sz (by rw [List.length_map]; simp; omega), ?_⟩
      try trivial
      refine ⟨sz (by decide), ?_⟩
      rw [pgs_len] at ll ⊢
      refine h _ _ (T_end ok _ (pg_text rz)) (bent_go (k := nPg c ps.length) ok n0 (page_ok rz uz) ?_ []) (numD_nat (i := nPg c ps.length) (by omega))
      rw [eN]
      unfold goB
      rw [decide_eq_true rfl, decide_eq_true rfl]
      have ln := lastN_bal ps bf 0 pn
      have lb := lastP_bd ps 0 ok.asc
      have l0 : 1 ≤ lastP 0 ps := by
        cases hps : ps with
        | nil => exact absurd hps pn
        | cons p r =>
          have a := ok.asc
          rw [hps] at a
          obtain ⟨a1, a2⟩ := a
          have := lastP_bd r p.1 a2
          show 1 ≤ lastP p.1 r
          omega
      have ne : (balR bf ps).isEmpty = false := by
        cases hps : ps with
        | nil => exact absurd hps pn
        | cons p r => rfl
      have fz : decide (lastN (balR bf ps) < firstN [((1 : Int), (0 : Int), endB bf ps)]) = false := decide_eq_false (by rw [ln]; show ¬ lastP 0 ps < 1; omega)
      rw [ne]
      show (true && (true && (false || (false || decide (lastN (balR bf ps) < firstN [((1 : Int), (0 : Int), endB bf ps)]))))) = false
      rw [fz]; rfl
  · rw [if_neg (by simp; omega)]
    exact r
theorem bt6_ok {L : List Str} (ok : OwnOk nm bf ps) (h : ∀ bent num, PgFit bent → numOf bent = num → NumD num → Kd (.tup [bent, num]) t) : bt6 (endsOf Kd Kx) ⟨slB a (pgT nm bf ps c) j w L s5 s6, t⟩ := by
  have ll := T_len (c := c) ok
  unfold bt6 slB
  try trivial
  refine ⟨sz (by decide), ?_⟩
  rw [oAdd_tt]
  refine ⟨sz (by rw [List.length_map]; simp; omega), ?_⟩
  try trivial
  refine ⟨sz (by decide), ?_⟩
  rw [pgs_len] at ll ⊢
  exact h _ _ (T_end ok _ True.intro) (bent_at (k := nPg c ps.length) ok rfl []) (numD_nat (i := nPg c ps.length) (by omega))
theorem bt5s_ok {L : List Str} (ok : OwnOk nm bf ps) (c1 : 1 ≤ c) (r : R (endsOf Kd Kx) ⟨slB a (pgT nm bf ps c) j w L s5 (some (.str (toString (endB bf ps)))), t⟩) : (wSeq bt5s R) (endsOf Kd Kx) ⟨slB a (pgT nm bf ps c) j w L s5 s6, t⟩ := by
  simp only [wSeq]
  generalize R (endsOf Kd Kx) = RR at r ⊢
  unfold bt5s
  unfold slB at r ⊢
  try trivial
  have n0 : 0 < nPg c ps.length := Nat.succ_pos _
  have eN := n_end (ps := ps) c1
  have ll := T_len (c := c) ok
  have rL : RdOk (pgJ nm bf ps c (nPg c ps.length - 1)) := page_rd ok ((nPg c ps.length - 1) * c) c
  have tL := text_len rL.txq
  have g1 : ((pgT nm bf ps c).map txD).getLast? = some (txD (pgJ nm bf ps c (nPg c ps.length - 1))) := by
    rw [List.getLast?_eq_getElem?, List.length_map, pgs_len]
    exact T_get (by omega)
  rw [atI_last g1, opt_some]
  unfold txD
  refine ⟨rfl, ?_⟩
  rw [asStr_str]
  refine ⟨⟨nl3, sz (by omega)⟩, ?_⟩
  rw [dt_split rL.acc]
  have eb : (pgJ nm bf ps c (nPg c ps.length - 1)).2.2.2 = endB bf ps := by
    show endB (endB bf (ps.take ((nPg c ps.length - 1) * c))) ((ps.drop ((nPg c ps.length - 1) * c)).take c) = endB bf ps
    rw [← endB_app, ← List.take_add, ← Nat.succ_mul, show (nPg c ps.length - 1).succ = nPg c ps.length by omega, eN]
  have g2 : ((draftLines (pgJ nm bf ps c (nPg c ps.length - 1))).map D.str).getLast? = some (.str (bhL (endB bf ps))) := by
    rw [List.getLast?_map, dl_last, eb]; rfl
  rw [atI_last g2, opt_some]
  refine ⟨rfl, ?_⟩
  rw [asStr_str]
  have l1 := (show Sm (endB bf ps) from eb ▸ rL.txq.bh).len
  refine ⟨⟨sp3, bd' (by unfold bhL; rw [app_len, w_bh]; omega)⟩, ?_⟩
  rw [bh_split]
  rw [show atI ([("behind" : Str), (toString (endB bf ps) : Str)].map D.str) 1 = some (.str (toString (endB bf ps))) from atI1, opt_some]
  exact r
end
end L23

end SZR23

section SZS23

set_option Elab.async false
set_option linter.all false
set_option maxRecDepth 100000
namespace L23
open PySem L2 DL
local macro_rules
  | `(tactic| trivial) => `(tactic| simp only [wVar_eq, wC, wOp2, wOp1, wB_eq, wChain_eq, wTru_eq, wAndT_eq, wOrT_eq, wNotT, wAndV_eq, wOrV_eq, wNotV_eq, wIf_eq, wNil, wCons, wTup, wLst, wCB, wSkip, wSeq, wBrk, wCnt, wExpr, wRet, wRetN, wIfS_eq, wName, wGNil, wGCons, wGTup, wAsg, wSet, wPar, wPar3, wCall, wCallK, wMakeK, wMethK, wFld, wSetF, wAugF, wGFld, wLPut, wSlA, oSlA_tup, oSlA_lst, cutD_mapI, oMaxL_ints, wPN, wPS, oSl_lkd, wRaise, wListRange, wIt_eq, wFor_eq, wEnumT_eq, wRng1_eq, wZipM, wFrz_eq, wFrzS_eq, oIsT, oLen, oLe, oLt, oGe, oGt, oMax2, oMin2, o2I, oI, oI0, oOrd, oIsN, wBM, wBM0, oS0, oS1, oSplit, oEq, oNe, oAbs, oDivmod, oGcd, oAdd_int, oNeg_int, oInt_int, oInt_bl, oIx_tup, oIx_lst, oIx_lkd, oIx_r, cellL_r, lstOf_lst, ixN0, ixN2, put_same, put_put, List.set, oTuple_lst, oTuple_tup, oSum_ints, oSumT_ints, wRevT_eq, wAugI_eq, oAll_bls, atI0, atI1, atI2, endsOf, startD, getS, setS, opt_some, asBl_bl, asInt_int, asStr_str, asTup_tup, arg1_eq, arg2_eq, arg3_eq, List.length_nil, List.length_cons, Bool.not_true, Bool.not_false, if_true, Bool.false_eq_true, if_false, true_and, List.length_map, tru_bl, newL_f, newL_t, lenOf_lst, lenOf_tup, lenOf_lkd, eqD_int, eqD_str, seqAt_tup, seqAt_lst, seqAt_lkd, itAny_tup, itAny_lst, itAny_lkd, lstAt_lst, kd_int, kd_tup, kt_ii, kt_ib, kt_tt, oAdd_str, oStr_int])
def ct__law_bent : CT := fun ds st Kd _ => arg2 ds fun p u => ∃ (a : Addr) (k : Nat) (nm : Str) (bf : Int) (ps : List Pst) (c : Nat), p = .ref a ∧ u = .tup ((pgT nm bf ps c).map txD) ∧ OwnOk nm bf ps ∧ 1 ≤ c ∧ k ≤ 800000 ∧ PotAt st a k ∧ ∀ bent num t, PgFit bent → numOf bent = num → NumD num → Pots st a (k + 3) t → Kd (.tup [bent, num]) t
theorem P__law_bent {K : Fr} : ∀ ds st Kd Kx, ds.length = 2 → ct__law_bent ds st Kd Kx → W__law_bent K ct__law_of ct__law_take (endsOf Kd Kx) ⟨startD 7 ds, st⟩ := by
  intro ds st Kd Kx hl h0
  obtain ⟨_, _, rfl, a, k, nm, bf, ps, c, rfl, rfl, ok, c1, hk, hp, h⟩ := arg2_ok h0
  have ll := T_len (c := c) ok
  rw [pgs_len] at ll
  have n0 : 0 < nPg c ps.length := Nat.succ_pos _
  have tail : ∀ (j w : Nat) (t' : Sto), j < nPg c ps.length → Pots st a (k + 2) t' → (wSeq bt0 (wSeq bt1 (wSeq bt2 (wSeq bt3 (wSeq bt4 (wSeq bt5s (wSeq bt5 bt6))))))) (endsOf Kd Kx) ⟨slB a (pgT nm bf ps c) j w (pgL nm bf ps c j) none none, t'⟩ := by
    intro j w t' hj ht
    have hq : ∀ b n, PgFit b → numOf b = n → NumD n → Kd (.tup [b, n]) t' := fun b n h1 h2 h3 => h b n t' h1 h2 h3 (ht.mono (by omega))
    have hr : ∀ b n t2, PgFit b → numOf b = n → NumD n → Pots t' a (k + 2 + 1) t2 → Kd (.tup [b, n]) t2 := fun b n t2 h1 h2 h3 h4 => h b n t2 h1 h2 h3 (ht.trans h4)
    refine bt0_ok ok (by omega) ht.pot hr (fun _ => ?_)
    refine bt1_ok ok hj (by omega) ht.pot hr (fun _ => ?_)
    refine bt2_ok ok hj hq ?_
    refine bt3_ok ok hj hq ?_
    refine bt4_ok ok hj hq ?_
    refine bt5s_ok ok c1 ?_
    refine bt5_ok ok c1 hj hq ?_
    exact bt6_ok ok hq
  rw [bent_eq]
  generalize (wSeq bt0 (wSeq bt1 (wSeq bt2 (wSeq bt3 (wSeq bt4 (wSeq bt5s (wSeq bt5 bt6))))))) = R at tail ⊢
  unfold slB at tail
  try trivial
  simp only [ct__law_take]
  try trivial
  rw [pgs_len]
  refine ⟨a, _, k, rfl, rfl, ⟨by omega, by omega⟩, by omega, hp, fun j t1 j0 j1 h1 => ?_⟩
  obtain ⟨j, rfl⟩ := Int.eq_ofNat_of_zero_le j0
  refine ⟨a, 7, _, rfl, rfl, ⟨by decide, by decide⟩, by omega, h1.pot, fun w t2 w0 w1 h2 => ?_⟩
  obtain ⟨w, rfl⟩ := Int.eq_ofNat_of_zero_le w0
  have hj : j < nPg c ps.length := by omega
  try trivial
  rw [show atI ((pgT nm bf ps c).map txD) (j : Int) = some (txD (pgJ nm bf ps c j)) from atI_pos (T_get hj), opt_some]
  unfold txD
  refine ⟨rfl, ?_⟩
  rw [asStr_str]
  have rd : RdOk (pgJ nm bf ps c j) := page_rd ok (j * c) c
  have tl : (draftText (pgJ nm bf ps c j)).length ≤ 101103 := text_len rd.txq
  refine ⟨⟨nl3, sz (by omega)⟩, ?_⟩
  rw [dt_split rd.acc]
  exact tail j w t2 hj ((h1.trans h2).mono (by omega))
end L23

end SZS23

section SZT23

set_option Elab.async false
set_option linter.all false
set_option maxRecDepth 100000
namespace L23
open PySem L2 DL
local macro_rules
  | `(tactic| trivial) => `(tactic| simp only [wVar_eq, wC, wOp2, wOp1, wB_eq, wChain_eq, wTru_eq, wAndT_eq, wOrT_eq, wNotT, wAndV_eq, wOrV_eq, wNotV_eq, wIf_eq, wNil, wCons, wTup, wLst, wCB, wSkip, wSeq, wBrk, wCnt, wExpr, wRet, wRetN, wIfS_eq, wName, wGNil, wGCons, wGTup, wAsg, wSet, wPar, wPar3, wCall, wCallK, wMakeK, wMethK, wFld, wSetF, wAugF, wGFld, wLPut, wSlA, oSlA_tup, oSlA_lst, cutD_mapI, oMaxL_ints, wPN, wPS, oSl_lkd, wRaise, wListRange, wIt_eq, wFor_eq, wEnumT_eq, wRng1_eq, wZipM, wFrz_eq, wFrzS_eq, oIsT, oLen, oLe, oLt, oGe, oGt, oMax2, oMin2, o2I, oI, oI0, oOrd, oIsN, wBM, wBM0, oS0, oS1, oSplit, oEq, oNe, oAbs, oDivmod, oGcd, oAdd_int, oNeg_int, oInt_int, oInt_bl, oIx_tup, oIx_lst, oIx_lkd, oIx_r, cellL_r, lstOf_lst, ixN0, ixN2, put_same, put_put, List.set, oTuple_lst, oTuple_tup, oSum_ints, oSumT_ints, wRevT_eq, wAugI_eq, oAll_bls, atI0, atI1, atI2, endsOf, startD, getS, setS, opt_some, asBl_bl, asInt_int, asStr_str, asTup_tup, arg1_eq, arg2_eq, arg3_eq, List.length_nil, List.length_cons, Bool.not_true, Bool.not_false, if_true, Bool.false_eq_true, if_false, true_and, List.length_map, tru_bl, newL_f, newL_t, lenOf_lst, lenOf_tup, lenOf_lkd, eqD_int, eqD_str, seqAt_tup, seqAt_lst, seqAt_lkd, itAny_tup, itAny_lst, itAny_lkd, lstAt_lst, kd_int, kd_tup, kt_ii, kt_ib, kt_tt])
def rt0 : WS := (wPar 1 2 (wCons (wCall 2 ct__law_own_draft (wCons (wVar 0) (wCons (wC (.int 9)) wNil))) (wCons (wCB oInt (wCons (wOp2 (oAdd false) (wC (.int 1)) (wCall 2 ct__law_take (wCons (wVar 0) (wCons (wC (.int 5)) wNil)))) wNil)) wNil)))
def rt1 : WS := (wSet 3 (wCB oTuple (wCons (wLc false [11] (wIt (wDGet (wVar 1) (wC (.str "rows")))) (wName 11) wYes (wTup (wCons (wOp2 oIx (wVar 11) (wC (.int 0))) (wCons (wOp2 oIx (wVar 11) (wC (.int 1))) wNil)))) wNil)))
def rt2 : WS := (wSet 4 (wCallK 3 ct_statement_text kg_statement_text_0_postings_before_account wNil (wCons (wVar 3) (wCons (wDGet (wVar 1) (wC (.str "before"))) (wCons (wDGet (wVar 1) (wC (.str "account"))) wNil)))))
def rt3 : WS := (wSet 5 (wCB oTuple (wCons (wLc false [11] (wIt (wDGet (wVar 1) (wC (.str "rows")))) (wName 11) wYes (wCB oTuple (wCons (wVar 11) wNil))) wNil)))
def rt4 : WS := (wIfS (wOrT (wB (wOp2 oNe (wVar 4) (wCall 1 ct__law_draft_text (wCons (wVar 1) wNil)))) (wOrT (wB (wOp2 oIsntB (wCall 1 ct_is_draft (wCons (wVar 4) wNil)) (wC (.bl true)))) (wB (wOp2 oIsntB (wCall 1 ct_adds_up (wCons (wVar 4) wNil)) (wC (.bl true)))))) (wRet (wC (.bl false))) wSkip)
def rt5 (K : Fr) : WS := (wIfS (wB (wOp2 oNe (wCB oRepr (wCons (wCallK 1 (ct_read_draft K) kg_read_draft_0_draft wNil (wCons (wVar 4) wNil)) wNil)) (wCB oRepr (wCons (wTup (wCons (wDGet (wVar 1) (wC (.str "account"))) (wCons (wDGet (wVar 1) (wC (.str "before"))) (wCons (wVar 5) (wCons (wDGet (wVar 1) (wC (.str "behind"))) wNil))))) wNil)))) (wRet (wC (.bl false))) wSkip)
def rt6 : WS := (wSet 6 (wCallK 4 ct_paged kg_paged_0_lines_postings_before_account wNil (wCons (wVar 2) (wCons (wVar 3) (wCons (wDGet (wVar 1) (wC (.str "before"))) (wCons (wDGet (wVar 1) (wC (.str "account"))) wNil))))))
def rt7 : WS := (wIfS (wB (wOp2 oNe (wCB oRepr (wCons (wVar 6) wNil)) (wCB oRepr (wCons (wCB oTuple (wCons (wLc false [12] (wIt (wCall 2 ct__law_pages (wCons (wVar 1) (wCons (wVar 2) wNil)))) (wName 12) wYes (wCall 1 ct__law_draft_text (wCons (wVar 12) wNil))) wNil)) wNil)))) (wRet (wC (.bl false))) wSkip)
def rt8 (K : Fr) : WS := (wIfS (wB (wOp2 oNe (wCB oRepr (wCons (wCallK 1 (ct_joined_pages K) kg_joined_pages_0_pages wNil (wCons (wVar 6) wNil)) wNil)) (wCB oRepr (wCons (wTup (wCons (wDGet (wVar 1) (wC (.str "account"))) (wCons (wDGet (wVar 1) (wC (.str "before"))) (wCons (wVar 3) wNil)))) wNil)))) (wRet (wC (.bl false))) wSkip)
def rt9 : WS := (wAsg (wCall 2 ct__law_bent (wCons (wVar 0) (wCons (wVar 6) wNil))) (wGTup 2 (wGCons (wName 7) (wGCons (wName 8) wGNil))))
def rt10 : WS := (wIfS (wB (wOp2 oNe (wCB oRepr (wCons (wCall 1 ct__law_number_of_pages (wCons (wVar 7) wNil)) wNil)) (wCB oRepr (wCons (wVar 8) wNil)))) (wRet (wC (.bl false))) wSkip)
def rt11 : WS := (wSet 9 (wDisp true (wPCons (wC (.str "account")) (wDGet (wVar 1) (wC (.str "account"))) (wPCons (wC (.str "before")) (wOp2 (oAdd false) (wDGet (wVar 1) (wC (.str "before"))) (wCall 2 ct__law_take (wCons (wVar 0) (wCons (wC (.int 2)) wNil)))) (wPCons (wC (.str "rows")) (wCB (oList false) (wCons (wDGet (wVar 1) (wC (.str "rows"))) wNil)) wPNil)))))
def rt12 : WS := (wDPut (wVar 9) (wC (.str "behind")) (wOp2 (oAdd false) (wDGet (wVar 1) (wC (.str "behind"))) (wCall 2 ct__law_take (wCons (wVar 0) (wCons (wC (.int 2)) wNil)))))
def rt13 : WS := (wSet 4 (wCall 1 ct__law_draft_text (wCons (wVar 9) wNil)))
def rt14 : WS := (wSet 10 (wCB oAll (wCons (wLc false [13] (wIt (wCall 1 ct__law_offs (wCons (wVar 9) wNil))) (wName 13) wYes (wOp2 oEq (wVar 13) (wC (.int 0)))) wNil)))
def rt15 : WS := (wFrzS 9 (wRet (wAndV (wOp2 oIsB (wCall 1 ct_is_draft (wCons (wVar 4) wNil)) (wC (.bl true))) (wOp2 oEq (wCB oRepr (wCons (wCallK 1 ct_adds_up kg_adds_up_0_draft wNil (wCons (wVar 4) wNil)) wNil)) (wCB oRepr (wCons (wVar 10) wNil))))))
theorem right_eq (K : Fr) : W__law_right K ct_adds_up ct_is_draft ct__law_offs ct__law_draft_text ct__law_take ct__law_number_of_pages ct__law_bent (ct_joined_pages K) ct__law_pages ct_paged (ct_read_draft K) ct_statement_text ct__law_own_draft = (wSeq rt0 (wSeq rt1 (wSeq rt2 (wSeq rt3 (wSeq rt4 (wSeq (rt5 K) (wSeq rt6 (wSeq rt7 (wSeq (rt8 K) (wSeq rt9 (wSeq rt10 (wSeq rt11 (wSeq rt12 (wSeq rt13 (wSeq rt14 rt15))))))))))))))) := rfl
structure RS (st t : Sto) (a b : Addr) (k : Nat) (bf : Int) (ps : List Pst) : Prop where
  sub : SubX a st t
  rows : t b = some (.lst ((balR bf ps).map rlD))
  pot : PotAt t a k
  ne : b ≠ a
theorem pot_sub {t t' : Sto} {a : Addr} {k : Nat} (h : PotAt t a k) (s : Sub t t') : PotAt t' a k := by
  obtain ⟨o, s', c, e, r⟩ := h.at
  have e' := s _ _ e
  refine ⟨o, s', c, funext fun x => ?_, r⟩
  by_cases h : x = a
  · rw [h, put_same]; exact e'
  · rw [put_ne h]
theorem RS.subs {st t t' : Sto} {a b : Addr} {k : Nat} {bf : Int} {ps : List Pst} (h : RS st t a b k bf ps) (s : Sub t t') : RS st t' a b k bf ps :=
  ⟨fun x c hx hc => s x c (h.sub x c hx hc), s _ _ h.rows, pot_sub h.pot s, h.ne⟩
theorem RS.pots {st t t' : Sto} {a b : Addr} {k j : Nat} {bf : Int} {ps : List Pst} (h : RS st t a b k bf ps) (p : Pots t a j t') : RS st t' a b j bf ps :=
  ⟨fun x c hx hc => by rw [p.ne hx]; exact h.sub x c hx hc, by rw [p.ne h.ne]; exact h.rows, p.pot, h.ne⟩
abbrev ownV (nm : Str) (b : Addr) (bf : Int) (ps : List Pst) : D := .dic (ownKs nm (.ref b) bf (endB bf ps))
theorem RS.own {st t : Sto} {a b : Addr} {k : Nat} {bf : Int} {ps : List Pst} (h : RS st t a b k bf ps) (nm : Str) : OwnAt t (ownV nm b bf ps) nm bf (balR bf ps) (endB bf ps) :=
  ⟨_, _, rfl, v_a, v_b, v_e, v_r, .inr ⟨b, rfl, h.rows⟩⟩
def slT (a b : Addr) (nm : Str) (bf : Int) (ps : List Pst) (c : Nat) (s3 s4 s5 s6 s7 s8 s9 s10 : Option D) : List (Option D) := [some (.ref a), some (ownV nm b bf ps), some (.int (c : Int)), s3, s4, s5, s6, s7, s8, s9, s10, none, none, none]
abbrev ptx (nm : Str) (bf : Int) (ps : List Pst) : D := .str (draftText (mkDR nm bf ps))
abbrev prw (bf : Int) (ps : List Pst) : D := .tup ((balR bf ps).map rowD)
def pair2 : D → D
  | .lst (x :: y :: _) => .tup [x, y]
  | d => d
def tupD : D → D
  | .lst xs => .tup xs
  | d => d
theorem balR_pairs : ∀ (ps : List Pst) (h : Int), (balR h ps).map (fun r => (r.1, r.2.1)) = ps
  | [], _ => rfl
  | p :: r, h => by
    show (p.1, p.2) :: (balR (h + p.2) r).map _ = p :: r
    rw [balR_pairs r]
theorem own_it {nm : Str} {bf : Int} {ps : List Pst} {k : Nat} {a b : Addr} {st t : Sto} {KI : List D → (Sto → Prop) → G → Prop} {g : G} (hs : RS st t a b k bf ps) : (opt (dicAt t (ownV nm b bf ps)) fun kvs => opt (keyD (.str "rows")) fun k => opt (valD kvs k) fun v => opt (itAny t v) fun p => KI p.1 p.2 g) = KI ((balR bf ps).map rlD) (fun s => s b = some (.lst ((balR bf ps).map rlD))) g := by
  rw [show dicAt t (ownV nm b bf ps) = some (ownKs nm (.ref b) bf (endB bf ps)) from rfl]
  simp only [k_r, opt_some, v_r]
  have : itAny t (.ref b) = some ((balR bf ps).map rlD, fun s => s b = some (.lst ((balR bf ps).map rlD))) := by
    unfold itAny lstAt; simp only [hs.rows]
  rw [this, opt_some]
theorem Sh.mono {k k' L L' : Nat} {p : PyData} (h : Sh k L p) (hk : k ≤ k') (hL : L ≤ L') : Sh k' L' p := ⟨h.show_, h.nod, Nat.le_trans h.dep hk, Nat.le_trans h.len hL⟩
theorem sh_str {L : Nat} {x : Str} (hl : x.length ≤ L) (h : ∀ c ∈ TL.tl x, c < 1000000) : Sh 0 (10 * L + 2) (.str x) := by
  refine ⟨rfl, rfl, by simp [PyData.depth], ?_⟩
  show (reprText x).length ≤ _
  have := StrLaws.reprText_len x fun c hc => Nat.lt_of_lt_of_le (h c hc) (by decide)
  omega
theorem oRepr_of {d : D} {p : PyData} {g : G} {K : KD} (e : pyT g.st d = some p) (ok : ReprOk p) (k : K (.str p.shown) g) : oRepr [d] g K := by
  show opt (pyT g.st d) _
  rw [e]
  exact ⟨ok, k⟩
theorem oIsntB_bl {a b : Bool} {g : G} {K : KD} : oIsntB (.bl a) (.bl b) g K = K (.bl (!decide (a = b))) g := id rfl
theorem eqD_same {st : Sto} {x : Str} {f : Bool → Prop} : eqD st (.str x) (.str x) f = f true := by rw [eqD_str, decide_eq_true rfl]
theorem own_rd {nm : Str} {bf : Int} {ps : List Pst} (ok : OwnOk nm bf ps) : RdOk (mkDR nm bf ps) := by
  have := page_rd ok 0 ps.length
  simpa [endB] using this
def pR3 (r : Row) : PyData := .tuple [.int r.1, .int r.2.1, .int r.2.2]
def pP2 (p : Pst) : PyData := .tuple [.int p.1, .int p.2]
def pDr (q : DR) : PyData := .tuple [.str q.1, .int q.2.1, .tuple (q.2.2.1.map pR3), .int q.2.2.2]
theorem pyL_r3 : ∀ rows : List Row, pyL (rows.map rowD) = some (rows.map pR3)
  | [] => rfl
  | r :: rs => by rw [List.map_cons, pyL, pyL_r3 rs]; rfl
theorem pyL_p2 : ∀ ps : List Pst, pyL (ps.map fun p => D.tup [.int p.1, .int p.2]) = some (ps.map pP2)
  | [] => rfl
  | r :: rs => by rw [List.map_cons, pyL, pyL_p2 rs]; rfl
theorem pyL_tx : ∀ T : List DR, pyL (T.map txD) = some (T.map fun q => .str (draftText q))
  | [] => rfl
  | r :: rs => by rw [List.map_cons, pyL, pyL_tx rs]; rfl
theorem py_dr {st : Sto} {q : DR} : pyT st (drD q) = some (pDr q) := by
  show (pyL [.str q.1, .int q.2.1, .tup (q.2.2.1.map rowD), .int q.2.2.2]).map _ = _
  simp only [pyL, pyD, pyL_r3, Option.map]
  try rfl
theorem py_tx {st : Sto} {T : List DR} : pyT st (.tup (T.map txD)) = some (.tuple (T.map fun q => .str (draftText q))) := by
  show (pyL (T.map txD)).map _ = _
  rw [pyL_tx]; rfl
theorem py_jn {st : Sto} {nm : Str} {bf : Int} {ps : List Pst} : pyT st (.tup [.str nm, .int bf, psD ps]) = some (.tuple [.str nm, .int bf, .tuple (ps.map pP2)]) := by
  show (pyL [.str nm, .int bf, .tup (ps.map fun p => D.tup [.int p.1, .int p.2])]).map _ = _
  simp only [pyL, pyD, pyL_p2, Option.map]
  try rfl
theorem sm100 {i : Int} (h : Sm i) : i.natAbs < 10 ^ 100 := Nat.lt_trans h (by decide +kernel)
theorem sh_acc {nm : Str} (h : isAccS nm = true) : Sh 0 172 (.str nm) := sh_str (L := 17) (acc_facts h).2 (asc_acc h)
theorem sh_r3 {r : Row} (h : Sm r.1 ∧ Sm r.2.1 ∧ Sm r.2.2) : Sh 2 312 (pR3 r) := sh_tup (n := 3) (k := 1) (L := 101) (fun p hp => by
  simp only [List.mem_cons, List.not_mem_nil, or_false] at hp
  rcases hp with rfl | rfl | rfl
  · exact sh_int (sm100 h.1)
  · exact sh_int (sm100 h.2.1)
  · exact sh_int (sm100 h.2.2)) (by simp)
theorem sh_p2 {p : Pst} (h : Sm p.1 ∧ Sm p.2) : Sh 2 312 (pP2 p) := Sh.mono (sh_tup (n := 2) (k := 1) (L := 101) (fun q hp => by
  simp only [List.mem_cons, List.not_mem_nil, or_false] at hp
  rcases hp with rfl | rfl
  · exact sh_int (sm100 h.1)
  · exact sh_int (sm100 h.2)) (by simp)) (Nat.le_refl _) (by decide)
theorem rp_dr {q : DR} (h : RdOk q) : ReprOk (pDr q) := by
  have t := h.txq
  have s3 : Sh 3 157003 (.tuple (q.2.2.1.map pR3)) := sh_tup (n := 500) (k := 2) (L := 312) (fun p hp => by
    obtain ⟨r, hr, rfl⟩ := List.mem_map.mp hp
    exact sh_r3 (t.rows r hr)) (by rw [List.length_map]; exact t.len)
  exact (sh_tup (n := 4) (k := 3) (L := 157003) (ps := [.str q.1, .int q.2.1, .tuple (q.2.2.1.map pR3), .int q.2.2.2]) (fun p hp => by
    simp only [List.mem_cons, List.not_mem_nil, or_false] at hp
    rcases hp with rfl | rfl | rfl | rfl
    · exact Sh.mono (sh_acc h.acc) (by decide) (by decide)
    · exact Sh.mono (sh_int (sm100 t.bf)) (by decide) (by decide)
    · exact s3
    · exact Sh.mono (sh_int (sm100 t.bh)) (by decide) (by decide)) (by simp)).ok (by decide) (by decide)
theorem rp_tx {nm : Str} {bf : Int} {ps : List Pst} (ok : OwnOk nm bf ps) (c : Nat) : ReprOk (.tuple ((pgT nm bf ps c).map fun q => PyData.str (draftText q))) := by
  have l := T_len (c := c) ok
  refine (sh_tup (n := 10) (k := 0) (L := 1011032) (fun p hp => ?_) (by rw [List.length_map]; exact l)).ok (by decide) (by decide)
  obtain ⟨q, hq, rfl⟩ := List.mem_map.mp hp
  obtain ⟨k, hk, e⟩ := List.mem_iff_getElem.mp hq
  rw [pgs_len] at hk
  have g := pgs_get nm c bf ps hk
  rw [List.getElem?_eq_getElem (by rw [pgs_len]; exact hk), e] at g
  cases g
  have rd : RdOk (pgJ nm bf ps c k) := page_rd ok (k * c) c
  exact sh_str (L := 101103) (text_len rd.txq) (asc_text rd.acc)
theorem rp_jn {nm : Str} {bf : Int} {ps : List Pst} (ok : OwnOk nm bf ps) : ReprOk (.tuple [.str nm, .int bf, .tuple (ps.map pP2)]) := by
  have o := ok.st.tx
  have s3 : Sh 3 157003 (.tuple (ps.map pP2)) := sh_tup (n := 500) (k := 2) (L := 312) (fun p hp => by
    obtain ⟨r, hr, rfl⟩ := List.mem_map.mp hp
    have a := (ok.am r hr).bd
    exact sh_p2 ⟨(o.ps r hr).1, sm_of (by omega) (by omega)⟩) (by rw [List.length_map]; exact o.len)
  exact (sh_tup (n := 3) (k := 3) (L := 157003) (ps := [.str nm, .int bf, .tuple (ps.map pP2)]) (fun p hp => by
    simp only [List.mem_cons, List.not_mem_nil, or_false] at hp
    rcases hp with rfl | rfl | rfl
    · exact Sh.mono (sh_acc (own_acc ok)) (by decide) (by decide)
    · exact Sh.mono (sh_int (sm100 (own_rd ok).txq.bf)) (by decide) (by decide)
    · exact s3) (by simp)).ok (by decide) (by decide)
theorem rp_num {d : D} (h : NumD d) : ∃ p, (∀ st, pyT st d = some p) ∧ ReprOk p := by
  rcases h with rfl | ⟨i, rfl, hi⟩
  · exact ⟨.none, fun _ => rfl, ⟨rfl, rfl, by decide, by decide +kernel⟩⟩
  · exact ⟨.int (i : Int), fun _ => rfl, (sh_int (Nat.lt_of_le_of_lt (show ((i : Int)).natAbs ≤ 100 by omega) (by decide +kernel))).ok (by decide) (by decide)⟩
section
variable {K : Fr} {nm : Str} {bf : Int} {ps : List Pst} {c k : Nat} {a b : Addr} {Kd : D → Sto → Prop} {Kx : Addr → D → Sto → Prop} {st t : Sto} {s3 s4 s5 s6 s7 s8 s9 s10 : Option D} {R : WS}
theorem rt1_ok (ok : OwnOk nm bf ps) (hs : RS st t a b k bf ps) (r : R (endsOf Kd Kx) ⟨slT a b nm bf ps c (some (psD ps)) s4 s5 s6 s7 s8 s9 s10, t⟩) : (wSeq rt1 R) (endsOf Kd Kx) ⟨slT a b nm bf ps c s3 s4 s5 s6 s7 s8 s9 s10, t⟩ := by
  simp only [wSeq]
  generalize R (endsOf Kd Kx) = RR at r ⊢
  unfold rt1
  unfold slT at r ⊢
  try trivial
  have l9 := ok.len
  refine wLc_mapS ((balR bf ps).map rlD) (fun s => s b = some (.lst ((balR bf ps).map rlD))) pair2 (fun KI kk => ?_) (fun p acc hp => stays hs.rows p acc hp) (sz (by rw [List.length_map, balR_length]; omega)) (fun y hy p acc KT hp kt => ?_) ?_
  · try trivial
    simp only [wDGet_eq]
    try trivial
    rw [own_it hs]
    exact kk
  · obtain ⟨r, hr, rfl⟩ := List.mem_map.mp hy
    simp only [wipeS, clrS]
    try trivial
    unfold rlD
    try trivial
    exact ⟨sz (by decide), kt _ rfl⟩
  · rw [List.map_map]
    try trivial
    have e : (balR bf ps).map (pair2 ∘ rlD) = ps.map fun p => D.tup [.int p.1, .int p.2] := by
      have := congrArg (List.map fun p : Pst => D.tup [.int p.1, .int p.2]) (balR_pairs ps bf)
      rw [List.map_map] at this
      exact this
    rw [e]
    exact r
theorem rt2_ok (ok : OwnOk nm bf ps) (hs : RS st t a b k bf ps) (r : R (endsOf Kd Kx) ⟨slT a b nm bf ps c (some (psD ps)) (some (ptx nm bf ps)) s5 s6 s7 s8 s9 s10, t⟩) : (wSeq rt2 R) (endsOf Kd Kx) ⟨slT a b nm bf ps c (some (psD ps)) s4 s5 s6 s7 s8 s9 s10, t⟩ := by
  simp only [wSeq]
  generalize R (endsOf Kd Kx) = RR at r ⊢
  unfold rt2
  unfold slT at r ⊢
  try trivial
  simp only [wDGet_eq]
  try trivial
  rw [show dicAt t (ownV nm b bf ps) = some (ownKs nm (.ref b) bf (endB bf ps)) from rfl]
  simp only [k_a, k_b, opt_some, v_a, v_b]
  try trivial
  simp only [ct_statement_text, arg3_eq]
  exact ⟨rfl, nm, bf, ps, rfl, rfl, rfl, ok.st, r⟩
theorem rt3_ok (ok : OwnOk nm bf ps) (hs : RS st t a b k bf ps) (r : R (endsOf Kd Kx) ⟨slT a b nm bf ps c s3 s4 (some (prw bf ps)) s6 s7 s8 s9 s10, t⟩) : (wSeq rt3 R) (endsOf Kd Kx) ⟨slT a b nm bf ps c s3 s4 s5 s6 s7 s8 s9 s10, t⟩ := by
  simp only [wSeq]
  generalize R (endsOf Kd Kx) = RR at r ⊢
  unfold rt3
  unfold slT at r ⊢
  try trivial
  have l9 := ok.len
  refine wLc_mapS ((balR bf ps).map rlD) (fun s => s b = some (.lst ((balR bf ps).map rlD))) tupD (fun KI kk => ?_) (fun p acc hp => stays hs.rows p acc hp) (sz (by rw [List.length_map, balR_length]; omega)) (fun y hy p acc KT hp kt => ?_) ?_
  · try trivial
    simp only [wDGet_eq]
    try trivial
    rw [own_it hs]
    exact kk
  · obtain ⟨r, hr, rfl⟩ := List.mem_map.mp hy
    simp only [wipeS, clrS]
    try trivial
    unfold rlD
    try trivial
    exact kt _ rfl
  · rw [List.map_map]
    try trivial
    exact r
theorem rt4_ok (ok : OwnOk nm bf ps) (hs : RS st t a b k bf ps) (r : ∀ t', RS st t' a b k bf ps → R (endsOf Kd Kx) ⟨slT a b nm bf ps c s3 (some (ptx nm bf ps)) s5 s6 s7 s8 s9 s10, t'⟩) : (wSeq rt4 R) (endsOf Kd Kx) ⟨slT a b nm bf ps c s3 (some (ptx nm bf ps)) s5 s6 s7 s8 s9 s10, t⟩ := by
  have rd := own_rd ok
  have up := up_mk nm bf ps
  simp only [wSeq]
  generalize R (endsOf Kd Kx) = RR at r ⊢
  unfold rt4
  unfold slT at r ⊢
  try trivial
  simp only [ct__law_draft_text, arg1_eq]
  refine ⟨nm, bf, _, _, hs.own nm, rd.txq, ?_⟩
  rw [eqD_same]
  try trivial
  simp only [ct_is_draft, arg1_eq]
  refine ⟨rfl, (pg_text rd).1, fun t1 s1 => ?_⟩
  have i1 : isDr (ptx nm bf ps) = true := by
    show (match rdDraft (draftText (mkDR nm bf ps)) with | .ok _ => true | .error _ => false) = true
    rw [rd_text rd]
  rw [i1]
  rw [oIsntB_bl]
  try trivial
  simp only [ct_adds_up, arg1_eq]
  refine ⟨_, _, rfl, (pg_text rd).1, rd_text rd, by have := rd.len; omega, fun t2 s2 => ?_⟩
  rw [up, oIsntB_bl]
  try trivial
  exact r _ (hs.subs (s1.trans s2))
theorem rt5_ok (ok : OwnOk nm bf ps) (hs : RS st t a b k bf ps) (r : ∀ t', RS st t' a b k bf ps → R (endsOf Kd Kx) ⟨slT a b nm bf ps c s3 (some (ptx nm bf ps)) (some (prw bf ps)) s6 s7 s8 s9 s10, t'⟩) : (wSeq (rt5 K) R) (endsOf Kd Kx) ⟨slT a b nm bf ps c s3 (some (ptx nm bf ps)) (some (prw bf ps)) s6 s7 s8 s9 s10, t⟩ := by
  have rd := own_rd ok
  simp only [wSeq]
  generalize R (endsOf Kd Kx) = RR at r ⊢
  unfold rt5
  unfold slT at r ⊢
  try trivial
  simp only [ct_read_draft, arg1_eq]
  refine ⟨rfl, rfl, (pg_text rd).1, ?_⟩
  rw [rd_text rd]
  intro t1 s1
  refine oRepr_of py_dr (rp_dr rd) ?_
  simp only [wDGet_eq]
  try trivial
  simp only [show ∀ s, dicAt s (ownV nm b bf ps) = some (ownKs nm (.ref b) bf (endB bf ps)) from fun _ => rfl, k_a, k_b, k_e, opt_some, v_a, v_b, v_e]
  refine ⟨sz (by decide), oRepr_of (py_dr (q := mkDR nm bf ps)) (rp_dr rd) ?_⟩
  rw [eqD_same]
  try trivial
  exact r _ (hs.subs s1)
theorem rt6_ok (ok : OwnOk nm bf ps) (c1 : 1 ≤ c) (c2 : c ≤ 500) (hs : RS st t a b k bf ps) (r : R (endsOf Kd Kx) ⟨slT a b nm bf ps c (some (psD ps)) s4 s5 (some (.tup ((pgT nm bf ps c).map txD))) s7 s8 s9 s10, t⟩) : (wSeq rt6 R) (endsOf Kd Kx) ⟨slT a b nm bf ps c (some (psD ps)) s4 s5 s6 s7 s8 s9 s10, t⟩ := by
  simp only [wSeq]
  generalize R (endsOf Kd Kx) = RR at r ⊢
  unfold rt6
  unfold slT at r ⊢
  try trivial
  simp only [wDGet_eq]
  try trivial
  simp only [show ∀ s, dicAt s (ownV nm b bf ps) = some (ownKs nm (.ref b) bf (endB bf ps)) from fun _ => rfl, k_a, k_b, k_e, opt_some, v_a, v_b, v_e]
  try trivial
  unfold ct_paged
  exact ⟨rfl, nm, bf, ps, c, rfl, rfl, rfl, rfl, ok.st, c1, c2, r⟩
theorem rt7_ok (ok : OwnOk nm bf ps) (c1 : 1 ≤ c) (hs : RS st t a b k bf ps) (r : R (endsOf Kd Kx) ⟨slT a b nm bf ps c s3 s4 s5 (some (.tup ((pgT nm bf ps c).map txD))) s7 s8 s9 s10, t⟩) : (wSeq rt7 R) (endsOf Kd Kx) ⟨slT a b nm bf ps c s3 s4 s5 (some (.tup ((pgT nm bf ps c).map txD))) s7 s8 s9 s10, t⟩ := by
  simp only [wSeq]
  generalize R (endsOf Kd Kx) = RR at r ⊢
  unfold rt7
  unfold slT at r ⊢
  try trivial
  refine oRepr_of py_tx (rp_tx ok c) ?_
  refine wLc_ty pgD txD (pgT nm bf ps c) (fun KI kk => ?_) (sz (by have := T_len (c := c) ok; omega)) (fun q hq p acc KT hp kt => ?_) ?_
  · try trivial
    simp only [ct__law_pages, arg2_eq]
    exact ⟨nm, bf, ps, endB bf ps, c, hs.own nm, rfl, c1, by have := ok.len; omega, kk⟩
  · simp only [wipeS, clrS]
    try trivial
    simp only [ct__law_draft_text, arg1_eq]
    obtain ⟨i, hi, e⟩ := List.mem_iff_getElem.mp hq
    rw [pgs_len] at hi
    have g := pgs_get nm c bf ps hi
    rw [List.getElem?_eq_getElem (by rw [pgs_len]; exact hi), e] at g
    cases g
    have rd : RdOk (pgJ nm bf ps c i) := page_rd ok (i * c) c
    exact ⟨_, _, _, _, ⟨_, _, rfl, vp_a, vp_b, vp_e, vp_r, .inl rfl⟩, rd.txq, kt _ rfl⟩
  · try trivial
    refine oRepr_of py_tx (rp_tx ok c) ?_
    rw [eqD_same]
    try trivial
    exact r
theorem rt8_ok (ok : OwnOk nm bf ps) (c1 : 1 ≤ c) (hs : RS st t a b k bf ps) (r : ∀ t', RS st t' a b k bf ps → R (endsOf Kd Kx) ⟨slT a b nm bf ps c (some (psD ps)) s4 s5 (some (.tup ((pgT nm bf ps c).map txD))) s7 s8 s9 s10, t'⟩) : (wSeq (rt8 K) R) (endsOf Kd Kx) ⟨slT a b nm bf ps c (some (psD ps)) s4 s5 (some (.tup ((pgT nm bf ps c).map txD))) s7 s8 s9 s10, t⟩ := by
  have rd := own_rd ok
  simp only [wSeq]
  generalize R (endsOf Kd Kx) = RR at r ⊢
  unfold rt8
  unfold slT at r ⊢
  try trivial
  simp only [ct_joined_pages, arg1_eq]
  refine ⟨rfl, rfl, ?_⟩
  have pg := tx_pg ok c (nPg c ps.length)
  have ll := T_len (c := c) ok
  have jo := joined_all ok c1
  have ne : (pgT nm bf ps c).map txD ≠ [] := fun z => by
    have := congrArg List.length z
    rw [List.length_map, pgs_len] at this
    exact absurd this (Nat.succ_ne_zero _)
  have fin : ∀ t', Sub t t' → _ := fun t' s' => r t' (hs.subs s')
  generalize eL : (pgT nm bf ps c).map txD = L at *
  cases L with
  | nil => exact absurd rfl ne
  | cons d ds =>
    refine ⟨pg, by have := congrArg List.length eL; rw [List.length_map] at this; simp at this; omega, ?_⟩
    rw [jo]
    intro t1 s1
    rw [balR_pairs]
    refine oRepr_of py_jn (rp_jn ok) ?_
    simp only [wDGet_eq]
    try trivial
    simp only [show ∀ s, dicAt s (ownV nm b bf ps) = some (ownKs nm (.ref b) bf (endB bf ps)) from fun _ => rfl, k_a, k_b, k_e, opt_some, v_a, v_b, v_e]
    try trivial
    refine ⟨sz (by decide), oRepr_of py_jn (rp_jn ok) ?_⟩
    rw [eqD_same]
    try trivial
    exact fin _ s1
theorem rt9_ok (ok : OwnOk nm bf ps) (c1 : 1 ≤ c) (hk : k ≤ 800000) (hs : RS st t a b k bf ps) (r : ∀ t' bent, PgFit bent → NumD (numOf bent) → RS st t' a b (k + 3) bf ps → R (endsOf Kd Kx) ⟨slT a b nm bf ps c s3 s4 s5 (some (.tup ((pgT nm bf ps c).map txD))) (some bent) (some (numOf bent)) s9 s10, t'⟩) : (wSeq rt9 R) (endsOf Kd Kx) ⟨slT a b nm bf ps c s3 s4 s5 (some (.tup ((pgT nm bf ps c).map txD))) s7 s8 s9 s10, t⟩ := by
  simp only [wSeq]
  generalize R (endsOf Kd Kx) = RR at r ⊢
  unfold rt9
  unfold slT at r ⊢
  try trivial
  simp only [ct__law_bent, arg2_eq]
  refine ⟨a, k, nm, bf, ps, c, rfl, rfl, ok, c1, hk, hs.pot, fun bent num t' h1 h2 h3 h4 => ?_⟩
  try trivial
  subst h2
  exact r t' bent h1 h3 (hs.pots h4)
theorem rt10_ok {bent : D} (hb : PgFit bent) (hn : NumD (numOf bent)) (hs : RS st t a b k bf ps) (r : ∀ t', RS st t' a b k bf ps → R (endsOf Kd Kx) ⟨slT a b nm bf ps c s3 s4 s5 s6 (some bent) (some (numOf bent)) s9 s10, t'⟩) : (wSeq rt10 R) (endsOf Kd Kx) ⟨slT a b nm bf ps c s3 s4 s5 s6 (some bent) (some (numOf bent)) s9 s10, t⟩ := by
  obtain ⟨p, e, rp⟩ := rp_num hn
  simp only [wSeq]
  generalize R (endsOf Kd Kx) = RR at r ⊢
  unfold rt10
  unfold slT at r ⊢
  try trivial
  simp only [ct__law_number_of_pages, arg1_eq]
  refine ⟨hb, fun t1 s1 => ?_⟩
  refine oRepr_of (e _) rp ?_
  try trivial
  refine oRepr_of (e _) rp ?_
  rw [eqD_same]
  try trivial
  exact r _ (hs.subs s1)
end
end L23

end SZT23

section SZU23

set_option Elab.async false
set_option linter.all false
set_option maxRecDepth 100000
namespace L23
open PySem L2 DL
local macro_rules
  | `(tactic| trivial) => `(tactic| simp only [wVar_eq, wC, wOp2, wOp1, wB_eq, wChain_eq, wTru_eq, wAndT_eq, wOrT_eq, wNotT, wAndV_eq, wOrV_eq, wNotV_eq, wIf_eq, wNil, wCons, wTup, wLst, wCB, wSkip, wSeq, wBrk, wCnt, wExpr, wRet, wRetN, wIfS_eq, wName, wGNil, wGCons, wGTup, wAsg, wSet, wPar, wPar3, wCall, wCallK, wMakeK, wMethK, wFld, wSetF, wAugF, wGFld, wLPut, wSlA, oSlA_tup, oSlA_lst, cutD_mapI, oMaxL_ints, wPN, wPS, oSl_lkd, wRaise, wListRange, wIt_eq, wFor_eq, wEnumT_eq, wRng1_eq, wZipM, wFrz_eq, wFrzS_eq, oIsT, oLen, oLe, oLt, oGe, oGt, oMax2, oMin2, o2I, oI, oI0, oOrd, oIsN, wBM, wBM0, oS0, oS1, oSplit, oEq, oNe, oAbs, oDivmod, oGcd, oAdd_int, oNeg_int, oInt_int, oInt_bl, oIx_tup, oIx_lst, oIx_lkd, oIx_r, cellL_r, lstOf_lst, ixN0, ixN2, put_same, put_put, List.set, oTuple_lst, oTuple_tup, oSum_ints, oSumT_ints, wRevT_eq, wAugI_eq, oAll_bls, atI0, atI1, atI2, endsOf, startD, getS, setS, opt_some, asBl_bl, asInt_int, asStr_str, asTup_tup, arg1_eq, arg2_eq, arg3_eq, List.length_nil, List.length_cons, Bool.not_true, Bool.not_false, if_true, Bool.false_eq_true, if_false, true_and, List.length_map, tru_bl, newL_f, newL_t, lenOf_lst, lenOf_tup, lenOf_lkd, eqD_int, eqD_str, seqAt_tup, seqAt_lst, seqAt_lkd, itAny_tup, itAny_lst, itAny_lkd, lstAt_lst, kd_int, kd_tup, kt_ii, kt_ib, kt_tt])
def oK1 (nm : Str) (bf' : Int) (rows : List Row) : List (Key × D) := [(.inr "account", .str nm), (.inr "before", .int bf'), (.inr "rows", .lst (rows.map rlD))]
theorem mo1 {x y z : D} : mergeD [] [(.inr "account", x), (.inr "before", y), (.inr "rows", z)] = [(.inr "account", x), (.inr "before", y), (.inr "rows", z)] := by
  simp only [mergeD, List.foldl, putKD, List.any, List.nil_append, List.cons_append, d_ab, d_ar, d_br, Bool.or_false, Bool.false_or, Bool.false_eq_true, if_false]
theorem po1 {nm : Str} {bf' bh' : Int} {rows : List Row} : putKD (oK1 nm bf' rows) kE (.int bh') = pgK (nm, bf', rows, bh') := by
  simp only [putKD, oK1, pgK, List.any, d_ae, d_re, d_be, Bool.or_false, Bool.false_eq_true, if_false, List.cons_append, List.nil_append]
section
variable {K : Fr} {nm : Str} {bf : Int} {ps : List Pst} {c k : Nat} {a b : Addr} {Kd : D → Sto → Prop} {Kx : Addr → D → Sto → Prop} {st t : Sto} {s3 s4 s5 s6 s7 s8 s9 s10 : Option D} {R : WS}
theorem rt11_ok (hk : k ≤ 900000) (hs : RS st t a b k bf ps) (r : ∀ u p bf', bf ≤ bf' → bf' ≤ bf + 1 → RS st u a b (k + 1) bf ps → u p = none → p ≠ a → R (endsOf Kd Kx) ⟨slT a b nm bf ps c s3 s4 s5 s6 s7 s8 (some (.ref p)) s10, put u p (.dic (oK1 nm bf' (balR bf ps)))⟩) : (wSeq rt11 R) (endsOf Kd Kx) ⟨slT a b nm bf ps c s3 s4 s5 s6 s7 s8 s9 s10, t⟩ := by
  simp only [wSeq]
  generalize R (endsOf Kd Kx) = RR at r ⊢
  unfold rt11
  unfold slT at r ⊢
  try trivial
  unfold wDisp wPCons wPNil
  intro p np
  dsimp only at np
  have pa : p ≠ a := hs.pot.some np
  have bp : b ≠ p := sto_ne hs.rows np
  have de : ∀ s, dicAt s (ownV nm b bf ps) = some (ownKs nm (.ref b) bf (endB bf ps)) := fun _ => rfl
  simp only [wDGet_eq]
  try trivial
  try simp only [de, k_a, k_b, k_r, opt_some, v_a, v_b, v_r]
  try trivial
  simp only [ct__law_take, arg2_eq]
  refine ⟨a, 2, k, rfl, rfl, ⟨by decide, by decide⟩, by omega, hs.pot.put pa, fun i t' i0 i1 h1 => ?_⟩
  obtain ⟨u, rfl, hu⟩ := h1.unput pa
  try trivial
  try simp only [wDGet_eq]
  try trivial
  try simp only [de, k_a, k_b, k_r, opt_some, v_a, v_b, v_r]
  have ru := hs.pots hu
  have rr : RowsAt (put u p (.dic [])) (.ref b) (balR bf ps) := .inr ⟨b, rfl, by rw [put_ne bp]; exact ru.rows⟩
  rw [oList_rows rr]
  refine ⟨put_same, ?_⟩
  have ek : keysD [(D.str "account", D.str nm), (D.str "before", D.int (bf + i)), (D.str "rows", D.lst ((balR bf ps).map rlD))] = some [(.inr "account", D.str nm), (.inr "before", D.int (bf + i)), (.inr "rows", D.lst ((balR bf ps).map rlD))] := rfl
  rw [ek]
  try trivial
  refine ⟨by show 3 ≤ 15; decide, ?_⟩
  rw [mo1]
  try rw [put_put]
  exact r u p (bf + i) (by omega) (by omega) ru (by rw [hu.ne pa]; exact np) pa
theorem rt12_ok {p : Addr} {bf' : Int} {u : Sto} (hk : k ≤ 900000) (hs : RS st u a b k bf ps) (np : u p = none) (pa : p ≠ a) (r : ∀ u' bh', endB bf ps ≤ bh' → bh' ≤ endB bf ps + 1 → RS st u' a b (k + 1) bf ps → u' p = none → R (endsOf Kd Kx) ⟨slT a b nm bf ps c s3 s4 s5 s6 s7 s8 (some (.ref p)) s10, put u' p (.dic (pgK (nm, bf', balR bf ps, bh')))⟩) : (wSeq rt12 R) (endsOf Kd Kx) ⟨slT a b nm bf ps c s3 s4 s5 s6 s7 s8 (some (.ref p)) s10, put u p (.dic (oK1 nm bf' (balR bf ps)))⟩ := by
  simp only [wSeq]
  generalize R (endsOf Kd Kx) = RR at r ⊢
  unfold rt12
  unfold slT at r ⊢
  rw [wDPut_eq]
  have de : ∀ s, dicAt s (ownV nm b bf ps) = some (ownKs nm (.ref b) bf (endB bf ps)) := fun _ => rfl
  try trivial
  simp only [wDGet_eq]
  try trivial
  try simp only [de, k_e, opt_some, v_e]
  try trivial
  simp only [ct__law_take, arg2_eq]
  refine ⟨a, 2, k, rfl, rfl, ⟨by decide, by decide⟩, by omega, hs.pot.put pa, fun i t' i0 i1 h1 => ?_⟩
  obtain ⟨u', rfl, hu⟩ := h1.unput pa
  try trivial
  rw [cellD_at put_same]
  try simp only [k_e, opt_some]
  refine ⟨sz' (by show 3 < 16777216; decide), ?_⟩
  try rw [put_put]
  rw [po1]
  exact r u' (endB bf ps + i) (by omega) (by omega) (hs.pots hu) (by rw [hu.ne pa]; exact np)
theorem other_rd (ok : OwnOk nm bf ps) {bf' bh' : Int} (h1 : bf ≤ bf') (h2 : bf' ≤ bf + 1) (h3 : endB bf ps ≤ bh') (h4 : bh' ≤ endB bf ps + 1) : RdOk (nm, bf', balR bf ps, bh') := by
  have rd := own_rd ok
  have o1 := own_end ok 0
  have o2 := own_end ok ps.length
  simp only [List.take_zero, List.take_length] at o1 o2
  have e : endB bf [] = bf := rfl
  rw [e] at o1
  refine ⟨rd.acc, ?_, ?_, rd.len, rd.rows⟩
  · show -1000000000000000000 ≤ bf' ∧ bf' ≤ 1000000000000000000; omega
  · show -1000000000000000000 ≤ bh' ∧ bh' ≤ 1000000000000000000; omega
theorem other_at {q : DR} {p : Addr} {u : Sto} : OwnAt (put u p (.dic (pgK q))) (.ref p) q.1 q.2.1 q.2.2.1 q.2.2.2 :=
  ⟨_, _, dicAt_at put_same, vp_a, vp_b, vp_e, vp_r, .inl rfl⟩
theorem rt13_ok {p : Addr} {q : DR} {u : Sto} (h : RdOk q) (r : R (endsOf Kd Kx) ⟨slT a b nm bf ps c s3 (some (.str (draftText q))) s5 s6 s7 s8 (some (.ref p)) s10, put u p (.dic (pgK q))⟩) : (wSeq rt13 R) (endsOf Kd Kx) ⟨slT a b nm bf ps c s3 s4 s5 s6 s7 s8 (some (.ref p)) s10, put u p (.dic (pgK q))⟩ := by
  simp only [wSeq]
  generalize R (endsOf Kd Kx) = RR at r ⊢
  unfold rt13
  unfold slT at r ⊢
  try trivial
  simp only [ct__law_draft_text, arg1_eq]
  exact ⟨_, _, _, _, other_at, h.txq, r⟩
theorem rt14_ok {p : Addr} {q : DR} {u : Sto} (h : RdOk q) (r : R (endsOf Kd Kx) ⟨slT a b nm bf ps c s3 s4 s5 s6 s7 s8 (some (.ref p)) (some (.bl (upB q))), put u p (.dic (pgK q))⟩) : (wSeq rt14 R) (endsOf Kd Kx) ⟨slT a b nm bf ps c s3 s4 s5 s6 s7 s8 (some (.ref p)) s10, put u p (.dic (pgK q))⟩ := by
  simp only [wSeq]
  generalize R (endsOf Kd Kx) = RR at r ⊢
  unfold rt14
  unfold slT at r ⊢
  try trivial
  have lo : ∀ (rs : List Row) (x y : Int), (offsOf x rs y).length = rs.length + 1 := by
    intro rs
    induction rs with
    | nil => intro x y; rfl
    | cons r rs ih => intro x y; show (offsOf r.2.2 rs y).length + 1 = _; rw [ih]; rfl
  refine wLc_ty D.int (fun i => .bl (decide (i = 0))) (offsOf q.2.1 q.2.2.1 q.2.2.2) (fun KI kk => ?_) (sz (by rw [lo]; have := h.len; omega)) (fun i hi p acc KT hp kt => ?_) ?_
  · try trivial
    simp only [ct__law_offs, arg1_eq]
    exact ⟨_, _, _, _, other_at, h.len, kk⟩
  · simp only [wipeS, clrS]
    try trivial
    exact kt _ rfl
  · have e2 : (offsOf q.2.1 q.2.2.1 q.2.2.2).map (fun i => D.bl (decide (i = 0))) = ((offsOf q.2.1 q.2.2.1 q.2.2.2).map fun i => decide (i = 0)).map D.bl := by rw [List.map_map]; rfl
    rw [e2]
    try trivial
    have e3 : ((offsOf q.2.1 q.2.2.1 q.2.2.2).map fun i => decide (i = 0)).all id = upB q := by rw [up_eq, List.all_map]; rfl
    rw [e3]
    exact r
theorem rt15_ok {p : Addr} {q : DR} {u : Sto} (h : RdOk q) (np : u p = none) (r : ∀ t', Sub u t' → Kd (.bl true) t') : rt15 (endsOf Kd Kx) ⟨slT a b nm bf ps c s3 (some (.str (draftText q))) s5 s6 s7 s8 (some (.ref p)) (some (.bl (upB q))), put u p (.dic (pgK q))⟩ := by
  unfold rt15 slT
  try trivial
  rw [frz_dic np]
  try trivial
  simp only [ct_is_draft, arg1_eq]
  refine ⟨rfl, (pg_text h).1, fun t1 s1 => ?_⟩
  have i1 : isDr (.str (draftText q)) = true := by
    show (match rdDraft (draftText q) with | .ok _ => true | .error _ => false) = true
    rw [rd_text h]
  rw [i1]
  have oB : ∀ {g : G} {K : KD}, oIsB (.bl true) (.bl true) g K = K (.bl true) g := id rfl
  rw [oB]
  try trivial
  simp only [ct_adds_up, arg1_eq]
  refine ⟨rfl, _, _, rfl, (pg_text h).1, rd_text h, by have := h.len; omega, fun t2 s2 => ?_⟩
  have rb : ReprOk (.bool (upB q)) := by cases upB q <;> exact ⟨rfl, rfl, by decide, by decide +kernel⟩
  refine oRepr_of (p := .bool (upB q)) rfl rb ?_
  try trivial
  refine oRepr_of (p := .bool (upB q)) rfl rb ?_
  rw [eqD_same]
  exact r _ (s1.trans s2)
end
end L23

end SZU23

section SZV23

set_option Elab.async false
set_option linter.all false
set_option maxRecDepth 100000
namespace L23
open PySem L2 DL
local macro_rules
  | `(tactic| trivial) => `(tactic| simp only [wVar_eq, wC, wOp2, wOp1, wB_eq, wChain_eq, wTru_eq, wAndT_eq, wOrT_eq, wNotT, wAndV_eq, wOrV_eq, wNotV_eq, wIf_eq, wNil, wCons, wTup, wLst, wCB, wSkip, wSeq, wBrk, wCnt, wExpr, wRet, wRetN, wIfS_eq, wName, wGNil, wGCons, wGTup, wAsg, wSet, wPar, wPar3, wCall, wCallK, wMakeK, wMethK, wFld, wSetF, wAugF, wGFld, wLPut, wSlA, oSlA_tup, oSlA_lst, cutD_mapI, oMaxL_ints, wPN, wPS, oSl_lkd, wRaise, wListRange, wIt_eq, wFor_eq, wEnumT_eq, wRng1_eq, wZipM, wFrz_eq, wFrzS_eq, oIsT, oLen, oLe, oLt, oGe, oGt, oMax2, oMin2, o2I, oI, oI0, oOrd, oIsN, wBM, wBM0, oS0, oS1, oSplit, oEq, oNe, oAbs, oDivmod, oGcd, oAdd_int, oNeg_int, oInt_int, oInt_bl, oIx_tup, oIx_lst, oIx_lkd, oIx_r, cellL_r, lstOf_lst, ixN0, ixN2, put_same, put_put, List.set, oTuple_lst, oTuple_tup, oSum_ints, oSumT_ints, wRevT_eq, wAugI_eq, oAll_bls, atI0, atI1, atI2, endsOf, startD, getS, setS, opt_some, asBl_bl, asInt_int, asStr_str, asTup_tup, arg1_eq, arg2_eq, arg3_eq, List.length_nil, List.length_cons, Bool.not_true, Bool.not_false, if_true, Bool.false_eq_true, if_false, true_and, List.length_map, tru_bl, newL_f, newL_t, lenOf_lst, lenOf_tup, lenOf_lkd, eqD_int, eqD_str, seqAt_tup, seqAt_lst, seqAt_lkd, itAny_tup, itAny_lst, itAny_lkd, lstAt_lst, kd_int, kd_tup, kt_ii, kt_ib, kt_tt])
def ct__law_right : CT := fun ds st Kd _ => arg1 ds fun p => ∃ (a : Addr) (k : Nat), p = .ref a ∧ k ≤ 700000 ∧ PotAt st a k ∧ ∀ t, SubX a st t → PotAt t a (k + 100) → Kd (.bl true) t
theorem P__law_right {K : Fr} : ∀ ds st Kd Kx, ds.length = 1 → ct__law_right ds st Kd Kx → W__law_right K ct_adds_up ct_is_draft ct__law_offs ct__law_draft_text ct__law_take ct__law_number_of_pages ct__law_bent (ct_joined_pages K) ct__law_pages ct_paged (ct_read_draft K) ct_statement_text ct__law_own_draft (endsOf Kd Kx) ⟨startD 14 ds, st⟩ := by
  intro ds st Kd Kx hl h0
  obtain ⟨_, rfl, a, k, rfl, hk, hp, h⟩ := arg1_ok h0
  rw [right_eq]
  have tail : ∀ nm bf ps b c t, OwnOk nm bf ps → 1 ≤ c → c ≤ 500 → RS st t a b (k + 61) bf ps → (wSeq rt1 (wSeq rt2 (wSeq rt3 (wSeq rt4 (wSeq (rt5 K) (wSeq rt6 (wSeq rt7 (wSeq (rt8 K) (wSeq rt9 (wSeq rt10 (wSeq rt11 (wSeq rt12 (wSeq rt13 (wSeq rt14 rt15)))))))))))))) (endsOf Kd Kx) ⟨slT a b nm bf ps c none none none none none none none none, t⟩ := by
    intro nm bf ps b c t ok c1 c2 hs
    refine rt1_ok ok hs ?_
    refine rt2_ok ok hs ?_
    refine rt3_ok ok hs ?_
    refine rt4_ok ok hs (fun t hs => ?_)
    refine rt5_ok ok hs (fun t hs => ?_)
    refine rt6_ok ok c1 c2 hs ?_
    refine rt7_ok ok c1 hs ?_
    refine rt8_ok ok c1 hs (fun t hs => ?_)
    refine rt9_ok ok c1 (by omega) hs (fun t bent hb hn hs => ?_)
    refine rt10_ok hb hn hs (fun t hs => ?_)
    refine rt11_ok (by omega) hs (fun u p bf' b1 b2 hs np pa => ?_)
    refine rt12_ok (by omega) hs np pa (fun u bh' b3 b4 hs np => ?_)
    have rd := other_rd ok b1 b2 b3 b4
    refine rt13_ok rd ?_
    refine rt14_ok rd ?_
    refine rt15_ok rd np (fun t' s' => ?_)
    have hs := hs.subs s'
    exact h t' hs.sub (hs.pot.mono (by omega)).pot
  generalize (wSeq rt1 (wSeq rt2 (wSeq rt3 (wSeq rt4 (wSeq (rt5 K) (wSeq rt6 (wSeq rt7 (wSeq (rt8 K) (wSeq rt9 (wSeq rt10 (wSeq rt11 (wSeq rt12 (wSeq rt13 (wSeq rt14 rt15)))))))))))))) = R at tail ⊢
  simp only [wSeq]
  unfold rt0
  unfold slT at tail
  generalize R (endsOf Kd Kx) = RR at tail ⊢
  try trivial
  simp only [ct__law_own_draft, arg2_eq]
  refine ⟨a, k, rfl, True.intro, by omega, hp, fun nm bf ps b t ok ba nb tb sx pt => ?_⟩
  try trivial
  simp only [ct__law_take, arg2_eq]
  refine ⟨a, 5, _, rfl, rfl, ⟨by decide, by decide⟩, ?_, pt, fun i t' i0 i1 ht => ?_⟩
  · omega
  obtain ⟨i, rfl⟩ := Int.eq_ofNat_of_zero_le i0
  try trivial
  have e1 : (1 : Int) + (i : Int) = ((i + 1 : Nat) : Int) := by omega
  rw [e1]
  exact tail nm bf ps b (i + 1) t' ok (by omega) (by omega) (RS.pots ⟨sx, tb, pt, ba⟩ ht)
def ct_law : CT := fun ds st Kd _ => arg1 ds fun d => ∃ ns : List Int, d = .lkd (ns.map D.int) ∧ ns.length ≤ 63 ∧ (∀ z ∈ ns, Builtin.Int.intBits z ≤ 1048576) ∧ ∀ st', Kd (.bl true) st'
theorem P_law {K : Fr} : ∀ ds st Kd Kx, ds.length = 1 → ct_law ds st Kd Kx → W_law K ct__law_cells ct__law_right ct__law_pot (endsOf Kd Kx) ⟨startD 4 ds, st⟩ := by
  intro ds st Kd Kx hl h0
  obtain ⟨_, rfl, ns, rfl, hn, hb, h⟩ := arg1_ok h0
  unfold W_law
  try trivial
  simp only [ct__law_cells]
  try trivial
  refine ⟨_, 2, rfl, rfl, by decide, fun n n1 n2 => ?_⟩
  try trivial
  rw [rng_map]
  refine loopM (fun i : Nat => D.int ((i : Nat) : Int)) (fun rest g => (∀ i ∈ rest, i < n) ∧ ∃ s1 s2, g.sl = [some (.lkd (ns.map D.int)), s1, s2, none]) ?_ ?_ (List.range n) _ ⟨fun i hi => List.mem_range.mp hi, none, none, rfl⟩
  · rintro i rest ⟨sl, s⟩ N kk ⟨hi, s1, s2, e⟩
    cases e
    refine ⟨True.intro, ?_⟩
    have hin := hi i (by simp)
    try trivial
    simp only [ct__law_pot]
    try trivial
    refine ⟨ns, i, rfl, rfl, by omega, fun a t na ht => ?_⟩
    rw [wLc_eq]
    try trivial
    refine ⟨⟨by decide, by decide⟩, ?_⟩
    rw [show (3 : Int).toNat = 3 from rfl, rng_map]
    intro p hp
    have pa : p ≠ a := ht.pot.some hp
    refine lcD_anyJ (fun i : Nat => D.int ((i : Nat) : Int)) (fun _ => D.bl true) 3 (fun m s => PotAt s a (100 * m)) (fun m s c j => Pots.put j pa) (List.range 3) [] _ (Pots.put ht.pot pa) (fun i hi acc s0 KT la j e k => ?_) put_same (sz (by simp)) (by simp) fun s1 j e => ?_
    · simp only [wipeS, clrS]
      try trivial
      simp only [ct__law_right]
      try trivial
      refine ⟨a, _, rfl, ?_, j, fun s2 keep pt => k _ (by rw [Nat.mul_add]; exact pt) (keep p _ pa e)⟩
      omega
    · unfold lcEnd
      dsimp only
      have e2 : [] ++ (List.range 3).map (fun _ => D.bl true) = (List.replicate 3 true).map D.bl := rfl
      rw [e2, oAll_bls]
      try trivial
      have e3 : (List.replicate 3 true).all id = true := rfl
      rw [e3]
      try trivial
      exact kk _ ⟨fun i hi2 => hi i (List.mem_cons_of_mem _ hi2), _, _, rfl⟩
  · rintro ⟨sl, s⟩ ⟨_, s1, s2, e⟩
    cases e
    refine ⟨True.intro, ?_⟩
    try trivial
    exact h _
end L23

end SZV23

section SZW23
set_option Elab.async false
set_option linter.all false
set_option maxRecDepth 100000
namespace L23
open PySem L2 DL
variable {P : Program} {w : World} {K : Fr} {mg : Str → Option Value} {base : Heap}
theorem F__law_cells (c : Known fs fn K mg) : DFn P w K mg base 1 (He.fAd K ("_law_cells", none)) (fdOf K ("_law_cells", none)) ["script", "most"] ct__law_cells := D__law_cells c  P__law_cells
theorem F_offs_in (c : Known fs fn K mg) : DFn P w K mg base 1 (He.fAd K ("offs_in", none)) (fdOf K ("offs_in", none)) ["numbers"] ct_offs_in := D_offs_in c  P_offs_in
theorem F_number_in (c : Known fs fn K mg) : DFn P w K mg base 1 (He.fAd K ("number_in", none)) (fdOf K ("number_in", none)) ["word", "low", "high"] ct_number_in := D_number_in c  P_number_in
theorem F_read_posting (c : Known fs fn K mg) : DFn P w K mg base 2 (He.fAd K ("read_posting", none)) (fdOf K ("read_posting", none)) ["line", "last"] ct_read_posting := D_read_posting c (F_number_in c) P_read_posting
theorem F_read_balance (c : Known fs fn K mg) : DFn P w K mg base 2 (He.fAd K ("read_balance", none)) (fdOf K ("read_balance", none)) ["line", "word"] ct_read_balance := D_read_balance c (F_number_in c) P_read_balance
theorem F_is_word (c : Known fs fn K mg) : DFn P w K mg base 1 (He.fAd K ("is_word", none)) (fdOf K ("is_word", none)) ["value", "most"] ct_is_word := D_is_word c  P_is_word
theorem F_is_name (c : Known fs fn K mg) : DFn P w K mg base 2 (He.fAd K ("is_name", none)) (fdOf K ("is_name", none)) ["value"] ct_is_name := D_is_name c (F_is_word c) P_is_name
theorem F_is_account (c : Known fs fn K mg) : DFn P w K mg base 3 (He.fAd K ("is_account", none)) (fdOf K ("is_account", none)) ["value"] ct_is_account := D_is_account c (F_is_name c) P_is_account
theorem F_read_account (c : Known fs fn K mg) : DFn P w K mg base 4 (He.fAd K ("read_account", none)) (fdOf K ("read_account", none)) ["line"] ct_read_account := D_read_account c (F_is_account c) P_read_account
theorem F_read_draft (c : Known fs fn K mg) : DFn P w K mg base 5 (He.fAd K ("read_draft", none)) (fdOf K ("read_draft", none)) ["draft"] (ct_read_draft K) := D_read_draft c (F_read_posting c) (F_read_balance c) (F_read_account c) P_read_draft
theorem F_numbers_in (c : Known fs fn K mg) : DFn P w K mg base 6 (He.fAd K ("numbers_in", none)) (fdOf K ("numbers_in", none)) ["draft"] ct_numbers_in := D_numbers_in c (F_read_draft c) P_numbers_in
theorem F_adds_up (c : Known fs fn K mg) : DFn P w K mg base 7 (He.fAd K ("adds_up", none)) (fdOf K ("adds_up", none)) ["draft"] ct_adds_up := D_adds_up c (F_offs_in c) (F_numbers_in c) P_adds_up
theorem F_is_draft (c : Known fs fn K mg) : DFn P w K mg base 6 (He.fAd K ("is_draft", none)) (fdOf K ("is_draft", none)) ["value"] ct_is_draft := D_is_draft c (F_read_draft c) (P_is_draft c)
theorem F__law_offs (c : Known fs fn K mg) : DFn P w K mg base 1 (He.fAd K ("_law_offs", none)) (fdOf K ("_law_offs", none)) ["own"] ct__law_offs := D__law_offs c  P__law_offs
theorem F__law_draft_text (c : Known fs fn K mg) : DFn P w K mg base 1 (He.fAd K ("_law_draft_text", none)) (fdOf K ("_law_draft_text", none)) ["own"] ct__law_draft_text := D__law_draft_text c  P__law_draft_text
theorem F__law_take (c : Known fs fn K mg) : DFn P w K mg base 1 (He.fAd K ("_law_take", none)) (fdOf K ("_law_take", none)) ["pot", "upto"] ct__law_take := D__law_take c  P__law_take
theorem F_goes_on (c : Known fs fn K mg) : DFn P w K mg base 1 (He.fAd K ("goes_on", none)) (fdOf K ("goes_on", none)) ["ahead", "page"] ct_goes_on := D_goes_on c  P_goes_on
theorem F_joined_pages (c : Known fs fn K mg) : DFn P w K mg base 8 (He.fAd K ("joined_pages", none)) (fdOf K ("joined_pages", none)) ["pages"] (ct_joined_pages K) := D_joined_pages c (F_goes_on c) (F_read_draft c) (F_adds_up c) (F_is_draft c) P_joined_pages
theorem F__law_number_of_pages (c : Known fs fn K mg) : DFn P w K mg base 9 (He.fAd K ("_law_number_of_pages", none)) (fdOf K ("_law_number_of_pages", none)) ["pages"] ct__law_number_of_pages := D__law_number_of_pages c (F_joined_pages c) (P__law_number_of_pages c)
theorem F__law_of (c : Known fs fn K mg) : DFn P w K mg base 2 (He.fAd K ("_law_of", none)) (fdOf K ("_law_of", none)) ["pot", "some"] ct__law_of := D__law_of c (F__law_take c) P__law_of
theorem F__law_bent (c : Known fs fn K mg) : DFn P w K mg base 3 (He.fAd K ("_law_bent", none)) (fdOf K ("_law_bent", none)) ["pot", "texts"] ct__law_bent := D__law_bent c (F__law_of c) (F__law_take c) P__law_bent
theorem F__law_pages (c : Known fs fn K mg) : DFn P w K mg base 1 (He.fAd K ("_law_pages", none)) (fdOf K ("_law_pages", none)) ["own", "lines"] ct__law_pages := D__law_pages c  P__law_pages
theorem F_text_of (c : Known fs fn K mg) : DFn P w K mg base 1 (He.fAd K ("text_of", none)) (fdOf K ("text_of", none)) ["account", "before", "postings"] ct_text_of := D_text_of c  P_text_of
theorem F_is_integer (c : Known fs fn K mg) : DFn P w K mg base 1 (He.fAd K ("is_integer", none)) (fdOf K ("is_integer", none)) ["value"] ct_is_integer := D_is_integer c  P_is_integer
theorem F_is_number (c : Known fs fn K mg) : DFn P w K mg base 2 (He.fAd K ("is_number", none)) (fdOf K ("is_number", none)) ["value", "low", "high"] ct_is_number := D_is_number c (F_is_integer c) P_is_number
theorem F_ascends (c : Known fs fn K mg) : DFn P w K mg base 1 (He.fAd K ("ascends", none)) (fdOf K ("ascends", none)) ["row"] ct_ascends := D_ascends c  P_ascends
theorem F_are_ascending (c : Known fs fn K mg) : DFn P w K mg base 3 (He.fAd K ("are_ascending", none)) (fdOf K ("are_ascending", none)) ["value", "low", "high"] ct_are_ascending := D_are_ascending c (F_ascends c) (F_is_number c) P_are_ascending
theorem F_is_row (c : Known fs fn K mg) : DFn P w K mg base 1 (He.fAd K ("is_row", none)) (fdOf K ("is_row", none)) ["value", "many"] ct_is_row := D_is_row c  P_is_row
theorem F_are_postings (c : Known fs fn K mg) : DFn P w K mg base 4 (He.fAd K ("are_postings", none)) (fdOf K ("are_postings", none)) ["value"] ct_are_postings := D_are_postings c (F_are_ascending c) (F_is_number c) (F_is_row c) P_are_postings
theorem F_check_statement (c : Known fs fn K mg) : DFn P w K mg base 5 (He.fAd K ("check_statement", none)) (fdOf K ("check_statement", none)) ["account", "before", "postings"] ct_check_statement := D_check_statement c (F_are_postings c) (F_is_number c) (F_is_account c) P_check_statement
theorem F_paged (c : Known fs fn K mg) : DFn P w K mg base 6 (He.fAd K ("paged", none)) (fdOf K ("paged", none)) ["account", "before", "postings", "lines"] ct_paged := D_paged c (F_text_of c) (F_is_number c) (F_check_statement c) P_paged
theorem F_statement_text (c : Known fs fn K mg) : DFn P w K mg base 6 (He.fAd K ("statement_text", none)) (fdOf K ("statement_text", none)) ["account", "before", "postings"] ct_statement_text := D_statement_text c (F_text_of c) (F_check_statement c) P_statement_text
theorem F__law_sums (c : Known fs fn K mg) : DFn P w K mg base 3 (He.fAd K ("_law_sums", none)) (fdOf K ("_law_sums", none)) ["pot", "amount"] ct__law_sums := D__law_sums c (F__law_of c) (F__law_take c) P__law_sums
theorem F__law_own_draft (c : Known fs fn K mg) : DFn P w K mg base 4 (He.fAd K ("_law_own_draft", none)) (fdOf K ("_law_own_draft", none)) ["pot", "most"] ct__law_own_draft := D__law_own_draft c (F__law_sums c) (F__law_take c) (F__law_of c) P__law_own_draft
theorem F__law_right (c : Known fs fn K mg) : DFn P w K mg base 10 (He.fAd K ("_law_right", none)) (fdOf K ("_law_right", none)) ["pot"] ct__law_right := D__law_right c (F_adds_up c) (F_is_draft c) (F__law_offs c) (F__law_draft_text c) (F__law_take c) (F__law_number_of_pages c) (F__law_bent c) (F_joined_pages c) (F__law_pages c) (F_paged c) (F_read_draft c) (F_statement_text c) (F__law_own_draft c) P__law_right
theorem F__law_pot (c : Known fs fn K mg) : DFn P w K mg base 1 (He.fAd K ("_law_pot", none)) (fdOf K ("_law_pot", none)) ["script", "place"] ct__law_pot := D__law_pot c  P__law_pot
theorem F_law (c : Known fs fn K mg) : DFn P w K mg base 11 (He.fAd K ("law", none)) (fdOf K ("law", none)) ["script"] ct_law := D_law c (F__law_cells c) (F__law_right c) (F__law_pot c) P_law
end L23

end SZW23

section SZX23
set_option Elab.async false
set_option linter.all false
set_option maxRecDepth 100000
set_option maxHeartbeats 0
namespace L23
open PySem PySem.Spec PyProof.Rows L2 DL
def fsL : List (Fr → Bool) := noLst :: fs
abbrev R : PySem.W.OpenRow := PySem.W.OpenLaw.row PySem.Challenge.rw_oncebooked_k23_whole_statements_and_page
abbrev hk : PySem.W.Hook := hkB 5 fsL fn
def ob (s : PySem.W.SharedT) : Ob := obBG 5 fsL fn (HandSHeadRun.getT s)
theorem ob_eq (s : PySem.W.SharedT) : ob s = hk.obs s.abs := obBG_eq (HandSHeadRun.getT_eq s)
theorem run (w : World) : HandSHeadRun.RunEq R (PySem.W.view R.prog [57]) hk ob 4000 loose w := by
  intro os
  kernel_rfl
end L23
open PySem PySem.W PySem.Calls PyProof.Rows L23
theorem PySem.Challenge.cw_oncebooked_k23_whole_statements_and_page_holds : PySem.Challenge.rw_oncebooked_k23_whole_statements_and_page.Holds := by
  w_on; o_law
  refine HandSHeadRun.head_any (r := L23.R) (q := view L23.R.prog [57]) (H := L23.hk) (ob := L23.ob) (M := 4000) (loose := L23.loose) (d := HandSHeadRun.topDef L23.R.prog 57) (kwd := []) L23.ob_eq
    (by kernel_rfl) (fun s => by kernel_rfl) L23.run (by kernel_rfl) (by kernel_rfl) (by kernel_rfl) (by rfl) (by first | assumption | decide +kernel) (by decide +kernel) ⟨rfl, rfl, rfl, rfl, rfl, by decide +kernel⟩ ?hw ?hc
  case hw => w_witness2
  case hc =>
    refine DL.walk_data (l := PySem.Challenge.rw_oncebooked_k23_whole_statements_and_page) (n := 63) (k := 11) (x := "script") (ct := L23.ct_law) rfl (by decide) (by kernel_rfl) ⟨rfl, by decide, by decide⟩ ?F (fun ns h1 h2 => ⟨ns, rfl, h1, h2, fun _ => rfl⟩)
    intro w mg fa h Y G hmg0
    obtain ⟨K, KX, c⟩ := Y
    have hmg : mg ("law" : PySem.Str) = some (.ref fa) := by
      have e : (HandSHeadRun.topDef L23.R.prog 57).name = ("law" : PySem.Str) := by kernel_rfl
      rw [← e]
      exact hmg0
    have kn : DL.Known L23.fsL L23.fn K mg := ⟨c, h, KX, G⟩
    have kn2 : DL.Known L23.fs L23.fn K mg := kn.tail
    have eq := hmg.symm.trans (L23.gl_law kn2)
    cases eq
    exact ⟨K, DL.fdOf K ("law", none), KX, kn.fact 0 rfl, fun s v => L23.bA_law kn2 s v, fun base _ _ => L23.F_law kn2⟩

end SZX23
