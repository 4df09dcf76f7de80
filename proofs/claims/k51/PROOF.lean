import PyProof.Rows.All
import Wide.All
import OpenK.AllK
import Wide.FinOn
import HandS.ForMost
import HandS.Exc
import HandS.ExcInit
import HandS.TryMany
import HandS.CallSlots
import HandS.StrMore
import HandS.TupAny
import HandS.IsInst
import HandS.Wide
import HandS.WideBits
import HandS.WordsExc
import HandS.RaiseMore
import HandS.ExcIs
import HandS.ExcField
import HandS.Codes
import HandS.Style
import HandS.More
import HandS.DictComp
import HandS.List
import KE.SortData
import HandS.SortInts
import PyProof.Rows.RegFStrParts
import PySem.Challenge.RW_changedsame_k51_all_cases_in_sequence
set_option Elab.async false
set_option linter.all false
set_option maxRecDepth 100000
set_option maxHeartbeats 4000000
/-! Pm: a def's body as a plain function over plain data and a small store of lists. -/
namespace Pm
open PySem L2

/-! ### data -/
inductive D where
  | non | bl (b : Bool) | int (i : Int) | str (s : Str) | fn (f : Str) | ty (n : String) | lst (xs : List D) | tup (xs : List D) | dic (kvs : List (Key × D)) | arr (xs : List Int)
instance : Inhabited D := ⟨.non⟩
/-- what stood before and must stay, beside what the store and F tell; and which lists may be known to the object -/
structure Od where
  hp : Hp := fun _ => none
  fz : Addr → Prop := fun _ => True
/-- where the defs and classes stand; in an except suite: the exception's address, its dict's, its class's -/
structure Fa where
  f : Str → Option Addr
  rg : Option (Addr × Addr × Addr) := none
  od : Od := {}
/-- a value that may stand in the store; x: the exception that is handled; raw: any value, that stays as it is -/
inductive W where
  | d (x : D) | c (k : Nat) | x (cls : Str) (pl : List (Str × D)) | raw (v : V)
instance : Inhabited W := ⟨.d .non⟩
inductive O where
  | lst (xs : List D) | dic (kvs : List (Key × D)) | frz (d : D)
abbrev Cells := List O
def O.val : O → D
  | .lst xs => .lst xs
  | .dic kvs => .dic kvs
  | .frz d => d
inductive Out (α : Type) where
  | ok (a : α) (c : Cells) | exc (cls : Str) (pl : List (Str × D)) (c : Cells) | bad
def Out.bind {α β : Type} (o : Out α) (f : α → Cells → Out β) : Out β := match o with
  | .ok a c => f a c
  | .exc x pl c => .exc x pl c
  | .bad => .bad
@[simp] theorem Out.bind_ok {α β : Type} (a : α) (c : Cells) (f : α → Cells → Out β) : (Out.ok a c).bind f = f a c := rfl
@[simp] theorem Out.bind_exc {α β : Type} (x : Str) (pl : List (Str × D)) (c : Cells) (f : α → Cells → Out β) : (Out.exc x pl c : Out α).bind f = .exc x pl c := rfl
@[simp] theorem Out.bind_bad {α β : Type} (f : α → Cells → Out β) : (Out.bad : Out α).bind f = .bad := rfl
abbrev Sl := List (Option W)
abbrev Den := Sl → Cells → Out W

def rd (c : Cells) : W → Option D
  | .d x => some x
  | .c k => (c[k]?).map O.val
  | .x _ _ => none
  | .raw _ => none
/-- the value, frozen -/
def fz (w : W) (c : Cells) : Out D := match w with
  | .d x => .ok x c
  | .c k => match c[k]? with
    | some o => .ok o.val (c.set k (.frz o.val))
    | none => .bad
  | .x _ _ => .bad
  | .raw _ => .bad

/-! ### what stands for data -/
section
variable (K : PySem.W.Frag) (fa : Fa)
mutual
inductive Rp (F : Hp) : V → D → Prop
  | non : Rp F .non .non
  | bl (b : Bool) : Rp F (.bl b) (.bl b)
  | int (i : Int) : Rp F (.int i) (.int i)
  | str (x : Str) : Rp F (.str x) (.str x)
  | fn {x : Str} {a : Addr} : fa.f x = some a → Rp F (.ref a) (.fn x)
  | ty (n : String) : Rp F (.ty n) (.ty n)
  | lst {a : Addr} {xs : List V} {ds : List D} : Rd F a (.lst xs) → RpA F xs ds → Rp F (.ref a) (.lst ds)
  | tup {a : Addr} {xs : List V} {ds : List D} : SqT K F a xs → RpA F xs ds → Rp F (.ref a) (.tup ds)
  | dic {a : Addr} {kvs : List (Key × V)} {ds : List (Key × D)} : F a = some (.dK kvs) → RpK F kvs ds → Rp F (.ref a) (.dic ds)
  | arr {a : Addr} {xs : List Int} : SqL K F a (xs.map V.int) → Rp F (.ref a) (.arr xs)
inductive RpA (F : Hp) : List V → List D → Prop
  | nil : RpA F [] []
  | cons {v : V} {vs : List V} {d : D} {ds : List D} : Rp F v d → RpA F vs ds → RpA F (v :: vs) (d :: ds)
inductive RpK (F : Hp) : List (Key × V) → List (Key × D) → Prop
  | nil : RpK F [] []
  | cons {k : Key} {v : V} {vs : List (Key × V)} {d : D} {ds : List (Key × D)} : Rp F v d → RpK F vs ds → RpK F ((k, v) :: vs) ((k, d) :: ds)
end
end
section
variable {K : PySem.W.Frag} {fa : Fa}
theorem rd_mono {F F' : Hp} {a : Addr} {u : HO} (e : Same F F') (h : Rd F a u) : Rd F' a u := by
  rcases h with h | ⟨o, h⟩
  · exact .inl (e _ _ h)
  · exact .inr ⟨o, e _ _ h⟩
theorem sqT_mono {F F' : Hp} {a : Addr} {xs : List V} (e : Same F F') (h : SqT K F a xs) : SqT K F' a xs := by
  rcases h with (h | ⟨o, h⟩) | h
  · exact .inl (.inl (e _ _ h))
  · exact .inl (.inr ⟨o, e _ _ h⟩)
  · exact .inr h
theorem sqL_mono {F F' : Hp} {a : Addr} {xs : List V} (e : Same F F') (h : SqL K F a xs) : SqL K F' a xs := by
  rcases h with (h | ⟨o, h⟩) | h
  · exact .inl (.inl (e _ _ h))
  · exact .inl (.inr ⟨o, e _ _ h⟩)
  · exact .inr h
mutual
theorem Rp.mono {F F' : Hp} (e : Same F F') : ∀ {v : V} {d : D}, Rp K fa F v d → Rp K fa F' v d
  | _, _, .non => .non
  | _, _, .bl b => .bl b
  | _, _, .int i => .int i
  | _, _, .str x => .str x
  | _, _, .fn h => .fn h
  | _, _, .ty n => .ty n
  | _, _, .lst h r => .lst (rd_mono e h) (RpA.mono e r)
  | _, _, .tup h r => .tup (sqT_mono e h) (RpA.mono e r)
  | _, _, .dic h r => .dic (e _ _ h) (RpK.mono e r)
  | _, _, .arr h => .arr (sqL_mono e h)
theorem RpA.mono {F F' : Hp} (e : Same F F') : ∀ {vs : List V} {ds : List D}, RpA K fa F vs ds → RpA K fa F' vs ds
  | _, _, .nil => .nil
  | _, _, .cons h r => .cons (Rp.mono e h) (RpA.mono e r)
theorem RpK.mono {F F' : Hp} (e : Same F F') : ∀ {vs : List (Key × V)} {ds : List (Key × D)}, RpK K fa F vs ds → RpK K fa F' vs ds
  | _, _, .nil => .nil
  | _, _, .cons h r => .cons (Rp.mono e h) (RpK.mono e r)
end
theorem RpA.length {F : Hp} : ∀ {vs : List V} {ds : List D}, RpA K fa F vs ds → vs.length = ds.length
  | _, _, .nil => rfl
  | _, _, .cons _ r => by simp [RpA.length r]
theorem RpA.get {F : Hp} : ∀ {vs : List V} {ds : List D} {i : Nat} {d : D}, RpA K fa F vs ds → ds[i]? = some d → ∃ v, vs[i]? = some v ∧ Rp K fa F v d
  | _, _, _, _, .nil, e => by simp at e
  | _, _, 0, _, .cons h _, e => by simp at e; subst e; exact ⟨_, rfl, h⟩
  | _, _, i + 1, _, .cons _ r, e => by
    obtain ⟨v, h1, h2⟩ := RpA.get (i := i) r (by simpa using e)
    exact ⟨v, by simpa using h1, h2⟩
theorem RpA.getV {F : Hp} : ∀ {vs : List V} {ds : List D} {i : Nat} {v : V}, RpA K fa F vs ds → vs[i]? = some v → ∃ d, ds[i]? = some d ∧ Rp K fa F v d
  | _, _, _, _, .nil, e => by simp at e
  | _, _, 0, _, .cons h _, e => by simp at e; subst e; exact ⟨_, rfl, h⟩
  | _, _, i + 1, _, .cons _ r, e => by
    obtain ⟨v, h1, h2⟩ := RpA.getV (i := i) r (by simpa using e)
    exact ⟨v, by simpa using h1, h2⟩
theorem RpA.append {F : Hp} : ∀ {vs vs' : List V} {ds ds' : List D}, RpA K fa F vs ds → RpA K fa F vs' ds' → RpA K fa F (vs ++ vs') (ds ++ ds')
  | _, _, _, _, .nil, s => s
  | _, _, _, _, .cons h r, s => .cons h (RpA.append r s)
theorem RpA.take {F : Hp} : ∀ {vs : List V} {ds : List D} (n : Nat), RpA K fa F vs ds → RpA K fa F (vs.take n) (ds.take n)
  | _, _, 0, _ => .nil
  | _, _, _ + 1, .nil => .nil
  | _, _, n + 1, .cons h r => .cons h (RpA.take n r)
theorem RpA.drop {F : Hp} : ∀ {vs : List V} {ds : List D} (n : Nat), RpA K fa F vs ds → RpA K fa F (vs.drop n) (ds.drop n)
  | _, _, 0, r => r
  | _, _, _ + 1, .nil => .nil
  | _, _, n + 1, .cons _ r => RpA.drop n r
theorem RpA.set {F : Hp} {v : V} {d : D} (h : Rp K fa F v d) : ∀ {vs : List V} {ds : List D} (i : Nat), RpA K fa F vs ds → RpA K fa F (vs.set i v) (ds.set i d)
  | _, _, _, .nil => .nil
  | _, _, 0, .cons _ r => .cons h r
  | _, _, i + 1, .cons q r => .cons q (RpA.set h i r)
theorem RpA.reverse {F : Hp} : ∀ {vs : List V} {ds : List D}, RpA K fa F vs ds → RpA K fa F vs.reverse ds.reverse
  | _, _, .nil => .nil
  | _, _, .cons h r => by simpa using RpA.append (RpA.reverse r) (.cons h .nil)
theorem RpA.strs {F : Hp} : ∀ (ys : List Str), RpA K fa F (ys.map V.str) (ys.map D.str)
  | [] => .nil
  | y :: ys => .cons (.str y) (RpA.strs ys)
theorem RpA.ints {F : Hp} : ∀ (ys : List Int), RpA K fa F (ys.map V.int) (ys.map D.int)
  | [] => .nil
  | y :: ys => .cons (.int y) (RpA.ints ys)
end

/-! ### the store against the heap -/
theorem _root_.PySem.L2.Same.out {F H : Hp} (e : Same F H) {p : Addr} (n : H p = none) : F p = none := by
  cases q : F p with
  | none => rfl
  | some u => have := e p u q; rw [n] at this; cases this
theorem _root_.PySem.L2.Same.up {F H : Hp} (e : Same F H) {p : Addr} {o : HO} (n : H p = none) : Same F (upd H p o) := fun b u q => by rw [upd_ne (ne_of_none (e b u q) n)]; exact e b u q
section
variable (K : PySem.W.Frag) (fa : Fa)
def CellOk (F H : Hp) (a : Addr) : O → Prop
  | .lst ds => F a = none ∧ ∃ vs, H a = some (.lst vs) ∧ RpA K fa F vs ds
  | .dic ds => F a = none ∧ ∃ vs, H a = some (.dK vs) ∧ RpK K fa F vs ds
  | .frz d => Rp K fa F (.ref a) d
structure Rel (c : Cells) (ad : List Addr) (F H : Hp) : Prop where
  le : Same F H
  len : ad.length = c.length
  nd : ad.Nodup
  there : ∀ a ∈ ad, ∃ o, H a = some o
  cell : ∀ (k : Nat) (o : O) (a : Addr), c[k]? = some o → ad[k]? = some a → CellOk K fa F H a o
  kp : Same fa.od.hp H
  nf : ∀ a u, F a = some u → (∀ fs, u ≠ .xd fs) → fa.od.hp a = none
  na : ∀ a ∈ ad, fa.od.hp a = none
  nz : ∀ a o xs, F a = some (.frz o (.lst xs)) → fa.od.fz a
/-- the fields of an exception -/
def Flds (F : Hp) (fs : List (Str × V)) (pl : List (Str × D)) : Prop := ∀ x d, pl.lookup x = some d → ∃ v, fs.lookup x = some v ∧ Rp K fa F v d
def RW (ad : List Addr) (F : Hp) (v : V) : W → Prop
  | .d x => Rp K fa F v x
  | .c k => ∃ a, ad[k]? = some a ∧ v = .ref a
  | .x cls pl => ∃ a dd C fs, v = .ref a ∧ fa.rg = some (a, dd, C) ∧ fa.f cls = some C ∧ F dd = some (.xd fs) ∧ Flds K fa F fs pl
  | .raw u => v = u
inductive RWs (ad : List Addr) (F : Hp) : List V → List W → Prop
  | nil : RWs ad F [] []
  | cons {v : V} {vs : List V} {w : W} {ws : List W} : RW K fa ad F v w → RWs ad F vs ws → RWs ad F (v :: vs) (w :: ws)
def SlOk (ad : List Addr) (F : Hp) (σ : L2.St) (sl : Sl) : Prop := σ.length = sl.length ∧ ∀ (i : Nat) (w : W), sl[i]? = some (some w) → ∃ v, σ[i]? = some (some v) ∧ RW K fa ad F v w
/-- what is to be shown of an outcome -/
def Post {α : Type} (Wx : Value → Option Addr → Hp → Prop) (ad : List Addr) (F : Hp) (Q : α → List Addr → Hp → Hp → Prop) : Out α → Prop
  | .ok a c => ∀ H F' ad', Same F F' → ad <+: ad' → Rel K fa c ad' F' H → Q a ad' F' H
  | .exc x pl c => ∀ H F' ad' C d fs, Same F F' → ad <+: ad' → Rel K fa c ad' F' H → fa.f x = some C → H d = some (.xd fs) → Flds K fa F' fs pl → Wx (.ref C) (some d) H
  | .bad => False
end
section
variable {K : PySem.W.Frag} {fa : Fa} {c c' : Cells} {ad ad' : List Addr} {F F' H H' : Hp} {σ : L2.St} {sl : Sl} {v : V} {w : W}
theorem ix_inj : ∀ {l : List Addr} {i j : Nat} {a : Addr}, l.Nodup → l[i]? = some a → l[j]? = some a → i = j
  | [], _, _, _, _, h, _ => by simp at h
  | b :: l, 0, 0, _, _, _, _ => rfl
  | b :: l, 0, j + 1, a, n, h1, h2 => by
    simp at h1 h2
    subst h1
    exact absurd (List.mem_of_getElem? h2) (List.nodup_cons.mp n).1
  | b :: l, i + 1, 0, a, n, h1, h2 => by
    simp at h1 h2
    subst h2
    exact absurd (List.mem_of_getElem? h1) (List.nodup_cons.mp n).1
  | b :: l, i + 1, j + 1, a, n, h1, h2 => by
    simp at h1 h2
    rw [ix_inj (List.nodup_cons.mp n).2 h1 h2]
theorem pre_get {l l' : List Addr} (h : l <+: l') {k : Nat} {a : Addr} (e : l[k]? = some a) : l'[k]? = some a := by
  obtain ⟨t, rfl⟩ := h
  rw [List.getElem?_append_left (List.getElem?_eq_some_iff.mp e).1]
  exact e
theorem RW.mono (e : Same F F') (p : ad <+: ad') (h : RW K fa ad F v w) : RW K fa ad' F' v w := by
  cases w with
  | d x => exact Rp.mono e h
  | c k =>
    obtain ⟨a, h1, h2⟩ := h
    exact ⟨a, pre_get p h1, h2⟩
  | raw u => exact h
  | x cls pl =>
    obtain ⟨a, dd, C, fs, h1, h2, h3, h4, h5⟩ := h
    exact ⟨a, dd, C, fs, h1, h2, h3, e _ _ h4, fun y d q => let ⟨v, q1, q2⟩ := h5 y d q; ⟨v, q1, q2.mono e⟩⟩
theorem RWs.mono (e : Same F F') (p : ad <+: ad') : ∀ {vs : List V} {ws : List W}, RWs K fa ad F vs ws → RWs K fa ad' F' vs ws
  | _, _, .nil => .nil
  | _, _, .cons h r => .cons (h.mono e p) (RWs.mono e p r)
theorem RWs.length : ∀ {vs : List V} {ws : List W}, RWs K fa ad F vs ws → vs.length = ws.length
  | _, _, .nil => rfl
  | _, _, .cons _ r => by simp [RWs.length r]
theorem SlOk.mono (e : Same F F') (p : ad <+: ad') (h : SlOk K fa ad F σ sl) : SlOk K fa ad' F' σ sl := ⟨h.1, fun i w q => by
  obtain ⟨v, h1, h2⟩ := h.2 i w q
  exact ⟨v, h1, h2.mono e p⟩⟩
theorem SlOk.set {i : Nat} (h : SlOk K fa ad F σ sl) (r : RW K fa ad F v w) : SlOk K fa ad F (σ.set i (some v)) (sl.set i (some w)) := ⟨by simp [h.1], fun j w' q => by
  by_cases e : i = j
  · subst e
    rw [List.getElem?_set] at q
    rw [List.getElem?_set]
    simp only [if_true] at q ⊢
    split at q
    · rename_i hl
      simp at q
      subst q
      rw [if_pos (by rw [h.1]; exact hl)]
      exact ⟨v, rfl, r⟩
    · cases q
  · rw [List.getElem?_set_ne e] at q ⊢
    exact h.2 j w' q⟩
theorem SlOk.unset {i : Nat} (h : SlOk K fa ad F σ sl) (y : Option V) : SlOk K fa ad F (σ.set i y) (sl.set i none) := ⟨by simp [h.1], fun j w' q => by
  by_cases e : i = j
  · subst e
    rw [List.getElem?_set] at q
    simp only [if_true] at q
    split at q <;> simp at q
  · rw [List.getElem?_set_ne e] at q ⊢
    exact h.2 j w' q⟩
theorem Rel.cell_at (R : Rel K fa c ad F H) {k : Nat} {o : O} (e : c[k]? = some o) : ∃ a, ad[k]? = some a ∧ CellOk K fa F H a o := by
  have hk : k < ad.length := by rw [R.len]; exact (List.getElem?_eq_some_iff.mp e).1
  exact ⟨ad[k], by simp [hk], R.cell k o _ e (by simp [hk])⟩
/-- the value of a word, read over the heap -/
theorem Rel.rd (R : Rel K fa c ad F H) {d : D} (r : RW K fa ad F v w) (e : rd c w = some d) :
    (∃ a ds vs, d = .lst ds ∧ v = .ref a ∧ Rd H a (.lst vs) ∧ RpA K fa F vs ds) ∨ (∃ a ds vs, d = .dic ds ∧ v = .ref a ∧ H a = some (.dK vs) ∧ RpK K fa F vs ds) ∨ Rp K fa F v d := by
  cases w with
  | d x =>
    injection e with e
    subst e
    exact .inr (.inr r)
  | c k =>
    obtain ⟨a, h1, h2⟩ := r
    replace e : (c[k]?).map O.val = some d := e
    cases q : c[k]? with
    | none => rw [q] at e; cases e
    | some o =>
      rw [q] at e
      simp at e
      have ok := R.cell k o a q h1
      cases o with
      | lst ds =>
        obtain ⟨_, vs, h3, h4⟩ := ok
        exact .inl ⟨a, ds, vs, e.symm, h2, .inl h3, h4⟩
      | dic ds =>
        obtain ⟨_, vs, h3, h4⟩ := ok
        exact .inr (.inl ⟨a, ds, vs, e.symm, h2, h3, h4⟩)
      | frz d' =>
        have : d' = d := e
        subst this
        rw [h2]
        exact .inr (.inr ok)
  | x _ _ => cases e
  | raw _ => cases e
theorem Rel.lst (R : Rel K fa c ad F H) {ds : List D} (r : RW K fa ad F v w) (e : Pm.rd c w = some (.lst ds)) : ∃ a vs, v = .ref a ∧ Rd H a (.lst vs) ∧ RpA K fa F vs ds := by
  rcases R.rd r e with ⟨a, ds', vs, h1, h2, h3, h4⟩ | ⟨a, ds', vs, h1, h2, h3, h4⟩ | h
  · cases h1; exact ⟨a, vs, h2, h3, h4⟩
  · cases h1
  · cases h with
    | lst s q => exact ⟨_, _, rfl, rd_mono R.le s, q⟩
theorem Rel.tup (R : Rel K fa c ad F H) {ds : List D} (r : RW K fa ad F v w) (e : Pm.rd c w = some (.tup ds)) : ∃ a vs, v = .ref a ∧ SqT K H a vs ∧ RpA K fa F vs ds := by
  rcases R.rd r e with ⟨a, ds', vs, h1, h2, h3, h4⟩ | ⟨a, ds', vs, h1, h2, h3, h4⟩ | h
  · cases h1
  · cases h1
  · cases h with
    | tup s q => exact ⟨_, _, rfl, sqT_mono R.le s, q⟩
theorem Rel.int (R : Rel K fa c ad F H) {i : Int} (r : RW K fa ad F v w) (e : Pm.rd c w = some (.int i)) : v = .int i := by
  rcases R.rd r e with ⟨a, ds', vs, h1, _⟩ | ⟨a, ds', vs, h1, _⟩ | h
  · cases h1
  · cases h1
  · cases h; rfl
theorem Rel.bl (R : Rel K fa c ad F H) {i : Bool} (r : RW K fa ad F v w) (e : Pm.rd c w = some (.bl i)) : v = .bl i := by
  rcases R.rd r e with ⟨a, ds', vs, h1, _⟩ | ⟨a, ds', vs, h1, _⟩ | h
  · cases h1
  · cases h1
  · cases h; rfl
theorem Rel.str (R : Rel K fa c ad F H) {i : Str} (r : RW K fa ad F v w) (e : Pm.rd c w = some (.str i)) : v = .str i := by
  rcases R.rd r e with ⟨a, ds', vs, h1, _⟩ | ⟨a, ds', vs, h1, _⟩ | h
  · cases h1
  · cases h1
  · cases h; rfl
theorem Rel.non (R : Rel K fa c ad F H) (r : RW K fa ad F v w) (e : Pm.rd c w = some .non) : v = .non := by
  rcases R.rd r e with ⟨a, ds', vs, h1, _⟩ | ⟨a, ds', vs, h1, _⟩ | h
  · cases h1
  · cases h1
  · cases h; rfl
/-- a new object, frozen -/
theorem Rel.newF (R : Rel K fa c ad F H) {p : Addr} {o : HO} (n : H p = none) (hz : ∀ o' xs, o ≠ .frz o' (.lst xs) := by intro _ _ z; cases z) : Rel K fa c ad (upd F p o) (upd H p o) ∧ Same F (upd F p o) := by
  have nF : F p = none := by
    cases q : F p with
    | none => rfl
    | some u => have := R.le p u q; rw [n] at this; cases this
  have sF : Same F (upd F p o) := fun b u e => by rw [upd_ne (ne_of_none e nF)]; exact e
  refine ⟨⟨fun b u e => ?_, R.len, R.nd, fun a ha => ?_, fun k x a h1 h2 => ?_, R.kp.up n, fun b u e => ?_, R.na, fun b o' xs e => ?_⟩, sF⟩
  · by_cases hb : b = p
    · subst hb; rw [upd_same] at e ⊢; exact e
    · rw [upd_ne hb] at e ⊢; exact R.le b u e
  · obtain ⟨u, hu⟩ := R.there a ha
    exact ⟨u, by rw [upd_ne (ne_of_none hu n)]; exact hu⟩
  · obtain ⟨u, hu⟩ := R.there a (List.mem_of_getElem? h2)
    have ne := ne_of_none hu n
    have ok := R.cell k x a h1 h2
    cases x with
    | lst ds => obtain ⟨h3, vs, h4, h5⟩ := ok; exact ⟨by rw [upd_ne ne]; exact h3, vs, by rw [upd_ne ne]; exact h4, h5.mono sF⟩
    | dic ds => obtain ⟨h3, vs, h4, h5⟩ := ok; exact ⟨by rw [upd_ne ne]; exact h3, vs, by rw [upd_ne ne]; exact h4, h5.mono sF⟩
    | frz d => exact Rp.mono sF ok
  · by_cases hb : b = p
    · subst hb; exact fun _ => R.kp.out n
    · rw [upd_ne hb] at e; exact R.nf b u e
  · by_cases hb : b = p
    · subst hb; rw [upd_same] at e; exact absurd (Option.some.inj e) (hz o' xs)
    · rw [upd_ne hb] at e; exact R.nz b o' xs e
/-- a new object that is not tracked by the store -/
theorem Rel.newJ (R : Rel K fa c ad F H) {p : Addr} {o : HO} (n : H p = none) : Rel K fa c ad F (upd H p o) := by
  refine ⟨fun b u e => ?_, R.len, R.nd, fun a ha => ?_, fun k x a h1 h2 => ?_, R.kp.up n, R.nf, R.na, R.nz⟩
  · have := R.le b u e
    rw [upd_ne (ne_of_none this n)]; exact this
  · obtain ⟨u, hu⟩ := R.there a ha
    exact ⟨u, by rw [upd_ne (ne_of_none hu n)]; exact hu⟩
  · obtain ⟨u, hu⟩ := R.there a (List.mem_of_getElem? h2)
    have ne := ne_of_none hu n
    have ok := R.cell k x a h1 h2
    cases x with
    | lst ds => obtain ⟨h3, vs, h4, h5⟩ := ok; exact ⟨h3, vs, by rw [upd_ne ne]; exact h4, h5⟩
    | dic ds => obtain ⟨h3, vs, h4, h5⟩ := ok; exact ⟨h3, vs, by rw [upd_ne ne]; exact h4, h5⟩
    | frz d => exact ok
/-- a new cell -/
theorem Rel.newC (R : Rel K fa c ad F H) {p : Addr} {o : HO} {x : O} (n : H p = none) (ok : F p = none → CellOk K fa F (upd H p o) p x) : Rel K fa (c ++ [x]) (ad ++ [p]) F (upd H p o) := by
  have nF : F p = none := by
    cases q : F p with
    | none => rfl
    | some u => have := R.le p u q; rw [n] at this; cases this
  have J := R.newJ (o := o) n
  refine ⟨J.le, by simp [R.len], ?_, fun a ha => ?_, fun k y a h1 h2 => ?_, J.kp, J.nf, fun a ha => ?_, J.nz⟩
  · rw [List.nodup_append]
    refine ⟨R.nd, by simp, fun a ha b hb => ?_⟩
    obtain ⟨u, hu⟩ := R.there a ha
    simp at hb
    subst hb
    exact ne_of_none hu n
  · rcases List.mem_append.mp ha with h | h
    · exact J.there a h
    · simp at h; subst h; exact ⟨_, upd_same⟩
  · by_cases hk : k < c.length
    · rw [List.getElem?_append_left hk] at h1
      rw [List.getElem?_append_left (by rw [R.len]; exact hk)] at h2
      exact J.cell k y a h1 h2
    · have e : k = c.length := by
        have := (List.getElem?_eq_some_iff.mp h1).1
        simp at this; omega
      subst e
      simp at h1
      rw [← R.len] at h2
      simp at h2
      subst h1 h2
      exact ok nF
  · rcases List.mem_append.mp ha with h | h
    · exact R.na a h
    · simp at h; subst h; exact R.kp.out n
/-- a cell changed -/
theorem Rel.write (R : Rel K fa c ad F H) {k : Nat} {a : Addr} {o : HO} {x : O} (e : ad[k]? = some a) (nF : F a = none) (ok : CellOk K fa F (upd H a o) a x) : Rel K fa (c.set k x) ad F (upd H a o) := by
  have other : ∀ (j : Nat) (b : Addr), ad[j]? = some b → j ≠ k → b ≠ a := fun j b h1 h2 z => by
    subst z
    exact h2 (ix_inj R.nd h1 e)
  refine ⟨fun b u q => ?_, by simp [R.len], R.nd, fun b hb => ?_, fun j y b h1 h2 => ?_, fun b u q => ?_, R.nf, R.na, R.nz⟩
  · rw [upd_ne (ne_of_none q nF)]; exact R.le b u q
  · by_cases z : b = a
    · subst z; exact ⟨_, upd_same⟩
    · obtain ⟨u, hu⟩ := R.there b hb
      exact ⟨u, by rw [upd_ne z]; exact hu⟩
  · by_cases hj : j = k
    · subst hj
      rw [e] at h2
      cases h2
      rw [List.getElem?_set] at h1
      simp only [if_true] at h1
      split at h1
      · simp at h1; subst h1; exact ok
      · cases h1
    · rw [List.getElem?_set_ne (Ne.symm hj)] at h1
      have ne := other j b h2 hj
      have q := R.cell j y b h1 h2
      cases y with
      | lst ds => obtain ⟨h3, vs, h4, h5⟩ := q; exact ⟨h3, vs, by rw [upd_ne ne]; exact h4, h5⟩
      | dic ds => obtain ⟨h3, vs, h4, h5⟩ := q; exact ⟨h3, vs, by rw [upd_ne ne]; exact h4, h5⟩
      | frz d => exact q
  · have := R.na a (List.mem_of_getElem? e)
    rw [upd_ne (ne_of_none q this)]; exact R.kp b u q
/-- a word frozen -/
theorem Rel.fz (R : Rel K fa c ad F H) {d : D} {c' : Cells} (r : RW K fa ad F v w) (e : fz w c = .ok d c') : ∃ F', Same F F' ∧ Rel K fa c' ad F' H ∧ Rp K fa F' v d := by
  cases w with
  | d x =>
    injection e with e1 e2
    subst e1 e2
    exact ⟨F, Same.refl F, R, r⟩
  | c k =>
    obtain ⟨a, h1, h2⟩ := r
    replace e : (match c[k]? with | some o => Out.ok o.val (c.set k (.frz o.val)) | none => .bad) = Out.ok d c' := e
    cases q : c[k]? with
    | none => rw [q] at e; cases e
    | some o =>
      rw [q] at e
      injection e with e1 e2
      subst e1 e2
      have ok := R.cell k o a q h1
      have other : ∀ (j : Nat) (b : Addr), ad[j]? = some b → j ≠ k → b ≠ a := fun j b h1' h2' z => by
        subst z
        exact h2' (ix_inj R.nd h1' h1)
      have fin : ∀ {u : HO} {d : D}, (∀ o' xs, u ≠ .frz o' (.lst xs)) → F a = none → H a = some u → (∀ F', Same F F' → F' a = some u → Rp K fa F' (.ref a) d) → ∃ F', Same F F' ∧ Rel K fa (c.set k (.frz d)) ad F' H ∧ Rp K fa F' v d := fun {u d} hz nF hu hr => by
        have sF : Same F (upd F a u) := fun b x e => by rw [upd_ne (ne_of_none e nF)]; exact e
        have rp := hr _ sF upd_same
        refine ⟨upd F a u, sF, ⟨fun b x e => ?_, by simp [R.len], R.nd, R.there, fun j y b h3 h4 => ?_, R.kp, fun b x e => ?_, R.na, fun b o' xs e => ?_⟩, by rw [h2]; exact rp⟩
        · by_cases z : b = a
          · subst z; rw [upd_same] at e; cases e; exact hu
          · rw [upd_ne z] at e; exact R.le b x e
        · by_cases hj : j = k
          · subst hj
            rw [h1] at h4; cases h4
            rw [List.getElem?_set] at h3
            simp only [if_true] at h3
            split at h3
            · simp at h3; subst h3; exact rp
            · cases h3
          · rw [List.getElem?_set_ne (Ne.symm hj)] at h3
            have ne := other j b h4 hj
            have q' := R.cell j y b h3 h4
            cases y with
            | lst ds => obtain ⟨h5, vs, h6, h7⟩ := q'; exact ⟨by rw [upd_ne ne]; exact h5, vs, h6, h7.mono sF⟩
            | dic ds => obtain ⟨h5, vs, h6, h7⟩ := q'; exact ⟨by rw [upd_ne ne]; exact h5, vs, h6, h7.mono sF⟩
            | frz d => exact Rp.mono sF q'
        · by_cases z : b = a
          · subst z; exact fun _ => R.na b (List.mem_of_getElem? h1)
          · rw [upd_ne z] at e; exact R.nf b x e
        · by_cases z : b = a
          · subst z; rw [upd_same] at e; exact absurd (Option.some.inj e) (hz o' xs)
          · rw [upd_ne z] at e; exact R.nz b o' xs e
      cases o with
      | lst ds =>
        obtain ⟨nF, vs, h3, h4⟩ := ok
        exact fin (fun _ _ z => by cases z) nF h3 fun F' s e => .lst (.inl e) (h4.mono s)
      | dic ds =>
        obtain ⟨nF, vs, h3, h4⟩ := ok
        exact fin (fun _ _ z => by cases z) nF h3 fun F' s e => .dic e (h4.mono s)
      | frz d =>
        refine ⟨F, Same.refl F, ?_, by rw [h2]; exact ok⟩
        have : c.set k (O.frz d) = c := by
          apply List.ext_getElem?
          intro j
          rw [List.getElem?_set]
          split
          · rename_i z; subst z; rw [if_pos (List.getElem?_eq_some_iff.mp q).1, q]
          · rfl
        show Rel K fa (c.set k (O.frz d)) ad F H
        rw [this]; exact R
  | x _ _ => cases e
  | raw _ => cases e
/-! ### another register -/
mutual
theorem Rp.sw {fb : Fa} (e : fa.f = fb.f) {F : Hp} : ∀ {v : V} {d : D}, Rp K fa F v d → Rp K fb F v d
  | _, _, .non => .non
  | _, _, .bl b => .bl b
  | _, _, .int i => .int i
  | _, _, .str x => .str x
  | _, _, .fn h => .fn (by rw [← e]; exact h)
  | _, _, .ty n => .ty n
  | _, _, .lst h r => .lst h (RpA.sw e r)
  | _, _, .tup h r => .tup h (RpA.sw e r)
  | _, _, .dic h r => .dic h (RpK.sw e r)
  | _, _, .arr h => .arr h
theorem RpA.sw {fb : Fa} (e : fa.f = fb.f) {F : Hp} : ∀ {vs : List V} {ds : List D}, RpA K fa F vs ds → RpA K fb F vs ds
  | _, _, .nil => .nil
  | _, _, .cons h r => .cons (Rp.sw e h) (RpA.sw e r)
theorem RpK.sw {fb : Fa} (e : fa.f = fb.f) {F : Hp} : ∀ {vs : List (Key × V)} {ds : List (Key × D)}, RpK K fa F vs ds → RpK K fb F vs ds
  | _, _, .nil => .nil
  | _, _, .cons h r => .cons (Rp.sw e h) (RpK.sw e r)
end
theorem Rel.sw {fb : Fa} (e : fa.f = fb.f) (eo : fa.od = fb.od) (R : Rel K fa c ad F H) : Rel K fb c ad F H := ⟨R.le, R.len, R.nd, R.there, fun k o a h1 h2 => by
  have q := R.cell k o a h1 h2
  cases o with
  | lst ds => obtain ⟨h3, vs, h4, h5⟩ := q; exact ⟨h3, vs, h4, h5.sw e⟩
  | dic ds => obtain ⟨h3, vs, h4, h5⟩ := q; exact ⟨h3, vs, h4, h5.sw e⟩
  | frz d => exact Rp.sw e q, eo ▸ R.kp, eo ▸ R.nf, eo ▸ R.na, eo ▸ R.nz⟩
theorem Flds.sw {fb : Fa} (e : fa.f = fb.f) {fs : List (Str × V)} {pl : List (Str × D)} (h : Flds K fa F fs pl) : Flds K fb F fs pl := fun x d q => let ⟨v, q1, q2⟩ := h x d q; ⟨v, q1, q2.sw e⟩
def noX : W → Bool
  | .x _ _ => false
  | _ => true
theorem RW.sw {fb : Fa} (e : fa.f = fb.f) (n : noX w = true) (h : RW K fa ad F v w) : RW K fb ad F v w := by
  cases w with
  | d x => exact Rp.sw e h
  | c k => exact h
  | x _ _ => cases n
  | raw u => exact h
/-- the store cut at the end of a def -/
theorem Rel.take (R : Rel K fa c ad F H) (n : Nat) : Rel K fa (c.take n) (ad.take n) F H := by
  refine ⟨R.le, by simp [R.len], R.nd.sublist (List.take_sublist ..), fun a ha => R.there a (List.mem_of_mem_take ha), fun k o a h1 h2 => ?_, R.kp, R.nf, fun a ha => R.na a (List.mem_of_mem_take ha), R.nz⟩
  rw [List.getElem?_take] at h1 h2
  split at h1
  · rename_i hk
    rw [if_pos hk] at h2
    exact R.cell k o a h1 h2
  · cases h1
end
end Pm

/-! Pm2: the judgements by plain functions; glue. -/
namespace Pm
open PySem L2

/-! ### consequence -/
section
variable {X : Cx}
theorem PE.imp {e : Expr} {t t' : TE} (h : PE X e t) (i : ∀ σ H Q, t' σ H Q → t σ H Q) : PE X e t' := ⟨fun pins s σ H Q I q => h.run pins s σ H Q I (i σ H Q q)⟩
theorem PT.imp {e : Expr} {t t' : TT} (h : PT X e t) (i : ∀ σ H Q, t' σ H Q → t σ H Q) : PT X e t' := ⟨fun pins s σ H Q I q => h.run pins s σ H Q I (i σ H Q q)⟩
theorem PW.imp {e : Expr} {t t' : TT} (h : PW X e t) (i : ∀ σ H Q, t' σ H Q → t σ H Q) : PW X e t' := ⟨fun wh pins s σ H Q I q => h.run wh pins s σ H Q I (i σ H Q q)⟩
theorem PA.imp {e : List Expr} {t t' : TA} (h : PA X e t) (i : ∀ σ H Q, t' σ H Q → t σ H Q) : PA X e t' := ⟨fun pos pins s σ H Q I q => h.run pos pins s σ H Q I (i σ H Q q)⟩
theorem PK.imp {e : List Keyword} {t t' : TA} (h : PK X e t) (i : ∀ σ H Q, t' σ H Q → t σ H Q) : PK X e t' := ⟨fun pos pins s σ H Q I q => h.run pos pins s σ H Q I (i σ H Q q)⟩
theorem PS.imp {e : Stmt} {t t' : TS} (h : PS X e t) (i : ∀ D σ H, t' D σ H → t D σ H) : PS X e t' := ⟨fun pins s σ H D I q => h.run pins s σ H D I (i D σ H q)⟩
theorem PSs.imp {e : List Stmt} {t t' : TS} (h : PSs X e t) (i : ∀ D σ H, t' D σ H → t D σ H) : PSs X e t' := ⟨fun pins s σ H D I q => h.run pins s σ H D I (i D σ H q)⟩
theorem PG.imp {e : Expr} {t t' : TG} (h : PG X e t) (i : ∀ v σ H Q, t' v σ H Q → t v σ H Q) : PG X e t' := ⟨fun pins s σ H v u Q I r q => h.run pins s σ H v u Q I r (i v σ H Q q)⟩
theorem PGs.imp {e : List Expr} {t t' : TGs} (h : PGs X e t) (i : ∀ v σ H Q, t' v σ H Q → t v σ H Q) : PGs X e t' := ⟨fun pins s σ H v u Q I r q => h.run pins s σ H v u Q I r (i v σ H Q q)⟩
theorem PI.imp {tg e : Expr} {t t' : TI} (h : PI X tg e t) (i : ∀ σ H R, t' σ H R → t σ H R) : PI X tg e t' := ⟨fun pins s σ H Q I q => h.run pins s σ H Q I (i σ H Q q)⟩
end

/-! ### statements' outcomes -/
inductive OS where
  | nx (sl : Sl) (c : Cells) | ret (w : W) (c : Cells) | brk (sl : Sl) (c : Cells) | cnt (sl : Sl) (c : Cells) | exc (sl : Sl) (x : Str) (pl : List (Str × D)) (c : Cells) | bad
abbrev SDen := Sl → Cells → OS
def OS.andThen (o : OS) (f : SDen) : OS := match o with
  | .nx sl c => f sl c
  | .ret w c => .ret w c
  | .brk sl c => .brk sl c
  | .cnt sl c => .cnt sl c
  | .exc sl x pl c => .exc sl x pl c
  | .bad => .bad
@[simp] theorem OS.andThen_nx (sl : Sl) (c : Cells) (f : SDen) : (OS.nx sl c).andThen f = f sl c := rfl
@[simp] theorem OS.andThen_ret (w : W) (c : Cells) (f : SDen) : (OS.ret w c).andThen f = .ret w c := rfl
@[simp] theorem OS.andThen_brk (sl : Sl) (c : Cells) (f : SDen) : (OS.brk sl c).andThen f = .brk sl c := rfl
@[simp] theorem OS.andThen_cnt (sl : Sl) (c : Cells) (f : SDen) : (OS.cnt sl c).andThen f = .cnt sl c := rfl
@[simp] theorem OS.andThen_exc (sl : Sl) (x : Str) (pl : List (Str × D)) (c : Cells) (f : SDen) : (OS.exc sl x pl c).andThen f = .exc sl x pl c := rfl
@[simp] theorem OS.andThen_bad (f : SDen) : OS.bad.andThen f = .bad := rfl
/-- an expression's outcome, in a statement -/
def Out.st {α : Type} (o : Out α) (sl : Sl) (f : α → Cells → OS) : OS := match o with
  | .ok a c => f a c
  | .exc x pl c => .exc sl x pl c
  | .bad => .bad
@[simp] theorem Out.st_ok {α : Type} (a : α) (c : Cells) (sl : Sl) (f : α → Cells → OS) : (Out.ok a c).st sl f = f a c := rfl
@[simp] theorem Out.st_exc {α : Type} (x : Str) (pl : List (Str × D)) (c : Cells) (sl : Sl) (f : α → Cells → OS) : (Out.exc x pl c : Out α).st sl f = .exc sl x pl c := rfl
@[simp] theorem Out.st_bad {α : Type} (sl : Sl) (f : α → Cells → OS) : (Out.bad : Out α).st sl f = .bad := rfl

section
variable (K : PySem.W.Frag) (fa : Fa) (Wx : WX)
/-- the readings -/
def tE (f : Den) : TE := fun σ H Q => ∃ sl c ad F, SlOk K fa ad F σ sl ∧ Rel K fa c ad F H ∧
  Post K fa (fun cls d H' => Wx cls d σ H') ad F (fun w ad' F' H' => ∀ v, RW K fa ad' F' v w → Q v H') (f sl c)
def tT (f : Sl → Cells → Out Bool) : TT := fun σ H Q => ∃ sl c ad F, SlOk K fa ad F σ sl ∧ Rel K fa c ad F H ∧
  Post K fa (fun cls d H' => Wx cls d σ H') ad F (fun b ad' F' H' => Q b H') (f sl c)
def tAs (f : Sl → Cells → Out (List W)) : TA := fun σ H Q => ∃ sl c ad F, SlOk K fa ad F σ sl ∧ Rel K fa c ad F H ∧
  Post K fa (fun cls d H' => Wx cls d σ H') ad F (fun ws ad' F' H' => ∀ vs, RWs K fa ad' F' vs ws → Q vs H') (f sl c)
def PostS (ad : List Addr) (F : Hp) (D : Ends) : OS → Prop
  | .nx sl c => ∀ H F' ad' σ', Same F F' → ad <+: ad' → Rel K fa c ad' F' H → SlOk K fa ad' F' σ' sl → D.nx σ' H
  | .brk sl c => ∀ H F' ad' σ', Same F F' → ad <+: ad' → Rel K fa c ad' F' H → SlOk K fa ad' F' σ' sl → D.bk σ' H
  | .cnt sl c => ∀ H F' ad' σ', Same F F' → ad <+: ad' → Rel K fa c ad' F' H → SlOk K fa ad' F' σ' sl → D.ct σ' H
  | .ret w c => ∀ H F' ad' v, Same F F' → ad <+: ad' → Rel K fa c ad' F' H → RW K fa ad' F' v w → D.rt v H
  | .exc sl x pl c => ∀ H F' ad' σ' C d fs, Same F F' → ad <+: ad' → Rel K fa c ad' F' H → SlOk K fa ad' F' σ' sl → fa.f x = some C → H d = some (.xd fs) → Flds K fa F' fs pl → Wx (.ref C) (some d) σ' H
  | .bad => False
def tSt (f : SDen) : TS := fun D σ H => ∃ sl c ad F, SlOk K fa ad F σ sl ∧ Rel K fa c ad F H ∧ PostS K fa Wx ad F D (f sl c)
/-- a target: what is stored -/
def tGt (g : W → SDen) : TG := fun v σ H Q => ∃ w sl c ad F, RW K fa ad F v w ∧ SlOk K fa ad F σ sl ∧ Rel K fa c ad F H ∧ PostS K fa Wx ad F { nx := Q, rt := fun _ _ => False } (g w sl c)
end

/-! ### what follows from a Post -/
section
variable {K : PySem.W.Frag} {fa : Fa} {E : Value → Option Addr → Hp → Prop} {c : Cells} {ad ad1 : List Addr} {F F1 H : Hp} {α : Type} {σ : L2.St} {sl : Sl} {Wx : WX}
theorem Post.now {a : α} {Q : α → List Addr → Hp → Hp → Prop} (h : Post K fa E ad F Q (.ok a c)) (R : Rel K fa c ad F H) : Q a ad F H := h H F ad (Same.refl F) (List.prefix_refl ad) R
theorem Post.weak {o : Out α} {Q : α → List Addr → Hp → Hp → Prop} (h : Post K fa E ad F Q o) (s : Same F F1) (p : ad <+: ad1) : Post K fa E ad1 F1 Q o := by
  cases o with
  | ok a c => exact fun H F' ad' e q R => h H F' ad' (s.trans e) (p.trans q) R
  | exc x pl c => exact fun H F' ad' C d fs e q R => h H F' ad' C d fs (s.trans e) (p.trans q) R
  | bad => exact h
theorem PostS.weak {o : OS} {D : Ends} (h : PostS K fa Wx ad F D o) (s : Same F F1) (p : ad <+: ad1) : PostS K fa Wx ad1 F1 D o := by
  cases o with
  | nx sl c => exact fun H F' ad' σ' e q R => h H F' ad' σ' (s.trans e) (p.trans q) R
  | brk sl c => exact fun H F' ad' σ' e q R => h H F' ad' σ' (s.trans e) (p.trans q) R
  | cnt sl c => exact fun H F' ad' σ' e q R => h H F' ad' σ' (s.trans e) (p.trans q) R
  | ret w c => exact fun H F' ad' σ' e q R => h H F' ad' σ' (s.trans e) (p.trans q) R
  | exc sl x pl c => exact fun H F' ad' σ' C d fs e q R => h H F' ad' σ' C d fs (s.trans e) (p.trans q) R
  | bad => exact h
theorem Post.bind {β : Type} {o : Out α} {f : α → Cells → Out β} {Q : β → List Addr → Hp → Hp → Prop} {Q' : α → List Addr → Hp → Hp → Prop}
    (h : Post K fa E ad F Q (o.bind f)) (k : ∀ a c1 H1 F1 ad1, Same F F1 → ad <+: ad1 → Rel K fa c1 ad1 F1 H1 → Post K fa E ad1 F1 Q (f a c1) → Q' a ad1 F1 H1) : Post K fa E ad F Q' o := by
  cases o with
  | ok a c => exact fun H1 F1 ad1 s p R => k a c H1 F1 ad1 s p R (Post.weak (o := f a c) h s p)
  | exc x pl c => exact h
  | bad => exact h
/-- an expression within a statement -/
theorem Post.st {o : Out α} {f : α → Cells → OS} {D : Ends} {Q' : α → List Addr → Hp → Hp → Prop} (ok : SlOk K fa ad F σ sl)
    (h : PostS K fa Wx ad F D (o.st sl f)) (k : ∀ a c1 H1 F1 ad1, Same F F1 → ad <+: ad1 → Rel K fa c1 ad1 F1 H1 → PostS K fa Wx ad1 F1 D (f a c1) → Q' a ad1 F1 H1) : Post K fa (fun cls d H' => Wx cls d σ H') ad F Q' o := by
  cases o with
  | ok a c => exact fun H1 F1 ad1 s p R => k a c H1 F1 ad1 s p R (PostS.weak (o := f a c) h s p)
  | exc x pl c => exact fun H F' ad' C d fs s p R => h H F' ad' σ C d fs s p R (ok.mono s p)
  | bad => exact h
theorem PostS.andThen {o : OS} {f : SDen} {D : Ends} {N : L2.St → Hp → Prop} (h : PostS K fa Wx ad F D (o.andThen f))
    (k : ∀ sl1 c1 σ1 H1 F1 ad1, Same F F1 → ad <+: ad1 → SlOk K fa ad1 F1 σ1 sl1 → Rel K fa c1 ad1 F1 H1 → PostS K fa Wx ad1 F1 D (f sl1 c1) → N σ1 H1) : PostS K fa Wx ad F { D with nx := N } o := by
  cases o with
  | nx sl c => exact fun H1 F1 ad1 σ1 s p R ok => k sl c σ1 H1 F1 ad1 s p ok R (PostS.weak (o := f sl c) h s p)
  | ret w c => exact h
  | brk sl c => exact h
  | cnt sl c => exact h
  | exc sl x pl c => exact h
  | bad => exact h
end

/-! ### expressions: names, constants, arguments -/
section
variable {X : Cx} {fa : Fa} {Wx : WX} {pos : Pos}
abbrev SE (X : Cx) (fa : Fa) (Wx : WX) (e : Expr) (f : Den) : Prop := PE X e (tE X.K fa Wx f)
abbrev STt (X : Cx) (fa : Fa) (Wx : WX) (e : Expr) (f : Sl → Cells → Out Bool) : Prop := PT X e (tT X.K fa Wx f)
abbrev SA (X : Cx) (fa : Fa) (Wx : WX) (es : List Expr) (f : Sl → Cells → Out (List W)) : Prop := PA X es (tAs X.K fa Wx f)
abbrev SS (X : Cx) (fa : Fa) (Wx : WX) (s : Stmt) (f : SDen) : Prop := PS X s (tSt X.K fa Wx f)
abbrev SSs (X : Cx) (fa : Fa) (Wx : WX) (s : List Stmt) (f : SDen) : Prop := PSs X s (tSt X.K fa Wx f)

def dVar (i : Nat) : Den := fun sl c => match sl[i]? with
  | some (some w) => .ok w c
  | _ => .bad
def dC (d : D) : Den := fun _ c => .ok (.d d) c
theorem se_of_var {i : Nat} {e : Expr} (h : PE X e (tVar i)) : SE X fa Wx e (dVar i) := PE.imp h fun σ H Q q => by
  obtain ⟨sl, c, ad, F, ok, R, P⟩ := q
  unfold dVar at P
  split at P
  · rename_i w hw
    obtain ⟨v, h1, h2⟩ := ok.2 i w hw
    exact ⟨v, h1, P.now R v h2⟩
  · exact P.elim
theorem se_var (i : Nat) {x : Str} {pos : Pos} (hN : X.N[i]? = some x := by rfl) (hv : Vis X.env.scope x := by first | exact Or.inl rfl | exact Or.inr (Or.inl rfl) | exact Or.inr (Or.inr rfl)) (hd : (x == ("__debug__" : Str)) = false := by decide)
    (hcd : (x == ("__classdict__" : Str)) = false := by decide) : SE X fa Wx (.Name x pos) (dVar i) := se_of_var (pe_var hN hv hd hcd)
theorem se_of_c {v : V} {d : D} {e : Expr} (h : PE X e (tC v)) (r : ∀ F, Rp X.K fa F v d) : SE X fa Wx e (dC d) := PE.imp h fun σ H Q q => by
  obtain ⟨sl, c, ad, F, ok, R, P⟩ := q
  exact P.now R v (r F)
theorem se_int {i : Int} {j : Nat} : SE X fa Wx (.Constant (.int i) j pos) (dC (.int i)) := se_of_c pe_int fun _ => .int i
theorem se_bl {b : Bool} {j : Nat} : SE X fa Wx (.Constant (.bool b) j pos) (dC (.bl b)) := se_of_c pe_bl fun _ => .bl b
theorem se_non {j : Nat} : SE X fa Wx (.Constant .none j pos) (dC .non) := se_of_c pe_non fun _ => .non
theorem se_str {x : Str} {j : Nat} : SE X fa Wx (.Constant (.str x) j pos) (dC (.str x)) := se_of_c pe_str fun _ => .str x
/-- a global: a def as a value, a module's constant -/
theorem se_glob {x : Str} {v : V} {u : Value} {d : D} (hg : Gl X x) (hm : X.mg x = some u) (r : RelV v u) (rp : ∀ F, Rp X.K fa F v d) (hd : (x == ("__debug__" : Str)) = false := by decide) : SE X fa Wx (.Name x pos) (dC d) :=
  se_of_c (pe_glob hg hm r hd) rp

def dNil : Sl → Cells → Out (List W) := fun _ c => .ok [] c
def dCons (f : Den) (g : Sl → Cells → Out (List W)) : Sl → Cells → Out (List W) := fun sl c => (f sl c).bind fun w c1 => (g sl c1).bind fun ws c2 => .ok (w :: ws) c2
theorem sa_nil : SA X fa Wx [] dNil := PA.imp pa_nil fun σ H Q q => by
  obtain ⟨sl, c, ad, F, ok, R, P⟩ := q
  exact P.now R [] .nil
theorem sa_cons {e : Expr} {es : List Expr} {f : Den} {g : Sl → Cells → Out (List W)} (ha : SE X fa Wx e f) (hr : SA X fa Wx es g) (hs : starEach (e :: es) X.env = (false, eval e X.env) :: starEach es X.env := by rfl) : SA X fa Wx (e :: es) (dCons f g) :=
  PA.imp (pa_cons ha hr hs) fun σ H Q q => by
  obtain ⟨sl, c, ad, F, ok, R, P⟩ := q
  refine ⟨sl, c, ad, F, ok, R, P.bind fun w c1 H1 F1 ad1 s p R1 P1 v rv => ?_⟩
  refine ⟨sl, c1, ad1, F1, ok.mono s p, R1, P1.bind fun ws c2 H2 F2 ad2 s2 p2 R2 P2 vs rvs => ?_⟩
  exact P2.now R2 (v :: vs) (.cons (rv.mono s2 p2) rvs)

/-! ### operators -/
def OpL (K : PySem.W.Frag) (fa : Fa) (r : R2) (o : W → W → Cells → Out W) : Prop :=
  ∀ (c : Cells) (ad : List Addr) (F H : Hp) (v1 v2 : V) (w1 w2 : W) (Q : VK) (E : Value → Option Addr → Hp → Prop), Rel K fa c ad F H → RW K fa ad F v1 w1 → RW K fa ad F v2 w2 →
    Post K fa E ad F (fun w ad' F' H' => ∀ v, RW K fa ad' F' v w → Q v H') (o w1 w2 c) → r v1 v2 H Q
def dBin (o : W → W → Cells → Out W) (f g : Den) : Den := fun sl c => (f sl c).bind fun w1 c1 => (g sl c1).bind fun w2 c2 => o w1 w2 c2
theorem tOp_of {K : PySem.W.Frag} {r : R2} {o : W → W → Cells → Out W} (hl : OpL K fa r o) {f g : Den} {σ : L2.St} {H : Hp} {Q : VK} (q : tE K fa Wx (dBin o f g) σ H Q) : tOp r (tE K fa Wx f) (tE K fa Wx g) σ H Q := by
  obtain ⟨sl, c, ad, F, ok, R, P⟩ := q
  refine ⟨sl, c, ad, F, ok, R, P.bind fun w c1 H1 F1 ad1 s p R1 P1 v rv => ?_⟩
  refine ⟨sl, c1, ad1, F1, ok.mono s p, R1, P1.bind fun w2 c2 H2 F2 ad2 s2 p2 R2 P2 v2 rv2 => ?_⟩
  exact hl c2 ad2 F2 H2 v v2 w w2 Q _ R2 (rv.mono s2 p2) rv2 P2
theorem se_bin {op : Operator} {r : R2} {o : W → W → Cells → Out W} {a b : Expr} {f g : Den} (ho : OpR X (binaryOp op) r) (hl : OpL X.K fa r o) (ha : SE X fa Wx a f) (hb : SE X fa Wx b g) : SE X fa Wx (.BinOp a op b pos) (dBin o f g) :=
  PE.imp (pe_op ho ha hb) fun σ H Q q => tOp_of hl q
theorem se_cmp {op : CmpOp} {r : R2} {o : W → W → Cells → Out W} {a b : Expr} {f g : Den} (ho : OpR X (compareOp op) r) (hl : OpL X.K fa r o) (ha : SE X fa Wx a f) (hb : SE X fa Wx b g) (hm : behindInMarks op b = false) : SE X fa Wx (.Compare a [op] [b] pos) (dBin o f g) :=
  PE.imp (pe_cmpR ho ha hb hm) fun σ H Q q => tOp_of hl q
theorem se_ix {r : R2} {o : W → W → Cells → Out W} {a b : Expr} {f g : Den} (hr : IxR X r) (hl : OpL X.K fa r o) (ha : SE X fa Wx a f) (hb : SE X fa Wx b g) (hs : PlainIx b) : SE X fa Wx (.Subscript a b pos) (dBin o f g) :=
  PE.imp (pe_ix hr ha hb hs) fun σ H Q q => tOp_of hl q
/-- an expression that gives a bool, as a test -/
def bT (o : Out W) : Out Bool := o.bind fun w c => match w with
  | .d (.bl b) => .ok b c
  | _ => .bad
def dTest (f : Den) : Sl → Cells → Out Bool := fun sl c => bT (f sl c)
theorem tB_of {K : PySem.W.Frag} {f : Den} {σ : L2.St} {H : Hp} {Q : Bool → Hp → Prop} (q : tT K fa Wx (dTest f) σ H Q) : tE K fa Wx f σ H (fun x H1 => ∃ b, x = .bl b ∧ Q b H1) := by
  obtain ⟨sl, c, ad, F, ok, R, P⟩ := q
  refine ⟨sl, c, ad, F, ok, R, P.bind fun w c1 H1 F1 ad1 s p R1 P1 v rv => ?_⟩
  cases w with
  | c k => exact P1.elim
  | x _ _ => exact P1.elim
  | raw _ => exact P1.elim
  | d x =>
    cases x <;> first | exact P1.elim | skip
    rename_i b
    cases rv
    exact ⟨b, rfl, P1.now R1⟩
theorem st_val {e : Expr} {f : Den} (h : SE X fa Wx e f) (he : ∀ whole, isTrue e X.env whole = (do let v ← whole; standAt e.pos; holding [v] (truthy v)) := by intro _; rfl) : STt X fa Wx e (dTest f) :=
  PT.imp (pt_val h he) fun σ H Q q => tB_of q
theorem st_cmp {op : CmpOp} {r : R2} {o : W → W → Cells → Out W} {a b : Expr} {f g : Den} (ho : OpR X (compareOp op) r) (hl : OpL X.K fa r o) (ha : SE X fa Wx a f) (hb : SE X fa Wx b g) (hm : behindInMarks op b = false) : STt X fa Wx (.Compare a [op] [b] pos) (dTest (dBin o f g)) :=
  PT.imp (pt_cmpR ho ha hb hm) fun σ H Q q => tOp_of hl (tB_of q)
def dNot (f : Sl → Cells → Out Bool) : Sl → Cells → Out Bool := fun sl c => (f sl c).bind fun b c1 => .ok (!b) c1
theorem st_not {a : Expr} {f : Sl → Cells → Out Bool} (h : STt X fa Wx a f) : STt X fa Wx (.UnaryOp .Not a pos) (dNot f) := PT.imp (pt_not h) fun σ H Q q => by
  obtain ⟨sl, c, ad, F, ok, R, P⟩ := q
  exact ⟨sl, c, ad, F, ok, R, P.bind fun b c1 H1 F1 ad1 s p R1 P1 => P1.now R1⟩
def dAnd (f g : Sl → Cells → Out Bool) : Sl → Cells → Out Bool := fun sl c => (f sl c).bind fun b c1 => if b = true then g sl c1 else .ok false c1
def dOr (f g : Sl → Cells → Out Bool) : Sl → Cells → Out Bool := fun sl c => (f sl c).bind fun b c1 => if b = true then .ok true c1 else g sl c1
abbrev SWt (X : Cx) (fa : Fa) (Wx : WX) (e : Expr) (f : Sl → Cells → Out Bool) : Prop := PW X e (tT X.K fa Wx f)
theorem sw_and1 {a : Expr} {f : Sl → Cells → Out Bool} (h : STt X fa Wx a f) : SWt X fa Wx (.BoolOp .And [a] pos) f := pw_and1 h
theorem sw_or1 {a : Expr} {f : Sl → Cells → Out Bool} (h : STt X fa Wx a f) : SWt X fa Wx (.BoolOp .Or [a] pos) f := pw_or1 h
theorem sw_and {a b : Expr} {rest : List Expr} {f g : Sl → Cells → Out Bool} (ha : STt X fa Wx a f) (hb : SWt X fa Wx (.BoolOp .And (b :: rest) pos) g) : SWt X fa Wx (.BoolOp .And (a :: b :: rest) pos) (dAnd f g) := PW.imp (pw_and ha hb) fun σ H Q q => by
  obtain ⟨sl, c, ad, F, ok, R, P⟩ := q
  refine ⟨sl, c, ad, F, ok, R, P.bind fun b c1 H1 F1 ad1 s p R1 P1 => ?_⟩
  cases b with
  | true => rw [if_pos rfl]; exact ⟨sl, c1, ad1, F1, ok.mono s p, R1, P1⟩
  | false => rw [if_neg Bool.false_ne_true]; exact P1.now R1
theorem sw_or {a b : Expr} {rest : List Expr} {f g : Sl → Cells → Out Bool} (ha : STt X fa Wx a f) (hb : SWt X fa Wx (.BoolOp .Or (b :: rest) pos) g) : SWt X fa Wx (.BoolOp .Or (a :: b :: rest) pos) (dOr f g) := PW.imp (pw_or ha hb) fun σ H Q q => by
  obtain ⟨sl, c, ad, F, ok, R, P⟩ := q
  refine ⟨sl, c, ad, F, ok, R, P.bind fun b c1 H1 F1 ad1 s p R1 P1 => ?_⟩
  cases b with
  | true => rw [if_pos rfl]; exact P1.now R1
  | false => rw [if_neg Bool.false_ne_true]; exact ⟨sl, c1, ad1, F1, ok.mono s p, R1, P1⟩
theorem st_w {e : Expr} {f : Sl → Cells → Out Bool} (h : SWt X fa Wx e f) : STt X fa Wx e f := PW.pt h
/-- a test's answer as a value -/
def dBool (f : Sl → Cells → Out Bool) : Den := fun sl c => (f sl c).bind fun b c1 => .ok (.d (.bl b)) c1
theorem bl_of {K : PySem.W.Frag} {f : Sl → Cells → Out Bool} {σ : L2.St} {H : Hp} {Q : VK} (q : tE K fa Wx (dBool f) σ H Q) : tT K fa Wx f σ H (fun b H1 => Q (.bl b) H1) := by
  obtain ⟨sl, c, ad, F, ok, R, P⟩ := q
  exact ⟨sl, c, ad, F, ok, R, P.bind fun b c1 H1 F1 ad1 s p R1 P1 => P1.now R1 _ (.bl b)⟩
/-- and, or, not as values; each part gives a bool -/
theorem se_one {a : Expr} {op : BoolOp} {f : Den} (h : SE X fa Wx a f) : SE X fa Wx (.BoolOp op [a] pos) f := pe_one h
def dAndV (f g : Den) : Den := fun sl c => (bT (f sl c)).bind fun b c1 => if b = true then g sl c1 else .ok (.d (.bl false)) c1
def dOrV (f g : Den) : Den := fun sl c => (bT (f sl c)).bind fun b c1 => if b = true then .ok (.d (.bl true)) c1 else g sl c1
theorem se_and {a b : Expr} {rest : List Expr} {f g : Den} (ha : SE X fa Wx a f) (hb : SE X fa Wx (.BoolOp .And (b :: rest) pos) g) : SE X fa Wx (.BoolOp .And (a :: b :: rest) pos) (dAndV f g) := PE.imp (pe_and ha hb) fun σ H Q q => by
  obtain ⟨sl, c, ad, F, ok, R, P⟩ := q
  refine tB_of (Q := fun b H1 => if b = true then tE X.K fa Wx g σ H1 Q else Q (.bl false) H1) ⟨sl, c, ad, F, ok, R, ?_⟩
  refine Post.bind P fun b c1 H1 F1 ad1 s p R1 P1 => ?_
  cases b with
  | true => rw [if_pos rfl]; exact ⟨sl, c1, ad1, F1, ok.mono s p, R1, P1⟩
  | false => rw [if_neg Bool.false_ne_true]; exact P1.now R1 _ (.bl false)
theorem se_or {a b : Expr} {rest : List Expr} {f g : Den} (ha : SE X fa Wx a f) (hb : SE X fa Wx (.BoolOp .Or (b :: rest) pos) g) : SE X fa Wx (.BoolOp .Or (a :: b :: rest) pos) (dOrV f g) := PE.imp (pe_or ha hb) fun σ H Q q => by
  obtain ⟨sl, c, ad, F, ok, R, P⟩ := q
  refine tB_of (Q := fun b H1 => if b = true then Q (.bl true) H1 else tE X.K fa Wx g σ H1 Q) ⟨sl, c, ad, F, ok, R, ?_⟩
  refine Post.bind P fun b c1 H1 F1 ad1 s p R1 P1 => ?_
  cases b with
  | true => rw [if_pos rfl]; exact P1.now R1 _ (.bl true)
  | false => rw [if_neg Bool.false_ne_true]; exact ⟨sl, c1, ad1, F1, ok.mono s p, R1, P1⟩
def dNotV (f : Den) : Den := fun sl c => (bT (f sl c)).bind fun b c1 => .ok (.d (.bl (!b))) c1
theorem se_not {a : Expr} {f : Den} (h : SE X fa Wx a f) : SE X fa Wx (.UnaryOp .Not a pos) (dNotV f) := PE.imp (pe_not h) fun σ H Q q => by
  obtain ⟨sl, c, ad, F, ok, R, P⟩ := q
  refine tB_of (Q := fun b H1 => Q (.bl (!b)) H1) ⟨sl, c, ad, F, ok, R, ?_⟩
  exact Post.bind P fun b c1 H1 F1 ad1 s p R1 P1 => P1.now R1 _ (.bl _)
def dIf (t : Sl → Cells → Out Bool) (f g : Den) : Den := fun sl c => (t sl c).bind fun b c1 => if b = true then f sl c1 else g sl c1
theorem se_if {t a b : Expr} {ft : Sl → Cells → Out Bool} {f g : Den} (ht : STt X fa Wx t ft) (ha : SE X fa Wx a f) (hb : SE X fa Wx b g) : SE X fa Wx (.IfExp t a b pos) (dIf ft f g) := PE.imp (pe_ifExp ht ha hb) fun σ H Q q => by
  obtain ⟨sl, c, ad, F, ok, R, P⟩ := q
  refine ⟨sl, c, ad, F, ok, R, P.bind fun b c1 H1 F1 ad1 s p R1 P1 => ?_⟩
  cases b with
  | true => rw [if_pos rfl]; exact ⟨sl, c1, ad1, F1, ok.mono s p, R1, P1⟩
  | false => rw [if_neg Bool.false_ne_true]; exact ⟨sl, c1, ad1, F1, ok.mono s p, R1, P1⟩
/-- is None -/
def isN : W → Bool
  | .d .non => true
  | .raw v => decide (v = .non)
  | _ => false
theorem isN_iff {K : PySem.W.Frag} {c : Cells} {ad : List Addr} {F H : Hp} {v : V} {w : W} (R : Rel K fa c ad F H) (r : RW K fa ad F v w) : decide (v = .non) = isN w := by
  cases w with
  | c k => obtain ⟨a, h1, h2⟩ := r; subst h2; simp [isN]
  | x _ _ => obtain ⟨a, _, _, _, h2, _⟩ := r; subst h2; simp [isN]
  | raw u => have : v = u := r; subst this; simp [isN]
  | d x => cases r <;> simp [isN]
def dIsN (f : Den) : Den := fun sl c => (f sl c).bind fun w c1 => .ok (.d (.bl (isN w))) c1
def dNotN (f : Den) : Den := fun sl c => (f sl c).bind fun w c1 => .ok (.d (.bl (!isN w))) c1
theorem se_isN {a : Expr} {f : Den} {j : Nat} {p : Pos} (h : SE X fa Wx a f) : SE X fa Wx (.Compare a [.Is] [.Constant .none j p] pos) (dIsN f) := PE.imp (pe_cmp (pc_isN h) rfl) fun σ H Q q => by
  obtain ⟨sl, c, ad, F, ok, R, P⟩ := q
  refine ⟨sl, c, ad, F, ok, R, P.bind fun w c1 H1 F1 ad1 s p R1 P1 v rv => ?_⟩
  show Q (.bl (decide (v = .non))) H1
  rw [isN_iff R1 rv]
  exact P1.now R1 _ (.bl _)
theorem se_notN {a : Expr} {f : Den} {j : Nat} {p : Pos} (h : SE X fa Wx a f) : SE X fa Wx (.Compare a [.IsNot] [.Constant .none j p] pos) (dNotN f) := PE.imp (pe_cmp (pc_notN h) rfl) fun σ H Q q => by
  obtain ⟨sl, c, ad, F, ok, R, P⟩ := q
  refine ⟨sl, c, ad, F, ok, R, P.bind fun w c1 H1 F1 ad1 s p R1 P1 v rv => ?_⟩
  show Q (.bl (!decide (v = .non))) H1
  rw [isN_iff R1 rv]
  exact P1.now R1 _ (.bl _)
theorem st_isN {a : Expr} {f : Den} {j : Nat} {p : Pos} (h : SE X fa Wx a f) : STt X fa Wx (.Compare a [.Is] [.Constant .none j p] pos) (dTest (dIsN f)) := PT.imp (pt_cmp (pc_isN h) rfl) fun σ H Q q => by
  obtain ⟨sl, c, ad, F, ok, R, P⟩ := tB_of q
  refine ⟨sl, c, ad, F, ok, R, P.bind fun w c1 H1 F1 ad1 s p R1 P1 v rv => ?_⟩
  show ∃ b, V.bl (decide (v = .non)) = .bl b ∧ Q b H1
  rw [isN_iff R1 rv]
  exact P1.now R1 _ (.bl _)
theorem st_notN {a : Expr} {f : Den} {j : Nat} {p : Pos} (h : SE X fa Wx a f) : STt X fa Wx (.Compare a [.IsNot] [.Constant .none j p] pos) (dTest (dNotN f)) := PT.imp (pt_cmp (pc_notN h) rfl) fun σ H Q q => by
  obtain ⟨sl, c, ad, F, ok, R, P⟩ := tB_of q
  refine ⟨sl, c, ad, F, ok, R, P.bind fun w c1 H1 F1 ad1 s p R1 P1 v rv => ?_⟩
  show ∃ b, V.bl (!decide (v = .non)) = .bl b ∧ Q b H1
  rw [isN_iff R1 rv]
  exact P1.now R1 _ (.bl _)
end
end Pm

/-! Pm3: calls of defs, displays, statements, loops, comprehensions. -/
namespace Pm
open PySem L2 PyProof.Rows

/-! ### defs -/
def faOf (mg : Str → Option Value) (od : Od) : Fa := ⟨fun x => match mg x with
  | some (.ref a) => some a
  | _ => none, none, od⟩
theorem faOf_of {mg : Str → Option Value} {od : Od} {x : Str} {a : Addr} (h : mg x = some (.ref a)) : (faOf mg od).f x = some a := by show (match mg x with | some (.ref a) => some a | _ => none) = some a; rw [h]
def spD (K : PySem.W.Frag) (fam : Od → Fa) (n : Nat) (g : List W → Cells → Out W) : Sp := fun vs H Q E => vs.length = n ∧ ∃ od ws c ad F, RWs K (fam od) ad F vs ws ∧ Rel K (fam od) c ad F H ∧
  Post K (fam od) E ad F (fun w ad' F' H' => ∀ v, RW K (fam od) ad' F' v w → Q v H') (g ws c)
def fin (n : Nat) (w : W) (c : Cells) : Out W := match w with
  | .d x => .ok (.d x) (c.take n)
  | .c k => if k < n then .ok (.c k) (c.take n) else match c[k]? with
    | some (.frz d) => .ok (.d d) (c.take n)
    | some o => .ok (.c n) (c.take n ++ [o])
    | none => .bad
  | .x _ _ => .bad
  | .raw _ => .bad
def runB (N : Nat) (b : SDen) (ws : List W) (c : Cells) : Out W := match b (ws.map some ++ List.replicate (N - ws.length) none) c with
  | .nx _ c' => .ok (.d .non) (c'.take c.length)
  | .ret w c' => fin c.length w c'
  | .exc _ x pl c' => .exc x pl (c'.take c.length)
  | _ => .bad
section
variable {K : PySem.W.Frag} {fa : Fa} {c : Cells} {ad : List Addr} {F H : Hp}
/-- cut, with one cell kept -/
theorem Rel.pick (R : Rel K fa c ad F H) {n k : Nat} {o : O} {a : Addr} (hk : n ≤ k) (h1 : c[k]? = some o) (h2 : ad[k]? = some a) : Rel K fa (c.take n ++ [o]) (ad.take n ++ [a]) F H := by
  have T := R.take n
  have hlt : k < c.length := (List.getElem?_eq_some_iff.mp h1).1
  have lt : (c.take n).length = n := by rw [List.length_take]; omega
  have la : (ad.take n).length = n := by rw [List.length_take, R.len]; omega
  refine ⟨R.le, by simp [T.len], ?_, fun b hb => ?_, fun j x b e1 e2 => ?_, R.kp, R.nf, fun b hb => ?_, R.nz⟩
  · rw [List.nodup_append]
    refine ⟨T.nd, by simp, fun b hb b' hb' z => ?_⟩
    simp at hb'
    subst hb' z
    obtain ⟨j, hj⟩ := List.getElem?_of_mem hb
    rw [List.getElem?_take] at hj
    split at hj
    · rename_i hjn
      have := ix_inj R.nd hj h2
      omega
    · cases hj
  · rcases List.mem_append.mp hb with h | h
    · exact T.there b h
    · simp at h; subst h; exact R.there b (List.mem_of_getElem? h2)
  · by_cases hj : j < n
    · rw [List.getElem?_append_left (by omega)] at e1 e2
      exact T.cell j x b e1 e2
    · have e : j = n := by
        have := (List.getElem?_eq_some_iff.mp e1).1
        simp [lt] at this; omega
      subst e
      rw [List.getElem?_append_right (by omega)] at e1 e2
      simp [lt] at e1
      simp [la] at e2
      subst e1 e2
      exact R.cell k o a h1 h2
  · rcases List.mem_append.mp hb with h | h
    · exact T.na b h
    · simp at h; subst h; exact R.na b (List.mem_of_getElem? h2)
theorem take_pre {l l' : List Addr} {n : Nat} (h : l <+: l') (e : l.length = n) : l'.take n = l := by
  obtain ⟨t, rfl⟩ := h
  subst e
  simp
/-- from the end of a body to the end of the call -/
theorem fin_ok {E : Value → Option Addr → Hp → Prop} {Q : VK} {ad0 : List Addr} {F0 : Hp} {n : Nat} {w : W} {v : V} (P : Post K fa E ad0 F0 (fun w ad' F' H' => ∀ v, RW K fa ad' F' v w → Q v H') (fin n w c)) (hn : ad0.length = n)
    (s : Same F0 F) (p : ad0 <+: ad) (R : Rel K fa c ad F H) (r : RW K fa ad F v w) : Q v H := by
  have T := R.take n
  have ea := take_pre p hn
  rw [ea] at T
  cases w with
  | d x => exact P H F ad0 s (List.prefix_refl _) T v r
  | c k =>
    obtain ⟨a, h1, h2⟩ := r
    unfold fin at P
    dsimp only at P
    split at P
    · rename_i hk
      have : ad0[k]? = some a := by rw [← ea, List.getElem?_take, if_pos hk]; exact h1
      exact P H F ad0 s (List.prefix_refl _) T v ⟨a, this, h2⟩
    · rename_i hk
      split at P
      · rename_i d hd
        have ok := R.cell k _ a hd h1
        exact P H F ad0 s (List.prefix_refl _) T v (by rw [h2]; exact ok)
      · rename_i o hno ho
        have J := R.pick (n := n) (Nat.le_of_not_lt hk) ho h1
        rw [ea] at J
        refine P H F _ s (List.prefix_append _ _) J v ⟨a, ?_, h2⟩
        rw [← hn]; simp
      · exact P.elim
  | x _ _ => exact P.elim
  | raw _ => exact P.elim
end
section
variable {P : Program} {w : World} {K : PySem.W.Frag} {mg : Str → Option Value} {base : Heap} {fa : Fa}
theorem start_ok {N : List Str} {ad : List Addr} {F : Hp} : ∀ {vs : List V} {ws : List W} (m : Nat), RWs K fa ad F vs ws → SlOk K fa ad F (vs.map some ++ List.replicate m none) (ws.map some ++ List.replicate m none) := by
  intro vs ws m r
  refine ⟨by simp [r.length], fun i x h => ?_⟩
  have get : ∀ {vs : List V} {ws : List W} {i : Nat} {x : W}, RWs K fa ad F vs ws → ws[i]? = some x → ∃ v, vs[i]? = some v ∧ RW K fa ad F v x := by
    intro vs ws i x r
    induction r generalizing i with
    | nil => intro h; simp at h
    | cons q _ ih =>
      intro h
      cases i with
      | zero => simp at h; subst h; exact ⟨_, rfl, q⟩
      | succ i => simp at h; obtain ⟨v, h1, h2⟩ := ih h; exact ⟨v, by simpa using h1, h2⟩
  by_cases hi : i < ws.length
  · rw [List.getElem?_append_left (by simpa using hi)] at h
    rw [List.getElem?_map] at h
    cases q : ws[i]? with
    | none => rw [q] at h; simp at h
    | some y =>
      rw [q] at h
      simp at h
      subst h
      obtain ⟨v, h1, h2⟩ := get r q
      refine ⟨v, ?_, h2⟩
      rw [List.getElem?_append_left (by rw [List.length_map, r.length]; exact hi), List.getElem?_map, h1]
      rfl
  · rw [List.getElem?_append_right (by simpa using hi)] at h
    have := List.mem_of_getElem? h
    rw [List.mem_replicate] at this
    exact absurd this.2 (by simp)
/-- a def's promise, called where nothing is being shown -/
structure FnG (P : Program) (w : World) (K : PySem.W.Frag) (mg : Str → Option Value) (base : Heap) (k : Nat) (f : Addr) (fd : FuncData) (ps : List Str) (sp : Sp) : Prop where
  len : ∀ vs H Q E, sp vs H Q E → vs.length = ps.length
  run : ∀ (A : Around) (outer : List Env) (s : Shared) (H : Hp) (args : Args) (us : List Value) (vs : List V) (Q : VK) (E : XK), Room k A → A.guards = some [] → Env0 P w K mg base A outer s H →
    BindsTo s fd args (ps.zip us) → Vals vs us → sp vs H Q E → codeAny (model P w) A (.call (.ref f) args) (CR (L2.CX P w) outer P w H s Q E) s
theorem FnG.mono {j k : Nat} {f : Addr} {fd : FuncData} {ps : List Str} {sp : Sp} (F : FnG P w K mg base j f fd ps sp) (h : j ≤ k) : FnG P w K mg base k f fd ps sp :=
  ⟨F.len, fun A outer s H args us vs Q E r => F.run A outer s H args us vs Q E (r.mono h)⟩
/-- the body's end is the call's end -/
theorem ends_call {N : List Str} {qual : Str} {sc : Scope} {f : Addr} {cd : Value} {A : Around} {outer : List Env} {s s2 : Shared} {H : Hp} {Q : VK} {E : XK} {fl : Flow}
    (h : SP (cxOf (L2.CX P w) P w K mg base N qual sc f cd A outer s H E) [] { nx := fun _ H' => Q .non H', rt := Q } fl s2) : CR (L2.CX P w) outer P w H s Q E (.ok (match fl with | .next => .ret .none | x => x)) s2 := by
  cases fl with
  | next =>
    obtain ⟨_, H2, J, q⟩ := h
    exact ⟨.non, H2, J.os, J.bare, J.base, J.hok, rfl, q⟩
  | ret u =>
    obtain ⟨v, _, H2, J, r, q⟩ := h
    exact ⟨v, H2, J.os, J.bare, J.base, J.hok, r, q⟩
  | brk =>
    obtain ⟨_, _, _, q⟩ := h
    exact q
  | cont =>
    obtain ⟨_, _, _, q⟩ := h
    exact q
theorem fn_g {x qual : Str} {st : Stmt} {f : Addr} {fd : FuncData} {N ps : List Str} {k : Nat} {sp : Sp} (Fn : Fun K x qual st f fd) (S : FnScope N ps (defScope st)) (len : ∀ vs H Q E, sp vs H Q E → vs.length = ps.length)
    (hb : ∀ (cdv : Value) (A : Around) (outer : List Env) (s : Shared) (H : Hp) (vs : List V) (Q : VK) (E : XK), Room k (A.deeper (envOfC qual (defScope st) s.heap.objs.size f cdv)) → A.guards = some [] → sp vs H Q E →
      ∃ t, PSs (cxOf (L2.CX P w) P w K mg base N qual (defScope st) f cdv A outer s H E) (defBody st) t ∧ t { nx := fun _ H' => Q .non H', rt := Q } (L2.start N vs) H) : FnG P w K mg base (k + 1) f fd ps sp := by
  obtain ⟨oc, od, kV, doc, pm, an, cdv, ct, osl, rfl, lk, hcd⟩ := Fn.ex
  refine ⟨len, fun A outer s H args us vs Q E hr hgd e0 bind rv hsp => ?_⟩
  have inK : K.In s.heap := e0.mod.kin.keeps fun b o e => (e0.bs b o e).1
  refine codeAny_call_function hr.depth (inK _ _ lk) rfl S.co S.gen rfl (PySem.W.codeRec_of inK hcd) (bind _ _ _ _ ?_)
  refine wpAny_newFunctionEnv_cells S.kind (fun y hy => ?_) fun env he s1 ic => ?_
  · have hm := (List.of_mem_zip (a := y.1) (b := y.2) hy).1
    rcases S.par _ hm with q | q
    · exact .inl q
    · exact .inr ⟨q, PySem.W.cellsFrom_some _ _ _ (.inl q)⟩
  · subst he
    have lim : s.heap.NoLimit := e0.mod.nolimit.keeps fun b o e => (e0.bs b o e).1
    obtain ⟨t, ht, hq⟩ := hb cdv A outer s H vs Q E (hr.deeper _) hgd hsp
    have I := inv_start (E := E) (CX := L2.CX P w) (f := f) (cd := cdv) (qual := qual) S hr.hd e0 (len _ _ _ _ hsp) rv ic
    refine ⟨lim.keeps ic.toInCall.keep, codeAny_func (wpAny_mono (ht.run [] s1 _ H _ I hq) (fun fl s2 hs => ?_) fun _ _ z => z)⟩
    have e := ends_call hs
    cases fl with
    | next => exact e
    | ret u => exact e
    | brk => exact (show False from e).elim
    | cont => exact (show False from e).elim
/-- THE RULE for a def -/
theorem fn_ok {x qual : Str} {st : Stmt} {f : Addr} {fd : FuncData} {N ps : List Str} {k : Nat} {b : SDen} {fam : Od → Fa} (Fn : Fun K x qual st f fd) (S : FnScope N ps (defScope st))
    (hb : ∀ (od : Od) (cdv : Value) (A : Around) (outer : List Env) (s : Shared) (H : Hp) (E : XK), Room k (A.deeper (envOfC qual (defScope st) s.heap.objs.size f cdv)) → A.guards = some [] →
      SSs (cxOf (L2.CX P w) P w K mg base N qual (defScope st) f cdv A outer s H E) (fam od) (fun cls d _ H => E cls d H) (defBody st) b) : FnG P w K mg base (k + 1) f fd ps (spD K fam ps.length (runB N.length b)) := by
  refine fn_g Fn S (fun vs H Q E h => h.1) (fun cdv A outer s H vs Q E hr hgd h => ⟨_, hb h.2.choose cdv A outer s H E hr hgd, ?_⟩)
  obtain ⟨hl, hx⟩ := h
  obtain ⟨ws, c, ad, F, rw_, R, P⟩ := hx.choose_spec
  have hlen := rw_.length
  have hN : N.length - vs.length = N.length - ws.length := by rw [hlen]
  refine ⟨_, c, ad, F, start_ok (N := N) (N.length - ws.length) rw_ |> fun z => by unfold L2.start; rw [hN]; exact z, R, ?_⟩
  unfold runB at P
  revert P
  cases b (ws.map some ++ List.replicate (N.length - ws.length) none) c with
  | nx sl c' => exact fun P H' F' ad' σ' s' p' R' _ => P H' F' _ s' (by rw [take_pre p' R.len]; exact List.prefix_refl _) (R'.take c.length) .non .non
  | ret w c' => exact fun P H' F' ad' v s' p' R' r' => fin_ok (fa := fam hx.choose) P R.len s' p' R' r'
  | exc sl x pl c' => exact fun P H' F' ad' σ' C d fs s' p' R' _ hC hd hf => P H' F' _ C d fs s' (by rw [take_pre p' R.len]; exact List.prefix_refl _) (R'.take c.length) hC hd hf
  | bad => exact fun P => P.elim
  | brk _ _ => exact fun P => P.elim
  | cnt _ _ => exact fun P => P.elim
theorem FnG.imp {f : Addr} {fd : FuncData} {ps : List Str} {k : Nat} {sp sp' : Sp} (F : FnG P w K mg base k f fd ps sp) (h : ∀ vs H Q E, sp' vs H Q E → sp vs H Q E) : FnG P w K mg base k f fd ps sp' :=
  ⟨fun vs H Q E q => F.len vs H Q E (h _ _ _ _ q), fun A outer s H args us vs Q E r g e b rv q => F.run A outer s H args us vs Q E r g e b rv (h _ _ _ _ q)⟩
theorem FnG.to {f : Addr} {fd : FuncData} {ps : List Str} {k n : Nat} {g g' : List W → Cells → Out W} {fam : Od → Fa} (h : FnG P w K mg base k f fd ps (spD K fam n g)) (e : ∀ ws c, ws.length = n → g' ws c ≠ .bad → g ws c = g' ws c) : FnG P w K mg base k f fd ps (spD K fam n g') :=
  h.imp fun vs H Q E q => by
    obtain ⟨hl, od, ws, c, ad, F, r, R, P⟩ := q
    refine ⟨hl, od, ws, c, ad, F, r, R, ?_⟩
    rw [e ws c (by rw [← r.length]; exact hl) (by intro z; rw [z] at P; exact P.elim)]
    exact P
/-- a def of the text, with what it computes -/
structure Fd (P : Program) (w : World) (K : PySem.W.Frag) (mg : Str → Option Value) (base : Heap) (x : Str) (st : Stmt) (k : Nat) (ps : List Str) (g : List W → Cells → Out W) : Prop where
  ex : ∃ f fd, Fun K x x st f fd ∧ mg x = some (.ref f) ∧ Binds K fd ps [] ∧ FnG P w K mg base k f fd ps (spD K (faOf mg) ps.length g)
end

/-! ### calls -/
section
variable {X : Cx} {fa : Fa} {od : Od} {Wx : WX} {pos p : Pos} {x : Str} {st : Stmt} {k : Nat} {ps : List Str} {g : List W → Cells → Out W}
def dCall (g : List W → Cells → Out W) (as : Sl → Cells → Out (List W)) : Den := fun sl c => (as sl c).bind g
theorem sp_of_as {K : PySem.W.Frag} {fam : Od → Fa} {n : Nat} {as : Sl → Cells → Out (List W)} {σ : L2.St} {H : Hp} {Q : VK} (q : tE K (fam od) Wx (fun sl c => (as sl c).bind fun ws c1 => if ws.length = n then g ws c1 else .bad) σ H Q) : tAs K (fam od) Wx as σ H (fun vs H1 => spD K fam n g vs H1 Q (WE Wx σ)) := by
  obtain ⟨sl, c, ad, F, ok, R, P⟩ := q
  refine ⟨sl, c, ad, F, ok, R, P.bind fun ws c1 H1 F1 ad1 s p R1 P1 vs rv => ?_⟩
  split at P1
  · rename_i hl
    exact ⟨by rw [rv.length]; exact hl, od, ws, c1, ad1, F1, rv, R1, P1⟩
  · exact P1.elim
def dCallN (n : Nat) (g : List W → Cells → Out W) (as : Sl → Cells → Out (List W)) : Den := fun sl c => (as sl c).bind fun ws c1 => if ws.length = n then g ws c1 else .bad
/-- the callee runs, positional values us, keywords' values ws -/
theorem run_g {pins : List (Addr × Obj)} {σ : L2.St} {H : Hp} {s : Shared} {Q : VK} {us : List Value} {vs : List V} {f : Addr} {fd : FuncData} {sp : Sp} {kw : List (Str × Value)} {all : List Value} (F : FnG X.prog X.w X.K X.mg X.base k f fd ps sp) (hr : Room k X.A) (hgd : X.A.guards = some []) (tk : Takes X Wx)
    (I : Inv X pins σ H s) (hb : BindsTo s fd ⟨us, kw⟩ (ps.zip all)) (r : Vals vs all) (h : sp vs H Q (WE Wx σ)) : wpAny (model X.prog X.w) X.A (call (.ref f) us kw) (EP X pins σ Q) X.xe s := by
  refine wpAny_call (codeAny_mono (F.run X.A X.stack s H ⟨us, kw⟩ all vs Q (WE Wx σ) hr hgd I.env0 hb r h) fun res s' hq => ?_)
  match res, hq with
  | .error e, hq => exact passAt tk σ pins H s e s' I hq
  | .ok (.ret u), hq => exact I.after hq
  | .ok .next, hq => exact False.elim hq
  | .ok .brk, hq => exact False.elim hq
  | .ok .cont, hq => exact False.elim hq
theorem binds_of {fd : FuncData} {s : Shared} {us : List Value} {K : PySem.W.Frag} (hb : Binds K fd ps []) (h : K.In s.heap) (hl : us.length = ps.length) : BindsTo s fd ⟨us, []⟩ (ps.zip us) := by
  have q := hb s us h (by simpa using hl)
  rwa [List.append_nil] at q
theorem se_call {e : Expr} {es : List Expr} {as : Sl → Cells → Out (List W)} (G : Fd X.prog X.w X.K X.mg X.base x st k ps g) (hr : Room k X.A) (hgd : X.A.guards = some []) (tk : Takes X Wx) (ha : SA X (faOf X.mg od) Wx (e :: es) as) (hg : Gl X x := by rfl)
    (hdb : (x == ("__debug__" : Str)) = false := by decide) (he : starEach (e :: es) X.env = (false, eval e X.env) :: starEach es X.env := by rfl) (hpl : (backTo pos (starEach es X.env)).any (·.1) = false := by rfl) :
    SE X (faOf X.mg od) Wx (.Call (.Name x p) (e :: es) [] pos) (dCallN ps.length g as) := by
  obtain ⟨f, fd, Fn, hm, hb, F⟩ := G.ex
  refine ⟨fun pins s σ H Q I q => wpAny_Call_Name_kw (ld_glob I hg hm ?_ hdb)⟩
  refine PySem.W.callWith_K (h₀ := X.base) I.ok.mod.kin Fn.kp (thn (ha.run pos pins s σ H _ I (sp_of_as (fam := faOf X.mg) q)) fun us s1 h1 => ?_) he hpl
  obtain ⟨vs, H1, I1, r, q1⟩ := h1
  have hl : us.length = ps.length := by rw [← r.length]; exact F.len _ _ _ _ q1
  exact ⟨I1.kIn, run_g (us := us) F hr hgd tk I1 (binds_of hb I1.kIn hl) r q1⟩
theorem se_call0 (G : Fd X.prog X.w X.K X.mg X.base x st k [] g) (hr : Room k X.A) (hgd : X.A.guards = some []) (tk : Takes X Wx) (hg : Gl X x := by rfl) (hdb : (x == ("__debug__" : Str)) = false := by decide) : SE X (faOf X.mg od) Wx (.Call (.Name x p) [] [] pos) (dCallN 0 g dNil) := by
  obtain ⟨f, fd, Fn, hm, hb, F⟩ := G.ex
  refine ⟨fun pins s σ H Q I h => ?_⟩
  refine wpAny_Call_Name_kw (ld_glob I hg hm ?_ hdb)
  refine PySem.W.callWith_K0 I.kIn Fn.kp (run_g (us := []) F hr hgd tk I (binds_of hb I.kIn rfl) .nil ?_)
  obtain ⟨sl, c, ad, F, ok, R, P⟩ := h
  exact ⟨rfl, od, [], c, ad, F, .nil, R, P⟩
/-- keywords -/
theorem sk_nil : PK X [] (tAs X.K fa Wx dNil) := PK.imp pk_nil fun σ H Q q => by
  obtain ⟨sl, c, ad, F, ok, R, P⟩ := q
  exact P.now R [] .nil
theorem sk_cons {e : Expr} {kws : List Keyword} {nm : Option Str} {kpos : Pos} {f : Den} {h : Sl → Cells → Out (List W)} (ha : SE X fa Wx e f) (hr : PK X kws (tAs X.K fa Wx h)) : PK X (⟨nm, e, kpos⟩ :: kws) (tAs X.K fa Wx (dCons f h)) :=
  PK.imp (pk_cons ha hr) fun σ H Q q => by
  obtain ⟨sl, c, ad, F, ok, R, P⟩ := q
  refine ⟨sl, c, ad, F, ok, R, P.bind fun w c1 H1 F1 ad1 s p R1 P1 v rv => ?_⟩
  refine ⟨sl, c1, ad1, F1, ok.mono s p, R1, P1.bind fun ws c2 H2 F2 ad2 s2 p2 R2 P2 vs rvs => ?_⟩
  exact P2.now R2 (v :: vs) (.cons (rv.mono s2 p2) rvs)
/-- f(k = v, ..) with keywords alone; perm: the parameters in order, by the keywords' places -/
structure KwP (K : PySem.W.Frag) (mg : Str → Option Value) (x : Str) (ps ks : List Str) (perm : List Nat) : Prop where
  ex : ∀ f fd st, mg x = some (.ref f) → Fun K x x st f fd → ∃ gv gV, KBinds K fd ps ks gv gV ∧ ∀ zs : List V, gV [] zs = perm.filterMap fun i => zs[i]?
def perm {α : Type} (is : List Nat) (ws : List α) : List α := is.filterMap fun i => ws[i]?
theorem RWs.perm {K : PySem.W.Frag} {ad : List Addr} {F : Hp} : ∀ (is : List Nat) {vs : List V} {ws : List W}, RWs K fa ad F vs ws → RWs K fa ad F (Pm.perm is vs) (Pm.perm is ws)
  | [], _, _, _ => .nil
  | i :: is, vs, ws, r => by
    have ih := RWs.perm is r
    have get : ∀ {vs : List V} {ws : List W} {i : Nat}, RWs K fa ad F vs ws → (∃ v w, vs[i]? = some v ∧ ws[i]? = some w ∧ RW K fa ad F v w) ∨ (vs[i]? = none ∧ ws[i]? = none) := by
      intro vs ws i r
      induction r generalizing i with
      | nil => right; simp
      | cons q _ ih =>
        cases i with
        | zero => left; exact ⟨_, _, rfl, rfl, q⟩
        | succ i => simpa using ih (i := i)
    unfold Pm.perm at ih ⊢
    rw [List.filterMap_cons, List.filterMap_cons]
    rcases get (i := i) r with ⟨v, w, h1, h2, h3⟩ | ⟨h1, h2⟩
    · rw [h1, h2]; exact .cons h3 ih
    · rw [h1, h2]; exact ih
theorem se_callK0 {kw : Keyword} {kws : List Keyword} {as : Sl → Cells → Out (List W)} {ks : List Str} {is : List Nat} (G : Fd X.prog X.w X.K X.mg X.base x st k ps g) (KP : KwP X.K X.mg x ps ks is) (hr : Room k X.A) (hgd : X.A.guards = some []) (tk : Takes X Wx) (ha : PK X (kw :: kws) (tAs X.K (faOf X.mg od) Wx as)) (hg : Gl X x := by rfl)
    (hall : (backToKw pos (keywordEach (kw :: kws) X.env)).all (·.1.isSome) = true := by rfl) (hks : (backToKw pos (keywordEach (kw :: kws) X.env)).filterMap (·.1) = ks := by rfl)
    (hdb : (x == ("__debug__" : Str)) = false := by decide) (hpl : ((backTo pos (starEach [] X.env)).any (·.1) || (backToKw pos (keywordEach (kw :: kws) X.env)).any (·.1.isNone)) = false := by rfl) :
    SE X (faOf X.mg od) Wx (.Call (.Name x p) [] (kw :: kws) pos) (fun sl c => (as sl c).bind fun ws c1 => if (perm is ws).length = ps.length then g (perm is ws) c1 else .bad) := by
  obtain ⟨f, fd, Fn, hm, hb, F⟩ := G.ex
  obtain ⟨gv, gV, KB, hV⟩ := KP.ex f fd st hm Fn
  refine ⟨fun pins s σ H Q I h => ?_⟩
  refine wpAny_Call_Name_kw (ld_glob I hg hm ?_ hdb)
  obtain ⟨sl, c, ad, F0, ok, R, P⟩ := h
  have q : tAs X.K (faOf X.mg od) Wx as σ H (fun vs H1 => spD X.K (faOf X.mg) ps.length g (perm is vs) H1 Q (WE Wx σ)) := by
    refine ⟨sl, c, ad, F0, ok, R, P.bind fun ws c1 H1 F1 ad1 s p R1 P1 vs rv => ?_⟩
    split at P1
    · rename_i hl
      have r2 := RWs.perm is rv
      exact ⟨by rw [r2.length]; exact hl, od, _, c1, ad1, F1, r2, R1, P1⟩
    · exact P1.elim
  refine PySem.W.callWith_KW0 (h₀ := X.base) I.ok.mod.kin Fn.kp hall (thn (ha.run pos pins s σ H _ I q) fun ws s2 ⟨zs, H2, I2, rz, q2⟩ => ⟨I2.kIn, ?_⟩) hpl
  rw [hks]
  have q3 : spD X.K (faOf X.mg) ps.length g (gV [] zs) H2 Q (WE Wx σ) := by rw [hV]; exact q2
  have r2 := KB.rel (vs := []) .nil rz
  exact run_g (us := []) F hr hgd tk I2 (KB.to s2 [] ws I2.kIn (by rw [← r2.length]; exact F.len _ _ _ _ q3)) r2 q3
end

/-! ### built-ins by name, methods -/
section
variable {X : Cx} {fa : Fa} {Wx : WX} {pos p : Pos} {x : Str}
def CalL (K : PySem.W.Frag) (fa : Fa) (r : List V → Hp → VK → Prop) (o : List W → Cells → Out W) : Prop :=
  ∀ (c : Cells) (ad : List Addr) (F H : Hp) (vs : List V) (ws : List W) (Q : VK) (E : Value → Option Addr → Hp → Prop), Rel K fa c ad F H → RWs K fa ad F vs ws →
    Post K fa E ad F (fun w ad' F' H' => ∀ v, RW K fa ad' F' v w → Q v H') (o ws c) → r vs H Q
theorem tCB_of {K : PySem.W.Frag} {r : List V → Hp → VK → Prop} {o : List W → Cells → Out W} {as : Sl → Cells → Out (List W)} (hl : CalL K fa r o) {σ : L2.St} {H : Hp} {Q : VK} (q : tE K fa Wx (dCall o as) σ H Q) : tCB r (tAs K fa Wx as) σ H Q := by
  obtain ⟨sl, c, ad, F, ok, R, P⟩ := q
  exact ⟨sl, c, ad, F, ok, R, P.bind fun ws c1 H1 F1 ad1 s p R1 P1 vs rv => hl c1 ad1 F1 H1 vs ws Q _ R1 rv P1⟩
theorem se_callB {id : String} {r : List V → Hp → VK → Prop} {o : List W → Cells → Out W} {as : Sl → Cells → Out (List W)} {e : Expr} {es : List Expr} (hc : CallR X (.builtin id) r) (hl : CalL X.K fa r o) (hm : X.mg x = none) (hv : bootBuiltins x = some (.builtin id)) (ha : SA X fa Wx (e :: es) as) (hg : Gl X x := by rfl) (hn : x ≠ "__name__" := by decide) (hdb : (x == ("__debug__" : Str)) = false := by decide)
    (he : starEach (e :: es) X.env = (false, eval e X.env) :: starEach es X.env := by rfl) (hpl : (backTo pos (starEach es X.env)).any (·.1) = false := by rfl) : SE X fa Wx (.Call (.Name x p) (e :: es) [] pos) (dCall o as) :=
  PE.imp (pe_callB hc hg hm hv ha hn hdb he hpl) fun σ H Q q => tCB_of hl q
theorem se_callTy {T : String} {r : List V → Hp → VK → Prop} {o : List W → Cells → Out W} {as : Sl → Cells → Out (List W)} {e : Expr} {es : List Expr} (hc : CallR X (.type T) r) (hl : CalL X.K fa r o) (hm : X.mg x = none) (hv : bootBuiltins x = some (.type T)) (ha : SA X fa Wx (e :: es) as) (hg : Gl X x := by rfl) (hn : x ≠ "__name__" := by decide) (hdb : (x == ("__debug__" : Str)) = false := by decide)
    (he : starEach (e :: es) X.env = (false, eval e X.env) :: starEach es X.env := by rfl) (hpl : (backTo pos (starEach es X.env)).any (·.1) = false := by rfl) : SE X fa Wx (.Call (.Name x p) (e :: es) [] pos) (dCall o as) :=
  PE.imp (pe_callTy hc hg hm hv ha hn hdb he hpl) fun σ H Q q => tCB_of hl q
/-- a method of a text -/
def MtL (K : PySem.W.Frag) (fa : Fa) (r : V → List V → Hp → VK → Prop) (o : W → List W → Cells → Out W) : Prop :=
  ∀ (c : Cells) (ad : List Addr) (F H : Hp) (v : V) (w : W) (vs : List V) (ws : List W) (Q : VK) (E : Value → Option Addr → Hp → Prop), Rel K fa c ad F H → RW K fa ad F v w → RWs K fa ad F vs ws →
    Post K fa E ad F (fun w ad' F' H' => ∀ v, RW K fa ad' F' v w → Q v H') (o w ws c) → r v vs H Q
def tyOk (T : String) (c : Cells) (w : W) : Bool := match rd c w with
  | some (.str _) => T == "str"
  | some (.lst _) => T == "list"
  | some (.dic _) => T == "dict"
  | _ => false
theorem tyOk_ok {K : PySem.W.Frag} {c : Cells} {ad : List Addr} {F H : Hp} {v : V} {w : W} {T : String} (R : Rel K fa c ad F H) (r : RW K fa ad F v w) (h : tyOk T c w = true) : tyV K T v H := by
  unfold tyOk at h
  split at h
  · rename_i s e
    rw [R.str r e]
    show T = "str"
    simpa using h
  · rename_i ds e
    obtain ⟨a, vs, h1, h2, h3⟩ := R.lst r e
    rw [h1]
    exact .inl ⟨by simpa using h, vs, .inl h2⟩
  · rename_i ds e
    rcases R.rd r e with ⟨a, ds', vs, h1, _⟩ | ⟨a, ds', vs, h1, h2, h3, h4⟩ | q
    · cases h1
    · rw [h2]; exact .inr (.inr (.inl ⟨by simpa using h, .inl ⟨_, h3⟩⟩))
    · cases q with
      | dic s q => exact .inr (.inr (.inl ⟨by simpa using h, .inl ⟨_, R.le _ _ s⟩⟩))
  · cases h
def dMeth (T : String) (o : W → List W → Cells → Out W) (f : Den) (as : Sl → Cells → Out (List W)) : Den := fun sl c => (f sl c).bind fun w c1 => if tyOk T c1 w = true then (as sl c1).bind fun ws c2 => o w ws c2 else .bad
theorem se_meth {T id : String} {name : Str} {r : V → List V → Hp → VK → Prop} {o : W → List W → Cells → Out W} {a e : Expr} {es : List Expr} {apos : Pos} {f : Den} {as : Sl → Cells → Out (List W)} (pa : PlainAttrs T) (slot : Slot T name id) (hty : typeOf (.builtin id) = pure (.type "method_descriptor")) (hm : MtR X id r) (hl : MtL X.K fa r o) (ho : SE X fa Wx a f) (ha : SA X fa Wx (e :: es) as)
    (hbase : attributeBase a name X.env (eval a X.env) = eval a X.env := by rfl)
    (hfew : ((backTo pos (starEach (e :: es) X.env)).all (fun x => !x.1) && (backToKw pos (keywordEach [] X.env)).all (fun x => x.1.isSome)
      && decide ((e :: es).length + ([] : List Keyword).length + (if ([] : List Keyword).isEmpty then 0 else 1) < 30)) = true := by rfl)
    (hline : (apos.endLine == pos.line) = true := by rfl) (hs : starEach (e :: es) X.env = (false, eval e X.env) :: starEach es X.env := by rfl) (hplain : (backTo pos (starEach es X.env)).any (·.1) = false := by rfl) :
    SE X fa Wx (.Call (.Attribute a name apos) (e :: es) [] pos) (dMeth T o f as) := PE.imp (pe_bm pa slot hty hm ho ha hbase hfew hline hs hplain) fun σ H Q q => by
  obtain ⟨sl, c, ad, F, ok, R, P⟩ := q
  refine ⟨sl, c, ad, F, ok, R, P.bind fun w c1 H1 F1 ad1 s p R1 P1 v rv => ?_⟩
  split at P1
  · rename_i ht
    refine ⟨tyOk_ok R1 rv ht, sl, c1, ad1, F1, ok.mono s p, R1, P1.bind fun ws c2 H2 F2 ad2 s2 p2 R2 P2 vs rvs => ?_⟩
    exact hl c2 ad2 F2 H2 v w vs ws Q _ R2 (rv.mono s2 p2) rvs P2
  · exact P1.elim
theorem se_meth0 {T id : String} {name : Str} {r : V → List V → Hp → VK → Prop} {o : W → List W → Cells → Out W} {a : Expr} {apos : Pos} {f : Den} (pa : PlainAttrs T) (slot : Slot T name id) (hty : typeOf (.builtin id) = pure (.type "method_descriptor")) (hm : MtR X id r) (hl : MtL X.K fa r o) (ho : SE X fa Wx a f)
    (hbase : attributeBase a name X.env (eval a X.env) = eval a X.env := by rfl) (hline : (apos.endLine == pos.line) = true := by rfl) :
    SE X fa Wx (.Call (.Attribute a name apos) [] [] pos) (dMeth T o f dNil) := PE.imp (pe_bm0 pa slot hty hm ho hbase hline) fun σ H Q q => by
  obtain ⟨sl, c, ad, F, ok, R, P⟩ := q
  refine ⟨sl, c, ad, F, ok, R, P.bind fun w c1 H1 F1 ad1 s p R1 P1 v rv => ?_⟩
  split at P1
  · rename_i ht
    exact ⟨tyOk_ok R1 rv ht, hl c1 ad1 F1 H1 v w [] [] Q _ R1 rv .nil P1⟩
  · exact P1.elim
end

/-! ### displays -/
def frzAll : List W → Cells → Out (List D)
  | [], c => .ok [] c
  | w :: ws, c => (fz w c).bind fun d c1 => (frzAll ws c1).bind fun ds c2 => .ok (d :: ds) c2
section
variable {K : PySem.W.Frag} {fa : Fa}
theorem Rel.frz {ad : List Addr} {H : Hp} : ∀ {ws : List W} {vs : List V} {c c' : Cells} {F : Hp} {ds : List D}, Rel K fa c ad F H → RWs K fa ad F vs ws → frzAll ws c = .ok ds c' → ∃ F', Same F F' ∧ Rel K fa c' ad F' H ∧ RpA K fa F' vs ds
  | [], _, c, c', F, ds, R, .nil, e => by
    injection e with e1 e2
    subst e1 e2
    exact ⟨F, Same.refl F, R, .nil⟩
  | w :: ws, v :: vs, c, c', F, ds, R, .cons r rs, e => by
    unfold frzAll at e
    cases h1 : Pm.fz w c with
    | ok d c1 =>
      rw [h1] at e
      rw [Out.bind_ok] at e
      obtain ⟨F1, s1, R1, q1⟩ := R.fz r h1
      cases h2 : frzAll ws c1 with
      | ok ds2 c2 =>
        rw [h2, Out.bind_ok] at e
        injection e with e1 e2
        subst e1 e2
        obtain ⟨F2, s2, R2, q2⟩ := Rel.frz (F := F1) R1 (rs.mono s1 (List.prefix_refl _)) h2
        exact ⟨F2, s1.trans s2, R2, .cons (q1.mono s2) q2⟩
      | exc _ _ _ => rw [h2] at e; cases e
      | bad => rw [h2] at e; cases e
    | exc _ _ _ => rw [h1] at e; cases e
    | bad => rw [h1] at e; cases e
theorem fz_exc {w : W} {c : Cells} {x : Str} {pl : List (Str × D)} {c' : Cells} : fz w c ≠ .exc x pl c' := by
  unfold fz
  cases w with
  | d _ => intro h; cases h
  | c k => dsimp only; split <;> intro h <;> cases h
  | x _ _ => intro h; cases h
  | raw _ => intro h; cases h
theorem frz_exc {x : Str} {pl : List (Str × D)} : ∀ {ws : List W} {c c' : Cells}, frzAll ws c ≠ .exc x pl c'
  | [], _, _ => by intro h; cases h
  | w :: ws, c, c' => by
    intro h
    unfold frzAll at h
    cases h1 : fz w c with
    | ok d c1 =>
      rw [h1, Out.bind_ok] at h
      cases h2 : frzAll ws c1 with
      | ok _ _ => rw [h2] at h; cases h
      | exc _ _ _ => exact frz_exc h2
      | bad => rw [h2] at h; cases h
    | exc _ _ _ => exact fz_exc h1
    | bad => rw [h1] at h; cases h
end
theorem small {n : Nat} (h : n ≤ 1000000) : n ≤ sizeLine := Nat.le_trans h (by decide)
section
variable {X : Cx} {fa : Fa} {Wx : WX} {pos : Pos} {es : List Expr} {as : Sl → Cells → Out (List W)}
def mkT (ds : List D) (c : Cells) : Out W := if ds.length ≤ 1000000 then .ok (.d (.tup ds)) c else .bad
def mkL (ds : List D) (c : Cells) : Out W := if ds.length ≤ 1000000 then .ok (.c c.length) (c ++ [.lst ds]) else .bad
theorem mkT_ok {K : PySem.W.Frag} {E : Value → Option Addr → Hp → Prop} {Q : VK} {c : Cells} {ad : List Addr} {F H : Hp} {ds : List D} {vs : List V} (P : Post K fa E ad F (fun w ad' F' H' => ∀ v, RW K fa ad' F' v w → Q v H') (mkT ds c)) (R : Rel K fa c ad F H) (r : RpA K fa F vs ds) :
    vs.length ≤ sizeLine ∧ ∀ p, H p = none → Q (.ref p) (upd H p (.tup vs)) := by
  unfold mkT at P
  split at P
  · rename_i hl
    refine ⟨by rw [r.length]; exact small hl, fun p n => ?_⟩
    obtain ⟨R', s'⟩ := R.newF (o := .tup vs) n
    exact P _ _ ad s' (List.prefix_refl _) R' (.ref p) (.tup (SqT.of upd_same) (r.mono s'))
  · exact P.elim
theorem mkL_ok {K : PySem.W.Frag} {E : Value → Option Addr → Hp → Prop} {Q : VK} {c : Cells} {ad : List Addr} {F H : Hp} {ds : List D} {vs : List V} (P : Post K fa E ad F (fun w ad' F' H' => ∀ v, RW K fa ad' F' v w → Q v H') (mkL ds c)) (R : Rel K fa c ad F H) (r : RpA K fa F vs ds) :
    vs.length ≤ sizeLine ∧ ∀ p, H p = none → Q (.ref p) (upd H p (.lst vs)) := by
  unfold mkL at P
  split at P
  · rename_i hl
    refine ⟨by rw [r.length]; exact small hl, fun p n => ?_⟩
    have R' := R.newC (o := .lst vs) (x := .lst ds) n fun nF => ⟨nF, vs, upd_same, r⟩
    refine P _ F _ (Same.refl F) (List.prefix_append _ _) R' (.ref p) ⟨p, ?_, rfl⟩
    rw [← R.len]; simp
  · exact P.elim
def dTup (as : Sl → Cells → Out (List W)) : Den := fun sl c => (as sl c).bind fun ws c1 => (frzAll ws c1).bind mkT
def dLst (as : Sl → Cells → Out (List W)) : Den := fun sl c => (as sl c).bind fun ws c1 => (frzAll ws c1).bind mkL
theorem Post.frz {α : Type} {K : PySem.W.Frag} {E : Value → Option Addr → Hp → Prop} {Q : α → List Addr → Hp → Hp → Prop} {c : Cells} {ad : List Addr} {F H : Hp} {ws : List W} {vs : List V} {f : List D → Cells → Out α} (P : Post K fa E ad F Q ((frzAll ws c).bind f)) (R : Rel K fa c ad F H) (r : RWs K fa ad F vs ws) :
    ∃ ds c1 F1, Same F F1 ∧ Rel K fa c1 ad F1 H ∧ RpA K fa F1 vs ds ∧ Post K fa E ad F1 Q (f ds c1) := by
  cases h : frzAll ws c with
  | ok ds c1 =>
    rw [h, Out.bind_ok] at P
    obtain ⟨F1, s1, R1, q1⟩ := R.frz r h
    exact ⟨ds, c1, F1, s1, R1, q1, P.weak s1 (List.prefix_refl _)⟩
  | exc _ _ _ => exact absurd h frz_exc
  | bad => rw [h] at P; exact P.elim
theorem Post.fz {α : Type} {K : PySem.W.Frag} {E : Value → Option Addr → Hp → Prop} {Q : α → List Addr → Hp → Hp → Prop} {c : Cells} {ad : List Addr} {F H : Hp} {w : W} {v : V} {ad0 : List Addr} {f : D → Cells → Out α} (P : Post K fa E ad0 F Q ((fz w c).bind f)) (R : Rel K fa c ad F H) (r : RW K fa ad F v w) :
    ∃ d c1 F1, Same F F1 ∧ Rel K fa c1 ad F1 H ∧ Rp K fa F1 v d ∧ fz w c = .ok d c1 ∧ Post K fa E ad0 F1 Q (f d c1) := by
  cases h : Pm.fz w c with
  | ok d c1 =>
    rw [h, Out.bind_ok] at P
    obtain ⟨F1, s1, R1, q1⟩ := R.fz r h
    exact ⟨d, c1, F1, s1, R1, q1, rfl, P.weak s1 (List.prefix_refl _)⟩
  | exc _ _ _ => exact absurd h fz_exc
  | bad => rw [h] at P; exact P.elim
theorem se_tup {k1 : Nat} (h : SA X fa Wx es as) : SE X fa Wx (.Tuple es k1 pos) (dTup as) := PE.imp (pe_tup h) fun σ H Q q => by
  obtain ⟨sl, c, ad, F, ok, R, P⟩ := q
  refine ⟨sl, c, ad, F, ok, R, P.bind fun ws c1 H1 F1 ad1 s p R1 P1 vs rv => ?_⟩
  obtain ⟨ds, c2, F2, s2, R2, q2, P2⟩ := P1.frz R1 rv
  exact mkT_ok P2 R2 q2
theorem se_lst (h : SA X fa Wx es as) : SE X fa Wx (.List es pos) (dLst as) := PE.imp (pe_lst h) fun σ H Q q => by
  obtain ⟨sl, c, ad, F, ok, R, P⟩ := q
  refine ⟨sl, c, ad, F, ok, R, P.bind fun ws c1 H1 F1 ad1 s p R1 P1 vs rv => ?_⟩
  obtain ⟨ds, c2, F2, s2, R2, q2, P2⟩ := P1.frz R1 rv
  exact mkL_ok P2 R2 q2
end
end Pm

/-! Pm4: statements, loops, comprehensions. -/
namespace Pm
open PySem L2 PyProof.Rows
section
variable {X : Cx} {fa : Fa} {Wx : WX} {pos : Pos}
theorem ss_nil : SSs X fa Wx [] OS.nx := PSs.imp pss_nil fun D σ H q => by
  obtain ⟨sl, c, ad, F, ok, R, P⟩ := q
  exact P H F ad σ (Same.refl F) (List.prefix_refl _) R ok
def sCons (f g : SDen) : SDen := fun sl c => (f sl c).andThen g
theorem ss_cons {s : Stmt} {rest : List Stmt} {f g : SDen} (h : SS X fa Wx s f) (r : SSs X fa Wx rest g) : SSs X fa Wx (s :: rest) (sCons f g) := PSs.imp (pss_cons h r) fun D σ H q => by
  obtain ⟨sl, c, ad, F, ok, R, P⟩ := q
  exact ⟨sl, c, ad, F, ok, R, PostS.andThen P fun sl1 c1 σ1 H1 F1 ad1 s p ok1 R1 P1 => ⟨sl1, c1, ad1, F1, ok1, R1, P1⟩⟩
theorem ss_one {s : Stmt} {f : SDen} (h : SS X fa Wx s f) : SSs X fa Wx [s] f := pss_one h
def sSet (i : Nat) (f : Den) : SDen := fun sl c => (f sl c).st sl fun w c1 => .nx (sl.set i (some w)) c1
theorem tAsg_of {K : PySem.W.Frag} {i : Nat} {f : Den} {D : Ends} {σ : L2.St} {H : Hp} (q : tSt K fa Wx (sSet i f) D σ H) : tAsg (tE K fa Wx f) (gName i) D σ H := by
  obtain ⟨sl, c, ad, F, ok, R, P⟩ := q
  exact ⟨sl, c, ad, F, ok, R, Post.st ok P fun w c1 H1 F1 ad1 s p R1 P1 v rv => P1 H1 F1 ad1 _ (Same.refl _) (List.prefix_refl _) R1 ((ok.mono s p).set rv)⟩
theorem ss_set (i : Nat) {x : Str} {e : Expr} {f : Den} {pos' : Pos} (hN : X.N.Nodup) (he : SE X fa Wx e f) (hi : X.N[i]? = some x := by rfl) (hx : Loc X.env.scope x := by first | exact .inl rfl | exact .inr rfl) (hs : swapsWith e (some (.Name x pos')) pos.line X.env = pure false := by rfl)
    (hf : X.fn x = true ∨ X.env.scope.names.lookup x = some .local := by first | exact .inl rfl | exact .inr rfl) : SS X fa Wx (.Assign [.Name x pos'] e pos) (sSet i f) := PS.imp (ps_set hN hi hx he hs hf) fun D σ H q => tAsg_of q
def sRet (f : Den) : SDen := fun sl c => (f sl c).st sl fun w c1 => .ret w c1
theorem ss_ret {e : Expr} {f : Den} (he : SE X fa Wx e f) : SS X fa Wx (.Return (some e) pos) (sRet f) := PS.imp (ps_ret he) fun D σ H q => by
  obtain ⟨sl, c, ad, F, ok, R, P⟩ := q
  exact ⟨sl, c, ad, F, ok, R, Post.st ok P fun w c1 H1 F1 ad1 s p R1 P1 v rv => P1 H1 F1 ad1 v (Same.refl _) (List.prefix_refl _) R1 rv⟩
theorem ss_retN : SS X fa Wx (.Return none pos) (fun _ c => .ret (.d .non) c) := PS.imp ps_retN fun D σ H q => by
  obtain ⟨sl, c, ad, F, ok, R, P⟩ := q
  exact P H F ad .non (Same.refl _) (List.prefix_refl _) R .non
def sExp (f : Den) : SDen := fun sl c => (f sl c).st sl fun _ c1 => .nx sl c1
theorem ss_exp {e : Expr} {f : Den} (he : SE X fa Wx e f) (hs : swapsWith e none pos.line X.env = pure false := by rfl) : SS X fa Wx (.Expr e pos) (sExp f) := PS.imp (ps_expr he hs) fun D σ H q => by
  obtain ⟨sl, c, ad, F, ok, R, P⟩ := q
  exact ⟨sl, c, ad, F, ok, R, Post.st ok P fun w c1 H1 F1 ad1 s p R1 P1 v rv => P1 H1 F1 ad1 σ (Same.refl _) (List.prefix_refl _) R1 (ok.mono s p)⟩
theorem ss_pass : SS X fa Wx (.Pass pos) OS.nx := PS.imp ps_pass fun D σ H q => by
  obtain ⟨sl, c, ad, F, ok, R, P⟩ := q
  exact P H F ad σ (Same.refl F) (List.prefix_refl _) R ok
theorem ss_brk : SS X fa Wx (.Break pos) OS.brk := PS.imp ps_break fun D σ H q => by
  obtain ⟨sl, c, ad, F, ok, R, P⟩ := q
  exact P H F ad σ (Same.refl F) (List.prefix_refl _) R ok
theorem ss_cnt : SS X fa Wx (.Continue pos) OS.cnt := PS.imp ps_continue fun D σ H q => by
  obtain ⟨sl, c, ad, F, ok, R, P⟩ := q
  exact P H F ad σ (Same.refl F) (List.prefix_refl _) R ok
def sIf (t : Sl → Cells → Out Bool) (f g : SDen) : SDen := fun sl c => (t sl c).st sl fun b c1 => if b = true then f sl c1 else g sl c1
theorem ss_if {t : Expr} {a b : List Stmt} {ft : Sl → Cells → Out Bool} {f g : SDen} (ht : STt X fa Wx t ft) (ha : SSs X fa Wx a f) (hb : SSs X fa Wx b g) : SS X fa Wx (.If t a b pos) (sIf ft f g) := PS.imp (ps_if ht ha hb) fun D σ H q => by
  obtain ⟨sl, c, ad, F, ok, R, P⟩ := q
  refine ⟨sl, c, ad, F, ok, R, Post.st ok P fun b c1 H1 F1 ad1 s p R1 P1 => ?_⟩
  cases b with
  | true => rw [if_pos rfl]; exact ⟨sl, c1, ad1, F1, ok.mono s p, R1, P1⟩
  | false => rw [if_neg Bool.false_ne_true]; exact ⟨sl, c1, ad1, F1, ok.mono s p, R1, P1⟩
/-- name op= e -/
def sAug (i : Nat) (o : W → W → Cells → Out W) (f : Den) : SDen := fun sl c => match sl[i]? with
  | some (some w0) => (f sl c).st sl fun w c1 => (o w0 w c1).st sl fun w2 c2 => .nx (sl.set i (some w2)) c2
  | _ => .bad
theorem ss_aug (i : Nat) {x : Str} {e : Expr} {op : Operator} {r : R2} {o : W → W → Cells → Out W} {f : Den} {pos' : Pos} (hN : X.N.Nodup) (ho : PIp X op r) (hl : OpL X.K fa r o) (he : SE X fa Wx e f) (hi : X.N[i]? = some x := by rfl) (hx : Loc X.env.scope x := by first | exact .inl rfl | exact .inr rfl)
    (hf : X.fn x = true ∨ X.env.scope.names.lookup x = some .local := by first | exact .inl rfl | exact .inr rfl) : SS X fa Wx (.AugAssign (.Name x pos') op e pos) (sAug i o f) := PS.imp (ps_aug hN hi hx he ho hf) fun D σ H q => by
  obtain ⟨sl, c, ad, F, ok, R, P⟩ := q
  unfold sAug at P
  split at P
  · rename_i w0 hw
    obtain ⟨v0, h1, h2⟩ := ok.2 i w0 hw
    refine ⟨v0, h1, sl, c, ad, F, ok, R, Post.st ok P fun w c1 H1 F1 ad1 s p R1 P1 v rv => ?_⟩
    have ok1 := ok.mono s p
    refine hl c1 ad1 F1 H1 v0 v w0 w _ _ R1 (h2.mono s p) rv (Post.st ok1 P1 fun w2 c2 H2 F2 ad2 s2 p2 R2 P2 v2 rv2 => ?_)
    exact P2 H2 F2 ad2 _ (Same.refl _) (List.prefix_refl _) R2 ((ok1.mono s2 p2).set rv2)
  · exact P.elim

/-! ### targets -/
theorem gt_name (i : Nat) {x : Str} (hN : X.N.Nodup) (hi : X.N[i]? = some x := by rfl) (hx : Loc X.env.scope x := by first | exact .inl rfl | exact .inr rfl)
    (hf : X.fn x = true ∨ X.env.scope.names.lookup x = some .local := by first | exact .inl rfl | exact .inr rfl) : PG X (.Name x pos) (tGt X.K fa Wx fun w sl c => .nx (sl.set i (some w)) c) := PG.imp (pg_name hN hi hx hf) fun v σ H Q q => by
  obtain ⟨w, sl, c, ad, F, r, ok, R, P⟩ := q
  exact P H F ad _ (Same.refl _) (List.prefix_refl _) R (ok.set r)
/-- several targets, the parts of a tuple -/
def gtNil : List D → SDen := fun ds sl c => match ds with
  | [] => .nx sl c
  | _ => .bad
def gtCons (g : W → SDen) (h : List D → SDen) : List D → SDen := fun ds sl c => match ds with
  | d :: ds => (g (.d d) sl c).andThen (h ds)
  | [] => .bad
def tGts (K : PySem.W.Frag) (fa : Fa) (Wx : WX) (h : List D → SDen) : TGs := fun vs σ H Q => ∃ ds sl c ad F, RpA K fa F vs ds ∧ SlOk K fa ad F σ sl ∧ Rel K fa c ad F H ∧ PostS K fa Wx ad F { nx := Q, rt := fun _ _ => False } (h ds sl c)
theorem gts_nil : PGs X [] (tGts X.K fa Wx gtNil) := PGs.imp pgs_nil fun vs σ H Q q => by
  obtain ⟨ds, sl, c, ad, F, r, ok, R, P⟩ := q
  cases r with
  | nil => exact ⟨rfl, P H F ad σ (Same.refl _) (List.prefix_refl _) R ok⟩
  | cons _ _ => exact P.elim
theorem gts_cons {e : Expr} {es : List Expr} {g : W → SDen} {h : List D → SDen} (h1 : PG X e (tGt X.K fa Wx g)) (h2 : PGs X es (tGts X.K fa Wx h)) (hs : (assignEach (e :: es) X.env).map (·.2) = assign e X.env :: (assignEach es X.env).map (·.2) := by rfl) :
    PGs X (e :: es) (tGts X.K fa Wx (gtCons g h)) := PGs.imp (pgs_cons h1 h2 hs) fun vs σ H Q q => by
  obtain ⟨ds, sl, c, ad, F, r, ok, R, P⟩ := q
  cases r with
  | nil => exact P.elim
  | @cons v vs d ds r rs =>
    refine ⟨v, vs, rfl, .d d, sl, c, ad, F, r, ok, R, PostS.andThen (N := _) P fun sl1 c1 σ1 H1 F1 ad1 s p ok1 R1 P1 => ?_⟩
    exact ⟨ds, sl1, c1, ad1, F1, rs.mono s, ok1, R1, P1⟩
def gtTup (n : Nat) (h : List D → SDen) : W → SDen := fun w sl c => match rd c w with
  | some (.tup ds) => if ds.length = n then h ds sl c else .bad
  | _ => .bad
theorem gt_tup {es : List Expr} {k n : Nat} {h : List D → SDen} (hc : X.calm = true) (hg : PGs X es (tGts X.K fa Wx h)) (hn : (assignEach es X.env).length = n := by rfl) (hst : (assignEach es X.env).findIdx? (·.1) = none := by rfl) :
    PG X (.Tuple es k pos) (tGt X.K fa Wx (gtTup n h)) := PG.imp (pg_tup hc hg hn hst) fun v σ H Q q => by
  obtain ⟨w, sl, c, ad, F, r, ok, R, P⟩ := q
  unfold gtTup at P
  split at P
  · rename_i ds e
    obtain ⟨a, vs, h1, h2, h3⟩ := R.tup r e
    split at P
    · rename_i hl
      exact ⟨a, vs, h1, h2, by rw [h3.length]; exact hl, ds, sl, c, ad, F, h3, ok, R, P⟩
    · exact P.elim
  · exact P.elim
/-- o[i] = .. -/
def gtSub (o i : Den) (st : W → W → W → Cells → Out Unit) : W → SDen := fun w sl c => (o sl c).st sl fun wo c1 => (i sl c1).st sl fun wi c2 => (st wo wi w c2).st sl fun _ c3 => .nx sl c3
def SetL (K : PySem.W.Frag) (fa : Fa) (t : TSet) (st : W → W → W → Cells → Out Unit) : Prop :=
  ∀ (c : Cells) (ad : List Addr) (F H : Hp) (vo vi v : V) (wo wi w : W) (Q : Hp → Prop) (E : Value → Option Addr → Hp → Prop), Rel K fa c ad F H → RW K fa ad F vo wo → RW K fa ad F vi wi → RW K fa ad F v w →
    Post K fa E ad F (fun _ ad' F' H' => Q H') (st wo wi w c) → t vo vi v H Q
theorem gt_sub {o i : Expr} {fo fi : Den} {t : TSet} {st : W → W → W → Cells → Out Unit} (ho : SE X fa Wx o fo) (hi : SE X fa Wx i fi) (hs : PSet X t) (hl : SetL X.K fa t st)
    (ha : ∀ v, assign (.Subscript o i pos) X.env v = (do
      let ov ← holding [v] (eval o X.env)
      let iv ← holding [v, ov] (eval i X.env)
      standAt pos
      holding [v, ov, iv] (setItem ov iv v)
      release [v, ov, iv] []) := by intro _; rfl) : PG X (.Subscript o i pos) (tGt X.K fa Wx (gtSub fo fi st)) := PG.imp (pg_sub ho hi hs ha) fun v σ H Q q => by
  obtain ⟨w, sl, c, ad, F, r, ok, R, P⟩ := q
  refine ⟨sl, c, ad, F, ok, R, Post.st ok P fun wo c1 H1 F1 ad1 s p R1 P1 vo ro => ?_⟩
  have ok1 := ok.mono s p
  refine ⟨sl, c1, ad1, F1, ok1, R1, Post.st ok1 P1 fun wi c2 H2 F2 ad2 s2 p2 R2 P2 vi ri => ?_⟩
  have ok2 := ok1.mono s2 p2
  refine hl c2 ad2 F2 H2 vo vi v wo wi w _ _ R2 (ro.mono s2 p2) ri ((r.mono s p).mono s2 p2) (Post.st ok2 P2 fun _ c3 H3 F3 ad3 s3 p3 R3 P3 => ?_)
  exact P3 H3 F3 ad3 σ (Same.refl _) (List.prefix_refl _) R3 (ok2.mono s3 p3)
/-- what a target leaves: no way out -/
def OS.only (o : OS) : OS := match o with
  | .nx sl c => .nx sl c
  | .exc sl x pl c => .exc sl x pl c
  | _ => .bad
@[simp] theorem OS.only_nx (sl : Sl) (c : Cells) : (OS.nx sl c).only = .nx sl c := rfl
@[simp] theorem OS.only_exc (sl : Sl) (x : Str) (pl : List (Str × D)) (c : Cells) : (OS.exc sl x pl c).only = .exc sl x pl c := rfl
@[simp] theorem OS.only_bad : OS.bad.only = .bad := rfl
theorem PostS.only {K : PySem.W.Frag} {ad : List Addr} {F : Hp} {D : Ends} {o : OS} (h : PostS K fa Wx ad F D o.only) : PostS K fa Wx ad F { nx := D.nx, rt := fun _ _ => False } o := by
  cases o <;> first | exact h | exact h.elim
def sAsg (f : Den) (g : W → SDen) : SDen := fun sl c => (f sl c).st sl fun w c1 => (g w sl c1).only
theorem ss_asg {tg e : Expr} {f : Den} {g : W → SDen} (he : SE X fa Wx e f) (hg : PG X tg (tGt X.K fa Wx g)) (hs : swapsWithSole [tg] e pos.line X.env = pure false := by rfl) (hw : swappedStores [tg] e X.env = pure none := by rfl)
    (h1 : (assignEach [tg] X.env).map (·.2) = [assign tg X.env] := by rfl) : SS X fa Wx (.Assign [tg] e pos) (sAsg f g) := PS.imp (ps_asg he hg hs hw h1) fun D σ H q => by
  obtain ⟨sl, c, ad, F, ok, R, P⟩ := q
  refine ⟨sl, c, ad, F, ok, R, Post.st ok P fun w c1 H1 F1 ad1 s p R1 P1 v rv => ?_⟩
  exact ⟨w, sl, c1, ad1, F1, rv, ok.mono s p, R1, P1.only⟩
/-- a, b = x, y with plain local names -/
def sPar (i j : Nat) (as : Sl → Cells → Out (List W)) : SDen := fun sl c => (as sl c).st sl fun ws c1 => match ws with
  | [a, b] => .nx ((sl.set i (some a)).set j (some b)) c1
  | _ => .bad
theorem ss_par {i j : Nat} {x y : Str} {a b : Expr} {as : Sl → Cells → Out (List W)} {px py pt : Pos} {kt k2 : Nat} {pt2 : Pos} (hc : X.calm = true) (hN : X.N.Nodup) (ha : SA X fa Wx [a, b] as) (hi : X.N[i]? = some x := by rfl) (hj : X.N[j]? = some y := by rfl) (hij : i ≠ j := by decide)
    (hx : X.env.scope.names.lookup x = some .local := by rfl) (hy : X.env.scope.names.lookup y = some .local := by rfl)
    (hw : swappedStores [.Tuple [.Name x px, .Name y py] kt pt] (.Tuple [a, b] k2 pt2) X.env = pure (some [x, y]) := by rfl)
    (hs : swapsWithSole [.Tuple [.Name x px, .Name y py] kt pt] (.Tuple [a, b] k2 pt2) pos.line X.env = pure false := by rfl) :
    SS X fa Wx (.Assign [.Tuple [.Name x px, .Name y py] kt pt] (.Tuple [a, b] k2 pt2) pos) (sPar i j as) := PS.imp (ps_par hc hN hi hj hij hx hy ha hw hs) fun D σ H q => by
  obtain ⟨sl, c, ad, F, ok, R, P⟩ := q
  refine ⟨sl, c, ad, F, ok, R, Post.st ok P fun ws c1 H1 F1 ad1 s p R1 P1 vs rv => ?_⟩
  match ws, rv, P1 with
  | [a, b], .cons r1 (.cons r2 .nil), P1 => exact ⟨_, _, rfl, P1 H1 F1 ad1 _ (Same.refl _) (List.prefix_refl _) R1 (((ok.mono s p).set r1).set r2)⟩
  | [], _, P1 => exact P1.elim
  | [_], _, P1 => exact P1.elim
  | _ :: _ :: _ :: _, _, P1 => exact P1.elim

/-! ### loops -/
def bigN : Nat := 1000000000
def loopW (t : Sl → Cells → Out Bool) (b : SDen) : Nat → SDen
  | 0 => fun _ _ => .bad
  | m + 1 => fun sl c => (t sl c).st sl fun v c1 => if v = true then (match b sl c1 with
      | .nx sl2 c2 => loopW t b m sl2 c2
      | .cnt sl2 c2 => loopW t b m sl2 c2
      | .brk sl2 c2 => .nx sl2 c2
      | .ret w c2 => .ret w c2
      | .exc sl2 x pl c2 => .exc sl2 x pl c2
      | .bad => .bad) else .nx sl c1
def sWhile (t : Sl → Cells → Out Bool) (b : SDen) : SDen := loopW t b bigN
theorem ss_while {t : Expr} {body : List Stmt} {ft : Sl → Cells → Out Bool} {fb : SDen} (hp : PassesOwn (model X.prog X.w) X.A X.env X.xe) (ht : STt X fa Wx t ft) (hb : SSs X fa Wx body fb) : SS X fa Wx (.While t body [] pos) (sWhile ft fb) := PS.imp (ps_while hp ht hb) fun D σ H q => by
  obtain ⟨sl, c, ad, F, ok, R, P⟩ := q
  refine ⟨fun m σ H => ∃ sl c ad F, SlOk X.K fa ad F σ sl ∧ Rel X.K fa c ad F H ∧ PostS X.K fa Wx ad F D (loopW ft fb m sl c), ⟨bigN, sl, c, ad, F, ok, R, P⟩, ?_⟩
  rintro m σ H ⟨sl, c, ad, F, ok, R, P⟩
  cases m with
  | zero => exact P.elim
  | succ m =>
    refine ⟨sl, c, ad, F, ok, R, Post.st ok P fun v c1 H1 F1 ad1 s p R1 P1 => ?_⟩
    cases v with
    | false => rw [if_neg Bool.false_ne_true] at P1 ⊢; exact P1 H1 F1 ad1 σ (Same.refl _) (List.prefix_refl _) R1 (ok.mono s p)
    | true =>
      rw [if_pos rfl] at P1 ⊢
      refine ⟨fun σ' H' => ∃ sl c ad F, SlOk X.K fa ad F σ' sl ∧ Rel X.K fa c ad F H' ∧ PostS X.K fa Wx ad F D (loopW ft fb m sl c), fun σ' H' h => ⟨m, Nat.lt_succ_self m, h⟩, sl, c1, ad1, F1, ok.mono s p, R1, ?_⟩
      revert P1
      cases fb sl c1 with
      | nx sl2 c2 => exact fun P1 H2 F2 ad2 σ2 s2 p2 R2 ok2 => ⟨sl2, c2, ad2, F2, ok2, R2, PostS.weak (o := loopW ft fb m sl2 c2) P1 s2 p2⟩
      | cnt sl2 c2 => exact fun P1 H2 F2 ad2 σ2 s2 p2 R2 ok2 => ⟨sl2, c2, ad2, F2, ok2, R2, PostS.weak (o := loopW ft fb m sl2 c2) P1 s2 p2⟩
      | brk sl2 c2 => exact fun P1 => P1
      | ret w c2 => exact fun P1 => P1
      | exc sl2 x pl c2 => exact fun P1 => P1
      | bad => exact fun P1 => P1.elim
/-- what a loop walks: at turn i -/
abbrev Items := Nat → Cells → Option (Option D)
def loopF (item : Items) (g : W → SDen) (b : SDen) : Nat → Nat → SDen
  | 0, _ => fun _ _ => .bad
  | m + 1, i => fun sl c => match item i c with
    | none => .bad
    | some none => .nx sl c
    | some (some d) => (g (.d d) sl c).only.andThen fun sl1 c1 => match b sl1 c1 with
      | .nx sl2 c2 => loopF item g b m (i + 1) sl2 c2
      | .cnt sl2 c2 => loopF item g b m (i + 1) sl2 c2
      | .brk sl2 c2 => .nx sl2 c2
      | .ret w c2 => .ret w c2
      | .exc sl2 x pl c2 => .exc sl2 x pl c2
      | .bad => .bad
/-- the walk J yields the items -/
def ItL (K : PySem.W.Frag) (fa : Fa) (ad : List Addr) (F : Hp) (J : It) (item : Items) : Prop :=
  ∀ i c ad' F' H, Same F F' → ad <+: ad' → Rel K fa c ad' F' H → match item i c with
    | none => True
    | some none => J.stop i H
    | some (some d) => J.go i H ∧ ∀ x H', J.yld i H x H' → ∃ F'', Same F' F'' ∧ Rel K fa c ad' F'' H' ∧ Rp K fa F'' x d
theorem ItL.mono {K : PySem.W.Frag} {ad ad1 : List Addr} {F F1 : Hp} {J : It} {item : Items} (h : ItL K fa ad F J item) (s : Same F F1) (p : ad <+: ad1) : ItL K fa ad1 F1 J item := fun i c ad' F' H s' p' R => h i c ad' F' H (s.trans s') (p.trans p') R
/-- a walked thing's reading -/
def tI (K : PySem.W.Frag) (fa : Fa) (Wx : WX) (f : Sl → Cells → Out Items) : TI := fun σ H R => ∃ sl c ad F, SlOk K fa ad F σ sl ∧ Rel K fa c ad F H ∧
  Post K fa (fun cls d H' => Wx cls d σ H') ad F (fun item ad' F' H' => ∀ J, ItL K fa ad' F' J item → R J H') (f sl c)
abbrev SI (X : Cx) (fa : Fa) (Wx : WX) (tg e : Expr) (f : Sl → Cells → Out Items) : Prop := PI X tg e (tI X.K fa Wx f)
def sFor (f : Sl → Cells → Out Items) (g : W → SDen) (b : SDen) : SDen := fun sl c => (f sl c).st sl fun item c1 => loopF item g b bigN 0 sl c1
theorem ss_for {tg iter : Expr} {body : List Stmt} {f : Sl → Cells → Out Items} {g : W → SDen} {fb : SDen} (hp : PassesOwn (model X.prog X.w) X.A X.env X.xe) (hc : X.calm = true) (hi : SI X fa Wx tg iter f) (hg : PG X tg (tGt X.K fa Wx g)) (hb : SSs X fa Wx body fb)
    (hs : ∀ x, foldedSetIterable iter X.env x = pure x := by intro _; rfl) : SS X fa Wx (.For tg iter body [] pos) (sFor f g fb) := PS.imp (ps_for hp hc hi hg hb hs) fun D σ H q => by
  obtain ⟨sl, c, ad, F, ok, R, P⟩ := q
  refine ⟨sl, c, ad, F, ok, R, Post.st ok P fun item c1 H1 F1 ad1 s p R1 P1 J hJ => ?_⟩
  refine ⟨fun i m σ H => ∃ sl c ad F, SlOk X.K fa ad F σ sl ∧ Rel X.K fa c ad F H ∧ ItL X.K fa ad F J item ∧ PostS X.K fa Wx ad F D (loopF item g fb m i sl c), ⟨bigN, sl, c1, ad1, F1, ok.mono s p, R1, hJ, P1⟩, ?_⟩
  rintro i m σ H ⟨sl, c, ad, F, ok, R, hJ, P⟩
  cases m with
  | zero => exact P.elim
  | succ m =>
    have hj := hJ i c ad F H (Same.refl _) (List.prefix_refl _) R
    unfold loopF at P
    revert hj P
    cases item i c with
    | none => exact fun _ P => P.elim
    | some o =>
      cases o with
      | none => exact fun hj P => .inl ⟨hj, P H F ad σ (Same.refl _) (List.prefix_refl _) R ok⟩
      | some d =>
        intro hj P
        refine .inr ⟨hj.1, fun σ' H' => ∃ sl c ad F, SlOk X.K fa ad F σ' sl ∧ Rel X.K fa c ad F H' ∧ ItL X.K fa ad F J item ∧ PostS X.K fa Wx ad F D (loopF item g fb m (i + 1) sl c), fun σ' H' h => ⟨m, Nat.lt_succ_self m, h⟩, fun x H' hy => ?_⟩
        obtain ⟨F2, s2, R2, r2⟩ := hj.2 x H' hy
        have P2 := PostS.weak (o := _) P s2 (List.prefix_refl _)
        refine ⟨.d d, sl, c, ad, F2, r2, ok.mono s2 (List.prefix_refl _), R2, ?_⟩
        refine PostS.only (D := { nx := _, rt := D.rt, bk := D.bk, ct := D.ct }) (PostS.andThen P2 fun sl1 c1 σ1 H1 F3 ad3 s3 p3 ok3 R3 P3 => ?_)
        refine ⟨sl1, c1, ad3, F3, ok3, R3, ?_⟩
        have hJ3 := (hJ.mono s2 (List.prefix_refl _)).mono s3 p3
        revert P3
        cases fb sl1 c1 with
        | nx sl2 c2 => exact fun P3 H4 F4 ad4 σ4 s4 p4 R4 ok4 => ⟨sl2, c2, ad4, F4, ok4, R4, hJ3.mono s4 p4, PostS.weak (o := loopF item g fb m (i + 1) sl2 c2) P3 s4 p4⟩
        | cnt sl2 c2 => exact fun P3 H4 F4 ad4 σ4 s4 p4 R4 ok4 => ⟨sl2, c2, ad4, F4, ok4, R4, hJ3.mono s4 p4, PostS.weak (o := loopF item g fb m (i + 1) sl2 c2) P3 s4 p4⟩
        | brk sl2 c2 => exact fun P3 => P3
        | ret w c2 => exact fun P3 => P3
        | exc sl2 x pl c2 => exact fun P3 => P3
        | bad => exact fun P3 => P3.elim
/-- over a list or a tuple -/
def seqItems (w : W) : Items := fun i c => match rd c w with
  | some (.lst ds) => some ds[i]?
  | some (.tup ds) => some ds[i]?
  | _ => none
def lstItems (w : W) : Items := fun i c => match rd c w with
  | some (.lst ds) => some ds[i]?
  | _ => none
def tupItems (w : W) : Items := fun i c => match rd c w with
  | some (.tup ds) => some ds[i]?
  | _ => none
def iLst (f : Den) : Sl → Cells → Out Items := fun sl c => (f sl c).bind fun w c1 => match rd c1 w with
  | some (.lst _) => .ok (lstItems w) c1
  | _ => .bad
def iTupD (f : Den) : Sl → Cells → Out Items := fun sl c => (f sl c).bind fun w c1 => match rd c1 w with
  | some (.tup _) => .ok (tupItems w) c1
  | _ => .bad
theorem si_lst {tg e : Expr} {f : Den} (h : SE X fa Wx e f) : SI X fa Wx tg e (iLst f) := PI.imp (pi_list h) fun σ H R0 q => by
  obtain ⟨sl, c, ad, F, ok, R, P⟩ := q
  refine ⟨sl, c, ad, F, ok, R, P.bind fun w c1 H1 F1 ad1 s p R1 P1 v rv => ?_⟩
  split at P1
  · rename_i ds e
    obtain ⟨a, vs, h1, h2, h3⟩ := R1.lst rv e
    subst h1
    refine ⟨a, rfl, ⟨vs, .inl h2⟩, P1.now R1 _ fun i c2 ad2 F2 H2 s2 p2 R2 => ?_⟩
    have rv2 := rv.mono s2 p2
    unfold lstItems
    split
    · trivial
    · rename_i e2
      split at e2
      · rename_i ds2 e3
        obtain ⟨a2, vs2, g1, g2, g3⟩ := R2.lst rv2 e3
        cases g1
        injection e2 with e2
        exact ⟨vs2, .inl g2, by rw [g3.length]; exact List.getElem?_eq_none_iff.mp e2⟩
      · cases e2
    · rename_i d e2
      split at e2
      · rename_i ds2 e3
        obtain ⟨a2, vs2, g1, g2, g3⟩ := R2.lst rv2 e3
        cases g1
        injection e2 with e2
        obtain ⟨x, hx, rx⟩ := g3.get e2
        refine ⟨⟨vs2, x, .inl g2, hx⟩, fun y H' hy => ?_⟩
        obtain ⟨rfl, hy⟩ := hy
        have := hy vs2 (.inl g2)
        rw [hx] at this
        cases this
        exact ⟨F2, Same.refl _, R2, rx⟩
      · cases e2
  · exact P1.elim
theorem si_tup {tg e : Expr} {f : Den} (h : SE X fa Wx e f) : SI X fa Wx tg e (iTupD f) := PI.imp (pi_tup h) fun σ H R0 q => by
  obtain ⟨sl, c, ad, F, ok, R, P⟩ := q
  refine ⟨sl, c, ad, F, ok, R, P.bind fun w c1 H1 F1 ad1 s p R1 P1 v rv => ?_⟩
  split at P1
  · rename_i ds e
    obtain ⟨a, vs, h1, h2, h3⟩ := R1.tup rv e
    subst h1
    refine ⟨a, rfl, ⟨vs, h2⟩, P1.now R1 _ fun i c2 ad2 F2 H2 s2 p2 R2 => ?_⟩
    have rv2 := rv.mono s2 p2
    unfold tupItems
    split
    · trivial
    · rename_i e2
      split at e2
      · rename_i ds2 e3
        obtain ⟨a2, vs2, g1, g2, g3⟩ := R2.tup rv2 e3
        cases g1
        injection e2 with e2
        exact ⟨vs2, g2, by rw [g3.length]; exact List.getElem?_eq_none_iff.mp e2⟩
      · cases e2
    · rename_i d e2
      split at e2
      · rename_i ds2 e3
        obtain ⟨a2, vs2, g1, g2, g3⟩ := R2.tup rv2 e3
        cases g1
        injection e2 with e2
        obtain ⟨x, hx, rx⟩ := g3.get e2
        refine ⟨⟨vs2, x, g2, hx⟩, fun y H' hy => ?_⟩
        obtain ⟨rfl, hy⟩ := hy
        have := hy vs2 g2
        rw [hx] at this
        cases this
        exact ⟨F2, Same.refl _, R2, rx⟩
      · cases e2
  · exact P1.elim
def rngItems (lo : Int) (n : Nat) : Items := fun i _ => some (if i < n then some (.int (lo + i)) else none)
def iRng1D (as : Sl → Cells → Out (List W)) : Sl → Cells → Out Items := fun sl c => (as sl c).bind fun ws c1 => match ws with
  | [.d (.int j)] => if -(2 ^ 62) ≤ j ∧ j < 2 ^ 62 then .ok (rngItems 0 j.toNat) c1 else .bad
  | _ => .bad
theorem rng_ok {K : PySem.W.Frag} {ad : List Addr} {F : Hp} (lo : Int) (n : Nat) : ItL K fa ad F (Itr lo n) (rngItems lo n) := fun i c ad' F' H s p R => by
  unfold rngItems
  by_cases h : i < n
  · simp only [if_pos h]
    refine ⟨h, fun x H' hy => ?_⟩
    obtain ⟨rfl, rfl⟩ := hy
    exact ⟨F', Same.refl _, R, .int _⟩
  · simp only [if_neg h]
    exact Nat.le_of_not_lt h
theorem si_rng1 {tg a : Expr} {as : Sl → Cells → Out (List W)} {p pos : Pos} (hm : X.mg "range" = none) (ha : SA X fa Wx [a] as) (hg : Gl X "range" := by rfl) (hs : starEach [a] X.env = [(false, eval a X.env)] := by rfl) : SI X fa Wx tg (.Call (.Name "range" p) [a] [] pos) (iRng1D as) := PI.imp (pi_range1 hg hm ha hs) fun σ H R0 q => by
  obtain ⟨sl, c, ad, F, ok, R, P⟩ := q
  refine ⟨sl, c, ad, F, ok, R, P.bind fun ws c1 H1 F1 ad1 s p R1 P1 vs rv => ?_⟩
  match ws, rv, P1 with
  | [.d (.int j)], .cons r .nil, P1 =>
    dsimp only at P1
    split at P1
    · rename_i h
      cases r
      exact ⟨j, rfl, h.1, h.2, P1.now R1 _ (rng_ok 0 j.toNat)⟩
    · exact P1.elim
end
end Pm

/-! Pm5: operators, subscripts, built-ins, methods. -/
namespace Pm
open PySem L2 PyProof.Rows
abbrev dstr (s : Str) : W := .d (.str s)
abbrev dint (i : Int) : W := .d (.int i)
abbrev dbl (b : Bool) : W := .d (.bl b)
@[simp] theorem rd_d (c : Cells) (x : D) : rd c (.d x) = some x := rfl
theorem rd_c (c : Cells) (k : Nat) : rd c (.c k) = (c[k]?).map O.val := rfl
section
variable {K : PySem.W.Frag} {fa : Fa} {c : Cells} {ad : List Addr} {F H : Hp} {v : V} {w : W}
theorem RW.intD {i : Int} (r : RW K fa ad F v (.d (.int i))) : v = .int i := by cases r; rfl
theorem RW.blD {i : Bool} (r : RW K fa ad F v (.d (.bl i))) : v = .bl i := by cases r; rfl
theorem RW.strD {i : Str} (r : RW K fa ad F v (.d (.str i))) : v = .str i := by cases r; rfl
/-! ### whole numbers -/
def oI (C : Int → Int → Bool) (g : Int → Int → D) : W → W → Cells → Out W := fun w1 w2 c => match w1, w2 with
  | .d (.int i), .d (.int j) => if C i j = true then .ok (.d (g i j)) c else .bad
  | _, _ => .bad
/-- a data value that stands for a value without the heap -/
def flD : D → V
  | .non => .non
  | .bl b => .bl b
  | .int i => .int i
  | .str s => .str s
  | _ => .non
theorem oI_ok {C : Int → Int → Prop} {Cb : Int → Int → Bool} {g : Int → Int → D} {gv : Int → Int → V} (hC : ∀ i j, Cb i j = true → C i j) (hg : ∀ i j F, Rp K fa F (gv i j) (g i j)) : OpL K fa (rI C gv) (oI Cb g) := fun c ad F H v1 v2 w1 w2 Q E R r1 r2 P => by
  unfold oI at P
  split at P
  · rename_i i j
    rw [r1.intD, r2.intD]
    split at P
    · rename_i h
      exact ⟨i, j, rfl, rfl, hC i j h, P.now R _ (hg i j F)⟩
    · exact P.elim
  · exact P.elim
theorem oI0_ok {g : Int → Int → D} {gv : Int → Int → V} (hg : ∀ i j F, Rp K fa F (gv i j) (g i j)) : OpL K fa (rI0 gv) (oI (fun _ _ => true) g) := fun c ad F H v1 v2 w1 w2 Q E R r1 r2 P => by
  unfold oI at P
  split at P
  · rename_i i j
    rw [r1.intD, r2.intD]
    rw [if_pos rfl] at P
    exact ⟨i, j, rfl, rfl, P.now R _ (hg i j F)⟩
  · exact P.elim
def oSub : W → W → Cells → Out W := oI (fun _ _ => true) fun i j => .int (i - j)
def oMul : W → W → Cells → Out W := oI (fun i j => decide (i.natAbs.log2 + j.natAbs.log2 < 1000000)) fun i j => .int (i * j)
def oMod : W → W → Cells → Out W := oI (fun _ j => decide (0 < j)) fun i j => .int (i % j)
def oFdiv : W → W → Cells → Out W := oI (fun _ j => decide (0 < j ∧ j.natAbs.log2 < 9000)) fun i j => .int (i / j)
def oPow : W → W → Cells → Out W := oI (fun i j => decide (0 ≤ j ∧ j ≤ 1000000 ∧ i.natAbs < 2 ^ 64)) fun i j => .int (i ^ j.toNat)
def oLt : W → W → Cells → Out W := oI (fun _ _ => true) fun i j => .bl (decide (i < j))
def oLe : W → W → Cells → Out W := oI (fun _ _ => true) fun i j => .bl (decide (i ≤ j))
def oGt : W → W → Cells → Out W := oI (fun _ _ => true) fun i j => .bl (decide (j < i))
def oGe : W → W → Cells → Out W := oI (fun _ _ => true) fun i j => .bl (decide (j ≤ i))
theorem l_sub : OpL K fa (rI0 fun i j => .int (i - j)) oSub := oI0_ok fun _ _ _ => .int _
theorem l_mul : OpL K fa (rI CMulW fun i j => .int (i * j)) oMul := oI_ok (fun i j h => (of_decide_eq_true h : i.natAbs.log2 + j.natAbs.log2 < 1000000)) fun _ _ _ => .int _
theorem l_mod : OpL K fa (rI (fun _ j => 0 < j) fun i j => .int (i % j)) oMod := oI_ok (fun i j h => of_decide_eq_true h) fun _ _ _ => .int _
theorem l_fdiv : OpL K fa (rI CDivW fun i j => .int (i / j)) oFdiv := oI_ok (fun i j h => (of_decide_eq_true h : 0 < j ∧ j.natAbs.log2 < 9000)) fun _ _ _ => .int _
theorem l_pow : OpL K fa (rI CPow fun i j => .int (i ^ j.toNat)) oPow := oI_ok (fun i j h => (of_decide_eq_true h : 0 ≤ j ∧ j ≤ 1000000 ∧ i.natAbs < 2 ^ 64)) fun _ _ _ => .int _
theorem l_lt : OpL K fa (rI0 fun i j => .bl (decide (i < j))) oLt := oI0_ok fun _ _ _ => .bl _
theorem l_le : OpL K fa (rI0 fun i j => .bl (decide (i ≤ j))) oLe := oI0_ok fun _ _ _ => .bl _
theorem l_gt : OpL K fa (rI0 fun i j => .bl (decide (j < i))) oGt := oI0_ok fun _ _ _ => .bl _
theorem l_ge : OpL K fa (rI0 fun i j => .bl (decide (j ≤ i))) oGe := oI0_ok fun _ _ _ => .bl _
end
/-! ### + -/
def smL (n : Nat) : Bool := decide (n ≤ 1000000)
def oAdd : W → W → Cells → Out W := fun w1 w2 c => match rd c w1, rd c w2 with
  | some (.int i), some (.int j) => .ok (.d (.int (i + j))) c
  | some (.str a), some (.str b) => if smL (a.length + b.length) = true then .ok (.d (.str (a ++ b))) c else .bad
  | some (.lst xs), some (.lst ys) => mkL (xs ++ ys) c
  | some (.tup xs), some (.tup ys) => mkT (xs ++ ys) c
  | _, _ => .bad
section
variable {X : Cx}
def rCatR : R2 := fun x y H Q => ∃ l b xs zs, x = .ref l ∧ y = .ref b ∧ Rd H l (.lst xs) ∧ Rd H b (.lst zs) ∧ xs.length + zs.length ≤ sizeLine ∧ ∀ p, H p = none → Q (.ref p) (upd H p (.lst (xs ++ zs)))
theorem rd_list {pins : List (Addr × Obj)} {σ : L2.St} {H : Hp} {s : Shared} (I : Inv X pins σ H s) {l : Addr} {xs : List V} (h : Rd H l (.lst xs)) : xs.length ≤ sizeLine ∧ ∃ (its : List Value) (n : Nat), Vals xs its ∧ xs.length = its.length ∧ s.heap.get? l = some { cls := .type "list", data := .seq its.toArray n } := by
  obtain ⟨z, its, n, r, e⟩ := h.ok I.hok
  exact ⟨z, its, n, r, r.length, e⟩
theorem op_catR : OpR X (binaryOp .Add) rCatR := by
  intro pins s σ H x y v u Q I rx ry h
  obtain ⟨l, b, xs, zs, rfl, rfl, hH, hB, hz, q⟩ := h
  cases rx
  cases ry
  obtain ⟨z, its, n, r, hl, e⟩ := rd_list I hH
  obtain ⟨z2, its2, n2, r2, hl2, e2⟩ := rd_list I hB
  refine PySem.P.add_list e e2 ?_ (by rw [List.size_toArray, List.size_toArray]; omega)
  have ea : its.toArray ++ its2.toArray = (its ++ its2).toArray := by simp
  rw [ea]
  exact ⟨.ref _, _, I.lnew (t' := s.toks) (r.append r2) (by rw [List.length_append]; omega), rfl, q _ I.fresh⟩
def rAddA (K : PySem.W.Frag) : R2 := fun x y H Q => rI0 (fun i j => .int (i + j)) x y H Q ∨ (∃ i j, x = .str i ∧ y = .str j ∧ i.length + j.length ≤ sizeLine ∧ Q (.str (i ++ j)) H) ∨ rCatR x y H Q ∨ rCatA K x y H Q
theorem op_addA : OpR X (binaryOp .Add) (rAddA X.K) := op_add.or (op_add_str.or (op_catR.or op_catA))
def rIaddA : R2 := fun x y H Q => rI0 (fun i j => .int (i + j)) x y H Q ∨ (∃ i j, x = .str i ∧ y = .str j ∧ i.length + j.length ≤ sizeLine ∧ Q (.str (i ++ j)) H)
theorem iop_addA : OpR X (inplaceOp .Add) rIaddA := iop_add.or iop_add_str
theorem l_add {K : PySem.W.Frag} {fa : Fa} : OpL K fa (rAddA K) oAdd := fun c ad F H v1 v2 w1 w2 Q E R r1 r2 P => by
  unfold oAdd at P
  split at P
  · rename_i i j e1 e2
    rw [R.int r1 e1, R.int r2 e2]
    exact .inl ⟨i, j, rfl, rfl, P.now R _ (.int _)⟩
  · rename_i a b e1 e2
    rw [R.str r1 e1, R.str r2 e2]
    split at P
    · rename_i h
      exact .inr (.inl ⟨a, b, rfl, rfl, small (of_decide_eq_true h), P.now R _ (.str _)⟩)
    · exact P.elim
  · rename_i xs ys e1 e2
    obtain ⟨a, vs, h1, h2, h3⟩ := R.lst r1 e1
    obtain ⟨b, ws, g1, g2, g3⟩ := R.lst r2 e2
    obtain ⟨hz, hq⟩ := mkL_ok P R (h3.append g3)
    exact .inr (.inr (.inl ⟨a, b, vs, ws, h1, g1, h2, g2, by simpa using hz, hq⟩))
  · rename_i xs ys e1 e2
    obtain ⟨a, vs, h1, h2, h3⟩ := R.tup r1 e1
    obtain ⟨b, ws, g1, g2, g3⟩ := R.tup r2 e2
    have ok := mkT_ok P R (h3.append g3)
    have now : ∀ {x : Addr} {us : List V}, SqT K H x us → us = vs ++ ws → (∀ a', SqT K F a' us → Q (.ref a') H) → True := fun _ _ _ => trivial
    unfold mkT at P
    split at P
    · rename_i hl
      refine .inr (.inr (.inr ⟨a, b, vs, ws, h1, g1, h2, g2, by simpa using ok.1, fun e => ?_, fun _ e => ?_, fun _ _ => ok.2⟩))
      · subst e
        cases h3
        exact P.now R _ (by rw [← g1]; exact (by
          have := r2
          cases w2 with
          | d x => cases e2; simpa using this
          | c k =>
            obtain ⟨a2, q1, q2⟩ := this
            have e2' : (c[k]?).map O.val = some (.tup ys) := e2
            cases q : c[k]? with
            | none => rw [q] at e2'; cases e2'
            | some o =>
              rw [q] at e2'
              have ok2 := R.cell k o a2 q q1
              cases o with
              | lst _ => cases e2'
              | dic _ => cases e2'
              | frz d =>
                simp [O.val] at e2'
                subst e2'
                rw [q2]
                exact ok2
          | raw _ => exact (nomatch e2)
          | x _ _ => exact (nomatch e2) : RW K fa ad F v2 (.d (.tup ys))))
      · subst e
        cases g3
        rw [List.append_nil] at P
        exact P.now R _ (by rw [← h1]; exact (by
          have := r1
          cases w1 with
          | d x => cases e1; simpa using this
          | c k =>
            obtain ⟨a2, q1, q2⟩ := this
            have e2' : (c[k]?).map O.val = some (.tup xs) := e1
            cases q : c[k]? with
            | none => rw [q] at e2'; cases e2'
            | some o =>
              rw [q] at e2'
              have ok2 := R.cell k o a2 q q1
              cases o with
              | lst _ => cases e2'
              | dic _ => cases e2'
              | frz d =>
                simp [O.val] at e2'
                subst e2'
                rw [q2]
                exact ok2
          | raw _ => exact (nomatch e1)
          | x _ _ => exact (nomatch e1) : RW K fa ad F v1 (.d (.tup xs))))
    · exact P.elim
  · exact P.elim
def oIadd : W → W → Cells → Out W := fun w1 w2 c => match w1, w2 with
  | .d (.int i), .d (.int j) => .ok (.d (.int (i + j))) c
  | .d (.str a), .d (.str b) => if smL (a.length + b.length) = true then .ok (.d (.str (a ++ b))) c else .bad
  | _, _ => .bad
theorem l_iadd {K : PySem.W.Frag} {fa : Fa} : OpL K fa rIaddA oIadd := fun c ad F H v1 v2 w1 w2 Q E R r1 r2 P => by
  unfold oIadd at P
  split at P
  · rename_i i j
    rw [r1.intD, r2.intD]
    exact .inl ⟨i, j, rfl, rfl, P.now R _ (.int _)⟩
  · rename_i a b
    rw [r1.strD, r2.strD]
    split at P
    · rename_i h
      exact .inr ⟨a, b, rfl, rfl, small (of_decide_eq_true h), P.now R _ (.str _)⟩
    · exact P.elim
  · exact P.elim
theorem ip_of {op : Operator} {r : R2} (h : OpR X (inplaceOp op) r) : PIp X op r := h
end
end Pm

/-! Pm6: comparisons of data, membership, subscripts, slices, built-ins. -/
namespace Pm
open PySem L2 PyProof.Rows
/-! ### == -/
mutual
def toPy : D → Option PyData
  | .non => some .none
  | .bl b => some (.bool b)
  | .int i => some (.int i)
  | .str s => some (.str s)
  | .lst xs => (toPyA xs).map .list
  | .tup xs => (toPyA xs).map .tuple
  | _ => none
def toPyA : List D → Option (List PyData)
  | [] => some []
  | x :: xs => match toPy x, toPyA xs with
    | some y, some ys => some (y :: ys)
    | _, _ => none
end
section
variable {K : PySem.W.Frag} {fa : Fa}
mutual
theorem Rp.dp {F H : Hp} (e : Same F H) : ∀ {d : D} {v : V} {p : PyData}, Rp K fa F v d → toPy d = some p → Dp K H v p
  | .non, _, _, .non, h => by cases h; exact .non
  | .bl b, _, _, .bl _, h => by cases h; exact .bl b
  | .int i, _, _, .int _, h => by cases h; exact .int i
  | .str s, _, _, .str _, h => by cases h; exact .str s
  | .lst xs, _, p, .lst s r, h => by
    simp only [toPy] at h
    cases q : toPyA xs with
    | none => rw [q] at h; cases h
    | some ps => rw [q] at h; cases h; exact .lst (.inl (rd_mono e s)) (RpA.dp e r q)
  | .tup xs, _, p, .tup s r, h => by
    simp only [toPy] at h
    cases q : toPyA xs with
    | none => rw [q] at h; cases h
    | some ps => rw [q] at h; cases h; exact .tup (sqT_mono e s) (RpA.dp e r q)
  | .fn _, _, _, _, h => by simp [toPy] at h
  | .ty _, _, _, _, h => by simp [toPy] at h
  | .dic _, _, _, _, h => by simp [toPy] at h
theorem RpA.dp {F H : Hp} (e : Same F H) : ∀ {ds : List D} {vs : List V} {ps : List PyData}, RpA K fa F vs ds → toPyA ds = some ps → DpAll K H vs ps
  | [], _, _, .nil, h => by cases h; exact .nil
  | d :: ds, _, ps, .cons r rs, h => by
    simp only [toPyA] at h
    cases q : toPy d with
    | none => rw [q] at h; cases h
    | some y =>
      cases q2 : toPyA ds with
      | none => rw [q, q2] at h; cases h
      | some ys => rw [q, q2] at h; cases h; exact .cons (Rp.dp e r q) (RpA.dp e rs q2)
end
theorem Rel.dp {c : Cells} {ad : List Addr} {F H : Hp} {v : V} {w : W} {d : D} {p : PyData} (R : Rel K fa c ad F H) (r : RW K fa ad F v w) (e : Pm.rd c w = some d) (h : toPy d = some p) : Dp K H v p := by
  rcases R.rd r e with ⟨a, ds, vs, rfl, rfl, h3, h4⟩ | ⟨a, ds, vs, rfl, rfl, h3, h4⟩ | q
  · simp only [toPy] at h
    cases q : toPyA ds with
    | none => rw [q] at h; cases h
    | some ps => rw [q] at h; cases h; exact .lst (.inl h3) (RpA.dp R.le h4 q)
  · simp [toPy] at h
  · exact Rp.dp R.le q h
end
/-- == of two values that are data; texts, numbers, truths straight -/
def eqD : D → D → Option Bool
  | .str a, .str b => some (decide (a = b))
  | .int a, .int b => some (decide (a = b))
  | .bl a, .bl b => some (decide (a = b))
  | d, e => match toPy d, toPy e with
    | some p, some q => if (SeqAt.shaped p && SeqAt.shaped q) = true then some (PyData.eqv p q) else none
    | _, _ => none
def oEq : W → W → Cells → Out W := fun w1 w2 c => match rd c w1, rd c w2 with
  | some d, some e => match eqD d e with
    | some b => .ok (.d (.bl b)) c
    | none => .bad
  | _, _ => .bad
def oNe : W → W → Cells → Out W := fun w1 w2 c => match rd c w1, rd c w2 with
  | some d, some e => match eqD d e with
    | some b => .ok (.d (.bl (!b))) c
    | none => .bad
  | _, _ => .bad
section
variable {X : Cx} {K : PySem.W.Frag} {fa : Fa}
def rEqA (K : PySem.W.Frag) : R2 := fun x y H Q => rEq x y H Q ∨ rEqD K x y H Q
def rNeA (K : PySem.W.Frag) : R2 := fun x y H Q => rNe x y H Q ∨ rNeD K x y H Q
theorem op_eqA (hu : X.A.units + 64 < cLine) : OpR X (compareOp .Eq) (rEqA X.K) := op_eq.or (op_eqD hu)
theorem op_neA (hu : X.A.units + 64 < cLine) : OpR X (compareOp .NotEq) (rNeA X.K) := op_ne.or (op_neD hu)
theorem eqD_ok {c : Cells} {ad : List Addr} {F H : Hp} {v1 v2 : V} {w1 w2 : W} {d e : D} {b : Bool} (R : Rel K fa c ad F H) (r1 : RW K fa ad F v1 w1) (r2 : RW K fa ad F v2 w2) (h1 : rd c w1 = some d) (h2 : rd c w2 = some e) (h : eqD d e = some b) :
    (scal v1 v2 = true ∧ decide (v1 = v2) = b) ∨ ∃ p q, Dp K H v1 p ∧ Dp K H v2 q ∧ SeqAt.shaped p = true ∧ SeqAt.shaped q = true ∧ PyData.eqv p q = b := by
  unfold eqD at h
  split at h
  · rename_i a b'
    rw [R.str r1 h1, R.str r2 h2]
    injection h with h
    subst h
    exact .inl ⟨rfl, by simp⟩
  · rename_i a b'
    rw [R.int r1 h1, R.int r2 h2]
    injection h with h
    subst h
    exact .inl ⟨rfl, by simp⟩
  · rename_i a b'
    rw [R.bl r1 h1, R.bl r2 h2]
    injection h with h
    subst h
    exact .inl ⟨rfl, by simp⟩
  · split at h
    · rename_i p q e1 e2
      split at h
      · rename_i hs
        injection h with h
        rw [Bool.and_eq_true] at hs
        exact .inr ⟨p, q, R.dp r1 h1 e1, R.dp r2 h2 e2, hs.1, hs.2, h⟩
      · cases h
    · cases h
theorem l_eq : OpL K fa (rEqA K) oEq := fun c ad F H v1 v2 w1 w2 Q E R r1 r2 P => by
  unfold oEq at P
  split at P
  · rename_i d e h1 h2
    split at P
    · rename_i b hb
      have q := P.now R _ (.bl b)
      rcases eqD_ok R r1 r2 h1 h2 hb with ⟨s1, s2⟩ | ⟨p, q', a1, a2, a3, a4, a5⟩
      · exact .inl ⟨s1, by rw [s2]; exact q⟩
      · exact .inr ⟨p, q', a1, a2, a3, a4, by rw [a5]; exact q⟩
    · exact P.elim
  · exact P.elim
theorem l_ne : OpL K fa (rNeA K) oNe := fun c ad F H v1 v2 w1 w2 Q E R r1 r2 P => by
  unfold oNe at P
  split at P
  · rename_i d e h1 h2
    split at P
    · rename_i b hb
      have q := P.now R _ (.bl (!b))
      rcases eqD_ok R r1 r2 h1 h2 hb with ⟨s1, s2⟩ | ⟨p, q', a1, a2, a3, a4, a5⟩
      · exact .inl ⟨s1, by rw [s2]; exact q⟩
      · exact .inr ⟨p, q', a1, a2, a3, a4, by rw [a5]; exact q⟩
    · exact P.elim
  · exact P.elim
/-! ### in -/
def flatD : D → Bool
  | .non => true
  | .bl _ => true
  | .int _ => true
  | .str _ => true
  | _ => false
def eqF : D → D → Bool
  | .non, .non => true
  | .bl a, .bl b => a == b
  | .bl a, .int b => (if a then 1 else 0) == b
  | .int a, .bl b => a == (if b then 1 else 0)
  | .int a, .int b => a == b
  | .str a, .str b => a == b
  | _, _ => false
theorem flat_ok {F : Hp} {v : V} {d : D} (r : Rp K fa F v d) (h : flatD d = true) : flatV v = true := by
  cases r <;> first | rfl | cases h
theorem eqF_ok {F : Hp} {v u : V} {d e : D} (r : Rp K fa F v d) (r2 : Rp K fa F u e) (h : flatD d = true) (h2 : flatD e = true) : eqV v u = eqF d e := by
  cases r <;> first | cases h | skip
  all_goals cases r2 <;> first | cases h2 | skip
  all_goals rfl
theorem inV_ok {F : Hp} {v : V} {d : D} (r : Rp K fa F v d) (h : flatD d = true) : ∀ {vs : List V} {ds : List D}, RpA K fa F vs ds → ds.all flatD = true → vs.all flatV = true ∧ inV v vs = ds.any fun y => eqF y d
  | _, _, .nil, _ => ⟨rfl, rfl⟩
  | _, _, .cons q qs, ha => by
    rw [List.all_cons, Bool.and_eq_true] at ha
    obtain ⟨i1, i2⟩ := inV_ok r h qs ha.2
    refine ⟨by rw [List.all_cons, flat_ok q ha.1, i1]; rfl, ?_⟩
    unfold inV at i2 ⊢
    rw [List.any_cons, List.any_cons, i2, eqF_ok q r ha.1 h]
def oIn (neg : Bool) : W → W → Cells → Out W := fun w1 w2 c => match rd c w1, rd c w2 with
  | some (.str y), some (.str z) => .ok (.d (.bl (let k := !(Builtin.Str.occurrences z y 0 z.length 1).isEmpty; if neg then !k else k))) c
  | some d, some (.lst ds) => if (flatD d && ds.all flatD) = true then .ok (.d (.bl (let k := ds.any fun y => eqF y d; if neg then !k else k))) c else .bad
  | some d, some (.tup ds) => if (flatD d && ds.all flatD) = true then .ok (.d (.bl (let k := ds.any fun y => eqF y d; if neg then !k else k))) c else .bad
  | _, _ => .bad
def rInA (K : PySem.W.Frag) (neg : Bool) : R2 := fun x y H Q => (∃ i j, x = .str i ∧ y = .str j ∧ Q (.bl (if neg then !(!(Builtin.Str.occurrences j i 0 j.length 1).isEmpty) else !(Builtin.Str.occurrences j i 0 j.length 1).isEmpty)) H) ∨ rIn K neg x y H Q
theorem op_inA : OpR X (compareOp .In) (rInA X.K false) := op_in_str.or op_in_seq
theorem op_ninA : OpR X (compareOp .NotIn) (rInA X.K true) := op_notin_str.or op_notIn_seq
theorem Rel.flat {c : Cells} {ad : List Addr} {F H : Hp} {v : V} {w : W} {d : D} (R : Rel K fa c ad F H) (r : RW K fa ad F v w) (e : Pm.rd c w = some d) (h : flatD d = true) : Rp K fa F v d := by
  rcases R.rd r e with ⟨a, ds, vs, rfl, rfl, h3, h4⟩ | ⟨a, ds, vs, rfl, rfl, h3, h4⟩ | q
  · cases h
  · cases h
  · exact q
theorem l_in (neg : Bool) : OpL K fa (rInA K neg) (oIn neg) := fun c ad F H v1 v2 w1 w2 Q E R r1 r2 P => by
  unfold oIn at P
  split at P
  · rename_i y z h1 h2
    exact .inl ⟨y, z, R.str r1 h1, R.str r2 h2, P.now R _ (.bl _)⟩
  · rename_i d ds h1 h2
    obtain ⟨a, vs, e1, e2, e3⟩ := R.lst r2 h2
    split at P
    · rename_i hf
      rw [Bool.and_eq_true] at hf
      have rp := R.flat r1 h1 hf.1
      obtain ⟨i1, i2⟩ := inV_ok rp hf.1 e3 hf.2
      refine .inr ⟨a, vs, e1, .inl (.inl e2), flat_ok rp hf.1, i1, ?_⟩
      rw [i2]
      exact P.now R _ (.bl _)
    · exact P.elim
  · rename_i d ds h1 h2
    obtain ⟨a, vs, e1, e2, e3⟩ := R.tup r2 h2
    split at P
    · rename_i hf
      rw [Bool.and_eq_true] at hf
      have rp := R.flat r1 h1 hf.1
      obtain ⟨i1, i2⟩ := inV_ok rp hf.1 e3 hf.2
      refine .inr ⟨a, vs, e1, .inr e2, flat_ok rp hf.1, i1, ?_⟩
      rw [i2]
      exact P.now R _ (.bl _)
    · exact P.elim
  · exact P.elim
/-! ### a[i] -/
def oIx : W → W → Cells → Out W := fun w1 w2 c => match rd c w1, w2 with
  | some (.lst ds), .d (.int i) => match atI ds i with
    | some d => .ok (.d d) c
    | none => .bad
  | some (.tup ds), .d (.int i) => match atI ds i with
    | some d => .ok (.d d) c
    | none => .bad
  | some (.str z), .d (.int i) => if smL z.length = true then match atI z.cps.toList i with
    | some x => .ok (.d (.str ⟨#[x]⟩)) c
    | none => .bad else .bad
  | some (.arr xs), .d (.int i) => match atI xs i with
    | some x => .ok (.d (.int x)) c
    | none => .bad
  | _, _ => .bad
theorem Rel.arr {c : Cells} {ad : List Addr} {F H : Hp} {v : V} {w : W} {xs : List Int} (R : Rel K fa c ad F H) (r : RW K fa ad F v w) (e : Pm.rd c w = some (.arr xs)) : ∃ a, v = .ref a ∧ SqL K H a (xs.map V.int) := by
  rcases R.rd r e with ⟨a, ds', vs, h1, _⟩ | ⟨a, ds', vs, h1, _⟩ | h
  · cases h1
  · cases h1
  · cases h with
    | arr s => exact ⟨_, rfl, sqL_mono R.le s⟩
theorem at_map {xs : List Int} {i : Int} {x : Int} (h : atI xs i = some x) : atI (xs.map V.int) i = some (.int x) := by
  unfold atI at h ⊢
  rw [List.length_map]
  cases q : ixN xs.length i with
  | none => rw [q] at h; cases h
  | some j =>
    rw [q] at h
    show (xs.map V.int)[j]? = _
    rw [List.getElem?_map, (show xs[j]? = some x from h)]
    rfl
theorem at_ok {F : Hp} {vs : List V} {ds : List D} {i : Int} {d : D} (r : RpA K fa F vs ds) (h : atI ds i = some d) : ∃ v, atI vs i = some v ∧ Rp K fa F v d := by
  unfold atI at h ⊢
  rw [r.length]
  cases q : ixN ds.length i with
  | none => rw [q] at h; cases h
  | some j => rw [q] at h; exact r.get h
theorem l_ix : OpL K fa (rIx K) oIx := fun c ad F H v1 v2 w1 w2 Q E R r1 r2 P => by
  unfold oIx at P
  split at P
  · rename_i ds i h1
    obtain ⟨a, vs, e1, e2, e3⟩ := R.lst r1 h1
    split at P
    · rename_i d hd
      obtain ⟨v, g1, g2⟩ := at_ok e3 hd
      exact .inl ⟨a, vs, i, v, e1, r2.intD, .inl e2, g1, P.now R v g2⟩
    · exact P.elim
  · rename_i ds i h1
    obtain ⟨a, vs, e1, e2, e3⟩ := R.tup r1 h1
    split at P
    · rename_i d hd
      obtain ⟨v, g1, g2⟩ := at_ok e3 hd
      exact .inr (.inl ⟨a, vs, i, v, e1, r2.intD, e2, g1, P.now R v g2⟩)
    · exact P.elim
  · rename_i z i h1
    split at P
    · rename_i hz
      split at P
      · rename_i x hx
        exact .inr (.inr ⟨z, i, x, R.str r1 h1, r2.intD, small (of_decide_eq_true hz), hx, P.now R _ (.str _)⟩)
      · exact P.elim
    · exact P.elim
  · rename_i xs i h1
    obtain ⟨a, e1, e2⟩ := R.arr r1 h1
    split at P
    · rename_i x hx
      exact .inl ⟨a, _, i, .int x, e1, r2.intD, e2, at_map hx, P.now R _ (.int _)⟩
    · exact P.elim
  · exact P.elim
end
/-! ### slices -/
section
variable {X : Cx} {fa : Fa} {Wx : WX} {pos p2 : Pos}
def tOp1 (K : PySem.W.Frag) (fa : Fa) (Wx : WX) (f : Sl → Cells → Out (Option Int)) : TO := fun σ H Q => ∃ sl c ad F, SlOk K fa ad F σ sl ∧ Rel K fa c ad F H ∧
  Post K fa (fun cls d H' => Wx cls d σ H') ad F (fun o ad' F' H' => Q o H') (f sl c)
def pNone : Sl → Cells → Out (Option Int) := fun _ c => .ok none c
def pSome (f : Den) : Sl → Cells → Out (Option Int) := fun sl c => (f sl c).bind fun w c1 => match w with
  | .d (.int i) => .ok (some i) c1
  | _ => .bad
theorem PO.imp {e : Option Expr} {t t' : TO} (h : PO X e t) (i : ∀ σ H Q, t' σ H Q → t σ H Q) : PO X e t' := ⟨fun pins s σ H Q I q => h.run pins s σ H Q I (i σ H Q q)⟩
theorem so_none : PO X none (tOp1 X.K fa Wx pNone) := PO.imp po_none fun σ H Q q => by
  obtain ⟨sl, c, ad, F, ok, R, P⟩ := q
  exact P.now R
theorem so_some {e : Expr} {f : Den} (h : SE X fa Wx e f) : PO X (some e) (tOp1 X.K fa Wx (pSome f)) := PO.imp (po_some h) fun σ H Q q => by
  obtain ⟨sl, c, ad, F, ok, R, P⟩ := q
  refine ⟨sl, c, ad, F, ok, R, P.bind fun w c1 H1 F1 ad1 s p R1 P1 v rv => ?_⟩
  split at P1
  · rename_i i
    exact ⟨i, rv.intD, P1.now R1⟩
  · exact P1.elim
def cutD (ds : List D) (lo hi : Option Int) : List D := (ds.drop (HT.sIx ds.length 0 lo)).take (HT.sIx ds.length ds.length hi - HT.sIx ds.length 0 lo)
def oSl : W → Option Int → Option Int → Cells → Out W := fun w lo hi c => match rd c w with
  | some (.lst ds) => mkL (cutD ds lo hi) c
  | some (.arr xs) => mkL (cutD (xs.map D.int) lo hi) c
  | some (.tup ds) => mkT (cutD ds lo hi) c
  | some (.str z) => if smL z.length = true then .ok (.d (.str (cutS z lo hi))) c else .bad
  | _ => .bad
def rSlAll (K : PySem.W.Frag) : V → Option Int → Option Int → Hp → VK → Prop := fun x lo hi H Q => rSlL K x lo hi H Q ∨ rSlA K x lo hi H Q ∨ rSlS x lo hi H Q
theorem sl_all : SlR X (rSlAll X.K) := sl_list.or (sl_tupA.or sl_str)
theorem cut_ok {K : PySem.W.Frag} {F : Hp} {vs : List V} {ds : List D} (r : RpA K fa F vs ds) (lo hi : Option Int) : RpA K fa F (cutV vs lo hi) (cutD ds lo hi) := by
  unfold cutV cutD
  rw [r.length]
  exact (r.drop _).take _
def dSl (f : Den) (l h : Sl → Cells → Out (Option Int)) : Den := fun sl c => (f sl c).bind fun w c1 => (l sl c1).bind fun lo c2 => (h sl c2).bind fun hi c3 => oSl w lo hi c3
theorem tupW {K : PySem.W.Frag} {c : Cells} {ad : List Addr} {F H : Hp} {v : V} {w : W} {ds : List D} (R : Rel K fa c ad F H) (r : RW K fa ad F v w) (e : rd c w = some (.tup ds)) : Rp K fa F v (.tup ds) := by
  rcases R.rd r e with ⟨a, ds', vs, h1, _⟩ | ⟨a, ds', vs, h1, _⟩ | q
  · cases h1
  · cases h1
  · exact q
theorem se_sl {e : Expr} {lo hi : Option Expr} {f : Den} {l h : Sl → Cells → Out (Option Int)} (he : SE X fa Wx e f) (hl : PO X lo (tOp1 X.K fa Wx l)) (hh : PO X hi (tOp1 X.K fa Wx h)) : SE X fa Wx (.Subscript e (.Slice lo hi none p2) pos) (dSl f l h) := PE.imp (pe_slice sl_all he hl hh) fun σ H Q q => by
  obtain ⟨sl, c, ad, F, ok, R, P⟩ := q
  refine ⟨sl, c, ad, F, ok, R, P.bind fun w c1 H1 F1 ad1 s p R1 P1 v rv => ?_⟩
  refine ⟨sl, c1, ad1, F1, ok.mono s p, R1, P1.bind fun lo c2 H2 F2 ad2 s2 p2 R2 P2 => ?_⟩
  refine ⟨sl, c2, ad2, F2, (ok.mono s p).mono s2 p2, R2, P2.bind fun hi c3 H3 F3 ad3 s3 p3 R3 P3 => ?_⟩
  have rv3 := (rv.mono s2 p2).mono s3 p3
  unfold oSl at P3
  split at P3
  · rename_i ds e
    obtain ⟨a, vs, e1, e2, e3⟩ := R3.lst rv3 e
    exact .inl ⟨a, vs, e1, .inl e2, (mkL_ok P3 R3 (cut_ok e3 lo hi)).2⟩
  · rename_i xs e
    obtain ⟨a, e1, e2⟩ := R3.arr rv3 e
    exact .inl ⟨a, _, e1, e2, (mkL_ok P3 R3 (cut_ok (RpA.ints xs) lo hi)).2⟩
  · rename_i ds e
    obtain ⟨a, vs, e1, e2, e3⟩ := R3.tup rv3 e
    refine .inr (.inl ⟨a, vs, e1, e2, fun hw => ?_, fun _ => (mkT_ok P3 R3 (cut_ok e3 lo hi)).2⟩)
    have rp := tupW R3 rv3 e
    have ec : cutD ds lo hi = ds := by
      rw [e3.length] at hw
      unfold cutD
      rw [hw.1, hw.2]
      simp
    rw [ec] at P3
    unfold mkT at P3
    split at P3
    · exact P3.now R3 _ (by rw [← e1]; exact rp)
    · exact P3.elim
  · rename_i z e
    split at P3
    · rename_i hz
      exact .inr (.inr ⟨z, R3.str rv3 e, small (of_decide_eq_true hz), P3.now R3 _ (.str _)⟩)
    · exact P3.elim
  · exact P3.elim
end
/-! ### built-ins -/
section
variable {X : Cx} {K : PySem.W.Frag} {fa : Fa}
theorem CallR.or {f : Value} {r r' : List V → Hp → VK → Prop} (h : CallR X f r) (h' : CallR X f r') : CallR X f (fun xs H Q => r xs H Q ∨ r' xs H Q) := by
  intro pins s σ H xs us Q I rv q
  rcases q with q | q
  · exact h pins s σ H xs us Q I rv q
  · exact h' pins s σ H xs us Q I rv q
def oLen : List W → Cells → Out W := fun ws c => match ws with
  | [w] => match rd c w with
    | some (.lst ds) => .ok (.d (.int ds.length)) c
    | some (.tup ds) => .ok (.d (.int ds.length)) c
    | some (.dic ds) => .ok (.d (.int ds.length)) c
    | some (.str z) => if smL z.length = true then .ok (.d (.int z.length)) c else .bad
    | some (.arr xs) => .ok (.d (.int xs.length)) c
    | _ => .bad
  | _ => .bad
def rLenA (K : PySem.W.Frag) : List V → Hp → VK → Prop := fun xs H Q => (∃ x n, xs = [x] ∧ LenV K x H n ∧ Q (.int (n : Nat)) H) ∨ ∃ a kvs, xs = [.ref a] ∧ H a = some (.dK kvs) ∧ Q (.int kvs.length) H
theorem cl_len : CallR X (.builtin "len") (rLenA X.K) := by
  refine CallR.or call_len ?_
  intro pins s σ H xs us Q I rv q
  obtain ⟨a, kvs, e, h, q⟩ := q
  refine call_lenD (X := X) pins s σ H xs us Q I rv ?_
  exact ⟨a, kvs, e, h, q⟩
theorem RpK.length {F : Hp} : ∀ {vs : List (Key × V)} {ds : List (Key × D)}, RpK K fa F vs ds → vs.length = ds.length
  | _, _, .nil => rfl
  | _, _, .cons _ r => by simp [RpK.length r]
theorem Rel.dic {c : Cells} {ad : List Addr} {F H : Hp} {v : V} {w : W} {ds : List (Key × D)} (R : Rel K fa c ad F H) (r : RW K fa ad F v w) (e : Pm.rd c w = some (.dic ds)) : ∃ a vs, v = .ref a ∧ H a = some (.dK vs) ∧ RpK K fa F vs ds := by
  rcases R.rd r e with ⟨a, ds', vs, h1, _⟩ | ⟨a, ds', vs, h1, h2, h3, h4⟩ | h
  · cases h1
  · cases h1; exact ⟨a, vs, h2, h3, h4⟩
  · cases h with
    | dic s q => exact ⟨_, _, rfl, R.le _ _ s, q⟩
theorem ll_len : CalL K fa (rLenA K) oLen := fun c ad F H vs ws Q E R r P => by
  unfold oLen at P
  split at P
  · rename_i w
    match vs, r with
    | [v], .cons r .nil =>
      split at P
      · rename_i ds e
        obtain ⟨a, us, e1, e2, e3⟩ := R.lst r e
        refine .inl ⟨v, us.length, rfl, ?_, ?_⟩
        · rw [e1]; exact .inl ⟨us, .inl e2, rfl⟩
        · rw [e3.length]; exact P.now R _ (.int _)
      · rename_i ds e
        obtain ⟨a, us, e1, e2, e3⟩ := R.tup r e
        refine .inl ⟨v, us.length, rfl, ?_, ?_⟩
        · rw [e1]; exact .inr ⟨us, e2, rfl⟩
        · rw [e3.length]; exact P.now R _ (.int _)
      · rename_i ds e
        obtain ⟨a, us, e1, e2, e3⟩ := R.dic r e
        refine .inr ⟨a, us, by rw [e1], e2, ?_⟩
        rw [e3.length]; exact P.now R _ (.int _)
      · rename_i z e
        split at P
        · rename_i hz
          refine .inl ⟨v, z.length, rfl, ?_, P.now R _ (.int _)⟩
          rw [R.str r e]
          exact ⟨small (of_decide_eq_true hz), rfl⟩
        · exact P.elim
      · rename_i xs e
        obtain ⟨a, e1, e2⟩ := R.arr r e
        refine .inl ⟨v, xs.length, rfl, ?_, P.now R _ (.int _)⟩
        rw [e1]; exact .inl ⟨_, e2, by simp⟩
      · exact P.elim
  · exact P.elim
/-- functions of one whole number, of two -/
def o1I (C : Int → Bool) (g : Int → D) : List W → Cells → Out W := fun ws c => match ws with
  | [.d (.int i)] => if C i = true then .ok (.d (g i)) c else .bad
  | _ => .bad
def o2I (C : Int → Int → Bool) (g : Int → Int → D) : List W → Cells → Out W := fun ws c => match ws with
  | [.d (.int i), .d (.int j)] => if C i j = true then .ok (.d (g i j)) c else .bad
  | _ => .bad
theorem two_ints {ad : List Addr} {F : Hp} {vs : List V} {i j : Int} (r : RWs K fa ad F vs [.d (.int i), .d (.int j)]) : vs = [.int i, .int j] := by
  match vs, r with
  | [_, _], .cons r1 (.cons r2 .nil) => rw [r1.intD, r2.intD]
theorem one_int {ad : List Addr} {F : Hp} {vs : List V} {i : Int} (r : RWs K fa ad F vs [.d (.int i)]) : vs = [.int i] := by
  match vs, r with
  | [_], .cons r1 .nil => rw [r1.intD]
def oAbs : List W → Cells → Out W := o1I (fun _ => true) fun i => .int (if i < 0 then -i else i)
theorem ll_abs : CalL K fa (fun xs H Q => ∃ i, xs = [.int i] ∧ Q (.int (if i < 0 then -i else i)) H) oAbs := fun c ad F H vs ws Q E R r P => by
  unfold oAbs o1I at P
  split at P
  · rename_i i
    exact ⟨i, one_int r, P.now R _ (.int _)⟩
  · exact P.elim
def oMax2 : List W → Cells → Out W := o2I (fun _ _ => true) fun i j => .int (if j > i then j else i)
theorem ll_max2 : CalL K fa (fun xs H Q => ∃ i j, xs = [.int i, .int j] ∧ Q (.int (if j > i then j else i)) H) oMax2 := fun c ad F H vs ws Q E R r P => by
  unfold oMax2 o2I at P
  split at P
  · rename_i i j
    exact ⟨i, j, two_ints r, P.now R _ (.int _)⟩
  · exact P.elim
def oDivmod : List W → Cells → Out W := o2I (fun i j => decide (0 < j ∧ Builtin.divisionGoesByPylong i j = false)) fun i j => .tup [.int (i / j), .int (i % j)]
theorem ll_divmod : CalL K fa (fun xs H Q => ∃ i j, xs = [.int i, .int j] ∧ CDivP i j ∧ ∀ p, H p = none → Q (.ref p) (upd H p (.tup [.int (i / j), .int (i % j)]))) oDivmod := fun c ad F H vs ws Q E R r P => by
  unfold oDivmod o2I at P
  split at P
  · rename_i i j
    split at P
    · rename_i h
      refine ⟨i, j, two_ints r, (of_decide_eq_true h : 0 < j ∧ Builtin.divisionGoesByPylong i j = false), ?_⟩
      have P2 : Post K fa E ad F (fun w ad' F' H' => ∀ v, RW K fa ad' F' v w → Q v H') (mkT [.int (i / j), .int (i % j)] c) := by
        unfold mkT; rw [if_pos (by show 2 ≤ 1000000; decide)]; exact P
      exact (mkT_ok P2 R (.cons (.int _) (.cons (.int _) .nil))).2
    · exact P.elim
  · exact P.elim
/-- int of an int, of a text -/
def oInt : List W → Cells → Out W := fun ws c => match ws with
  | [.d (.int i)] => .ok (.d (.int i)) c
  | [.d (.str a)] => match PySem.intText? a with
    | some n => if a.length ≤ 640 then .ok (.d (.int n)) c else .bad
    | none => .bad
  | _ => .bad
def rIntA : List V → Hp → VK → Prop := fun xs H Q => ((∃ i, xs = [.int i] ∧ Q (.int i) H) ∨ ∃ k, xs = [.bl k] ∧ Q (.int (if k then 1 else 0)) H) ∨ ∃ a n, xs = [.str a] ∧ PySem.intText? a = some n ∧ a.length ≤ 640 ∧ Q (.int n) H
theorem cl_int : CallR X (.type "int") rIntA := CallR.or call_int1 call_int_str
theorem ll_int : CalL K fa rIntA oInt := fun c ad F H vs ws Q E R r P => by
  unfold oInt at P
  split at P
  · rename_i i
    exact .inl (.inl ⟨i, one_int r, P.now R _ (.int _)⟩)
  · rename_i a
    split at P
    · rename_i n e
      split at P
      · rename_i hl
        match vs, r with
        | [_], .cons r1 .nil => exact .inr ⟨a, n, by rw [r1.strD], e, hl, P.now R _ (.int _)⟩
      · exact P.elim
    · exact P.elim
  · exact P.elim
/-- all of a list of truths -/
def blsD : List D → Option (List Bool)
  | [] => some []
  | .bl b :: ds => (blsD ds).map (b :: ·)
  | _ => none
theorem bls_ok {F : Hp} : ∀ {ds : List D} {vs : List V} {bs : List Bool}, RpA K fa F vs ds → blsD ds = some bs → vs = bs.map V.bl
  | [], _, _, .nil, h => by cases h; rfl
  | .bl b :: ds, _, bs, .cons (.bl _) rs, h => by
    unfold blsD at h
    cases q : blsD ds with
    | none => rw [q] at h; cases h
    | some bs' =>
      rw [q] at h
      cases h
      rw [bls_ok rs q]
      rfl
  | .non :: _, _, _, .cons _ _, h => by cases h
  | .int _ :: _, _, _, .cons _ _, h => by cases h
  | .str _ :: _, _, _, .cons _ _, h => by cases h
  | .fn _ :: _, _, _, .cons _ _, h => by cases h
  | .ty _ :: _, _, _, .cons _ _, h => by cases h
  | .lst _ :: _, _, _, .cons _ _, h => by cases h
  | .tup _ :: _, _, _, .cons _ _, h => by cases h
  | .dic _ :: _, _, _, .cons _ _, h => by cases h
  | .arr _ :: _, _, _, .cons _ _, h => by cases h
def oAll : List W → Cells → Out W := fun ws c => match ws with
  | [w] => match rd c w with
    | some (.lst ds) => match blsD ds with
      | some bs => .ok (.d (.bl (bs.all id))) c
      | none => .bad
    | _ => .bad
  | _ => .bad
theorem ll_all : CalL K fa (rAll K) oAll := fun c ad F H vs ws Q E R r P => by
  unfold oAll at P
  split at P
  · rename_i w
    split at P
    · rename_i ds e
      split at P
      · rename_i bs hb
        match vs, r with
        | [v], .cons r .nil =>
          obtain ⟨a, us, e1, e2, e3⟩ := R.lst r e
          have := bls_ok e3 hb
          subst this
          exact ⟨a, bs, by rw [e1], .inl e2, P.now R _ (.bl _)⟩
      · exact P.elim
    · exact P.elim
  · exact P.elim
/-- isinstance with a built-in class -/
def tyD : D → Option String
  | .non => some "NoneType"
  | .bl _ => some "bool"
  | .int _ => some "int"
  | .str _ => some "str"
  | .lst _ => some "list"
  | .tup _ => some "tuple"
  | .dic _ => some "dict"
  | _ => none
def isiT (a b : String) : Option Bool := kitB a b
def oIsi : List W → Cells → Out W := fun ws c => match ws with
  | [w, .d (.ty n)] => match rd c w with
    | some d => match tyD d with
      | some t => match kitB t n with
        | some b => .ok (.d (.bl b)) c
        | none => .bad
      | none => .bad
    | none => .bad
  | _ => .bad
theorem tyX_ok {c : Cells} {ad : List Addr} {F H : Hp} {v : V} {w : W} {d : D} {t : String} (R : Rel K fa c ad F H) (r : RW K fa ad F v w) (e : rd c w = some d) (h : tyD d = some t) : TyX K H v (.type t) := by
  cases d with
  | non => cases h; rw [R.non r e]; exact .base .non
  | bl b => cases h; rw [R.bl r e]; exact .base (.bl _)
  | int i => cases h; rw [R.int r e]; exact .base (.int _)
  | str s => cases h; rw [R.str r e]; exact .base (.str _)
  | fn _ => cases h
  | ty _ => cases h
  | lst ds =>
    cases h
    obtain ⟨a, us, e1, e2, e3⟩ := R.lst r e
    rw [e1]
    rcases e2 with e2 | ⟨o, e2⟩
    · exact .base (.lst e2)
    · exact .base (.frz e2)
  | tup ds =>
    cases h
    obtain ⟨a, us, e1, e2, e3⟩ := R.tup r e
    rw [e1]
    rcases e2 with (e2 | ⟨o, e2⟩) | ⟨o, its, n, e2, e4, _⟩
    · exact .base (.tup e2)
    · exact .fTuple e2
    · exact .kTuple e2 e4
  | dic ds =>
    cases h
    obtain ⟨a, us, e1, e2, e3⟩ := R.dic r e
    rw [e1]
    exact .base (.dK e2)
  | arr _ => cases h
theorem ll_isi : CalL K fa (rIsi K) oIsi := fun c ad F H vs ws Q E R r P => by
  unfold oIsi at P
  split at P
  · rename_i w n
    split at P
    · rename_i d e
      split at P
      · rename_i t ht
        split at P
        · rename_i b hb
          match vs, r with
          | [v, _], .cons r (.cons (.ty _) .nil) => exact ⟨v, .ty n, .type t, .type n, b, rfl, .ty n, tyX_ok R r e ht, kit_ty hb, P.now R _ (.bl b)⟩
        · exact P.elim
      · exact P.elim
    · exact P.elim
  · exact P.elim
theorem se_ty {fa : Fa} {Wx : WX} {x : Str} {n : String} {pos : Pos} (hm : X.mg x = none) (hv : bootBuiltins x = some (.type n)) (hg : Gl X x := by rfl) (hn : x ≠ "__name__" := by decide) (hd : (x == ("__debug__" : Str)) = false := by decide) : SE X fa Wx (.Name x pos) (dC (.ty n)) :=
  se_of_c (v := .ty n) (pe_bltn hg hm hv rfl hn hd) fun _ => .ty n
end
end Pm

/-! Pm7: list comprehensions, methods of texts and lists, stores into lists. -/
namespace Pm
open PySem L2 PyProof.Rows
/-! ### list comprehensions -/
def Out.ne {α : Type} : Out α → Out α
  | .ok a c => .ok a c
  | _ => .bad
@[simp] theorem Out.ne_ok {α : Type} (a : α) (c : Cells) : (Out.ok a c).ne = .ok a c := rfl
@[simp] theorem Out.ne_exc {α : Type} (x : Str) (pl : List (Str × D)) (c : Cells) : (Out.exc x pl c : Out α).ne = .bad := rfl
@[simp] theorem Out.ne_bad {α : Type} : (Out.bad : Out α).ne = .bad := rfl
abbrev WF : WX := fun _ _ _ _ => False
theorem takesF {X : Cx} : Takes X WF := fun _ _ ⟨_, _, _, _, _, _, _, _, _, _, _, _, _, _, _, _, w⟩ => w.elim
def wipeS (sl : Sl) : List Nat → Sl
  | [] => sl
  | v :: vs => (wipeS sl vs).set v none
/-- what the target takes -/
def setNs : List Nat → List D → Sl → Option Sl
  | [], [], sl => some sl
  | i :: is, d :: ds, sl => setNs is ds (sl.set i (some (.d d)))
  | _, _, _ => none
def storeC (one : Bool) (is : List Nat) (d : D) (sl : Sl) : Option Sl := if one then setNs is [d] sl else match d with
  | .tup ds => setNs is ds sl
  | _ => none
def loopC (item : Items) (one : Bool) (is vs : List Nat) (t : Sl → Cells → Out Bool) (f : Den) (sl : Sl) (n0 : Nat) : Nat → Nat → Cells → Out W
  | 0, _, _ => .bad
  | m + 1, i, c => match item i c with
    | none => .bad
    | some none => .ok (.c n0) (c.take (n0 + 1))
    | some (some d) => match storeC one is d (wipeS sl vs) with
      | none => .bad
      | some sl1 => (t sl1 c).ne.bind fun b c1 => if b = true then
          (f sl1 c1).ne.bind fun w c2 => (fz w c2).bind fun y c3 => match c3[n0]? with
            | some (.lst acc) => if acc.length < 1000000 then loopC item one is vs t f sl n0 m (i + 1) ((c3.set n0 (.lst (acc ++ [y]))).take (n0 + 1)) else .bad
            | _ => .bad
        else loopC item one is vs t f sl n0 m (i + 1) (c1.take (n0 + 1))
def dLc (it : Sl → Cells → Out Items) (one : Bool) (is vs : List Nat) (t : Sl → Cells → Out Bool) (f : Den) : Den := fun sl c => (it sl c).bind fun item c1 => loopC item one is vs t f sl c1.length bigN 0 (c1 ++ [.lst []])
def gNs : List Nat → TGs
  | [] => gNil
  | i :: is => gCons (gName i) (gNs is)
def gC (K : PySem.W.Frag) (one : Bool) (is : List Nat) : TG := if one then (match is with
  | [i] => gName i
  | _ => fun _ _ _ _ => False) else gTup K is.length (gNs is)
section
variable {K : PySem.W.Frag} {fa : Fa} {ad : List Addr} {F H : Hp}
theorem SlOk.wipe {σ : L2.St} {sl : Sl} (ok : SlOk K fa ad F σ sl) : ∀ vs : List Nat, SlOk K fa ad F (L2.wipe σ vs) (wipeS sl vs)
  | [] => ok
  | v :: vs => (SlOk.wipe ok vs).unset none
theorem wipe_set {σ : L2.St} {i : Nat} {x : Option V} : ∀ {vs : List Nat}, i ∈ vs → wipe (σ.set i x) vs = wipe σ vs
  | v :: vs, h => by
    unfold wipe
    by_cases e : i ∈ vs
    · rw [wipe_set e]
    · have hv : i = v := by
        rcases List.mem_cons.mp h with q | q
        · exact q
        · exact absurd q e
      subst hv
      have out : ∀ vs : List Nat, i ∉ vs → wipe (σ.set i x) vs = (wipe σ vs).set i x := by
        intro vs
        induction vs with
        | nil => intro _; rfl
        | cons u us ih =>
          intro hn
          simp only [List.mem_cons, not_or] at hn
          show (wipe (σ.set i x) us).set u none = ((wipe σ us).set u none).set i x
          rw [ih hn.2, List.set_comm _ _ (fun z => hn.1 z)]
      rw [out vs e, List.set_set]
theorem wipe_wipe {σ : L2.St} : ∀ (vs us : List Nat), (∀ i ∈ vs, i ∈ us) → wipe (wipe σ vs) us = wipe σ us
  | [], _, _ => rfl
  | v :: vs, us, h => by
    show wipe ((wipe σ vs).set v none) us = _
    rw [wipe_set (h v List.mem_cons_self), wipe_wipe vs us fun i hi => h i (List.mem_cons_of_mem _ hi)]
theorem setNs_ok {us : List Nat} {Q : L2.St → Hp → Prop} {sl' : Sl} : ∀ (is : List Nat) {ds : List D} {vs : List V} {σ : L2.St} {sl : Sl}, (∀ i ∈ is, i ∈ us) → RpA K fa F vs ds → SlOk K fa ad F σ sl → setNs is ds sl = some sl' →
    (∀ σ2, wipe σ2 us = wipe σ us → SlOk K fa ad F σ2 sl' → Q σ2 H) → gNs is vs σ H Q
  | [], [], [], σ, sl, _, .nil, ok, e, k => by
    injection e with e
    subst e
    exact ⟨rfl, k σ rfl ok⟩
  | i :: is, d :: ds, v :: vs, σ, sl, hi, .cons r rs, ok, e, k => by
    refine ⟨v, vs, rfl, ?_⟩
    refine setNs_ok is (fun j hj => hi j (List.mem_cons_of_mem _ hj)) rs (ok.set (w := .d d) r) e fun σ2 h2 o2 => k σ2 ?_ o2
    rw [h2, wipe_set (hi i List.mem_cons_self)]
  | [], _ :: _, _, _, _, _, _, _, e, _ => by cases e
  | _ :: _, [], _, _, _, _, _, _, e, _ => by cases e
theorem storeC_ok {one : Bool} {is us : List Nat} {d : D} {v : V} {σ : L2.St} {sl sl' : Sl} {c : Cells} {Q : L2.St → Hp → Prop} (hi : ∀ i ∈ is, i ∈ us) (R : Rel K fa c ad F H) (r : Rp K fa F v d) (ok : SlOk K fa ad F σ sl) (e : storeC one is d sl = some sl')
    (k : ∀ σ2, wipe σ2 us = wipe σ us → SlOk K fa ad F σ2 sl' → Q σ2 H) : gC K one is v σ H Q := by
  unfold storeC at e
  unfold gC
  cases one with
  | true =>
    rw [if_pos rfl] at e ⊢
    match is, e with
    | [i], e =>
      obtain ⟨v2, r2, h1, _, h3⟩ := setNs_ok (us := us) (Q := Q) (H := H) [i] hi (.cons r .nil) ok e k
      cases h1
      exact h3
    | [], e => cases e
    | _ :: _ :: _, e => cases e
  | false =>
    rw [if_neg Bool.false_ne_true] at e ⊢
    split at e
    · rename_i ds
      cases r with
      | @tup a vs _ s q =>
        have hl : ∀ {is : List Nat} {ds : List D} {sl : Sl}, setNs is ds sl = some sl' → is.length = ds.length := by
          intro is
          induction is with
          | nil => intro ds sl e; cases ds with
            | nil => rfl
            | cons _ _ => cases e
          | cons i is ih => intro ds sl e; cases ds with
            | nil => cases e
            | cons d ds => rw [List.length_cons, List.length_cons, ih e]
        exact ⟨a, vs, rfl, sqT_mono R.le s, by rw [q.length, hl e], setNs_ok is hi q ok e k⟩
    · cases e
end
section
variable {X : Cx} {fa : Fa} {Wx : WX} {pos : Pos}
theorem Post.ne {α : Type} {K : PySem.W.Frag} {E E' : Value → Option Addr → Hp → Prop} {ad : List Addr} {F : Hp} {Q : α → List Addr → Hp → Hp → Prop} {β : Type} {o : Out α} {f : α → Cells → Out β} {Q' : β → List Addr → Hp → Hp → Prop} {ad0 : List Addr} (P : Post K fa E ad0 F Q' (o.ne.bind f))
    (k : ∀ a c1 H1 F1 ad1, Same F F1 → ad <+: ad1 → Rel K fa c1 ad1 F1 H1 → Post K fa E ad0 F1 Q' (f a c1) → Q a ad1 F1 H1) : Post K fa E' ad F Q o := by
  cases o with
  | ok a c => exact fun H1 F1 ad1 s p R => k a c H1 F1 ad1 s p R (Post.weak (o := f a c) P s (List.prefix_refl _))
  | exc x pl c => exact P.elim
  | bad => exact P.elim
theorem lc_of {tgK : PySem.W.Frag} {it : Sl → Cells → Out Items} {one : Bool} {is vs : List Nat} {t : Sl → Cells → Out Bool} {f : Den} {σ : L2.St} {H : Hp} {Q : VK} (hi : ∀ i ∈ is, i ∈ vs) (q : tE tgK fa Wx (dLc it one is vs t f) σ H Q) :
    tLc (tI tgK fa Wx it) (gC tgK one is) (tT tgK fa WF t) (tE tgK fa WF f) vs σ H Q := by
  obtain ⟨sl, c, ad, F, ok, R, P⟩ := q
  refine ⟨sl, c, ad, F, ok, R, P.bind fun item c1 H1 F1 ad1 s p R1 P1 J hJ D hD => ?_⟩
  have ok1 := ok.mono s p
  have hn0 : ad1.length = c1.length := R1.len
  have RC := R1.newC (o := .lst []) (x := .lst []) hD fun nF => ⟨nF, [], upd_same, .nil⟩
  have p1 : ad1 <+: ad1 ++ [D] := List.prefix_append _ _
  refine ⟨fun i m H' => ∃ c2 ad2 F2, Same F1 F2 ∧ ad1 ++ [D] = ad2 ∧ Rel tgK fa c2 ad2 F2 H' ∧ Post tgK fa (fun cls d H' => Wx cls d σ H') ad2 F2 (fun w ad' F' H' => ∀ v, RW tgK fa ad' F' v w → Q v H') (loopC item one is vs t f sl c1.length m i c2),
    ⟨bigN, _, _, F1, Same.refl _, rfl, RC, Post.weak P1 (Same.refl _) p1⟩, ?_⟩
  rintro i m H2 ⟨c2, ad2, F2, s2, rfl, R2, P2⟩
  cases m with
  | zero => exact P2.elim
  | succ m =>
    have hj := hJ i c2 _ F2 H2 s2 p1 R2
    have hD2 : (ad1 ++ [D])[c1.length]? = some D := by rw [← hn0]; simp
    have cutR : ∀ {c3 : Cells} {ad3 : List Addr} {F3 H3 : Hp}, (ad1 ++ [D]) <+: ad3 → Rel tgK fa c3 ad3 F3 H3 → Rel tgK fa (c3.take (c1.length + 1)) (ad1 ++ [D]) F3 H3 := fun {c3 ad3 F3 H3} p3 R3 => by
      have := R3.take (c1.length + 1)
      rwa [take_pre p3 (by simp [hn0])] at this
    unfold loopC at P2
    revert hj P2
    cases item i c2 with
    | none => exact fun _ P2 => P2.elim
    | some o =>
      cases o with
      | none =>
        intro hj P2
        exact .inl ⟨hj, P2 H2 F2 _ (Same.refl _) (List.prefix_refl _) (cutR (List.prefix_refl _) R2) (.ref D) ⟨D, hD2, rfl⟩⟩
      | some d =>
        intro hj P2
        dsimp only at hj P2
        refine .inr ⟨hj.1, fun H' => ∃ c2 F3, Same F1 F3 ∧ Rel tgK fa c2 (ad1 ++ [D]) F3 H' ∧ Post tgK fa (fun cls d H' => Wx cls d σ H') (ad1 ++ [D]) F3 (fun w ad' F' H' => ∀ v, RW tgK fa ad' F' v w → Q v H') (loopC item one is vs t f sl c1.length m (i + 1) c2),
          fun H' ⟨c3, F3, h1, h2, h3⟩ => ⟨m, Nat.lt_succ_self m, c3, _, F3, h1, rfl, h2, h3⟩, fun x H' hy => ?_⟩
        obtain ⟨F3, s3, R3, r3⟩ := hj.2 x H' hy
        have P3 := Post.weak (o := _) P2 s3 (List.prefix_refl _)
        revert P3
        cases hs : storeC one is d (wipeS sl vs) with
        | none => exact fun P3 => P3.elim
        | some sl1 =>
          intro P3
          have ok3 := ((ok1.mono s2 p1).mono s3 (List.prefix_refl _)).wipe vs
          refine storeC_ok (us := vs) hi R3 r3 ok3 hs fun σ2 hw ok4 => ⟨by rw [hw, wipe_wipe vs vs fun _ h => h], sl1, c2, _, F3, ok4, R3, ?_⟩
          refine Post.ne P3 fun b c4 H4 F4 ad4 s4 p4 R4 P4 => ?_
          cases b with
          | false =>
            rw [if_neg Bool.false_ne_true] at P4 ⊢
            have P5 : Post tgK fa (fun cls d H' => Wx cls d σ H') (ad1 ++ [D]) F4 (fun w ad' F' H' => ∀ v, RW tgK fa ad' F' v w → Q v H') (loopC item one is vs t f sl c1.length m (i + 1) (c4.take (c1.length + 1))) := P4
            exact ⟨_, F4, (s2.trans s3).trans s4, cutR p4 R4, P5⟩
          | true =>
            rw [if_pos rfl] at P4 ⊢
            refine ⟨sl1, c4, ad4, F4, ok4.mono s4 p4, R4, Post.ne P4 fun w c5 H5 F5 ad5 s5 p5 R5 P5 v rv => ?_⟩
            obtain ⟨y, c6, F6, s6, R6, r6, _, P6⟩ := P5.fz R5 rv
            have pA := p4.trans p5
            split at P6
            · rename_i acc hacc
              obtain ⟨a6, h6, nF6, us, hus, rus⟩ := R6.cell_at hacc
              have ea : a6 = D := by
                have := pre_get pA hD2
                rw [this] at h6
                exact (Option.some.inj h6).symm
              subst ea
              split at P6
              · rename_i hlen
                refine ⟨us, hus, by rw [rus.length]; exact Nat.lt_of_lt_of_le hlen (by decide), ?_⟩
                have RW6 := R6.write (o := .lst (us ++ [v])) (x := .lst (acc ++ [y])) h6 nF6 ⟨nF6, _, upd_same, rus.append (.cons r6 .nil)⟩
                exact ⟨_, F6, (((s2.trans s3).trans s4).trans s5).trans s6, cutR pA RW6, P6⟩
              · exact P6.elim
            · exact P6.elim
abbrev Blk (X : Cx) (scope : Scope) (Φ : Cx → Prop) : Prop := ∀ (s : Shared) (H : Hp) (C : Addr) (cl : List (Str × Addr)) (fp : List Addr), Φ (X.blk s H scope (compEnvC scope cl C X.env) fp)
theorem se_lc {elt tg iter : Expr} {ifs : List Expr} {scope : Scope} {own : List (Str × Nat)} {it : Sl → Cells → Out Items} {one : Bool} {is : List Nat} {t : Sl → Cells → Out Bool} {f : Den} (hc : X.calm = true) (hN : X.N.Nodup) (hi : SI X fa Wx tg iter it) (ok : BlkOk X.N X.env.scope scope own)
    (his : ∀ i ∈ is, i ∈ own.map (·.2)) (hg : Blk X scope fun Y => PG Y tg (gC X.K one is)) (ht : Blk X scope fun Y => PTs Y ifs (tT X.K fa WF t)) (he : Blk X scope fun Y => PE Y elt (tE X.K fa WF f)) (hs : ∀ x, foldedSetIterable iter X.env x = pure x := by intro _; rfl) :
    SE X fa Wx (.ListComp elt [⟨tg, iter, ifs, 0⟩] scope pos) (dLc it one is (own.map (·.2)) t f) := PE.imp (pe_lc hc hN hi ok hg ht he hs) fun σ H Q q => lc_of his q
theorem ss_setLc (i : Nat) {y : Str} {py spos : Pos} {elt tg iter : Expr} {ifs : List Expr} {scope : Scope} {own : List (Str × Nat)} {it : Sl → Cells → Out Items} {one : Bool} {is : List Nat} {t : Sl → Cells → Out Bool} {f : Den} (hc : X.calm = true) (hN : X.N.Nodup) (hi : SI X fa Wx tg iter it) (ok : BlkOk X.N X.env.scope scope own)
    (his : ∀ i ∈ is, i ∈ own.map (·.2)) (hg : Blk X scope fun Y => PG Y tg (gC X.K one is)) (ht : Blk X scope fun Y => PTs Y ifs (tT X.K fa WF t)) (he : Blk X scope fun Y => PE Y elt (tE X.K fa WF f))
    (hsw : swapsWith (.ListComp elt [⟨tg, iter, ifs, 0⟩] scope pos) (some (.Name y py)) spos.line X.env = pure true) (hy : X.N[i]? = some y := by rfl) (hyl : X.env.scope.names.lookup y = some .local := by rfl) (hs : ∀ x, foldedSetIterable iter X.env x = pure x := by intro _; rfl) :
    SS X fa Wx (.Assign [.Name y py] (.ListComp elt [⟨tg, iter, ifs, 0⟩] scope pos) spos) (sSet i (dLc it one is (own.map (·.2)) t f)) := PS.imp (ps_setLc hc hN hy hyl hsw hi ok hg ht he hs) fun D σ H q => by
  obtain ⟨sl, c, ad, F, ok, R, P⟩ := q
  refine lc_of (Wx := Wx) (fa := fa) (Q := fun v H1 => gName i v σ H1 D.nx) his ⟨sl, c, ad, F, ok, R, Post.st ok P fun w c1 H1 F1 ad1 s p R1 P1 v rv => P1 H1 F1 ad1 _ (Same.refl _) (List.prefix_refl _) R1 ((ok.mono s p).set rv)⟩
def tYesD : Sl → Cells → Out Bool := fun _ c => .ok true c
theorem sts_nil : PTs X [] (tT X.K fa Wx tYesD) := ⟨fun pins s σ H Q I q => pts_nil.run pins s σ H Q I (by
  obtain ⟨sl, c, ad, F, ok, R, P⟩ := q
  exact P.now R)⟩
theorem sts_one {e : Expr} {t : Sl → Cells → Out Bool} (h : STt X fa Wx e t) : PTs X [e] (tT X.K fa Wx t) := pts_one h
/-- the targets of a comprehension -/
theorem gc_name (i : Nat) {x : Str} (hN : X.N.Nodup) (hi : X.N[i]? = some x := by rfl) (hx : Loc X.env.scope x := by first | exact .inl rfl | exact .inr rfl)
    (hf : X.fn x = true ∨ X.env.scope.names.lookup x = some .local := by first | exact .inl rfl | exact .inr rfl) : PG X (.Name x pos) (gC X.K true [i]) := pg_name hN hi hx hf
theorem gns_nil : PGs X [] (gNs []) := pgs_nil
theorem gns_cons (i : Nat) {x : Str} {es : List Expr} {is : List Nat} (hN : X.N.Nodup) (r : PGs X es (gNs is)) (hi : X.N[i]? = some x := by rfl) (hx : Loc X.env.scope x := by first | exact .inl rfl | exact .inr rfl)
    (hf : X.fn x = true ∨ X.env.scope.names.lookup x = some .local := by first | exact .inl rfl | exact .inr rfl) (hs : (assignEach (.Name x pos :: es) X.env).map (·.2) = assign (.Name x pos) X.env :: (assignEach es X.env).map (·.2) := by rfl) : PGs X (.Name x pos :: es) (gNs (i :: is)) :=
  pgs_cons (pg_name hN hi hx hf) r hs
theorem gc_tup {es : List Expr} {k : Nat} {is : List Nat} (hc : X.calm = true) (h : PGs X es (gNs is)) (hn : (assignEach es X.env).length = is.length := by rfl) (hst : (assignEach es X.env).findIdx? (·.1) = none := by rfl) : PG X (.Tuple es k pos) (gC X.K false is) := pg_tup hc h hn hst
end
/-! ### methods of texts -/
section
variable {X : Cx} {K : PySem.W.Frag} {fa : Fa}
def oS0 (g : Str → D) : W → List W → Cells → Out W := fun w ws c => match rd c w, ws with
  | some (.str a), [] => .ok (.d (g a)) c
  | _, _ => .bad
theorem m_s0 {g : Str → D} {gv : Str → V} (hg : ∀ a F, Rp K fa F (gv a) (g a)) : MtL K fa (fun x xs H Q => ∃ a, x = .str a ∧ xs = [] ∧ True ∧ Q (gv a) H) (oS0 g) := fun c ad F H v w vs ws Q E R r rs P => by
  unfold oS0 at P
  split at P
  · rename_i a e
    cases rs
    exact ⟨a, R.str r e, rfl, trivial, P.now R _ (hg a F)⟩
  · exact P.elim
def oSI (g : Str → Str → Int → D) : W → List W → Cells → Out W := fun w ws c => match rd c w, ws with
  | some (.str a), [.d (.str b), .d (.int i)] => .ok (.d (g a b i)) c
  | _, _ => .bad
theorem m_sI {g : Str → Str → Int → D} {gv : Str → Str → Int → V} (hg : ∀ a b i F, Rp K fa F (gv a b i) (g a b i)) : MtL K fa (fun x xs H Q => ∃ (a b : Str) (i : Int), x = .str a ∧ xs = [.str b, .int i] ∧ Q (gv a b i) H) (oSI g) := fun c ad F H v w vs ws Q E R r rs P => by
  unfold oSI at P
  split at P
  · rename_i a b i e
    match vs, rs with
    | [_, _], .cons r1 (.cons r2 .nil) => exact ⟨a, b, i, R.str r e, by rw [r1.strD, r2.intD], P.now R _ (hg a b i F)⟩
  · exact P.elim
def oSplit : W → List W → Cells → Out W := fun w ws c => match rd c w, ws with
  | some (.str a), [.d (.str b)] => if (decide (b.length ≠ 0) && smL (a.length + 2)) = true then mkL ((Txt.split a b).map D.str) c else .bad
  | _, _ => .bad
theorem m_split : MtL K fa (fun x xs H Q => ∃ a b, x = .str a ∧ xs = [.str b] ∧ (b.length == 0) = false ∧ a.length + 2 ≤ sizeLine ∧ rNewStrs (Txt.split a b) H Q) oSplit := fun c ad F H v w vs ws Q E R r rs P => by
  unfold oSplit at P
  split at P
  · rename_i a b e
    split at P
    · rename_i h
      rw [Bool.and_eq_true] at h
      match vs, rs with
      | [_], .cons r1 .nil => exact ⟨a, b, R.str r e, by rw [r1.strD], by simpa using of_decide_eq_true h.1, small (of_decide_eq_true h.2), (mkL_ok P R (RpA.strs _)).2⟩
    · exact P.elim
  · exact P.elim
/-! ### lists that change -/
def oAppend : W → List W → Cells → Out W := fun w ws c => match w, ws with
  | .c k, [x] => (fz x c).bind fun d c1 => match c1[k]? with
    | some (.lst ds) => if ds.length < 1000000 then .ok (.d .non) (c1.set k (.lst (ds ++ [d]))) else .bad
    | _ => .bad
  | _, _ => .bad
theorem m_append : MtL K fa rAppend oAppend := fun c ad F H v w vs ws Q E R r rs P => by
  unfold oAppend at P
  split at P
  · rename_i k x
    match vs, rs with
    | [u], .cons r1 .nil =>
      obtain ⟨a, h1, h2⟩ := r
      obtain ⟨d, c1, F1, s1, R1, q1, _, P1⟩ := P.fz R r1
      split at P1
      · rename_i ds hd
        obtain ⟨nF, xs, hx, rx⟩ := R1.cell k _ a hd h1
        split at P1
        · rename_i hl
          refine ⟨a, xs, u, h2, rfl, hx, by rw [rx.length]; exact Nat.lt_of_lt_of_le hl (by decide), ?_⟩
          exact P1 _ F1 ad (Same.refl _) (List.prefix_refl _) (R1.write h1 nF ⟨nF, _, upd_same, rx.append (.cons q1 .nil)⟩) .non .non
        · exact P1.elim
      · exact P1.elim
  · exact P.elim
def stL : W → W → W → Cells → Out Unit := fun wo wi w c => match wo, wi with
  | .c k, .d (.int i) => (fz w c).bind fun d c1 => match c1[k]? with
    | some (.lst ds) => match ixN ds.length i with
      | some j => .ok () (c1.set k (.lst (ds.set j d)))
      | none => .bad
    | _ => .bad
  | _, _ => .bad
theorem l_stL : SetL K fa rSetL stL := fun c ad F H vo vi v wo wi w Q E R ro ri r P => by
  unfold stL at P
  split at P
  · rename_i k i
    obtain ⟨a, h1, h2⟩ := ro
    obtain ⟨d, c1, F1, s1, R1, q1, _, P1⟩ := P.fz R r
    split at P1
    · rename_i ds hd
      obtain ⟨nF, xs, hx, rx⟩ := R1.cell k _ a hd h1
      split at P1
      · rename_i j hj
        refine ⟨a, xs, i, j, h2, ri.intD, hx, by rw [rx.length]; exact hj, ?_⟩
        exact P1 _ F1 ad (Same.refl _) (List.prefix_refl _) (R1.write h1 nF ⟨nF, _, upd_same, rx.set q1 j⟩)
      · exact P1.elim
    · exact P1.elim
  · exact P.elim
end
end Pm

/-! Pm8: repr, errors. -/
namespace Pm
open PySem L2 PyProof.Rows
/-! ### repr -/
mutual
theorem py_noDict : ∀ {d : D} {p : PyData}, toPy d = some p → p.hasDict = false
  | .non, _, h => by cases h; rfl
  | .bl _, _, h => by cases h; rfl
  | .int _, _, h => by cases h; rfl
  | .str _, _, h => by cases h; rfl
  | .lst xs, p, h => by
    simp only [toPy] at h
    cases q : toPyA xs with
    | none => rw [q] at h; cases h
    | some ps => rw [q] at h; cases h; simpa [PyData.hasDict] using pyA_noDict q
  | .tup xs, p, h => by
    simp only [toPy] at h
    cases q : toPyA xs with
    | none => rw [q] at h; cases h
    | some ps => rw [q] at h; cases h; simpa [PyData.hasDict] using pyA_noDict q
  | .fn _, _, h => by simp [toPy] at h
  | .ty _, _, h => by simp [toPy] at h
  | .dic _, _, h => by simp [toPy] at h
  | .arr _, _, h => by simp [toPy] at h
theorem pyA_noDict : ∀ {ds : List D} {ps : List PyData}, toPyA ds = some ps → PyData.hasDictAll ps = false
  | [], _, h => by cases h; rfl
  | d :: ds, ps, h => by
    simp only [toPyA] at h
    cases q : toPy d with
    | none => rw [q] at h; cases h
    | some y =>
      cases q2 : toPyA ds with
      | none => rw [q, q2] at h; cases h
      | some ys => rw [q, q2] at h; cases h; simp [PyData.hasDictAll, py_noDict q, pyA_noDict q2]
end
def shOk (p : PyData) : Bool := p.showable && decide (p.depth ≤ 60) && decide (p.shown.length ≤ 16000000)
def reprD (d : D) : Option Str := match d with
  | .dic [] => some "{}"
  | _ => match toPy d with
    | some p => if shOk p = true then some p.shown else none
    | none => none
def oRepr : List W → Cells → Out W := fun ws c => match ws with
  | [w] => match rd c w with
    | some d => match reprD d with
      | some s => .ok (.d (.str s)) c
      | none => .bad
    | none => .bad
  | _ => .bad
def rRepr (K : PySem.W.Frag) : List V → Hp → VK → Prop := fun xs H Q => (∃ x p, xs = [x] ∧ Dp K H x p ∧ p.hasDict = false ∧ shOk p = true ∧ Q (.str p.shown) H) ∨ ∃ a, xs = [.ref a] ∧ H a = some (.dK []) ∧ Q (.str "{}") H
theorem cl_repr {X : Cx} (un : X.A.units + 200 < cLine) (hgd : X.A.guards = some []) : CallR X (.builtin "repr") (rRepr X.K) := by
  intro pins s σ H xs us Q I rv h

  rcases h with ⟨x, p, rfl, dp, nd, ok, q⟩ | ⟨a, rfl, hd, q⟩
  · obtain ⟨u, rfl, rx⟩ := vals1 rv
    unfold shOk at ok
    simp only [Bool.and_eq_true, decide_eq_true_eq] at ok
    obtain ⟨⟨o1, o2⟩, o3⟩ := ok
    have big : p.shown.length ≤ sizeLine := Nat.le_trans o3 (by decide)
    obtain ⟨as, rds⟩ := Dp.reads I p x u dp rx
    have ref : ∀ {a : Addr}, Reads s.heap (.ref a) p as → wpAny (model X.prog X.w) X.A (call (.builtin "repr") [.ref a]) (EP X pins σ Q) X.xe s := fun {a} r =>
      repr_of_reads' r o1 (PyData.noDict_hsm nd) hgd (by omega) (fun _ _ e => e) (fun h' t tk hk => ⟨.str p.shown, H, I.kept hk, ⟨t, rfl⟩, q⟩) big
    cases dp with
    | non => cases rx; exact PySem.P.repr_of_none ⟨.str _, H, I.tok _, ⟨_, rfl⟩, q⟩
    | bl b => cases rx; exact PySem.P.repr_of_bool ⟨.str _, H, I.tok _, ⟨_, rfl⟩, q⟩
    | int i =>
      obtain ⟨t, rfl⟩ := rx
      exact PySem.P.repr_of_int (by simpa [PyData.showable] using o1) ⟨.str _, H, I.tok _, ⟨_, rfl⟩, q⟩
    | str z =>
      obtain ⟨t, rfl⟩ := rx
      exact PySem.P.repr_of_str ⟨.str _, H, I.tok _, ⟨_, rfl⟩, q⟩ big
    | lst _ _ => cases rx; exact ref rds
    | tup _ _ => cases rx; exact ref rds
  · obtain ⟨u, rfl, rx⟩ := vals1 rv
    cases rx
    obtain ⟨_, hsm, vs, kv, o, es, ep, e1, e2, e3, _, e4, e5⟩ := I.hok a _ hd
    cases kv
    have e4' : es.toList = [] := by
      cases q : es.toList with
      | nil => rfl
      | cons x xs => rw [q] at e4; cases e4
    have hes : es = #[] := by simpa using e4'
    have es2 : (PyData.dict []).shown = Str.ofString "{}" := by decide +kernel
    have r : Reads s.heap (.ref a) (.dict []) ([a] ++ []) := Reads.dict (as := []) (bs := []) e1 e2.1 e3 (by rw [hes]; exact .nil) (by rw [hes]; exact .nil)
    refine repr_of_reads' r (by rfl) (fun _ hm => ?_) hgd (by show X.A.units + (_ + 1) < cLine; simp [PyData.depth, PyData.depthKv]; omega) (fun _ _ e => e) (fun h' t tk hk => ⟨.str "{}", H, I.kept hk, ⟨t, ?_⟩, q⟩) (by decide +kernel)
    · simp at hm
      rw [hm] at hsm
      simp at hsm
    · show Value.str (PyData.dict []).shown t = _
      rw [es2]
theorem ll_repr {K : PySem.W.Frag} {fa : Fa} : CalL K fa (rRepr K) oRepr := fun c ad F H vs ws Q E R r P => by
  unfold oRepr at P
  split at P
  · rename_i w
    split at P
    · rename_i d e
      split at P
      · rename_i s hs
        match vs, r with
        | [v], .cons r .nil =>
          have q := P.now R _ (.str s)
          unfold reprD at hs
          split at hs
          · obtain ⟨a, us, e1, e2, e3⟩ := R.dic r e
            cases e3
            cases hs
            exact .inr ⟨a, by rw [e1], e2, q⟩
          · split at hs
            · rename_i p hp
              split at hs
              · rename_i ok
                cases hs
                exact .inl ⟨v, p, rfl, R.dp r e hp, py_noDict hp, ok, q⟩
              · cases hs
            · cases hs
      · exact P.elim
    · exact P.elim
  · exact P.elim
end Pm

set_option maxHeartbeats 2000000
/-! Pm9: errors: raised, caught, asked. -/
namespace PmX
open PySem PySem.W PySem.Calls PyProof.Rows
section
variable {prog : Program} {w : World} {A : Around} {E : Value → Shared → Prop} {s : Shared} {K : Frag} {x D : Addr} {ox : Obj} {od : Option Obj}
theorem found_data {C : Addr} {name : Str} {a g : Value} (hc : (clsIn K C).isSome = true) (ha : findIn K (.ref C) name = some (some a)) (hg : specialIn K a "__get__" = some (some g)) (ht : takesIn K a = some true) : findObj K C od name = some (.bind g a) := by
  obtain ⟨cd, hc⟩ := Option.isSome_iff_exists.mp hc
  show ((clsIn K C).bind _) = _
  rw [hc, Option.bind_some, ha, Option.bind_some]
  simp [hg, ht]
/-- e.__class__ of an exception that may have a dict of its own -/
theorem class_of {Q : Option Value → Shared → Prop} (T : L2.ExcC K D) (X : K.In s.heap) (I : InstAt s.heap x ox D od) (h : Q (some (.ref D)) { s with toks := s.toks + 1 }) : wpAny (model prog w) A (getAttr? (.ref x) "__class__") Q E s := by
  have isC : (clsIn K D).isSome = true := by obtain ⟨cd, hc, _⟩ := any_some T.hd; rw [hc]; rfl
  have hf : findObj K D od "__class__" = some (.bind (.builtin "getset_descriptor.__get__") (.builtin "object.__class__")) := found_data isC T.ha T.hn T.ht
  obtain ⟨hp, g, d, t, os⟩ := s
  have LT := I.type (M := model prog w)
  have LG := looks_findIn (M := model prog w) X T.hg
  have LK := looks_findIn (M := model prog w) X T.hk
  have LF := looks_find (M := model prog w) X I hf
  have sub : Looks (model prog w) hp (isInstance (.ref x) (.type "BaseException")) true := LT.andThen (looks_subIn X T.hs)
  have n0 : (false && onTheHeap (Value.builtin "BaseException.__getattribute__")) = false := rfl
  have n1 : (Value.builtin "BaseException.__getattribute__" == Value.builtin "object.__getattribute__") = false := by decide +kernel
  have n2 : (onTheHeap (Value.ref D) && Value.builtin "BaseException.__getattribute__" == Value.builtin "object.__getattribute__") = false := by rw [n1]; rfl
  unfold getAttr? getAttrBy? getAttrBy
  refine wpAny_bind (wpAny_mkText (wpAny_bind (wpAny_attempt (wpAny_holding (wpAny_bind (LT.at (wpAny_bind (LG.at ?_))))))))
  show wpAny _ _ (if (onTheHeap (Value.ref D) && Value.builtin "BaseException.__getattribute__" == Value.builtin "object.__getattribute__") = true then _ else _) _ _ _
  rw [n2, if_neg Bool.false_ne_true]
  unfold getAttrByItsOwn hookBefore
  refine wpAny_bind ?_
  rw [if_pos (show onTheHeap (Value.ref D) = true from rfl)]
  refine LK.at (wpAny_bind (wpAny_attempt (wpAny_holding ?_)))
  unfold callGetattribute
  rw [n0, if_neg Bool.false_ne_true]
  unfold boundAndCalled
  rw [PySem.F.excAttr_ValueError.ga.bind (.ref x)]
  refine wpAny_bind (wpAny_pure ?_)
  show wpAny _ _ (call (.builtin "BaseException.__getattribute__") [.ref x, .str "__class__" t]) _ _ _
  refine wpAny_call (codeAny_call_builtin PySem.F.excAttr_ValueError.ga.plain PySem.F.entry_bexc_ga ?_)
  refine @check_slot (model prog w) _ _ ⟨hp, g, d, t + 1, os⟩ "BaseException.__getattribute__" "BaseException" "__getattribute__" (.ref x) [.str "__class__" t] [] _ (by decide +kernel) (by decide +kernel) sub (PySem.F.args_bexc_ga (.ref x) (.str "__class__" t)) ?_
  unfold Builtin.«object.__getattribute__»
  refine wpAny_bind (wpAny_of_eq (a := ((Value.ref x : Value), [Value.str "__class__" t])) (by first | rfl | (simp only [slotArgs]; rfl)) ?_)
  refine wpAny_bind (wpAny_pure (wpAny_bind (LT.at (wpAny_bind (LF.at ?_)))))
  show wpAny _ _ (holding [Value.builtin "object.__class__"] (call (.builtin "getset_descriptor.__get__") [.builtin "object.__class__", .ref x, .ref D]) >>= ret) _ _ _
  refine wpAny_bind (wpAny_holding (wpAny_call (class_get (s := ⟨hp, g, d, t + 1, os⟩) X I T.hm ?_)))
  refine wpAny_pure ?_
  show wpAny _ _ (handedOut (.ref D)) _ _ _
  rw [handedOut_of (v := .ref D) rfl]
  first
    | exact wpAny_pure (wpAny_pure h)
    | exact wpAny_pure h
    | exact wpAny_pure (wpAny_bind (wpAny_pure (wpAny_pure h)))
theorem kit_exc (T : L2.ExcC K D) : KitX K (.ref x) (.ref D) (fun h => ∃ ox od, InstAt h x ox D od) where
  ty := fun _ _ _ ⟨_, _, I⟩ => I.type
  it := fun M h X _ => by
    obtain ⟨cd, hc, _⟩ := any_some T.hd
    unfold clsIn at hc
    split at hc
    · rename_i o
      intro A' Q' E' s' k q
      unfold isType loadHead
      exact wpAny_bind (wpAny_loadPart (k _ _ (X _ _ o)) (wpAny_pure q))
    · cases hc
  ne := fun h tp dd its n sl X htp => by
    obtain ⟨cd, hc, _⟩ := any_some T.hd
    cases q : (Value.ref D == Value.ref tp) with
    | false => rfl
    | true =>
      have e : D = tp := Value.ref.inj (beq_iff_eq.mp q)
      unfold clsIn at hc
      split at hc
      · rename_i o
        rw [e] at o
        have := (X _ _ o).symm.trans htp
        cases this
      · cases hc
  ca := fun X ⟨_, _, I⟩ k => class_of T X I k
end
end PmX

namespace Pm
open PySem L2 PyProof.Rows
/-! ### raise -/
/-- what the written part says of an own error class with fields ps (in order), C its class, made by __init__ -/
structure Err (P : Program) (w : World) (K : PySem.W.Frag) (mg : Str → Option Value) (base : Heap) (x : Str) (ps : List Str) : Prop where
  ex : ∃ C fI fd, mg x = some (.ref C) ∧ OexC K C ∧ PySem.W.findIn K (.ref C) "__init__" = some (some (.ref fI)) ∧ PySem.W.typeIn K (.ref fI) = some (.type "function") ∧ Binds K fd ("self" :: ps) [] ∧
    FnOk P w K mg base CX0 1 fI fd ("self" :: ps) (fun vs H Q _ => vs.length = ps.length + 1 ∧ ∃ a us, vs = .ref a :: us ∧ H a = some (exo a C none) ∧ ∀ d fs, H d = none → d ≠ a → (∀ (i : Nat) (f : Str) (v : V), ps[i]? = some f → us[i]? = some v → fs.lookup f = some v) → Q .non (upd (upd H d (exd d fs)) a (exo a C (some d))))
def sRaise (x : Str) (ps : List Str) (as : Sl → Cells → Out (List W)) : SDen := fun sl c => (as sl c).st sl fun ws c1 => (frzAll ws c1).st sl fun ds c2 => if ds.length = ps.length ∧ ps.Nodup ∧ ps.length ≤ 900 then .exc sl x (ps.zip ds) c2 else .bad
section
variable {X : Cx} {fa : Fa} {Wx : WX} {pos p : Pos} {x : Str} {ps : List Str}
theorem zip_lookup {ps : List Str} : ∀ {ds : List D} {f : Str} {d : D}, (ps.zip ds).lookup f = some d → ∃ i : Nat, ps[i]? = some f ∧ ds[i]? = some d := by
  induction ps with
  | nil => intro ds f d h; simp at h
  | cons q ps ih =>
    intro ds f d h
    cases ds with
    | nil => simp at h
    | cons e ds =>
      rw [List.zip_cons_cons, List.lookup_cons] at h
      split at h
      · rename_i hq
        have : f = q := by simpa using hq
        subst this
        injection h with h
        subst h
        exact ⟨0, rfl, rfl⟩
      · obtain ⟨i, h1, h2⟩ := ih h
        exact ⟨i + 1, by simpa using h1, by simpa using h2⟩
theorem PostS.frz {K : PySem.W.Frag} {De : Ends} {c : Cells} {ad : List Addr} {F H : Hp} {ws : List W} {vs : List V} {sl : Sl} {f : List D → Cells → OS} (P : PostS K fa Wx ad F De ((frzAll ws c).st sl f)) (R : Rel K fa c ad F H) (r : RWs K fa ad F vs ws) :
    ∃ ds c1 F1, Same F F1 ∧ Rel K fa c1 ad F1 H ∧ RpA K fa F1 vs ds ∧ PostS K fa Wx ad F1 De (f ds c1) := by
  cases h : frzAll ws c with
  | ok ds c1 =>
    rw [h, Out.st_ok] at P
    obtain ⟨F1, s1, R1, q1⟩ := R.frz r h
    exact ⟨ds, c1, F1, s1, R1, q1, P.weak s1 (List.prefix_refl _)⟩
  | exc _ _ _ => exact absurd h frz_exc
  | bad => rw [h] at P; exact P.elim
theorem ss_raise {e : Expr} {es : List Expr} {as : Sl → Cells → Out (List W)} {k : Nat} (T : Err X.prog X.w X.K X.mg X.base x ps) (hr : Room (k + 2) X.A) (hc : X.calm = true) (tk : Takes X Wx) (ha : SA X (faOf X.mg od) Wx (e :: es) as) (hg : Gl X x := by rfl)
    (hdb : (x == ("__debug__" : Str)) = false := by decide) (he : starEach (e :: es) X.env = (false, eval e X.env) :: starEach es X.env := by rfl) (hpl : (backTo pos (starEach es X.env)).any (·.1) = false := by rfl) {rpos : Pos} :
    SS X (faOf X.mg od) Wx (.Raise (some (.Call (.Name x p) (e :: es) [] pos)) none rpos) (sRaise x ps as) := by
  obtain ⟨C, fI, fd, hm, T1, iC, tI, hb, F1⟩ := T.ex
  refine PS.imp (ps_raise hc tk (pmk_oex T1 iC tI F1 (hr.mono (by omega)) hb .nil pass0 hg hm ha hdb he hpl)) fun D σ H q => ?_
  obtain ⟨sl, c, ad, F, ok, R, P⟩ := q
  refine ⟨sl, c, ad, F, ok, R, Post.st ok P fun ws c1 H1 F1' ad1 s p R1 P1 vs rv => ?_⟩
  obtain ⟨ds, c2, F2, s2, R2, r2, P2⟩ := P1.frz R1 rv
  split at P2
  · rename_i hl
    obtain ⟨h1, h2, h3⟩ := hl
    have lv : vs.length = ps.length := by rw [r2.length, h1]
    refine ⟨by rw [lv]; omega, fun a ha' => ⟨by simp [lv], a, vs, by simp, upd_same, fun d fs hd hda hfs => ⟨rfl, d, fs, upd_same, by rw [upd_ne hda, upd_same], ?_, ?_⟩⟩⟩
    · rwa [upd_ne hda] at hd
    · have hd1 : H1 d = none := by rwa [upd_ne hda] at hd
      have eH : upd (del (upd (upd (upd H1 a (exo a C none)) d (exd d fs)) a (exo a C (some d))) a) d (.xd fs) = upd H1 d (.xd fs) := by
        funext b
        by_cases b1 : b = d
        · rw [b1, upd_same, upd_same]
        · rw [upd_ne b1, upd_ne b1]
          by_cases b2 : b = a
          · rw [b2, del_same, ha']
          · rw [del_ne b2, upd_ne b2, upd_ne b1, upd_ne b2]
      rw [eH]
      have RJ := R2.newJ (o := .xd fs) hd1
      refine P2 _ F2 ad1 σ C d fs (Same.refl _) (List.prefix_refl _) RJ ((ok.mono s p).mono s2 (List.prefix_refl _)) (faOf_of hm) upd_same ?_
      intro f dd hf
      obtain ⟨i, i1, i2⟩ := zip_lookup hf
      obtain ⟨v, v1, v2⟩ := r2.get i2
      exact ⟨v, hfs i f v i1 v1, v2⟩
  · exact P2.elim

/-! ### try .. except A as a: .. except B as b: .. -/
def wMA (K : PySem.W.Frag) (Wout : WX) (D : Ends) : List (Value × Nat × (Addr → Value → Option Addr → TS)) → WX
  | [] => Wout
  | (c, i, ts) :: r => fun cls d σ H => ∃ b, PySem.W.exmOne K cls c = some b ∧ (b = true → ∀ a, H a = none → ts a cls d { nx := fun σ' H' => D.nx (σ'.set i none) H', rt := D.rt, bk := fun σ' H' => D.bk (σ'.set i none) H', ct := fun σ' H' => D.ct (σ'.set i none) H' } (σ.set i (some (.ref a))) H) ∧
      (b = false → wMA K Wout D r cls d σ H)
inductive HdA (X : Cx) : List ExceptHandler → List (Value × Nat × (Addr → Value → Option Addr → TS)) → Prop
  | nil : HdA X [] []
  | cons {x n : Str} {i : Nat} {c : Value} {ts : Addr → Value → Option Addr → TS} {b₀ : Stmt} {suite : List Stmt} {np pos' : Pos} {hds : List ExceptHandler} {l : List (Value × Nat × (Addr → Value → Option Addr → TS))} (hc : Names X x c) (hi : X.N[i]? = some n) (hln : X.env.kindOf n = some .local)
      (hsu : ∀ (a : Addr) (oe : Obj) (cls : Value) (d : Option Addr) (pn : List (Addr × Obj)), Zc cls d oe → (∃ vs, oe.data = .fields vs) → PSs (X.suite a ((a, oe) :: pn)) (b₀ :: suite) (ts a cls d)) (r : HdA X hds l) :
      HdA X (.ExceptHandler (some (.Name x np)) (some n) (b₀ :: suite) pos' :: hds) ((c, i, ts) :: l)
theorem ps_try_ma {body : List Stmt} {h₀ : ExceptHandler} {hds : List ExceptHandler} {l : List (Value × Nat × (Addr → Value → Option Addr → TS))} {tb : WX → TS} {Wout : WX} (hs : X.stack = X.env :: X.outer) (hf : X.env.frame = some X.env.locals) (hN : X.N.Nodup) (tk : Takes X Wout)
    (hb : ∀ (W : WX) (pn : List (Addr × Obj)) (xe : Value → Shared → Prop), Takes (X.tr pn xe) W → PassesOwn (model X.prog X.w) X.A X.env xe → PSs (X.tr pn xe) body (tb W)) (hh : HdA X (h₀ :: hds) l) : PS X (.Try body (h₀ :: hds) [] [] pos) (fun D σ H => tb (wMA X.K Wout D l) D σ H) := by
  refine ⟨fun pins s σ H D I h => ?_⟩
  have ok := I.ok
  have hfr : X.A.frames = some (X.env :: X.outer) := by rw [ok.frames, hs]
  have back : ∀ {fl : Flow} {s1 : Shared}, SP (X.tr (X.pn ++ pins) (fun e s₁ => wpAny (model X.prog X.w) X.A (noteFrame e X.env) (fun _ s₂ => wpAny (model X.prog X.w) X.A (setFlight e none) (fun _ s₃ => wpAny (model X.prog X.w) X.A (handleBy e X.env (h₀ :: hds)) (SP X pins D) X.xe s₃) X.xe s₂) X.xe s₁)) [] D fl s1 → SP X pins D fl s1 := by
    intro fl s1 q
    match fl, q with
    | .next, ⟨σ', H', J, q⟩ => exact ⟨σ', H', J.ofTry ok, q⟩
    | .brk, ⟨σ', H', J, q⟩ => exact ⟨σ', H', J.ofTry ok, q⟩
    | .cont, ⟨σ', H', J, q⟩ => exact ⟨σ', H', J.ofTry ok, q⟩
    | .ret u, ⟨v, σ', H', J, r, q⟩ => exact ⟨v, σ', H', J.ofTry ok, r, q⟩
  refine wpAny_Try_except (wpAny_mono ((hb (wMA X.K Wout D l) (X.pn ++ pins) _ (fun u s' xx => ?_) PassesOwn.looking).run [] s σ H D (I.toTry _) h) (fun f s1 hsp => ?_) fun e s1 he => he)
  · obtain ⟨a, B, sI, pins', σ', H', cls, d, rfl, J', nb, up, sky, na, os, ag, w⟩ := xx
    have J : Inv X pins σ' H' sI := J'.ofTry ok
    have sky' : Sky B (X.env :: X.outer) a (Zc cls d) X.env.locals s'.heap := by rw [← hs]; exact sky
    show wpAny (model X.prog X.w) X.A (noteFrame (.ref a) X.env) _ _ _
    refine Sky.land Zc.steady hfr hf sky' fun h3 fl3 up3 => ?_
    have J3 : Inv X pins σ' H' { s' with heap := h3 } := J.landed nb fl3.1 (up.trans up3) os ag
    obtain ⟨oe3, vs3, he3, hz3, hd3⟩ := fl3.there
    have nfr : a ∉ frs (X.env :: X.outer) := fun hm => by
      obtain ⟨_, o', e', hnf⟩ := fl3.2.2.1.mem hm
      rw [he3] at e'; cases e'
      exact hnf _ hd3
    have nL : a ≠ X.env.locals := fun z => nfr (List.mem_filterMap.mpr ⟨X.env, List.mem_cons_self, by rw [hf, z]⟩)
    have nF : a ∉ X.fs := fun hm => by
      obtain ⟨e, he, q⟩ := List.mem_filterMap.mp hm
      exact nfr (List.mem_filterMap.mpr ⟨e, List.mem_cons_of_mem _ he, q⟩)
    have S3 := J3.suite he3 hd3 na nL nF
    have go : ∀ {hds' : List ExceptHandler} {l' : List (Value × Nat × (Addr → Value → Option Addr → TS))}, HdA X hds' l' → wMA X.K Wout D l' cls d σ' H' →
        wpAny (model X.prog X.w) X.A (handleBy (.ref a) X.env hds') (SP X pins D) X.xe { s' with heap := h3 } := by
      intro hds' l' hk
      induction hk with
      | nil =>
        intro w
        refine wpAny_handleBy_nil ?_
        obtain ⟨k1, k2, k3, oe, vs, T, oT, ts', he, hz, hd, h1, hr⟩ := id fl3
        unfold PySem.passOn
        refine wpAny_bind (wpAny_field he hd h1 ?_)
        rw [if_neg (show ¬ ((Value.ref T == Value.none) = true) from by simp)]
        have out : wpAny (model X.prog X.w) X.A (setFlight (.ref a) X.env.frame) (fun _ s4 => wpAny (model X.prog X.w) X.A (throw (.ref a) : Sem Flow) (SP X pins D) X.xe s4) X.xe { s' with heap := h3 } := by
          rw [hf]
          refine HandSPX.setFlight_upZ fl3 fun h4 hh4 up4 => wpAny_throw (tk _ _ ?_)
          exact ⟨a, B, sI, pins, σ', H', cls, d, rfl, J, nb, (up.trans up3).trans up4, .inr (.inr (by rw [hs]; exact hh4)), na, os, ag, w⟩
        first
          | exact wpAny_bind (wpAny_pure (wpAny_bind out))
          | exact wpAny_bind out
      | @cons x n i c ts b₀ suite np pos' hds2 l2 hc hi hln hsu r ih =>
        intro w
        obtain ⟨b, hb1, hyes, hno⟩ := w
        refine wpAny_handleBy_cons (codeAny_handlers_test ?_) (by intro q; cases q)
        have LT : PySem.W.Looks (model X.prog X.w) h3 (typeOf (.ref a)) cls := fun A Q E s k q => wpAny_typeOf_ref (k _ _ he3) (by rw [hz3.1]; exact q)
        have LM := PySem.W.exm_one (M := model X.prog X.w) (J3.kIn) LT hb1
        have test : ∀ {Q : Value → Shared → Prop} {E : Value → Shared → Prop}, Q c { s' with heap := h3 } → wpAny (model X.prog X.w) (X.A.mark (some (.ref a))) (eval (.Name x np) X.env) Q E { s' with heap := h3 } := fun {Q E} q => by
          obtain ⟨hg, hdbg, hm | ⟨hm, hv, hnn⟩⟩ := hc
          · exact ld_glob (X := X.suite a ((a, oe3) :: (X.pn ++ pins))) S3 hg hm q hdbg
          · exact ld_blt (X := X.suite a ((a, oe3) :: (X.pn ++ pins))) S3 hg hm hv q hnn hdbg
        refine test (LM.here ?_)
        cases b with
        | true =>
          refine codeAny_handlers_suite_as ?_
          refine HandSPX.lands_againZ fl3 fun h4 fl4 up4 => ?_
          have J4 : Inv X pins σ' H' { s' with heap := h4 } := J.landed nb fl4.1 ((up.trans up3).trans up4) os ag
          obtain ⟨oe4, vs4, he4, hz4, hd4⟩ := fl4.there
          have S4 := J4.suite he4 hd4 na nL nF
          refine store_ok (X := X.suite a ((a, oe4) :: (X.pn ++ pins))) (v := .ref a) S4 hN hi (.inl hln) rfl (fun s5 S5 => ?_) (.inr hln)
          refine wpAny_mono ((hsu a oe4 cls d (X.pn ++ pins) hz4 ⟨_, hd4⟩).run [] s5 _ H' _ S5 (hyes rfl a na)) (fun f s6 hsp => ?_) (fun _ _ z => False.elim z)
          have done : ∀ {σ6 : L2.St} {H6 : Hp} {Q : Shared → Prop}, Inv (X.suite a ((a, oe4) :: (X.pn ++ pins))) [] σ6 H6 s6 → (∀ s7, Inv X pins (σ6.set i none) H6 s7 → Q s7) →
              wpAny (model X.prog X.w) X.A (do bindName X.env n .none; unbindBehindTheSuite X.env n pos') (fun _ s7 => Q s7) X.xe s6 := fun {σ6 H6 Q} S6 hq => gone_ok (S6.unsuite ok) hN hi hln hq
          match f, hsp with
          | .next, ⟨σ6, H6, S6, q6⟩ => exact done S6 fun s7 J7 => ⟨_, _, J7, q6⟩
          | .brk, ⟨σ6, H6, S6, q6⟩ => exact done S6 fun s7 J7 => ⟨_, _, J7, q6⟩
          | .cont, ⟨σ6, H6, S6, q6⟩ => exact done S6 fun s7 J7 => ⟨_, _, J7, q6⟩
          | .ret u, ⟨v6, σ6, H6, S6, r6, q6⟩ => exact done S6 fun s7 J7 => ⟨_, _, _, J7, r6, q6⟩
        | false => exact ih (hno rfl)
    exact go hh w
  · have q := back hsp
    match f, q with
    | .next, ⟨σ', H', J, q⟩ => exact wpAny_execs_nil ⟨σ', H', J, q⟩
    | .brk, q => exact q
    | .cont, q => exact q
    | .ret u, q => exact q
end
end Pm

set_option maxHeartbeats 1000000
/-! Pm10: an error's making; try; the suite's expressions. -/
namespace Pm
open PySem L2 PyProof.Rows
/-- __init__ with one field: self.f = f -/
theorem err_init1 {P : Program} {w : World} {K : PySem.W.Frag} {mg : Str → Option Value} {base : Heap} {q f : Str} {st : Stmt} {fI C : Addr} {fd : FuncData} {p1 p2 p3 p4 : Pos} (Fn : Fun K "__init__" q st fI fd) (S : FnScope ["self", f] ["self", f] (defScope st)) (T : OexC K C) (hno : PySem.W.findIn K (.ref C) f = some none)
    (hb : defBody st = [.Assign [.Attribute (.Name "self" p1) f p2] (.Name f p3) p4]) (v0 : Vis (defScope st) "self") (v1 : Vis (defScope st) f) (d1 : (f == ("__debug__" : Str)) = false) (d2 : (f == ("__classdict__" : Str)) = false) :
    FnOk P w K mg base CX0 1 fI fd ["self", f] (fun vs H Q _ => vs.length = 2 ∧ ∃ a us, vs = .ref a :: us ∧ H a = some (exo a C none) ∧ ∀ d fs, H d = none → d ≠ a → (∀ (i : Nat) (g : Str) (v : V), [f][i]? = some g → us[i]? = some v → fs.lookup g = some v) → Q .non (upd (upd H d (exd d fs)) a (exo a C (some d)))) := by
  refine Fn.ok S (fun vs H Q E h => h.1) (fun cdv A outer s H vs Q E hr h => ?_)
  obtain ⟨hl, a, us, rfl, ha, k⟩ := h
  match us, hl with
  | [v], _ =>
    rw [hb]
    refine ⟨_, pss_one (ps_ost (f := f) (pe_var (i := 0) (by rfl) v0) (pe_var (i := 1) (by rfl) v1 d1 d2) (by rfl)), ?_⟩
    refine ⟨v, rfl, .ref a, rfl, a, C, rfl, T, hno, .inl ⟨ha, fun dx hd hda => k dx _ hd hda fun i g y h1 h2 => ?_⟩⟩
    match i, h1 with
    | 0, h1 =>
      simp at h1 h2
      subst h1 h2
      simp [List.lookup]
/-! ### the suite -/
abbrev fx (fa : Fa) (a dd C : Addr) : Fa := ⟨fa.f, some (a, dd, C), fa.od⟩
section
variable {K : PySem.W.Frag} {fa : Fa} {c : Cells} {ad : List Addr} {F H : Hp} {σ : L2.St} {sl : Sl} {v : V} {w : W}
def noXs (sl : Sl) : Bool := sl.all fun o => match o with
  | some w => noX w
  | none => true
theorem SlOk.sw {fb : Fa} (e : fa.f = fb.f) (n : noXs sl = true) (h : SlOk K fa ad F σ sl) : SlOk K fb ad F σ sl := ⟨h.1, fun i w q => by
  obtain ⟨v, h1, h2⟩ := h.2 i w q
  have hn := List.all_eq_true.mp n _ (List.mem_of_getElem? q)
  exact ⟨v, h1, h2.sw e hn⟩⟩
theorem RW.up {fb : Fa} (e : fa.f = fb.f) (n : fa.rg = none) (h : RW K fa ad F v w) : RW K fb ad F v w := by
  cases w with
  | d x => exact Rp.sw e h
  | c k => exact h
  | x _ _ => obtain ⟨a, dd, C, fs, _, h2, _⟩ := h; rw [n] at h2; cases h2
  | raw u => exact h
theorem SlOk.up {fb : Fa} (e : fa.f = fb.f) (n : fa.rg = none) (h : SlOk K fa ad F σ sl) : SlOk K fb ad F σ sl := ⟨h.1, fun i w q => let ⟨v, h1, h2⟩ := h.2 i w q; ⟨v, h1, h2.up e n⟩⟩
/-- a tracked error's dict, frozen -/
theorem Rel.frzX (R : Rel K fa c ad F H) {p : Addr} {fs : List (Str × V)} (h : H p = some (.xd fs)) : ∃ F', Same F F' ∧ Rel K fa c ad F' H ∧ F' p = some (.xd fs) := by
  cases q : F p with
  | some u =>
    have := R.le p u q
    rw [h] at this
    cases this
    exact ⟨F, Same.refl F, R, q⟩
  | none =>
    have sF : Same F (upd F p (.xd fs)) := fun b x e => by rw [upd_ne (ne_of_none e q)]; exact e
    refine ⟨upd F p (.xd fs), sF, ⟨fun b x e => ?_, R.len, R.nd, R.there, fun k o a h1 h2 => ?_, R.kp, fun b x e z => ?_, R.na, fun b o' xs e => ?_⟩, upd_same⟩
    · by_cases z : b = p
      · subst z; rw [upd_same] at e; cases e; exact h
      · rw [upd_ne z] at e; exact R.le b x e
    · have ok := R.cell k o a h1 h2
      cases o with
      | lst ds =>
        obtain ⟨h3, vs, h4, h5⟩ := ok
        exact ⟨by rw [upd_ne (ne_of h4 h (by intro z; cases z))]; exact h3, vs, h4, h5.mono sF⟩
      | dic ds =>
        obtain ⟨h3, vs, h4, h5⟩ := ok
        exact ⟨by rw [upd_ne (ne_of h4 h (by intro z; cases z))]; exact h3, vs, h4, h5.mono sF⟩
      | frz d => exact Rp.mono sF ok
    · by_cases y : b = p
      · subst y; rw [upd_same] at e; cases e; exact absurd rfl (z fs)
      · rw [upd_ne y] at e; exact R.nf b x e z
    · by_cases y : b = p
      · subst y; rw [upd_same] at e; cases e
      · rw [upd_ne y] at e; exact R.nz b o' xs e
end
def OS.unset (i : Nat) : OS → OS
  | .nx sl c => if noXs (sl.set i none) = true then .nx (sl.set i none) c else .bad
  | .brk sl c => if noXs (sl.set i none) = true then .brk (sl.set i none) c else .bad
  | .cnt sl c => if noXs (sl.set i none) = true then .cnt (sl.set i none) c else .bad
  | .ret w c => if noX w = true then .ret w c else .bad
  | _ => .bad
/-- the clauses: class, slot, suite -/
def handle (sub : Str → Str → Option Bool) (x : Str) (pl : List (Str × D)) (sl : Sl) (c : Cells) : List (Str × Nat × SDen) → OS
  | [] => .exc sl x pl c
  | (h, i, g) :: r => match sub x h with
    | some true => (g (sl.set i (some (.x x pl))) c).unset i
    | some false => handle sub x pl sl c r
    | none => .bad
def sTry (sub : Str → Str → Option Bool) (body : SDen) (hds : List (Str × Nat × SDen)) : SDen := fun sl c => match body sl c with
  | .exc sl1 x pl c1 => handle sub x pl sl1 c1 hds
  | o => o
/-- which error class is which -/
def SubOk (K : PySem.W.Frag) (fa : Fa) (sub : Str → Str → Option Bool) : Prop := ∀ x h b, sub x h = some b → ∀ C D, fa.f x = some C → fa.f h = some D → PySem.W.exmOne K (.ref C) (.ref D) = some b ∧ PySem.W.kitOne K (.ref C) (.ref D) = some b
section
variable {X : Cx} {fa : Fa} {Wx : WX} {pos : Pos}
/-- a suite for whatever error is caught -/
def Suite (X : Cx) (fa : Fa) (suite : List Stmt) (g : SDen) : Prop := ∀ (a : Addr) (oe : Obj) (C dd : Addr) (pn : List (Addr × Obj)), Zc (.ref C) (some dd) oe → (∃ vs, oe.data = .fields vs) → SSs (X.suite a ((a, oe) :: pn)) (fx fa a dd C) WF suite g
inductive HdD (X : Cx) (fa : Fa) : List ExceptHandler → List (Str × Nat × SDen) → Prop
  | nil : HdD X fa [] []
  | cons {x n : Str} {i : Nat} {C : Addr} {b₀ : Stmt} {suite : List Stmt} {np pos' : Pos} {hds : List ExceptHandler} {l : List (Str × Nat × SDen)} {g : SDen} (hm : X.mg x = some (.ref C)) (hC : fa.f x = some C) (hsu : Suite X fa (b₀ :: suite) g) (r : HdD X fa hds l)
      (hg : Gl X x := by rfl) (hi : X.N[i]? = some n := by rfl) (hln : X.env.kindOf n = some .local := by rfl) (hdb : (x == ("__debug__" : Str)) = false := by decide) : HdD X fa (.ExceptHandler (some (.Name x np)) (some n) (b₀ :: suite) pos' :: hds) ((x, i, g) :: l)
theorem PostS.unset {K : PySem.W.Frag} {a dd C : Addr} {ad : List Addr} {F : Hp} {De : Ends} {o : OS} {i : Nat} (P : PostS K fa Wx ad F De (o.unset i)) :
    PostS K (fx fa a dd C) WF ad F { nx := fun σ' H' => De.nx (σ'.set i none) H', rt := De.rt, bk := fun σ' H' => De.bk (σ'.set i none) H', ct := fun σ' H' => De.ct (σ'.set i none) H' } o := by
  cases o with
  | nx sl c =>
    unfold OS.unset at P
    dsimp only at P
    split at P
    · rename_i n
      exact fun H F' ad' σ' s p R ok => P H F' ad' _ s p (Rel.sw (fa := fx fa a dd C) (fb := fa) rfl rfl R) (SlOk.sw (fa := fx fa a dd C) (fb := fa) rfl n (ok.unset (i := i) none))
    · exact P.elim
  | brk sl c =>
    unfold OS.unset at P
    dsimp only at P
    split at P
    · rename_i n
      exact fun H F' ad' σ' s p R ok => P H F' ad' _ s p (Rel.sw (fa := fx fa a dd C) (fb := fa) rfl rfl R) (SlOk.sw (fa := fx fa a dd C) (fb := fa) rfl n (ok.unset (i := i) none))
    · exact P.elim
  | cnt sl c =>
    unfold OS.unset at P
    dsimp only at P
    split at P
    · rename_i n
      exact fun H F' ad' σ' s p R ok => P H F' ad' _ s p (Rel.sw (fa := fx fa a dd C) (fb := fa) rfl rfl R) (SlOk.sw (fa := fx fa a dd C) (fb := fa) rfl n (ok.unset (i := i) none))
    · exact P.elim
  | ret w c =>
    unfold OS.unset at P
    dsimp only at P
    split at P
    · rename_i n
      exact fun H F' ad' v s p R r => P H F' ad' v s p (Rel.sw (fa := fx fa a dd C) (fb := fa) rfl rfl R) (RW.sw (fa := fx fa a dd C) (fb := fa) rfl n r)
    · exact P.elim
  | exc _ _ _ _ => exact P.elim
  | bad => exact P.elim
theorem ss_try {sub : Str → Str → Option Bool} {body : List Stmt} {h₀ : ExceptHandler} {hds : List ExceptHandler} {l : List (Str × Nat × SDen)} {fb : SDen} (hn : fa.rg = none) (hsub : SubOk X.K fa sub) (hs : X.stack = X.env :: X.outer) (hf : X.env.frame = some X.env.locals) (hN : X.N.Nodup) (tk : Takes X Wx)
    (hb : ∀ (W : WX) (pn : List (Addr × Obj)) (xe : Value → Shared → Prop), Takes (X.tr pn xe) W → PassesOwn (model X.prog X.w) X.A X.env xe → SSs (X.tr pn xe) fa W body fb) (hh : HdD X fa (h₀ :: hds) l) : SS X fa Wx (.Try body (h₀ :: hds) [] [] pos) (sTry sub fb l) := by
  have tr : ∀ {hds' : List ExceptHandler} {l' : List (Str × Nat × SDen)}, HdD X fa hds' l' → ∃ l2 : List (Value × Nat × (Addr → Value → Option Addr → TS)), HdA X hds' l2 ∧
      ∀ (De : Ends) (x : Str) (pl : List (Str × D)) (sl1 : Sl) (c1 : Cells) (σ : L2.St) (H : Hp) (ad : List Addr) (F : Hp) (C d : Addr) (fs : List (Str × V)), PostS X.K fa Wx ad F De (handle sub x pl sl1 c1 l') → Rel X.K fa c1 ad F H → SlOk X.K fa ad F σ sl1 → fa.f x = some C → H d = some (.xd fs) → Flds X.K fa F fs pl →
        wMA X.K Wx De l2 (.ref C) (some d) σ H := by
    intro hds' l' h
    induction h with
    | nil => exact ⟨[], .nil, fun De x pl sl1 c1 σ H ad F C d fs P R ok hC hd hfl => P H F ad σ C d fs (Same.refl _) (List.prefix_refl _) R ok hC hd hfl⟩
    | @cons x0 n i C0 b₀ suite np pos' hds l g hm hC0 hsu r hg hi hln hdb ih =>
      obtain ⟨l2, hA, k⟩ := ih
      refine ⟨(.ref C0, i, fun a cls d De σ H => ∃ C dd, cls = .ref C ∧ d = some dd ∧ tSt X.K (fx fa a dd C) WF g De σ H) :: l2, .cons ⟨hg, hdb, .inl hm⟩ hi hln (fun a oe cls d pn hz hfi => ?_) hA, fun De x pl sl1 c1 σ H ad F C d fs P R ok hC hd hfl => ?_⟩
      · refine ⟨fun pins s σ H De I q => ?_⟩
        obtain ⟨C, dd, rfl, rfl, q⟩ := q
        exact (hsu a oe C dd pn hz hfi).run pins s σ H De I q
      · unfold handle at P
        split at P
        · rename_i e
          refine ⟨true, (hsub x x0 true e C C0 hC hC0).1, fun _ a ha => ⟨C, d, rfl, rfl, ?_⟩, fun z => by cases z⟩
          obtain ⟨F1, s1, R1, hx⟩ := R.frzX hd
          have fl1 : Flds X.K (fx fa a d C) F1 fs pl := fun y dd' q => let ⟨v, q1, q2⟩ := hfl y dd' q; ⟨v, q1, Rp.sw (fa := fa) (fb := fx fa a d C) rfl (q2.mono s1)⟩
          have ok1 : SlOk X.K (fx fa a d C) ad F1 σ sl1 := SlOk.up (fa := fa) (fb := fx fa a d C) rfl hn (ok.mono s1 (List.prefix_refl _))
          exact ⟨sl1.set i (some (.x x pl)), c1, ad, F1, ok1.set (w := .x x pl) ⟨a, d, C, fs, rfl, rfl, hC, hx, fl1⟩, Rel.sw (fa := fa) (fb := fx fa a d C) rfl rfl R1, PostS.unset (PostS.weak P s1 (List.prefix_refl _))⟩
        · rename_i e
          exact ⟨false, (hsub x x0 false e C C0 hC hC0).1, fun (z : false = true) => absurd z (by decide), fun _ => k De x pl sl1 c1 σ H ad F C d fs P R ok hC hd hfl⟩
        · exact P.elim
  obtain ⟨l2, hA, k⟩ := tr hh
  refine PS.imp (ps_try_ma (tb := fun W => tSt X.K fa W fb) hs hf hN tk hb hA) fun De σ H q => ?_
  obtain ⟨sl, c, ad, F, ok, R, P⟩ := q
  refine ⟨sl, c, ad, F, ok, R, ?_⟩
  unfold sTry at P
  revert P
  cases fb sl c with
  | exc sl1 x pl c1 => exact fun P H1 F1 ad1 σ1 C d fs s p R1 ok1 hC hd hfl => k De x pl sl1 c1 σ1 H1 ad1 F1 C d fs (PostS.weak (o := handle sub x pl sl1 c1 l) P s p) R1 ok1 hC hd hfl
  | nx _ _ => exact id
  | ret _ _ => exact id
  | brk _ _ => exact id
  | cnt _ _ => exact id
  | bad => exact id
/-! ### within the suite -/
section
variable {a dd C : Addr} {oe : Obj} {pn : List (Addr × Obj)}
/-- which fields of which errors may be asked -/
def FldOk (K : PySem.W.Frag) (fa : Fa) (xs fs : List Str) : Prop := ∀ x ∈ xs, ∀ C, fa.f x = some C → XfC K C ∧ ∀ f ∈ fs, PySem.W.findIn K (.ref C) f = some none
def dXf (xs fs : List Str) (n : Str) (f : Den) : Den := fun sl c => (f sl c).bind fun w c1 => match w with
  | .x x pl => if (xs.contains x && fs.contains n) = true then match pl.lookup n with
    | some d => .ok (.d d) c1
    | none => .bad else .bad
  | _ => .bad
theorem se_xf {e : Expr} {f : Den} {xs fs : List Str} {n : Str} (hF : FldOk X.K fa xs fs) (hz : Zc (.ref C) (some dd) oe) (hf : ∃ vs, oe.data = .fields vs) (he : SE (X.suite a ((a, oe) :: pn)) (fx fa a dd C) WF e f) (hb : attributeBase e n X.env (eval e X.env) = eval e X.env := by rfl) :
    SE (X.suite a ((a, oe) :: pn)) (fx fa a dd C) WF (.Attribute e n pos) (dXf xs fs n f) := by
  refine ⟨fun pins s σ H Q I q => ?_⟩
  by_cases T : XfC X.K C ∧ PySem.W.findIn X.K (.ref C) n = some none
  · refine (pe_xf (cls := .ref C) (d := some dd) T.1 T.2 hz hf he hb).run pins s σ H Q I ?_
    obtain ⟨sl, c, ad, F, ok, R, P⟩ := q
    refine ⟨sl, c, ad, F, ok, R, P.bind fun w c1 H1 F1 ad1 s p R1 P1 v rv => ?_⟩
    split at P1
    · rename_i x pl
      obtain ⟨a', dd', C', fs', h1, h2, h3, h4, h5⟩ := rv
      cases h2
      split at P1
      · split at P1
        · rename_i d hd
          obtain ⟨y, y1, y2⟩ := h5 n d hd
          exact ⟨h1, rfl, dd, fs', y, rfl, R1.le _ _ h4, y1, P1.now R1 y y2⟩
        · exact P1.elim
      · exact P1.elim
    · exact P1.elim
  · refine wpAny_mono (M := model X.prog X.w) (attr_of hb (thn (he.run pins s σ H (fun _ _ => False) I ?_) fun u s1 ⟨_, _, _, _, z⟩ => z.elim)) (fun _ _ z => z) fun _ _ z => z
    obtain ⟨sl, c, ad, F, ok, R, P⟩ := q
    refine ⟨sl, c, ad, F, ok, R, P.bind fun w c1 H1 F1 ad1 s p R1 P1 v rv => ?_⟩
    split at P1
    · rename_i x pl
      obtain ⟨a', dd', C', fs', h1, h2, h3, h4, h5⟩ := rv
      cases h2
      split at P1
      · rename_i hc
        rw [Bool.and_eq_true] at hc
        obtain ⟨t1, t2⟩ := hF x (by simpa using hc.1) C h3
        exact T ⟨t1, t2 n (by simpa using hc.2)⟩
      · exact P1.elim
    · exact P1.elim
end
end
end Pm

set_option maxHeartbeats 1000000
/-! Pm11: isinstance of the caught error; the script; the law's end. -/
namespace Pm
open PySem L2 PyProof.Rows
section
variable {X : Cx} {fa : Fa} {pos p : Pos} {a dd C : Addr} {oe : Obj} {pn : List (Addr × Obj)}
/-- isinstance(e, D) of the error that the suite holds -/
def rIsX (K : PySem.W.Frag) (C a dd : Addr) : List V → Hp → VK → Prop := fun vs H Q => ∃ (D : Addr) (b : Bool) (fs : List (Str × V)), vs = [.ref a, .ref D] ∧ H dd = some (.xd fs) ∧ PySem.W.kitOne K (.ref C) (.ref D) = some b ∧ Q (.bl b) H
theorem cl_isx (T : ExcC X.K C) (hz : Zc (.ref C) (some dd) oe) (hf : ∃ vs, oe.data = .fields vs) : CallR (X.suite a ((a, oe) :: pn)) (.builtin "isinstance") (rIsX X.K C a dd) := by
  intro pins s σ H xs us Q I r h
  obtain ⟨D, b, fs, rfl, hd, hk, q⟩ := h
  obtain ⟨u1, u2, rfl, r1, r2⟩ := vals2 r
  cases r1
  cases r2
  obtain ⟨hget, _⟩ := I.pin (a, oe) (List.mem_append_left _ List.mem_cons_self)
  obtain ⟨vs, hv⟩ := hf
  obtain ⟨mA, ⟨od, es, ep, ho, _⟩, _⟩ := I.hok dd _ hd
  have J : PySem.W.InstAt s.heap a oe C (some od) := ⟨hget, hz.1, by unfold PySem.W.notCls; rw [hv] <;> rfl, by rw [hz.2]; exact ho⟩
  exact PySem.W.kia_one (PmX.kit_exc T) I.kIn ⟨oe, some od, J⟩ hk (fun z => nomatch z) fun tk => ⟨.bl b, H, I.kept (t' := tk) fun _ _ z => z, rfl, q⟩
def oIsx (sub : Str → Str → Option Bool) : List W → Cells → Out W := fun ws c => match ws with
  | [.x x _, .d (.fn h)] => match sub x h with
    | some b => .ok (.d (.bl b)) c
    | none => .bad
  | _ => .bad
theorem ll_isx {K : PySem.W.Frag} {sub : Str → Str → Option Bool} (hs : SubOk K fa sub) : CalL K (fx fa a dd C) (rIsX K C a dd) (oIsx sub) := fun c ad F H vs ws Q E R r P => by
  unfold oIsx at P
  split at P
  · rename_i x pl h
    match vs, r with
    | [v1, v2], .cons r1 (.cons r2 .nil) =>
      split at P
      · rename_i b hb
        obtain ⟨a', dd', C', fs', h1, h2, h3, h4, h5⟩ := r1
        cases h2
        cases r2 with
        | @fn _ D hD => exact ⟨D, b, fs', by rw [h1], R.le _ _ h4, (hs x h b hb C D h3 hD).2, P.now R _ (.bl b)⟩
      · exact P.elim
  · exact P.elim
/-- .. whatever the error is: what must be said of those that come -/
theorem se_isx {sub : Str → Str → Option Bool} {xs : List Str} {as : Sl → Cells → Out (List W)} {e : Expr} {es : List Expr} (hT : ∀ x ∈ xs, ∀ C, fa.f x = some C → ExcC X.K C) (hs : SubOk X.K fa sub) (hz : Zc (.ref C) (some dd) oe) (hf : ∃ vs, oe.data = .fields vs) (hm : X.mg "isinstance" = none) (ha : SA (X.suite a ((a, oe) :: pn)) (fx fa a dd C) WF (e :: es) as) (hg : Gl X "isinstance" := by rfl)
    (he : starEach (e :: es) X.env = (false, eval e X.env) :: starEach es X.env := by rfl) (hpl : (backTo pos (starEach es X.env)).any (·.1) = false := by rfl) :
    SE (X.suite a ((a, oe) :: pn)) (fx fa a dd C) WF (.Call (.Name "isinstance" p) (e :: es) [] pos) (dCall (fun ws c => match ws with | [.x x pl, w] => if xs.contains x = true then oIsx sub [.x x pl, w] c else .bad | _ => .bad) as) := by
  refine ⟨fun pins s σ H Q I q => ?_⟩
  by_cases T : ExcC X.K C
  · refine (se_callB (X := X.suite a ((a, oe) :: pn)) (Wx := WF) (fa := fx fa a dd C) (cl_isx T hz hf) (fun c ad F H vs ws Q E R r P => ?_) hm (by decide +kernel) ha hg (by decide) (by decide) he hpl).run pins s σ H Q I q
    split at P
    · split at P
      · exact ll_isx hs c ad F H vs _ Q E R r P
      · exact P.elim
    · exact P.elim
  · refine wpAny_Call_Name_kw (ld_blt (X := X.suite a ((a, oe) :: pn)) I hg hm (by decide +kernel : bootBuiltins "isinstance" = some (.builtin "isinstance")) ?_)
    refine PyProof.Rows.callWith_builtin1 (thn (ha.run pos pins s σ H (fun _ _ => False) I ?_) fun us s1 ⟨_, _, _, _, z⟩ => z.elim) he hpl
    obtain ⟨sl, c, ad, F, ok, R, P⟩ := q
    refine ⟨sl, c, ad, F, ok, R, P.bind fun ws c1 H1 F1 ad1 s p R1 P1 vs rv => ?_⟩
    split at P1
    · rename_i x pl w
      split at P1
      · rename_i hc
        cases rv with
        | cons r1 _ =>
          obtain ⟨a', dd', C', fs', h1, h2, h3, h4, h5⟩ := r1
          cases h2
          exact T (hT x (by simpa using hc) C h3)
      · exact P1.elim
    · exact P1.elim
end
/-! ### the law's end -/
/-- what the law's def keeps: from the script to True -/
theorem law_g {P : Program} {w : World} {K : PySem.W.Frag} {mg mb : Str → Option Value} {k : Nat} {fl a : Addr} {fd : FuncData} {x : Str} {sp : Sp} {s₁ : Shared} {vs : List Value} {ns : List Int}
    (KX : K.In s₁.heap) (hns : s₁.heap.Ns mainGlobals mg) (hb : s₁.heap.Ns builtinsNs mb) (hbb : ∀ x : Str, x ≠ "__name__" → mb x = bootBuiltins x) (hlim : s₁.heap.NoLimit) (hg : s₁.gens = #[])
    (ha : s₁.heap.get? a = some { cls := .type "list", data := .seq vs.toArray }) (hi : IntsAre vs ns) (hl : ns.length ≤ sizeLine) (hr : Room k callerA)
    (F : ∀ base : Heap, K.In base → base.Ns mainGlobals mg → FnG P w K mg base k fl fd [x] sp) (hbind : ∀ (s : Shared) (u : Value), BindsTo s fd ⟨[u], []⟩ [(x, u)])
    (hsp : ∀ H : Hp, Only H → SqL K H a (ns.map V.int) → sp [.ref a] H (fun v _ => v = .bl true) fun _ _ _ => False) :
    codeAny (model P w) callerA (.call (.ref fl) ⟨[.ref a], []⟩) (fun r s' => r = .ok (.ret (.bool true)) ∧ OldK s₁.heap s'.heap ∧ s'.os = s₁.os ∧ AllBare s'.gens) s₁ := by
  have rv := vals_ints hi
  -- H: at most the script is tracked
  have run : ∀ H : Hp, Only H → SqL K H a (ns.map V.int) → HOk P w H s₁.heap → (∀ b, H b ≠ none → b = a ∧ K.lookup a = none) →
      codeAny (model P w) callerA (.call (.ref fl) ⟨[.ref a], []⟩) (fun r s' => r = .ok (.ret (.bool true)) ∧ OldK s₁.heap s'.heap ∧ s'.os = s₁.os ∧ AllBare s'.gens) s₁ := by
    intro H hO hS hok hA
    have free : ∀ {b : Addr} {o : Obj}, s₁.heap.get? b = some o → (∀ ws n, o.data ≠ .seq ws n) → H b = none := fun {b o} e d => by
      cases q : H b with
      | none => rfl
      | some u =>
        obtain ⟨z, _⟩ := hA b (by rw [q]; simp)
        rw [z, ha] at e
        cases e
        exact absurd rfl (d vs.toArray 0)
    have ns' : ∀ {b : Addr} {m : Str → Option Value}, s₁.heap.Ns b m → (hidT s₁.heap H).Ns b m := fun ⟨o, es, ep, e, d, r⟩ => ⟨o, es, ep, hidT_get e (free e fun _ _ z => by rw [d] at z; cases z), d, r⟩
    have kin : K.In (hidT s₁.heap H) := fun b o e => hidT_get (KX b o e) (by
      cases q : H b with
      | none => rfl
      | some u =>
        obtain ⟨z, n⟩ := hA b (by rw [q]; simp)
        rw [z, n] at e
        cases e)
    have md : Mod K mg (hidT s₁.heap H) := ⟨kin, ns' hns, ⟨mb, ns' hb, hbb⟩, let ⟨mc, h1, h2⟩ := hlim; ⟨mc, ns' h1, h2⟩⟩
    have env : Env0 P w K mg (hidT s₁.heap H) callerA [] s₁ H := ⟨rfl, md, fun b o e => of_hidT e, Nat.le_of_eq (hidT_size _ _), trivial, fun b hb => (nomatch hb), hok, .of_eq hg⟩
    refine codeAny_mono ((F _ kin (ns' hns)).run callerA [] s₁ H ⟨[.ref a], []⟩ [.ref a] [.ref a] _ _ hr rfl env (hbind s₁ (.ref a)) (.cons rfl .nil) (hsp H hO hS)) fun r s' h => ?_
    match r, h with
    | .error e, h => obtain ⟨_, _, _, _, _, _, _, _, _, _, _, _, z⟩ := h; exact z.elim
    | .ok .next, h => exact False.elim h
    | .ok .brk, h => exact False.elim h
    | .ok .cont, h => exact False.elim h
    | .ok (.ret u), h =>
      obtain ⟨v, H', os, bare, un, hok', r', q⟩ := h
      cases (show v = .bl true from q)
      cases (show u = Value.bool true from r')
      refine ⟨rfl, OldK.of_keep fun b o e => ?_, os, bare⟩
      cases qb : H b with
      | none => exact un.keep b o e qb (by intro z; cases z) (by intro z; cases z)
      | some u =>
        rcases hO b with z | ⟨ob, xs, z⟩
        · rw [qb] at z; cases z
        · have e1 := (hok b _ z).1
          have e2 := (hok' b _ (un.frzs b ob _ z)).1
          rw [e] at e1; cases e1
          exact e2
  have lenV : vs.length = ns.length := hi.length
  cases hk : K.lookup a with
  | some o =>
    have e := KX a o hk
    rw [ha] at e
    cases e
    exact run (fun _ => none) (fun _ => .inl rfl) (.inr ⟨_, vs.toArray, _, hk, rfl, rfl, rfl, by rw [List.size_toArray, lenV]; exact hl, by simpa using rv⟩) (fun b u z => by cases z) fun b z => absurd rfl z
  | none =>
    let so : Obj := { cls := .type "list", data := .seq vs.toArray }
    let H : Hp := fun b => if b = a then some (.frz so (.lst (ns.map V.int))) else none
    have at_ : H a = some (.frz so (.lst (ns.map V.int))) := if_pos rfl
    have off : ∀ {b : Addr}, b ≠ a → H b = none := fun h => if_neg h
    refine run H (fun b => ?_) (.inl (.inr ⟨so, at_⟩)) (fun b u z => ?_) fun b z => ⟨?_, hk⟩
    · by_cases hb : b = a
      · subst hb; exact .inr ⟨_, _, at_⟩
      · exact .inl (off hb)
    · by_cases hb : b = a
      · subst hb
        rw [at_] at z
        cases z
        exact ⟨ha, by rw [List.length_map]; exact hl, vs, 0, rv, ha⟩
      · rw [off hb] at z; cases z
    · by_cases hb : b = a
      · exact hb
      · exact absurd (off hb) z
theorem walk_g {l : PySem.W.OpenLaw} {n k : Nat} {q : Program} {loose : List Str} {XP : (Str → Option Value) → Heap → Prop} {YP : World → Heap → Prop} {d : DefRec} {K : Params → PySem.W.Frag} {sp : PySem.W.Frag → (Str → Option Value) → Sp} {x : Str}
    (hn : l.most = some n) (hn2 : n ≤ sizeLine) (hdf : d.params.defaults = []) (hr : Room k callerA) (hY : ∀ (w : World) (h : Heap), YP w h → (K w.params).In h)
    (F : ∀ (w : World) (mg : Str → Option Value) (fl : Addr) (h : Heap), (K w.params).In h → h.Ns mainGlobals mg → mg d.name = some (.ref fl) →
      ∃ fd : FuncData, (∀ (s : Shared) (u : Value), BindsTo s fd ⟨[u], []⟩ [(x, u)]) ∧ ∀ base : Heap, (K w.params).In base → base.Ns mainGlobals mg → FnG l.prog w (K w.params) mg base k fl fd [x] (sp (K w.params) mg))
    (hsp : ∀ (K : PySem.W.Frag) (mg : Str → Option Value) (H : Hp) (a : Addr) (ns : List Int), ns.length ≤ n → Only H → SqL K H a (ns.map V.int) → sp K mg [.ref a] H (fun v _ => v = .bl true) fun _ _ _ => False) :
    PySem.W.WalkO q loose XP YP l.row.toRowW d [] (fun f vs => PySem.call f vs) := by
  refine Att.attach_call hn hdf fun w s₀ s₁ mg mb fl o pm cd doc a vs ns G Y ho hd hcd hmg hobj hints hlen hg => ?_
  have KX := hY w _ Y
  obtain ⟨fd, hb, hF⟩ := F w mg fl _ KX G.T.g hmg
  exact law_g KX G.T.g G.T.b G.T.builtins G.T.nolimit hg hobj hints (Nat.le_trans hlen hn2) hr hF hb fun H hO hS => hsp _ mg H a ns hlen hO hS
end Pm

/-! Pm12: a module's constants, {}, walks over texts. -/
namespace Pm
open PySem L2 PyProof.Rows
section
variable {K : PySem.W.Frag} {mg : Str → Option Value} {x : Str}
structure Cn (K : PySem.W.Frag) (mg : Str → Option Value) (x : Str) (d : D) : Prop where
  ex : ∃ u v, mg x = some u ∧ RelV v u ∧ ∀ fa F, Rp K fa F v d
theorem Cn.int {i : Int} {t : Tok} (h : mg x = some (.int i t)) : Cn K mg x (.int i) := ⟨_, .int i, h, ⟨t, rfl⟩, fun _ _ => .int i⟩
theorem Cn.str {i : Str} {t : Tok} (h : mg x = some (.str i t)) : Cn K mg x (.str i) := ⟨_, .str i, h, ⟨t, rfl⟩, fun _ _ => .str i⟩
theorem vals_strs : ∀ {xs : List Str} {us : List Value}, us.map absV = xs.map (fun y => some (V.str y)) → Vals (xs.map V.str) us
  | [], [], _ => .nil
  | [], _ :: _, h => by cases h
  | _ :: _, [], h => by cases h
  | x :: xs, u :: us, h => by
    simp only [List.map_cons, List.cons.injEq] at h
    refine .cons ?_ (vals_strs h.2)
    have h1 := h.1
    unfold absV at h1
    split at h1 <;> cases h1
    exact ⟨_, rfl⟩
theorem Cn.strs {a : Addr} {od : Option Addr} {its : Array Value} {n : Nat} {sl : Array (Option Value)} {xs : List Str} (h : mg x = some (.ref a)) (l : K.lookup a = some ⟨.type "tuple", od, .seq its n, sl⟩) (e : its.toList.map absV = xs.map fun y => some (V.str y)) (hl : xs.length ≤ 1000000) : Cn K mg x (.tup (xs.map D.str)) :=
  ⟨_, .ref a, h, rfl, fun fa F => .tup (.inr ⟨_, its, n, l, rfl, rfl, (by
    have q := congrArg List.length e
    rw [List.length_map, List.length_map, Array.length_toList] at q
    rw [q]; exact small hl), vals_strs e⟩) (RpA.strs xs)⟩
end
section
variable {X : Cx} {fa : Fa} {Wx : WX} {pos : Pos} {x : Str}
theorem se_cn {d : D} (C : Cn X.K X.mg x d) (hg : Gl X x := by rfl) (hd : (x == ("__debug__" : Str)) = false := by decide) : SE X fa Wx (.Name x pos) (dC d) := by
  obtain ⟨u, v, hm, r, rp⟩ := C.ex
  exact se_glob hg hm r (rp fa) hd
theorem se_fn {C : Addr} (hm : X.mg x = some (.ref C)) (hC : fa.f x = some C) (hg : Gl X x := by rfl) (hd : (x == ("__debug__" : Str)) = false := by decide) : SE X fa Wx (.Name x pos) (dC (.fn x)) :=
  se_glob (v := .ref C) hg hm rfl (fun _ => .fn hC) hd
def dDic : Den := fun _ c => .ok (.c c.length) (c ++ [.dic []])
theorem se_dic : SE X fa Wx (.Dict [] [] pos) dDic := PE.imp pe_dnewK fun σ H Q q p n => by
  obtain ⟨sl, c, ad, F, ok, R, P⟩ := q
  have R' := R.newC (o := .dK []) (x := .dic []) n fun nF => ⟨nF, [], upd_same, .nil⟩
  refine P _ F _ (Same.refl F) (List.prefix_append _ _) R' (.ref p) ⟨p, ?_, rfl⟩
  rw [← R.len]; simp
def strItems (z : Str) : Items := fun i _ => some ((z.cps[i]?).map fun x => .str ⟨#[x]⟩)
def iStrD (f : Den) : Sl → Cells → Out Items := fun sl c => (f sl c).bind fun w c1 => match rd c1 w with
  | some (.str z) => .ok (strItems z) c1
  | _ => .bad
theorem str_items {K : PySem.W.Frag} {ad : List Addr} {F : Hp} (z : Str) : ItL K fa ad F (Its z) (strItems z) := fun i c ad' F' H s p R => by
  unfold strItems
  cases q : z.cps[i]? with
  | none => exact Array.getElem?_eq_none_iff.mp q
  | some x =>
    refine ⟨(Array.getElem?_eq_some_iff.mp q).1, fun y H' hy => ?_⟩
    obtain ⟨rfl, c2, h1, rfl⟩ := hy
    rw [q] at h1
    cases h1
    exact ⟨F', Same.refl _, R, .str _⟩
theorem si_str {tg e : Expr} {f : Den} (h : SE X fa Wx e f) : SI X fa Wx tg e (iStrD f) := PI.imp (pi_str h) fun σ H R0 q => by
  obtain ⟨sl, c, ad, F, ok, R, P⟩ := q
  refine ⟨sl, c, ad, F, ok, R, P.bind fun w c1 H1 F1 ad1 s p R1 P1 v rv => ?_⟩
  split at P1
  · rename_i z e
    exact ⟨z, R1.str rv e, P1.now R1 _ (str_items z)⟩
  · exact P1.elim
end
/-! ### small change -/
theorem un64 {k : Nat} {A : Around} (r : Room k A) : A.units + 64 < cLine := by have := r.un; omega
theorem unR {k : Nat} {A : Around} (r : Room k A) : A.units + 200 < cLine := by have := r.un; omega
theorem unRS {k : Nat} {A : Around} {v : Option Value} (r : Room k A) : (A.mark v).units + 200 < cLine := by have := r.un; show A.units + 200 < cLine; omega
theorem un64S {k : Nat} {A : Around} {v : Option Value} (r : Room k A) : (A.mark v).units + 64 < cLine := by have := r.un; show A.units + 64 < cLine; omega
theorem roomLe {j k : Nat} {A : Around} (r : Room k A) (h : j ≤ k) : Room j A := r.mono h
section
variable {X : Cx} {fa : Fa} {Wx : WX} {pos : Pos}
def dNeg (f : Den) : Den := fun sl c => (f sl c).bind fun w c1 => match w with
  | .d (.int i) => .ok (.d (.int (-i))) c1
  | _ => .bad
theorem se_neg {a : Expr} {f : Den} (h : SE X fa Wx a f) : SE X fa Wx (.UnaryOp .USub a pos) (dNeg f) := PE.imp (pe_un un_neg h) fun σ H Q q => by
  obtain ⟨sl, c, ad, F, ok, R, P⟩ := q
  refine ⟨sl, c, ad, F, ok, R, P.bind fun w c1 H1 F1 ad1 s p R1 P1 v rv => ?_⟩
  split at P1
  · rename_i i
    exact ⟨i, rv.intD, P1.now R1 _ (.int _)⟩
  · exact P1.elim
def gtName (i : Nat) : W → SDen := fun w sl c => .nx (sl.set i (some w)) c
def dCallK (n : Nat) (is : List Nat) (g : List W → Cells → Out W) (as : Sl → Cells → Out (List W)) : Den := fun sl c => (as sl c).bind fun ws c1 => if (perm is ws).length = n then g (perm is ws) c1 else .bad
end
def subOf (l : List ((Str × Str) × Bool)) (x h : Str) : Option Bool := l.lookup (x, h)
theorem lookup_in {α β : Type} [BEq α] [LawfulBEq α] {a : α} {b : β} : ∀ {l : List (α × β)}, l.lookup a = some b → (a, b) ∈ l
  | [], h => by cases h
  | (y, z) :: l, h => by
    rw [List.lookup_cons] at h
    split at h
    · rename_i e
      injection h with h
      rw [eq_of_beq e, h]
      exact List.mem_cons_self
    · exact List.mem_cons_of_mem _ (lookup_in h)
def SubC (K : PySem.W.Frag) (fa : Fa) (q : (Str × Str) × Bool) : Prop := ∀ C D, fa.f q.1.1 = some C → fa.f q.1.2 = some D → PySem.W.exmOne K (.ref C) (.ref D) = some q.2 ∧ PySem.W.kitOne K (.ref C) (.ref D) = some q.2
inductive AllL {α : Type} (p : α → Prop) : List α → Prop
  | nil : AllL p []
  | cons {a : α} {l : List α} : p a → AllL p l → AllL p (a :: l)
theorem AllL.mem {α : Type} {p : α → Prop} {a : α} : ∀ {l : List α}, AllL p l → a ∈ l → p a
  | _, .cons h r, m => by
    rcases List.mem_cons.mp m with e | e
    · rw [e]; exact h
    · exact r.mem e
theorem subOk_of {K : PySem.W.Frag} {fa : Fa} {l : List ((Str × Str) × Bool)} (h : AllL (SubC K fa) l) : SubOk K fa (subOf l) := fun x y b e C D h1 h2 => h.mem (lookup_in e) C D h1 h2
theorem subC_of {K : PySem.W.Frag} {fa : Fa} {x h : Str} {C D : Addr} {b : Bool} (m1 : fa.f x = some C) (m2 : fa.f h = some D) (e : PySem.W.exmOne K (.ref C) (.ref D) = some b) (k : PySem.W.kitOne K (.ref C) (.ref D) = some b) : SubC K fa ((x, h), b) := fun C' D' h1 h2 => by
  rw [m1] at h1; rw [m2] at h2
  cases h1; cases h2
  exact ⟨e, k⟩
section
variable {X : Cx} {fa : Fa} {pos p : Pos} {a dd C : Addr} {oe : Obj} {pn : List (Addr × Obj)}
def oIsxA (sub : Str → Str → Option Bool) (xs : List Str) : List W → Cells → Out W := fun ws c => match ws with
  | [.x x pl, w] => if xs.contains x = true then oIsx sub [.x x pl, w] c else .bad
  | _ => .bad
theorem se_isxA {sub : Str → Str → Option Bool} {xs : List Str} {as : Sl → Cells → Out (List W)} {e : Expr} {es : List Expr} (hT : ∀ x ∈ xs, ∀ C, fa.f x = some C → ExcC X.K C) (hs : SubOk X.K fa sub) (hz : Zc (.ref C) (some dd) oe) (hf : ∃ vs, oe.data = .fields vs) (hm : X.mg "isinstance" = none) (ha : SA (X.suite a ((a, oe) :: pn)) (fx fa a dd C) WF (e :: es) as) (hg : Gl X "isinstance" := by rfl)
    (he : starEach (e :: es) X.env = (false, eval e X.env) :: starEach es X.env := by rfl) (hpl : (backTo pos (starEach es X.env)).any (·.1) = false := by rfl) :
    SE (X.suite a ((a, oe) :: pn)) (fx fa a dd C) WF (.Call (.Name "isinstance" p) (e :: es) [] pos) (dCall (oIsxA sub xs) as) := se_isx hT hs hz hf hm ha hg he hpl
end
/-- one keyword for the one parameter -/
theorem kwp_one {K : PySem.W.Frag} {mg : Str → Option Value} {x y : Str} {st0 : Stmt} {f0 : Addr} {fd0 : FuncData} (F0 : Fun K x x st0 f0 fd0) (hm : mg x = some (.ref f0))
    (h : ∀ (kV doc pm : Value) (an : Option Addr) (cdv ct : Value) (u : Value), bindArgs (PySem.W.fnOf x x (defArgs st0) (defBody st0) (defScope st0) .none kV doc pm an cdv ct) ⟨[], [(y, u)]⟩ = pure [(y, u)]) : KwP K mg x [y] [y] [0] := ⟨fun f fd st hm2 Fn => by
  have e : f = f0 := by rw [hm] at hm2; cases hm2; rfl
  subst e
  obtain ⟨oc, od, kV, doc, pm, an, cdv, ct, osl, rfl, lk, hcd⟩ := F0.ex
  obtain ⟨oc', od', kV', doc', pm', an', cdv', ct', osl', rfl, lk', hcd'⟩ := Fn.ex
  rw [lk] at lk'
  injection lk' with lk'
  injection lk' with _ _ lk' _
  injection lk' with lk'
  refine ⟨fun us ws => match us with | [] => ws.take 1 | _ => [], fun us ws => match us with | [] => ws.take 1 | _ => [], ⟨fun s us ws hK hl => ?_, fun {vs us zs ws} r rz => ?_⟩, fun zs => ?_⟩
  · match us, ws, hl with
    | [], u :: _, _ => rw [← lk']; exact .of_eq (h kV doc pm an cdv ct u)
    | [], [], hl => cases hl
    | _ :: _, _, hl => cases hl
  · cases r with
    | nil => cases rz with
      | nil => exact .nil
      | cons r rs => exact .cons r .nil
    | cons _ _ => exact .nil
  · cases zs with
    | nil => rfl
    | cons z zs => rfl⟩
section
variable {X : Cx} {fa : Fa} {Wx : WX} {pos p : Pos} {x : Str} {st : Stmt} {k n : Nat} {ps : List Str} {g : List W → Cells → Out W}
theorem se_callN {e : Expr} {es : List Expr} {as : Sl → Cells → Out (List W)} (G : Fd X.prog X.w X.K X.mg X.base x st k ps g) (hr : Room k X.A) (hgd : X.A.guards = some []) (tk : Takes X Wx) (ha : SA X (faOf X.mg od) Wx (e :: es) as) (hn : ps.length = n := by rfl) (hg : Gl X x := by rfl)
    (hdb : (x == ("__debug__" : Str)) = false := by decide) (he : starEach (e :: es) X.env = (false, eval e X.env) :: starEach es X.env := by rfl) (hpl : (backTo pos (starEach es X.env)).any (·.1) = false := by rfl) :
    SE X (faOf X.mg od) Wx (.Call (.Name x p) (e :: es) [] pos) (dCallN n g as) := by
  subst hn
  exact se_call G hr hgd tk ha hg hdb he hpl
theorem se_callK {kw : Keyword} {kws : List Keyword} {as : Sl → Cells → Out (List W)} {ks : List Str} {is : List Nat} (G : Fd X.prog X.w X.K X.mg X.base x st k ps g) (KP : KwP X.K X.mg x ps ks is) (hr : Room k X.A) (hgd : X.A.guards = some []) (tk : Takes X Wx) (ha : PK X (kw :: kws) (tAs X.K (faOf X.mg od) Wx as)) (hn : ps.length = n := by rfl) (hg : Gl X x := by rfl)
    (hall : (backToKw pos (keywordEach (kw :: kws) X.env)).all (·.1.isSome) = true := by rfl) (hks : (backToKw pos (keywordEach (kw :: kws) X.env)).filterMap (·.1) = ks := by rfl)
    (hdb : (x == ("__debug__" : Str)) = false := by decide) (hpl : ((backTo pos (starEach [] X.env)).any (·.1) || (backToKw pos (keywordEach (kw :: kws) X.env)).any (·.1.isNone)) = false := by rfl) :
    SE X (faOf X.mg od) Wx (.Call (.Name x p) [] (kw :: kws) pos) (dCallK n is g as) := by
  subst hn
  exact se_callK0 G KP hr hgd tk ha hg hall hks hdb hpl
end
end Pm

/-! Pm13: how denotations are reckoned. -/
namespace Pm
open PySem L2 PyProof.Rows SX
def finR (n : Nat) : OS → Out W
  | .nx _ c' => .ok (.d .non) (c'.take n)
  | .ret w c' => fin n w c'
  | .exc _ x pl c' => .exc x pl (c'.take n)
  | _ => .bad
theorem runB_of {N : Nat} {b : SDen} {ws : List W} {c : Cells} (sl : Sl) (h : ws.map some ++ List.replicate (N - ws.length) none = sl) : runB N b ws c = finR c.length (b sl c) := by
  unfold runB finR
  rw [h]
  all_goals (cases b sl c <;> rfl)
theorem finR_nx (n : Nat) (sl : Sl) (c : Cells) : finR n (.nx sl c) = .ok (.d .non) (c.take n) := id rfl
theorem finR_ret (n : Nat) (d : D) (c : Cells) : finR n (.ret (.d d) c) = .ok (.d d) (c.take n) := id rfl
theorem finR_exc (n : Nat) (sl : Sl) (x : Str) (pl : List (Str × D)) (c : Cells) : finR n (.exc sl x pl c) = .exc x pl (c.take n) := id rfl
theorem finR_cell (c : Cells) (o : O) (r : Cells) (h : ∀ d, o ≠ .frz d) : finR c.length (.ret (.c c.length) (c ++ o :: r)) = .ok (.c c.length) (c ++ [o]) := by
  unfold finR fin
  dsimp only
  rw [if_neg (by omega), List.getElem?_append_right (Nat.le_refl _), Nat.sub_self, List.take_left' rfl]
  cases o <;> first | rfl | exact absurd rfl (h _)
theorem bT_ok (b : Bool) (c : Cells) : bT (.ok (.d (.bl b)) c) = .ok b c := id rfl
theorem bT_exc (x : Str) (pl : List (Str × D)) (c : Cells) : bT (.exc x pl c) = .exc x pl c := rfl
section
variable (sl : Sl) (c : Cells)
theorem e_var (i : Nat) (w : W) (h : sl[i]? = some (some w)) : dVar i sl c = .ok w c := by unfold dVar; rw [h]
theorem e_c (d : D) : dC d sl c = .ok (.d d) c := id rfl
theorem e_nil : dNil sl c = .ok [] c := id rfl
theorem e_cons (f : Den) (g : Sl → Cells → Out (List W)) : dCons f g sl c = (f sl c).bind fun w c1 => (g sl c1).bind fun ws c2 => .ok (w :: ws) c2 := id rfl
theorem e_bin (o : W → W → Cells → Out W) (f g : Den) : dBin o f g sl c = (f sl c).bind fun w1 c1 => (g sl c1).bind fun w2 c2 => o w1 w2 c2 := id rfl
theorem e_call (g : List W → Cells → Out W) (as : Sl → Cells → Out (List W)) : dCall g as sl c = (as sl c).bind g := id rfl
theorem e_callN (n : Nat) (g : List W → Cells → Out W) (as : Sl → Cells → Out (List W)) : dCallN n g as sl c = (as sl c).bind fun ws c1 => if ws.length = n then g ws c1 else .bad := id rfl
theorem e_test (f : Den) : dTest f sl c = bT (f sl c) := id rfl
theorem e_not (f : Sl → Cells → Out Bool) : dNot f sl c = (f sl c).bind fun b c1 => .ok (!b) c1 := id rfl
theorem e_and (f g : Sl → Cells → Out Bool) : dAnd f g sl c = (f sl c).bind fun b c1 => if b = true then g sl c1 else .ok false c1 := id rfl
theorem e_or (f g : Sl → Cells → Out Bool) : dOr f g sl c = (f sl c).bind fun b c1 => if b = true then .ok true c1 else g sl c1 := id rfl
theorem e_andV (f g : Den) : dAndV f g sl c = (bT (f sl c)).bind fun b c1 => if b = true then g sl c1 else .ok (.d (.bl false)) c1 := id rfl
theorem e_orV (f g : Den) : dOrV f g sl c = (bT (f sl c)).bind fun b c1 => if b = true then .ok (.d (.bl true)) c1 else g sl c1 := id rfl
theorem e_if (t : Sl → Cells → Out Bool) (f g : Den) : dIf t f g sl c = (t sl c).bind fun b c1 => if b = true then f sl c1 else g sl c1 := id rfl
theorem e_isN (f : Den) : dIsN f sl c = (f sl c).bind fun w c1 => .ok (.d (.bl (isN w))) c1 := id rfl
theorem e_meth (T : String) (o : W → List W → Cells → Out W) (f : Den) (as : Sl → Cells → Out (List W)) : dMeth T o f as sl c = (f sl c).bind fun w c1 => if tyOk T c1 w = true then (as sl c1).bind fun ws c2 => o w ws c2 else .bad := id rfl
theorem e_tup (as : Sl → Cells → Out (List W)) : dTup as sl c = (as sl c).bind fun ws c1 => (frzAll ws c1).bind mkT := id rfl
theorem e_lst (as : Sl → Cells → Out (List W)) : dLst as sl c = (as sl c).bind fun ws c1 => (frzAll ws c1).bind mkL := id rfl
theorem e_sl (f : Den) (l h : Sl → Cells → Out (Option Int)) : dSl f l h sl c = (f sl c).bind fun w c1 => (l sl c1).bind fun lo c2 => (h sl c2).bind fun hi c3 => oSl w lo hi c3 := id rfl
theorem e_some (f : Den) : pSome f sl c = (f sl c).bind fun w c1 => match w with
  | .d (.int i) => .ok (some i) c1
  | _ => .bad := rfl
theorem e_none : pNone sl c = .ok none c := id rfl
theorem e_scons (f g : SDen) : sCons f g sl c = (f sl c).andThen g := id rfl
theorem e_set (i : Nat) (f : Den) : sSet i f sl c = (f sl c).st sl fun w c1 => .nx (sl.set i (some w)) c1 := id rfl
theorem e_ret (f : Den) : sRet f sl c = (f sl c).st sl fun w c1 => .ret w c1 := id rfl
theorem e_exp (f : Den) : sExp f sl c = (f sl c).st sl fun _ c1 => .nx sl c1 := id rfl
theorem e_sif (t : Sl → Cells → Out Bool) (f g : SDen) : sIf t f g sl c = (t sl c).st sl fun b c1 => if b = true then f sl c1 else g sl c1 := id rfl
theorem e_aug (i : Nat) (o : W → W → Cells → Out W) (f : Den) (w0 : W) (h : sl[i]? = some (some w0)) : sAug i o f sl c = (f sl c).st sl fun w c1 => (o w0 w c1).st sl fun w2 c2 => .nx (sl.set i (some w2)) c2 := by unfold sAug; rw [h]
theorem e_asg (f : Den) (g : W → SDen) : sAsg f g sl c = (f sl c).st sl fun w c1 => (g w sl c1).only := id rfl
theorem e_raise (x : Str) (ps : List Str) (as : Sl → Cells → Out (List W)) : sRaise x ps as sl c = (as sl c).st sl fun ws c1 => (frzAll ws c1).st sl fun ds c2 => if ds.length = ps.length ∧ ps.Nodup ∧ ps.length ≤ 900 then .exc sl x (ps.zip ds) c2 else .bad := id rfl
theorem e_par (i j : Nat) (as : Sl → Cells → Out (List W)) : sPar i j as sl c = (as sl c).st sl fun ws c1 => match ws with
  | [a, b] => .nx ((sl.set i (some a)).set j (some b)) c1
  | _ => .bad := rfl
end
/-! ### operations -/
section
variable (c : Cells) (i j : Int) (a b : Str) (t u : List Nat)
theorem o_lt : oLt (.d (.int i)) (.d (.int j)) c = .ok (.d (.bl (decide (i < j)))) c := id rfl
theorem o_le : oLe (.d (.int i)) (.d (.int j)) c = .ok (.d (.bl (decide (i ≤ j)))) c := id rfl
theorem o_gt : oGt (.d (.int i)) (.d (.int j)) c = .ok (.d (.bl (decide (j < i)))) c := id rfl
theorem o_ge : oGe (.d (.int i)) (.d (.int j)) c = .ok (.d (.bl (decide (j ≤ i)))) c := id rfl
theorem o_sub : oSub (.d (.int i)) (.d (.int j)) c = .ok (.d (.int (i - j))) c := id rfl
theorem o_addI : oAdd (.d (.int i)) (.d (.int j)) c = .ok (.d (.int (i + j))) c := id rfl
theorem o_iaddI : oIadd (.d (.int i)) (.d (.int j)) c = .ok (.d (.int (i + j))) c := id rfl
theorem o_mod (h : 0 < j) : oMod (.d (.int i)) (.d (.int j)) c = .ok (.d (.int (i % j))) c := by show (if decide (0 < j) = true then _ else _) = _; rw [if_pos (decide_eq_true h)]
theorem o_eqS : oEq (.d (.str a)) (.d (.str b)) c = .ok (.d (.bl (decide (a = b)))) c := id rfl
theorem o_neS : oNe (.d (.str a)) (.d (.str b)) c = .ok (.d (.bl (!decide (a = b)))) c := id rfl
theorem o_eqI : oEq (.d (.int i)) (.d (.int j)) c = .ok (.d (.bl (decide (i = j)))) c := id rfl
theorem o_isi : oIsi [.d (.str a), .d (.ty "str")] c = .ok (.d (.bl true)) c := rfl
theorem o_s0 (g : Str → D) : oS0 g (.d (.str a)) [] c = .ok (.d (g a)) c := rfl
theorem o_sI (g : Str → Str → Int → D) : oSI g (.d (.str a)) [.d (.str b), .d (.int i)] c = .ok (.d (g a b i)) c := rfl
theorem tyS : tyOk "str" c (.d (.str a)) = true := rfl
theorem smL_of {n : Nat} (h : n ≤ 1000000) : smL n = true := decide_eq_true h
theorem o_len (h : t.length ≤ 1000000) : oLen [.d (.str (S t))] c = .ok (.d (.int t.length)) c := by
  show (if smL (S t).length = true then _ else _) = _
  rw [S_len, if_pos (smL_of h)]
theorem o_addS (h : t.length + u.length ≤ 1000000) : oAdd (.d (.str (S t))) (.d (.str (S u))) c = .ok (.d (.str (S (t ++ u)))) c := by
  show (if smL ((S t).length + (S u).length) = true then _ else _) = _
  rw [S_len, S_len, if_pos (smL_of h), S_cat]
theorem o_ix {n x : Nat} (h : t.length ≤ 1000000) (hx : t[n]? = some x) : oIx (.d (.str (S t))) (.d (.int n)) c = .ok (.d (.str (S [x]))) c := by
  show (if smL (S t).length = true then (match atI t n with | some x => _ | none => _) else _) = _
  rw [S_len, if_pos (smL_of h)]
  have hl := (List.getElem?_eq_some_iff.mp hx).1
  have : atI t (n : Int) = some x := by
    unfold atI ixN
    rw [if_pos (by omega), if_pos (by omega)]
    simpa using hx
  rw [this]
theorem cut_S (p q : Nat) : cutS (S t) (some p) (some q) = S ((t.drop p).take (q - p)) := by
  unfold cutS
  have hl : (S t).length = t.length := S_len t
  have e : (S t).cps.toList = t := rfl
  rw [HT.sIx_nat, HT.sIx_nat, e, hl]
  refine congrArg S ?_
  by_cases h1 : p ≤ t.length
  · rw [Nat.min_eq_left h1]
    by_cases h2 : q ≤ t.length
    · rw [Nat.min_eq_left h2]
    · rw [Nat.min_eq_right (by omega), List.take_of_length_le (by rw [List.length_drop]; omega), List.take_of_length_le (by rw [List.length_drop]; omega)]
  · rw [Nat.min_eq_right (show t.length ≤ p by omega), List.drop_eq_nil_of_le (Nat.le_refl _), List.drop_eq_nil_of_le (show t.length ≤ p by omega)]
    simp
theorem o_sl {p q : Nat} (h : t.length ≤ 1000000) : oSl (.d (.str (S t))) (some p) (some q) c = .ok (.d (.str (S ((t.drop p).take (q - p))))) c := by
  show (if smL (S t).length = true then _ else _) = _
  rw [S_len, if_pos (smL_of h), cut_S]
end
section
variable (a0 a1 a2 a3 a4 a5 a6 a7 a8 a9 : Option W) (w : W) (r : Sl) (c : Cells)
theorem e_v0 : dVar 0 (some w :: r) c = .ok w c := id rfl
theorem e_g0 (o : W → W → Cells → Out W) (f : Den) : sAug 0 o f (some w :: r) c = (f (some w :: r) c).st (some w :: r) fun w1 c1 => (o w w1 c1).st (some w :: r) fun w2 c2 => .nx (some w2 :: r) c2 := id rfl
theorem e_s0 (x : Option W) : (a0 :: r).set 0 x = x :: r := id rfl
theorem e_v1 : dVar 1 (a0 :: some w :: r) c = .ok w c := id rfl
theorem e_g1 (o : W → W → Cells → Out W) (f : Den) : sAug 1 o f (a0 :: some w :: r) c = (f (a0 :: some w :: r) c).st (a0 :: some w :: r) fun w1 c1 => (o w w1 c1).st (a0 :: some w :: r) fun w2 c2 => .nx (a0 :: some w2 :: r) c2 := id rfl
theorem e_s1 (x : Option W) : (a0 :: a1 :: r).set 1 x = a0 :: x :: r := id rfl
theorem e_v2 : dVar 2 (a0 :: a1 :: some w :: r) c = .ok w c := id rfl
theorem e_g2 (o : W → W → Cells → Out W) (f : Den) : sAug 2 o f (a0 :: a1 :: some w :: r) c = (f (a0 :: a1 :: some w :: r) c).st (a0 :: a1 :: some w :: r) fun w1 c1 => (o w w1 c1).st (a0 :: a1 :: some w :: r) fun w2 c2 => .nx (a0 :: a1 :: some w2 :: r) c2 := id rfl
theorem e_s2 (x : Option W) : (a0 :: a1 :: a2 :: r).set 2 x = a0 :: a1 :: x :: r := id rfl
theorem e_v3 : dVar 3 (a0 :: a1 :: a2 :: some w :: r) c = .ok w c := id rfl
theorem e_g3 (o : W → W → Cells → Out W) (f : Den) : sAug 3 o f (a0 :: a1 :: a2 :: some w :: r) c = (f (a0 :: a1 :: a2 :: some w :: r) c).st (a0 :: a1 :: a2 :: some w :: r) fun w1 c1 => (o w w1 c1).st (a0 :: a1 :: a2 :: some w :: r) fun w2 c2 => .nx (a0 :: a1 :: a2 :: some w2 :: r) c2 := id rfl
theorem e_s3 (x : Option W) : (a0 :: a1 :: a2 :: a3 :: r).set 3 x = a0 :: a1 :: a2 :: x :: r := id rfl
theorem e_v4 : dVar 4 (a0 :: a1 :: a2 :: a3 :: some w :: r) c = .ok w c := id rfl
theorem e_g4 (o : W → W → Cells → Out W) (f : Den) : sAug 4 o f (a0 :: a1 :: a2 :: a3 :: some w :: r) c = (f (a0 :: a1 :: a2 :: a3 :: some w :: r) c).st (a0 :: a1 :: a2 :: a3 :: some w :: r) fun w1 c1 => (o w w1 c1).st (a0 :: a1 :: a2 :: a3 :: some w :: r) fun w2 c2 => .nx (a0 :: a1 :: a2 :: a3 :: some w2 :: r) c2 := id rfl
theorem e_s4 (x : Option W) : (a0 :: a1 :: a2 :: a3 :: a4 :: r).set 4 x = a0 :: a1 :: a2 :: a3 :: x :: r := id rfl
theorem e_v5 : dVar 5 (a0 :: a1 :: a2 :: a3 :: a4 :: some w :: r) c = .ok w c := id rfl
theorem e_g5 (o : W → W → Cells → Out W) (f : Den) : sAug 5 o f (a0 :: a1 :: a2 :: a3 :: a4 :: some w :: r) c = (f (a0 :: a1 :: a2 :: a3 :: a4 :: some w :: r) c).st (a0 :: a1 :: a2 :: a3 :: a4 :: some w :: r) fun w1 c1 => (o w w1 c1).st (a0 :: a1 :: a2 :: a3 :: a4 :: some w :: r) fun w2 c2 => .nx (a0 :: a1 :: a2 :: a3 :: a4 :: some w2 :: r) c2 := id rfl
theorem e_s5 (x : Option W) : (a0 :: a1 :: a2 :: a3 :: a4 :: a5 :: r).set 5 x = a0 :: a1 :: a2 :: a3 :: a4 :: x :: r := id rfl
theorem e_v6 : dVar 6 (a0 :: a1 :: a2 :: a3 :: a4 :: a5 :: some w :: r) c = .ok w c := id rfl
theorem e_g6 (o : W → W → Cells → Out W) (f : Den) : sAug 6 o f (a0 :: a1 :: a2 :: a3 :: a4 :: a5 :: some w :: r) c = (f (a0 :: a1 :: a2 :: a3 :: a4 :: a5 :: some w :: r) c).st (a0 :: a1 :: a2 :: a3 :: a4 :: a5 :: some w :: r) fun w1 c1 => (o w w1 c1).st (a0 :: a1 :: a2 :: a3 :: a4 :: a5 :: some w :: r) fun w2 c2 => .nx (a0 :: a1 :: a2 :: a3 :: a4 :: a5 :: some w2 :: r) c2 := id rfl
theorem e_s6 (x : Option W) : (a0 :: a1 :: a2 :: a3 :: a4 :: a5 :: a6 :: r).set 6 x = a0 :: a1 :: a2 :: a3 :: a4 :: a5 :: x :: r := id rfl
theorem e_v7 : dVar 7 (a0 :: a1 :: a2 :: a3 :: a4 :: a5 :: a6 :: some w :: r) c = .ok w c := id rfl
theorem e_g7 (o : W → W → Cells → Out W) (f : Den) : sAug 7 o f (a0 :: a1 :: a2 :: a3 :: a4 :: a5 :: a6 :: some w :: r) c = (f (a0 :: a1 :: a2 :: a3 :: a4 :: a5 :: a6 :: some w :: r) c).st (a0 :: a1 :: a2 :: a3 :: a4 :: a5 :: a6 :: some w :: r) fun w1 c1 => (o w w1 c1).st (a0 :: a1 :: a2 :: a3 :: a4 :: a5 :: a6 :: some w :: r) fun w2 c2 => .nx (a0 :: a1 :: a2 :: a3 :: a4 :: a5 :: a6 :: some w2 :: r) c2 := id rfl
theorem e_s7 (x : Option W) : (a0 :: a1 :: a2 :: a3 :: a4 :: a5 :: a6 :: a7 :: r).set 7 x = a0 :: a1 :: a2 :: a3 :: a4 :: a5 :: a6 :: x :: r := id rfl
theorem e_v8 : dVar 8 (a0 :: a1 :: a2 :: a3 :: a4 :: a5 :: a6 :: a7 :: some w :: r) c = .ok w c := id rfl
theorem e_g8 (o : W → W → Cells → Out W) (f : Den) : sAug 8 o f (a0 :: a1 :: a2 :: a3 :: a4 :: a5 :: a6 :: a7 :: some w :: r) c = (f (a0 :: a1 :: a2 :: a3 :: a4 :: a5 :: a6 :: a7 :: some w :: r) c).st (a0 :: a1 :: a2 :: a3 :: a4 :: a5 :: a6 :: a7 :: some w :: r) fun w1 c1 => (o w w1 c1).st (a0 :: a1 :: a2 :: a3 :: a4 :: a5 :: a6 :: a7 :: some w :: r) fun w2 c2 => .nx (a0 :: a1 :: a2 :: a3 :: a4 :: a5 :: a6 :: a7 :: some w2 :: r) c2 := id rfl
theorem e_s8 (x : Option W) : (a0 :: a1 :: a2 :: a3 :: a4 :: a5 :: a6 :: a7 :: a8 :: r).set 8 x = a0 :: a1 :: a2 :: a3 :: a4 :: a5 :: a6 :: a7 :: x :: r := id rfl
theorem e_v9 : dVar 9 (a0 :: a1 :: a2 :: a3 :: a4 :: a5 :: a6 :: a7 :: a8 :: some w :: r) c = .ok w c := id rfl
theorem e_g9 (o : W → W → Cells → Out W) (f : Den) : sAug 9 o f (a0 :: a1 :: a2 :: a3 :: a4 :: a5 :: a6 :: a7 :: a8 :: some w :: r) c = (f (a0 :: a1 :: a2 :: a3 :: a4 :: a5 :: a6 :: a7 :: a8 :: some w :: r) c).st (a0 :: a1 :: a2 :: a3 :: a4 :: a5 :: a6 :: a7 :: a8 :: some w :: r) fun w1 c1 => (o w w1 c1).st (a0 :: a1 :: a2 :: a3 :: a4 :: a5 :: a6 :: a7 :: a8 :: some w :: r) fun w2 c2 => .nx (a0 :: a1 :: a2 :: a3 :: a4 :: a5 :: a6 :: a7 :: a8 :: some w2 :: r) c2 := id rfl
theorem e_s9 (x : Option W) : (a0 :: a1 :: a2 :: a3 :: a4 :: a5 :: a6 :: a7 :: a8 :: a9 :: r).set 9 x = a0 :: a1 :: a2 :: a3 :: a4 :: a5 :: a6 :: a7 :: a8 :: x :: r := id rfl
end
end Pm
namespace Pm
open PySem L2 PyProof.Rows SX
/-- a loop over fixed items -/
def forL (g : W → SDen) (b : SDen) : List D → SDen
  | [], sl, c => .nx sl c
  | d :: ds, sl, c => (g (.d d) sl c).only.andThen fun sl1 c1 => match b sl1 c1 with
      | .nx sl2 c2 => forL g b ds sl2 c2
      | .cnt sl2 c2 => forL g b ds sl2 c2
      | .brk sl2 c2 => .nx sl2 c2
      | .ret w c2 => .ret w c2
      | .exc sl2 x pl c2 => .exc sl2 x pl c2
      | .bad => .bad
theorem loopF_fix {item : Items} {ds : List D} (hi : ∀ i c, item i c = some ds[i]?) (g : W → SDen) (b : SDen) : ∀ (es : List D) (m i : Nat) (sl : Sl) (c : Cells), ds.drop i = es → es.length < m → loopF item g b m i sl c = forL g b es sl c
  | [], m, i, sl, c, e, h => by
    obtain ⟨m, rfl⟩ : ∃ k, m = k + 1 := ⟨m - 1, by omega⟩
    have : ds[i]? = none := List.getElem?_eq_none (List.drop_eq_nil_iff.mp e)
    unfold loopF forL
    rw [hi, this]
  | d :: es, m, i, sl, c, e, h => by
    obtain ⟨m, rfl⟩ : ∃ k, m = k + 1 := ⟨m - 1, by omega⟩
    have hlt : i < ds.length := by
      rcases Nat.lt_or_ge i ds.length with h2 | h2
      · exact h2
      · rw [List.drop_eq_nil_of_le h2] at e; cases e
    have e2 := List.drop_eq_getElem_cons hlt
    rw [e] at e2
    injection e2 with e3 e4
    have : ds[i]? = some d := by rw [e3]; simp [hlt]
    unfold loopF forL
    rw [hi, this]
    dsimp only
    refine congrArg (fun k => ((g (.d d) sl c).only).andThen k) ?_
    funext sl1 c1
    have ih := fun sl2 c2 => loopF_fix hi g b es m (i + 1) sl2 c2 e4.symm (by simp at h; omega)
    cases b sl1 c1 with
    | nx sl2 c2 => exact ih sl2 c2
    | cnt sl2 c2 => exact ih sl2 c2
    | _ => rfl
theorem e_forT (sl : Sl) (c : Cells) (ds : List D) (g : W → SDen) (b : SDen) (h : ds.length < 1000000000) : sFor (iTupD (dC (.tup ds))) g b sl c = forL g b ds sl c := by
  unfold sFor iTupD
  simp only [e_c, Out.bind_ok, rd_d, Out.st_ok]
  have h2 : ds.length < bigN := by unfold bigN; exact h
  generalize bigN = m at h2 ⊢
  exact loopF_fix (item := tupItems (.d (.tup ds))) (fun i c => rfl) g b ds m 0 sl c rfl h2
section
variable (c : Cells) (a b d : D)
theorem fr0 : frzAll [] c = .ok [] c := rfl
theorem fr1 : frzAll [.d a] c = .ok [a] c := rfl
theorem fr2 : frzAll [.d a, .d b] c = .ok [a, b] c := rfl
theorem fr3 : frzAll [.d a, .d b, .d d] c = .ok [a, b, d] c := rfl
theorem mk0 : mkL [] c = .ok (.c c.length) (c ++ [.lst []]) := rfl
theorem mkT_of {ds : List D} (h : ds.length ≤ 1000000) : mkT ds c = .ok (.d (.tup ds)) c := if_pos h
theorem mkL_of {ds : List D} (h : ds.length ≤ 1000000) : mkL ds c = .ok (.c c.length) (c ++ [.lst ds]) := if_pos h
theorem mkT1 : mkT [a] c = .ok (.d (.tup [a])) c := mkT_of c (by simp)
theorem mkT2 : mkT [a, b] c = .ok (.d (.tup [a, b])) c := mkT_of c (by simp)
theorem mkT3 : mkT [a, b, d] c = .ok (.d (.tup [a, b, d])) c := mkT_of c (by simp)
theorem o_isN : isN (.d d) = (match d with | .non => true | _ => false) := by cases d <;> rfl
theorem rz1 (x f : Str) (as : Sl → Cells → Out (List W)) (sl : Sl) (c1 : Cells) (h : as sl c = .ok [.d d] c1) : sRaise x [f] as sl c = .exc sl x [(f, d)] c1 := by
  unfold sRaise
  rw [h]
  simp only [Out.st_ok, fr1]
  rw [if_pos ⟨rfl, by simp, by simp⟩]
  rfl
end
theorem sw_S (t u : List Nat) (n : Nat) (h : u ≠ []) : Txt.startswith3 (S t) (S u) (n : Int) = decide ((t.drop n).take u.length = u) := by
  unfold Txt.startswith3
  have e2 : PySem.fromIndex (S t).length (n : Int) = n := by
    unfold PySem.fromIndex
    rw [if_neg (by omega)]
    omega
  rw [e2]
  unfold Builtin.Str.subAt
  rw [S_len, S_len]
  have e3 : ((S t).cps.extract n (n + u.length) == (S u).cps) = decide ((t.drop n).take u.length = u) := by
    have : (S t).cps.extract n (n + u.length) = ((t.drop n).take u.length).toArray := by
      simp [S, List.extract_toArray, List.extract_eq_take_drop]
    rw [this]
    by_cases h : (t.drop n).take u.length = u
    · rw [h]; simp
    · simp [h]
  rw [e3]
  by_cases h2 : (t.drop n).take u.length = u
  · have : 0 < u.length := List.length_pos_iff.mpr h
    have hl := congrArg List.length h2
    rw [List.length_take, List.length_drop] at hl
    rw [decide_eq_true (by omega : n + u.length ≤ t.length)]
    simp
  · simp [h2]
end Pm
namespace Pm
open PySem L2 PyProof.Rows SX
theorem e_gt (i : Nat) (w : W) (sl : Sl) (c : Cells) : gtName i w sl c = .nx (sl.set i (some w)) c := id rfl
theorem e_gtT (n : Nat) (h : List D → SDen) (ds : List D) (sl : Sl) (c : Cells) : gtTup n h (.d (.tup ds)) sl c = if ds.length = n then h ds sl c else .bad := id rfl
theorem e_gtC (g : W → SDen) (h : List D → SDen) (d : D) (ds : List D) (sl : Sl) (c : Cells) : gtCons g h (d :: ds) sl c = (g (.d d) sl c).andThen (h ds) := id rfl
theorem e_gtN (sl : Sl) (c : Cells) : gtNil [] sl c = .nx sl c := id rfl
theorem forL_cons (g : W → SDen) (b : SDen) (d : D) (ds : List D) (sl : Sl) (c : Cells) : forL g b (d :: ds) sl c = (g (.d d) sl c).only.andThen fun sl1 c1 => match b sl1 c1 with
      | .nx sl2 c2 => forL g b ds sl2 c2
      | .cnt sl2 c2 => forL g b ds sl2 c2
      | .brk sl2 c2 => .nx sl2 c2
      | .ret w c2 => .ret w c2
      | .exc sl2 x pl c2 => .exc sl2 x pl c2
      | .bad => .bad := rfl
theorem loopW_succ (t : Sl → Cells → Out Bool) (b : SDen) (m : Nat) (sl : Sl) (c : Cells) : loopW t b (m + 1) sl c = (t sl c).st sl fun v c1 => if v = true then (match b sl c1 with
      | .nx sl2 c2 => loopW t b m sl2 c2
      | .cnt sl2 c2 => loopW t b m sl2 c2
      | .brk sl2 c2 => .nx sl2 c2
      | .ret w c2 => .ret w c2
      | .exc sl2 x pl c2 => .exc sl2 x pl c2
      | .bad => .bad) else .nx sl c1 := rfl
/-! ### the newest cell -/
section
variable (c : Cells) (o o' : O) (acc : List D) (d : D)
theorem ca_get : (c ++ [o])[c.length]? = some o := by simp
theorem ca_set : (c ++ [o]).set c.length o' = c ++ [o'] := by simp
theorem ca_take : (c ++ [o]).take c.length = c := by simp
theorem ca_rd : rd (c ++ [.lst acc]) (.c c.length) = some (.lst acc) := by
  show ((c ++ [O.lst acc])[c.length]?).map O.val = _
  rw [ca_get]; rfl
theorem ca_ty : tyOk "list" (c ++ [.lst acc]) (.c c.length) = true := by unfold tyOk; rw [ca_rd]; rfl
theorem o_app (h : acc.length < 1000000) : oAppend (.c c.length) [.d d] (c ++ [.lst acc]) = .ok (.d .non) (c ++ [.lst (acc ++ [d])]) := by
  unfold oAppend
  dsimp only
  rw [show fz (.d d) (c ++ [O.lst acc]) = .ok d (c ++ [O.lst acc]) from rfl, Out.bind_ok, ca_get]
  dsimp only
  rw [if_pos h, ca_set]
theorem fin_cell : finR c.length (.ret (.c c.length) (c ++ [.lst acc])) = .ok (.c c.length) (c ++ [.lst acc]) := finR_cell c (.lst acc) [] (fun d h => by cases h)
theorem fz_cell : fz (.c c.length) (c ++ [.lst acc]) = .ok (.lst acc) (c ++ [.frz (.lst acc)]) := by
  unfold fz
  dsimp only
  rw [ca_get]
  dsimp only
  rw [ca_set]
  rfl
end
end Pm
namespace Pm
open PySem L2 PyProof.Rows SX
theorem ca_take1 (c : Cells) (o : O) : (c ++ [o]).take (c.length + 1) = c ++ [o] := List.take_of_length_le (by simp)
theorem fz_d (d : D) (c : Cells) : fz (.d d) c = .ok d c := rfl
theorem loopC_map {item : Items} {ds : List D} {one : Bool} {is vs : List Nat} {f : Den} {sl : Sl} {c0 : Cells} (hi : ∀ i c, item i c = some ds[i]?) (h : D → D) (hs : ∀ d ∈ ds, ∃ sl1, storeC one is d (wipeS sl vs) = some sl1 ∧ ∀ c, f sl1 c = .ok (.d (h d)) c) :
    ∀ (es : List D) (m i : Nat) (acc : List D), ds.drop i = es → es.length < m → acc.length + es.length ≤ 1000000 → loopC item one is vs tYesD f sl c0.length m i (c0 ++ [.lst acc]) = .ok (.c c0.length) (c0 ++ [.lst (acc ++ es.map h)])
  | [], m, i, acc, e, hm, hl => by
    obtain ⟨m, rfl⟩ : ∃ k, m = k + 1 := ⟨m - 1, by omega⟩
    have : ds[i]? = none := List.getElem?_eq_none (List.drop_eq_nil_iff.mp e)
    unfold loopC
    rw [hi, this]
    dsimp only
    rw [ca_take1, List.map_nil, List.append_nil]
  | d :: es, m, i, acc, e, hm, hl => by
    obtain ⟨m, rfl⟩ : ∃ k, m = k + 1 := ⟨m - 1, by omega⟩
    have hlt : i < ds.length := by
      rcases Nat.lt_or_ge i ds.length with h2 | h2
      · exact h2
      · rw [List.drop_eq_nil_of_le h2] at e; cases e
    have e2 := List.drop_eq_getElem_cons hlt
    rw [e] at e2
    injection e2 with e3 e4
    have e5 : ds[i]? = some d := by rw [e3]; simp [hlt]
    obtain ⟨sl1, s1, s2⟩ := hs d (List.mem_of_getElem? e5)
    unfold loopC
    rw [hi, e5]
    dsimp only
    rw [s1]
    dsimp only
    simp only [tYesD, Out.ne_ok, Out.bind_ok, if_true, s2, fz_d, ca_get]
    rw [if_pos (by simp at hl; omega), ca_set, ca_take1]
    have ih := loopC_map (c0 := c0) hi h hs es m (i + 1) (acc ++ [h d]) e4.symm (by simp at hm; omega) (by simp at hl ⊢; omega)
    rw [List.map_cons, show acc ++ h d :: es.map h = (acc ++ [h d]) ++ es.map h by simp]
    exact ih
theorem e_lcS {t : List Nat} {i : Nat} {f : Den} {sl : Sl} {c : Cells} {g : Den} (h : Nat → D) (hg : g sl c = .ok (.d (.str (S t))) c) (hl : t.length ≤ 1000) (hf : ∀ x ∈ t, ∀ c, f ((wipeS sl [i]).set i (some (.d (.str (S [x]))))) c = .ok (.d (h x)) c) :
    dLc (iStrD g) true [i] [i] tYesD f sl c = .ok (.c c.length) (c ++ [.lst (t.map h)]) := by
  unfold dLc iStrD
  rw [hg]
  simp only [Out.bind_ok, rd_d]
  have key := loopC_map (item := strItems (S t)) (ds := t.map fun x => .str (S [x])) (one := true) (is := [i]) (vs := [i]) (f := f) (sl := sl) (c0 := c)
    (fun j c => by
      unfold strItems
      rw [List.getElem?_map, ← Array.getElem?_toList])
    (fun d => match d with | .str z => h (z.cps.toList.headD 0) | d => d)
    (fun d hd => by
      obtain ⟨x, hx, rfl⟩ := List.mem_map.mp hd
      exact ⟨_, rfl, fun c => hf x hx c⟩)
    (t.map fun x => .str (S [x])) bigN 0 [] rfl (by rw [List.length_map]; unfold bigN; omega) (by simp; omega)
  rw [key, List.map_map, List.nil_append]
  rfl
theorem bls_map (t : List Nat) (p : Nat → Bool) : blsD (t.map fun x => .bl (p x)) = some (t.map p) := by
  induction t with
  | nil => rfl
  | cons x t ih => rw [List.map_cons]; unfold blsD; rw [ih]; rfl
theorem o_all (c : Cells) (t : List Nat) (p : Nat → Bool) : oAll [.c c.length] (c ++ [.lst (t.map fun x => .bl (p x))]) = .ok (.d (.bl (t.all p))) (c ++ [.lst (t.map fun x => .bl (p x))]) := by
  unfold oAll
  dsimp only
  rw [ca_rd]
  dsimp only
  rw [bls_map]
  dsimp only
  rw [List.all_map]
  rfl
theorem fin_new {c d : Cells} (acc : List D) (h : d.take c.length = c) (h2 : c.length ≤ d.length) : finR c.length (.ret (.c d.length) (d ++ [.lst acc])) = .ok (.c c.length) (c ++ [.lst acc]) := by
  unfold finR fin
  dsimp only
  rw [if_neg (by omega), ca_get]
  dsimp only
  rw [List.take_append_of_le_length h2, h]
end Pm
namespace Pm
open PySem L2 PyProof.Rows SX
theorem fr_c (c : Cells) (acc : List D) (d : D) : frzAll [.c c.length, .d d] (c ++ [.lst acc]) = .ok [.lst acc, d] (c ++ [.frz (.lst acc)]) := by
  show (fz (.c c.length) (c ++ [.lst acc])).bind _ = _
  rw [fz_cell]
  rfl
theorem o_ixT1 (c : Cells) (a b d : D) : oIx (.d (.tup [a, b, d])) (.d (.int 1)) c = .ok (.d b) c := rfl
theorem isN_non : isN (.d .non) = true := rfl
theorem isN_tup (ds : List D) : isN (.d (.tup ds)) = false := rfl
theorem e_neg (f : Den) (sl : Sl) (c : Cells) (i : Int) (h : f sl c = .ok (.d (.int i)) c) : dNeg f sl c = .ok (.d (.int (-i))) c := by unfold dNeg; rw [h]; rfl
end Pm
namespace Pm
open PySem L2 PyProof.Rows
theorem fld_one {K : PySem.W.Frag} {fa : Fa} {x f : Str} {C : Addr} (m : fa.f x = some C) (h : XfC K C) (n : PySem.W.findIn K (.ref C) f = some none) : FldOk K fa [x] [f] := fun y hy D hD => by
  rw [List.mem_singleton] at hy
  subst hy
  rw [m] at hD
  cases hD
  exact ⟨h, fun g hg => by rw [List.mem_singleton] at hg; subst hg; exact n⟩
theorem isi_one {K : PySem.W.Frag} {fa : Fa} {x : Str} {C : Addr} (m : fa.f x = some C) (h : ExcC K C) : ∀ y ∈ [x], ∀ D, fa.f y = some D → ExcC K D := fun y hy D hD => by
  rw [List.mem_singleton] at hy
  subst hy
  rw [m] at hD
  cases hD
  exact h
end Pm

/-! Pm14: chains of comparisons, tuple(..), partition, extend. -/
namespace Pm
open PySem L2 PyProof.Rows
section
variable {X : Cx} {fa : Fa} {Wx : WX} {pos : Pos}
/-- a op1 b op2 c -/
def dChain (o o' : W → W → Cells → Out W) (f g h : Den) : Den := fun sl c => (f sl c).bind fun w1 c1 => (g sl c1).bind fun w2 c2 => (bT (o w1 w2 c2)).bind fun k c3 => if k = true then (h sl c3).bind fun w3 c4 => o' w2 w3 c4 else .ok (.d (.bl false)) c3
theorem tChain_of {K : PySem.W.Frag} {r r' : R2} {o o' : W → W → Cells → Out W} (hl : OpL K fa r o) (hl' : OpL K fa r' o') {f g h : Den} {σ : L2.St} {H : Hp} {Q : VK} (q : tE K fa Wx (dChain o o' f g h) σ H Q) : tChain r r' (tE K fa Wx f) (tE K fa Wx g) (tE K fa Wx h) σ H Q := by
  obtain ⟨sl, c, ad, F, ok, R, P⟩ := q
  refine ⟨sl, c, ad, F, ok, R, P.bind fun w1 c1 H1 F1 ad1 s p R1 P1 v1 r1 => ?_⟩
  refine ⟨sl, c1, ad1, F1, ok.mono s p, R1, P1.bind fun w2 c2 H2 F2 ad2 s2 p2 R2 P2 v2 r2 => ?_⟩
  have ok2 := (ok.mono s p).mono s2 p2
  have P2' : Post K fa (fun cls d H' => Wx cls d σ H') ad2 F2 (fun w ad' F' H' => ∀ v, RW K fa ad' F' v w → ∃ k, v = .bl k ∧ (if k = true then tE K fa Wx h σ H' (fun w' H4 => r' v2 w' H4 Q) else Q (.bl false) H')) (o w1 w2 c2) := by
    unfold bT at P2
    revert P2
    cases o w1 w2 c2 with
    | exc x pl c => exact fun P2 => P2
    | bad => exact fun P2 => P2
    | ok w c3 =>
      rw [Out.bind_ok]
      intro P2 H' F' ad' s3 p3 R3 v rv
      cases w with
      | c k => exact P2.elim
      | x _ _ => exact P2.elim
      | raw _ => exact P2.elim
      | d x =>
        cases x <;> first | exact P2.elim | skip
        rename_i k
        cases rv
        refine ⟨k, rfl, ?_⟩
        rw [Out.bind_ok] at P2
        cases k with
        | false =>
          rw [if_neg Bool.false_ne_true] at P2 ⊢
          exact P2 H' F' ad' s3 p3 R3 _ (.bl false)
        | true =>
          rw [if_pos rfl] at P2 ⊢
          have P3 := Post.weak P2 s3 p3
          refine ⟨sl, c3, ad', F', ok2.mono s3 p3, R3, P3.bind fun w3 c4 H4 F4 ad4 s4 p4 R4 P4 v3 r3 => ?_⟩
          exact hl' c4 ad4 F4 H4 v2 v3 w2 w3 Q _ R4 ((r2.mono s3 p3).mono s4 p4) r3 P4
  exact hl c2 ad2 F2 H2 v1 v2 w1 w2 _ _ R2 (r1.mono s2 p2) r2 P2'
theorem se_chain {op op' : CmpOp} {r r' : R2} {o o' : W → W → Cells → Out W} {a b e : Expr} {f g h : Den} (ho : OpR X (compareOp op) r) (hl : OpL X.K fa r o) (ho' : OpR X (compareOp op') r') (hl' : OpL X.K fa r' o') (ha : SE X fa Wx a f) (hb : SE X fa Wx b g) (hc : SE X fa Wx e h)
    (hm : lastMarks [op, op'] [b, e] = false := by with_unfolding_all rfl) : SE X fa Wx (.Compare a [op, op'] [b, e] pos) (dChain o o' f g h) := PE.imp (pe_chain ho ho' ha hb hc hm) fun σ H Q q => tChain_of hl hl' q
theorem st_chain {op op' : CmpOp} {r r' : R2} {o o' : W → W → Cells → Out W} {a b e : Expr} {f g h : Den} (ho : OpR X (compareOp op) r) (hl : OpL X.K fa r o) (ho' : OpR X (compareOp op') r') (hl' : OpL X.K fa r' o') (ha : SE X fa Wx a f) (hb : SE X fa Wx b g) (hc : SE X fa Wx e h)
    (hm : lastMarks [op, op'] [b, e] = false := by with_unfolding_all rfl) : STt X fa Wx (.Compare a [op, op'] [b, e] pos) (dTest (dChain o o' f g h)) := PT.imp (pt_chain ho ho' ha hb hc hm) fun σ H Q q => tChain_of hl hl' (tB_of q)
end
section
variable {K : PySem.W.Frag} {fa : Fa}
/-- tuple(of a list, of a tuple) -/
def oTupOf : List W → Cells → Out W := fun ws c => match ws with
  | [w] => match rd c w with
    | some (.lst ds) => mkT ds c
    | some (.tup ds) => .ok (.d (.tup ds)) c
    | _ => .bad
  | _ => .bad
theorem ll_tupof : CalL K fa (fun xs H Q => ∃ p ys, xs = [.ref p] ∧ ((SqL K H p ys ∧ ∀ l, H l = none → Q (.ref l) (upd H l (.tup ys))) ∨ (SqT K H p ys ∧ Q (.ref p) H))) oTupOf := fun c ad F H vs ws Q E R r P => by
  unfold oTupOf at P
  split at P
  · rename_i w
    match vs, r with
    | [v], .cons r .nil =>
      split at P
      · rename_i ds e
        obtain ⟨a, us, e1, e2, e3⟩ := R.lst r e
        exact ⟨a, us, by rw [e1], .inl ⟨.inl e2, (mkT_ok P R e3).2⟩⟩
      · rename_i ds e
        have rp := tupW R r e
        obtain ⟨a, us, e1, e2, e3⟩ := R.tup r e
        refine ⟨a, us, by rw [e1], .inr ⟨e2, ?_⟩⟩
        rw [e1] at rp
        exact P.now R _ rp
      · exact P.elim
  · exact P.elim
/-- x.partition(sep) -/
def oPart : W → List W → Cells → Out W := fun w ws c => match rd c w, ws with
  | some (.str a), [.d (.str b)] => if (decide (b.length ≠ 0) && smL a.length) = true then mkT [.str (Txt.partition a b).1, .str (Txt.partition a b).2.1, .str (Txt.partition a b).2.2] c else .bad
  | _, _ => .bad
theorem m_part : MtL K fa (fun x xs H Q => ∃ a b, x = .str a ∧ xs = [.str b] ∧ (b.length == 0) = false ∧ a.length ≤ sizeLine ∧
    ∀ p, H p = none → Q (.ref p) (upd H p (.tup [.str (Txt.partition a b).1, .str (Txt.partition a b).2.1, .str (Txt.partition a b).2.2]))) oPart := fun c ad F H v w vs ws Q E R r rs P => by
  unfold oPart at P
  split at P
  · rename_i a b e
    split at P
    · rename_i h
      rw [Bool.and_eq_true] at h
      match vs, rs with
      | [_], .cons r1 .nil => exact ⟨a, b, R.str r e, by rw [r1.strD], by simpa using of_decide_eq_true h.1, small (of_decide_eq_true h.2), (mkT_ok P R (.cons (.str _) (.cons (.str _) (.cons (.str _) .nil)))).2⟩
    · exact P.elim
  · exact P.elim
/-- xs.extend(ys), ys a list that may change too -/
def oExt : W → List W → Cells → Out W := fun w ws c => match w, ws with
  | .c k, [.c j] => match c[k]?, c[j]? with
    | some (.lst xs), some (.lst ys) => if xs.length + ys.length ≤ 1000000 then .ok (.d .non) (c.set k (.lst (xs ++ ys))) else .bad
    | _, _ => .bad
  | _, _ => .bad
theorem m_ext : MtL K fa rExtend oExt := fun c ad F H v w vs ws Q E R r rs P => by
  unfold oExt at P
  split at P
  · rename_i k j
    match vs, rs with
    | [u], .cons r1 .nil =>
      obtain ⟨a, h1, h2⟩ := r
      obtain ⟨a2, g1, g2⟩ := r1
      split at P
      · rename_i xs ys hx hy
        obtain ⟨nF, us, hu, ru⟩ := R.cell k _ a hx h1
        obtain ⟨nF2, zs, hz, rz⟩ := R.cell j _ a2 hy g1
        split at P
        · rename_i hl
          refine ⟨a, a2, us, zs, h2, by rw [g2], hu, hz, by rw [ru.length, rz.length]; exact small hl, ?_⟩
          exact P _ F ad (Same.refl _) (List.prefix_refl _) (R.write h1 nF ⟨nF, _, upd_same, ru.append rz⟩) .non .non
        · exact P.elim
      · exact P.elim
  · exact P.elim
end
end Pm
namespace Pm
open PySem L2 PyProof.Rows
section
variable {K : PySem.W.Frag} {fa : Fa} {c : Cells} {ad : List Addr} {F H : Hp}
/-- a new pair -/
theorem Rel.pair (R : Rel K fa c ad F H) {T : Addr} {x y : V} {d e : D} (n : H T = none) (rx : Rp K fa F x d) (ry : Rp K fa F y e) : ∃ F'', Same F F'' ∧ Rel K fa c ad F'' (upd H T (.tup [x, y])) ∧ Rp K fa F'' (.ref T) (.tup [d, e]) := by
  obtain ⟨R', s'⟩ := R.newF (o := .tup [x, y]) n
  exact ⟨_, s', R', .tup (SqT.of upd_same) (.cons (rx.mono s') (.cons (ry.mono s') .nil))⟩
def enumItems (w : W) : Items := fun i c => match rd c w with
  | some (.lst ds) => some ((ds[i]?).map fun d => .tup [.int i, d])
  | _ => none
theorem enum_ok {w : W} {a : Addr} (rv : RW K fa ad F (.ref a) w) : ItL K fa ad F (Ite K a) (enumItems w) := fun i c2 ad2 F2 H2 s2 p2 R2 => by
  have rv2 := rv.mono s2 p2
  unfold enumItems
  split
  · trivial
  · rename_i e2
    split at e2
    · rename_i ds e3
      obtain ⟨a2, vs2, g1, g2, g3⟩ := R2.lst rv2 e3
      cases g1
      injection e2 with e2
      have : ds[i]? = none := by
        cases q : ds[i]? with
        | none => rfl
        | some d => rw [q] at e2; cases e2
      exact ⟨vs2, .inl g2, by rw [g3.length]; exact List.getElem?_eq_none_iff.mp this⟩
    · cases e2
  · rename_i d e2
    split at e2
    · rename_i ds e3
      obtain ⟨a2, vs2, g1, g2, g3⟩ := R2.lst rv2 e3
      cases g1
      injection e2 with e2
      cases q : ds[i]? with
      | none => rw [q] at e2; cases e2
      | some d0 =>
        rw [q] at e2
        cases e2
        obtain ⟨x, hx, rx⟩ := g3.get q
        refine ⟨⟨vs2, x, .inl g2, hx⟩, fun y H' hy => ?_⟩
        obtain ⟨T, x', rfl, hT, rfl, hy⟩ := hy
        have := hy vs2 (.inl g2)
        rw [hx] at this
        cases this
        exact R2.pair hT (.int _) rx
    · cases e2
def zipItems (w1 w2 : W) : Items := fun i c => match rd c w1, rd c w2 with
  | some (.lst xs), some (.lst ys) => some (match xs[i]?, ys[i]? with
    | some x, some y => some (.tup [x, y])
    | _, _ => none)
  | _, _ => none
theorem zip_ok {w1 w2 : W} {a b : Addr} (rv1 : RW K fa ad F (.ref a) w1) (rv2 : RW K fa ad F (.ref b) w2) : ItL K fa ad F (Itz K a b) (zipItems w1 w2) := fun i c2 ad2 F2 H2 s2 p2 R2 => by
  have q1 := rv1.mono s2 p2
  have q2 := rv2.mono s2 p2
  unfold zipItems
  split
  · trivial
  · rename_i e2
    split at e2
    · rename_i xs ys e3 e4
      obtain ⟨a2, vs1, g1, g2, g3⟩ := R2.lst q1 e3
      obtain ⟨b2, vs2, k1, k2, k3⟩ := R2.lst q2 e4
      cases g1
      cases k1
      injection e2 with e2
      refine ⟨vs1, vs2, .inl g2, .inl k2, ?_⟩
      rw [g3.length, k3.length]
      split at e2
      · cases e2
      · rename_i hno
        cases h1 : xs[i]? with
        | none => exact .inl (List.getElem?_eq_none_iff.mp h1)
        | some x =>
          cases h2 : ys[i]? with
          | none => exact .inr (List.getElem?_eq_none_iff.mp h2)
          | some y => exact absurd h2 (hno x y h1)
    · cases e2
  · rename_i d e2
    split at e2
    · rename_i xs ys e3 e4
      obtain ⟨a2, vs1, g1, g2, g3⟩ := R2.lst q1 e3
      obtain ⟨b2, vs2, k1, k2, k3⟩ := R2.lst q2 e4
      cases g1
      cases k1
      injection e2 with e2
      split at e2
      · rename_i x y h1 h2
        cases e2
        obtain ⟨vx, hx, rx⟩ := g3.get h1
        obtain ⟨vy, hy, ry⟩ := k3.get h2
        refine ⟨⟨vs1, vs2, vx, vy, .inl g2, .inl k2, hx, hy⟩, fun z H' hz => ?_⟩
        obtain ⟨T, x', y', rfl, hT, rfl, z1, z2⟩ := hz
        have t1 := z1 vs1 (.inl g2)
        have t2 := z2 vs2 (.inl k2)
        rw [hx] at t1
        rw [hy] at t2
        cases t1
        cases t2
        exact R2.pair hT rx ry
      · cases e2
    · cases e2
end
section
variable {X : Cx} {fa : Fa} {Wx : WX} {p pos tpos : Pos} {elts : List Expr} {kk : Nat}
def iEnumD (as : Sl → Cells → Out (List W)) : Sl → Cells → Out Items := fun sl c => (as sl c).bind fun ws c1 => match ws with
  | [w] => match rd c1 w with
    | some (.lst _) => .ok (enumItems w) c1
    | _ => .bad
  | _ => .bad
theorem si_enum {e : Expr} {as : Sl → Cells → Out (List W)} (hm : X.mg "enumerate" = none) (ha : SA X fa Wx [e] as) (hg : Gl X "enumerate" := by rfl) (hs : starEach [e] X.env = [(false, eval e X.env)] := by rfl) : SI X fa Wx (.Tuple elts kk tpos) (.Call (.Name "enumerate" p) [e] [] pos) (iEnumD as) := PI.imp (pi_enum hg hm ha hs) fun σ H R0 q => by
  obtain ⟨sl, c, ad, F, ok, R, P⟩ := q
  refine ⟨sl, c, ad, F, ok, R, P.bind fun ws c1 H1 F1 ad1 s p R1 P1 vs rv => ?_⟩
  match ws, rv, P1 with
  | [w], .cons r .nil, P1 =>
    dsimp only at P1
    split at P1
    · rename_i ds e
      obtain ⟨a, us, h1, h2, h3⟩ := R1.lst r e
      subst h1
      exact ⟨a, us, rfl, .inl h2, P1.now R1 _ (enum_ok r)⟩
    · exact P1.elim
def iZipD (as : Sl → Cells → Out (List W)) : Sl → Cells → Out Items := fun sl c => (as sl c).bind fun ws c1 => match ws with
  | [w1, w2] => match rd c1 w1, rd c1 w2 with
    | some (.lst _), some (.lst _) => .ok (zipItems w1 w2) c1
    | _, _ => .bad
  | _ => .bad
theorem si_zip {e e2 : Expr} {as : Sl → Cells → Out (List W)} (hm : X.mg "zip" = none) (ha : SA X fa Wx [e, e2] as) (hg : Gl X "zip" := by rfl)
    (hs : starEach [e, e2] X.env = (false, eval e X.env) :: starEach [e2] X.env := by rfl) (hpl : (backTo pos (starEach [e2] X.env)).any (·.1) = false := by rfl) : SI X fa Wx (.Tuple elts kk tpos) (.Call (.Name "zip" p) [e, e2] [] pos) (iZipD as) := PI.imp (pi_zip hg hm ha hs hpl) fun σ H R0 q => by
  obtain ⟨sl, c, ad, F, ok, R, P⟩ := q
  refine ⟨sl, c, ad, F, ok, R, P.bind fun ws c1 H1 F1 ad1 s p R1 P1 vs rv => ?_⟩
  match ws, rv, P1 with
  | [w1, w2], .cons r1 (.cons r2 .nil), P1 =>
    dsimp only at P1
    split at P1
    · rename_i xs ys e3 e4
      obtain ⟨a, us, h1, h2, h3⟩ := R1.lst r1 e3
      obtain ⟨b, zs, k1, k2, k3⟩ := R1.lst r2 e4
      subst h1
      subst k1
      exact ⟨a, b, us, zs, rfl, .inl h2, .inl k2, P1.now R1 _ (zip_ok r1 r2)⟩
    · exact P1.elim
end
end Pm
namespace Pm
open PySem L2 PyProof.Rows
/-- a def that calls itself, n calls deep -/
def recG (N : Nat) (d : (List W → Cells → Out W) → SDen) : Nat → List W → Cells → Out W
  | 0 => fun _ _ => .bad
  | n + 1 => runB N (d (recG N d n))
theorem fd_rec {P : Program} {w : World} {K : PySem.W.Frag} {mg : Str → Option Value} {base : Heap} {x : Str} {st : Stmt} {ps : List Str} {f : Addr} {fd : FuncData} {N L : Nat} {d : (List W → Cells → Out W) → SDen} (Fn : Fun K x x st f fd) (hm : mg x = some (.ref f)) (hb : Binds K fd ps [])
    (step : ∀ k r, L ≤ k → Fd P w K mg base x st k ps r → FnG P w K mg base (k + 1) f fd ps (spD K (faOf mg) ps.length (runB N (d r)))) : ∀ n, Fd P w K mg base x st (L + n) ps (recG N d n)
  | 0 => ⟨f, fd, Fn, hm, hb, ⟨fun vs H Q E h => h.1, fun A outer s H args us vs Q E hr hgd e0 b rv h => by
      obtain ⟨_, od, ws, c, ad, F, r, R, p⟩ := h
      exact p.elim⟩⟩
  | n + 1 => ⟨f, fd, Fn, hm, hb, step (L + n) (recG N d n) (Nat.le_add_right _ _) (fd_rec Fn hm hb step n)⟩
/-- one that is called deeper than it need be -/
theorem Fd.mono {P : Program} {w : World} {K : PySem.W.Frag} {mg : Str → Option Value} {base : Heap} {x : Str} {st : Stmt} {ps : List Str} {g : List W → Cells → Out W} {j k : Nat} (h : Fd P w K mg base x st j ps g) (l : j ≤ k) : Fd P w K mg base x st k ps g := by
  obtain ⟨f, fd, a, b, c, F⟩ := h.ex
  exact ⟨f, fd, a, b, c, F.mono l⟩
end Pm

/-! Pm15: a call of a def that stands in a name of the frame. -/
namespace Pm
open PySem L2 PyProof.Rows
abbrev Tab := List (Str × Nat × (List W → Cells → Out W))
def dCallV (i : Nat) (tab : Tab) (as : Sl → Cells → Out (List W)) : Den := fun sl c => match sl[i]? with
  | some (some (.d (.fn x))) => match tab.lookup x with
    | some (n, g) => (as sl c).bind fun ws c1 => if ws.length = n then g ws c1 else .bad
    | none => .bad
  | _ => .bad
/-- the defs that may be called so -/
def TabOk (X : Cx) (tab : Tab) : Prop := ∀ x n g, (x, n, g) ∈ tab → ∃ st k ps, ps.length = n ∧ Room k X.A ∧ Fd X.prog X.w X.K X.mg X.base x st k ps g
section
variable {X : Cx} {Wx : WX} {pos p : Pos} {v : Str}
theorem tab_nil : TabOk X [] := fun _ _ _ h => by cases h
theorem tab_cons {x : Str} {st : Stmt} {k n : Nat} {ps : List Str} {g : List W → Cells → Out W} {tab : Tab} (G : Fd X.prog X.w X.K X.mg X.base x st k ps g) (hr : Room k X.A) (r : TabOk X tab) (hn : ps.length = n := by rfl) : TabOk X ((x, n, g) :: tab) := fun y m g' h => by
  rcases List.mem_cons.mp h with e | e
  · cases e; exact ⟨st, k, ps, hn, hr, G⟩
  · exact r y m g' e
theorem se_callV (i : Nat) {tab : Tab} {e : Expr} {es : List Expr} {as : Sl → Cells → Out (List W)} (hgd : X.A.guards = some []) (tk : Takes X Wx) (T : TabOk X tab) (ha : SA X (faOf X.mg od) Wx (e :: es) as) (hN : X.N[i]? = some v := by rfl) (hv : Vis X.env.scope v := by first | exact Or.inl rfl | exact Or.inr (Or.inl rfl) | exact Or.inr (Or.inr rfl))
    (hd : (v == ("__debug__" : Str)) = false := by decide) (hcd : (v == ("__classdict__" : Str)) = false := by decide) (he : starEach (e :: es) X.env = (false, eval e X.env) :: starEach es X.env := by rfl) (hpl : (backTo pos (starEach es X.env)).any (·.1) = false := by rfl) :
    SE X (faOf X.mg od) Wx (.Call (.Name v p) (e :: es) [] pos) (dCallV i tab as) := by
  refine ⟨fun pins s σ H Q I q => ?_⟩
  obtain ⟨sl, c, ad, F, ok, R, P⟩ := q
  unfold dCallV at P
  split at P
  · rename_i x hx
    obtain ⟨u, hu, ru⟩ := ok.2 i _ hx
    obtain ⟨f, rfl, hf⟩ : ∃ f, u = .ref f ∧ (faOf X.mg od).f x = some f := by
      cases ru with
      | fn h => exact ⟨_, rfl, h⟩
    refine wpAny_Call_Name_kw (thn ((pe_var hN hv hd hcd).run pins s σ H (fun y H1 => y = .ref f ∧ H1 = H) I ⟨.ref f, hu, rfl, rfl⟩) fun w s1 h1 => ?_)
    obtain ⟨y, H1, I1, r1, rfl, rfl⟩ := h1
    cases r1
    -- the def at f
    have hmg : X.mg x = some (.ref f) := by
      unfold faOf at hf
      dsimp only at hf
      split at hf
      · rename_i a hm
        cases hf
        exact hm
      · cases hf
    split at P
    · rename_i n g ht
      obtain ⟨st, k, ps, hn, hr, G⟩ := T x n g (lookup_in ht)
      obtain ⟨f1, fd, Fn, hm1, hb, Fg⟩ := G.ex
      rw [hmg] at hm1
      cases hm1
      subst hn
      refine PySem.W.callWith_K (h₀ := X.base) I1.ok.mod.kin Fn.kp (thn (ha.run pos pins s1 σ H1 _ I1 (sp_of_as (fam := faOf X.mg) ⟨sl, c, ad, F, ok, R, P⟩)) fun us s2 h2 => ?_) he hpl
      obtain ⟨vs, H2, I2, r2, q3⟩ := h2
      have hl : us.length = ps.length := by rw [← r2.length]; exact Fg.len _ _ _ _ q3
      exact ⟨I2.kIn, run_g (us := us) Fg hr hgd tk I2 (binds_of hb I2.kIn hl) r2 q3⟩
    · exact P.elim
  · exact P.elim
end
end Pm

/-! Pm16: truth of values, pop, str of a number. -/
namespace Pm
open PySem L2 PyProof.Rows
section
variable {K : PySem.W.Frag} {fa : Fa}
def oPop : W → List W → Cells → Out W := fun w ws c => match w, ws with
  | .c k, [] => match c[k]? with
    | some (.lst xs) => match xs[xs.length - 1]? with
      | some d => .ok (.d d) (c.set k (.lst xs.dropLast))
      | none => .bad
    | _ => .bad
  | _, _ => .bad
theorem RpA.dropLast {F : Hp} {vs : List V} {ds : List D} (r : RpA K fa F vs ds) : RpA K fa F vs.dropLast ds.dropLast := by
  rw [List.dropLast_eq_take, List.dropLast_eq_take, r.length]
  exact r.take _
theorem m_pop : MtL K fa rPop oPop := fun c ad F H v w vs ws Q E R r rs P => by
  unfold oPop at P
  split at P
  · rename_i k
    cases rs
    obtain ⟨a, h1, h2⟩ := r
    split at P
    · rename_i xs hx
      obtain ⟨nF, us, hu, ru⟩ := R.cell k _ a hx h1
      split at P
      · rename_i d hd
        obtain ⟨y, hy, ry⟩ := ru.get hd
        refine ⟨a, us, y, h2, rfl, hu, by rw [ru.length]; exact hy, ?_⟩
        exact P _ F ad (Same.refl _) (List.prefix_refl _) (R.write h1 nF ⟨nF, _, upd_same, ru.dropLast⟩) y ry
      · exact P.elim
    · exact P.elim
  · exact P.elim
def oStrI : List W → Cells → Out W := fun ws c => match ws with
  | [.d (.int i)] => if i.natAbs.log2 < 1920 then .ok (.d (.str (toString i))) c else .bad
  | [.d (.str a)] => .ok (.d (.str a)) c
  | _ => .bad
theorem cl_str {X : Cx} : CallR X (.type "str") (fun xs H Q => (∃ i, xs = [.int i] ∧ i.natAbs.log2 < 1920 ∧ Q (.str (toString i)) H) ∨ ∃ a, xs = [.str a] ∧ Q (.str a) H) := CallR.or call_str_int SkE.call_str_str
theorem ll_str : CalL K fa (fun xs H Q => (∃ i, xs = [.int i] ∧ i.natAbs.log2 < 1920 ∧ Q (.str (toString i)) H) ∨ ∃ a, xs = [.str a] ∧ Q (.str a) H) oStrI := fun c ad F H vs ws Q E R r P => by
  unfold oStrI at P
  split at P
  · rename_i i
    split at P
    · rename_i h
      exact .inl ⟨i, one_int r, h, P.now R _ (.str _)⟩
    · exact P.elim
  · rename_i a
    match vs, r with
    | [_], .cons r1 .nil => exact .inr ⟨a, by rw [r1.strD], P.now R _ (.str _)⟩
  · exact P.elim
/-- what a value is as a test -/
def truD : D → Option Bool
  | .non => some false
  | .bl b => some b
  | .int i => some (i != 0)
  | .str a => if a.length ≤ 1000000 then some ((a.length : Int) != 0) else none
  | .lst ds => some (!ds.isEmpty)
  | .tup ds => some (!ds.isEmpty)
  | .dic ds => some (!ds.isEmpty)
  | _ => none
def dTru (f : Den) : Sl → Cells → Out Bool := fun sl c => (f sl c).bind fun w c1 => match (rd c1 w).bind truD with
  | some b => .ok b c1
  | none => .bad
theorem RpA.isEmpty {F : Hp} {vs : List V} {ds : List D} (r : RpA K fa F vs ds) : vs.isEmpty = ds.isEmpty := by cases r <;> rfl
theorem tru_of {c : Cells} {ad : List Addr} {F H : Hp} {v : V} {w : W} {d : D} {b : Bool} (R : Rel K fa c ad F H) (r : RW K fa ad F v w) (e : rd c w = some d) (h : truD d = some b) : TruV K v H b := by
  cases d with
  | non => cases h; rw [R.non r e]; exact rfl
  | bl k => cases h; rw [R.bl r e]; exact rfl
  | int i => cases h; rw [R.int r e]; exact rfl
  | str a =>
    replace h : (if a.length ≤ 1000000 then some ((a.length : Int) != 0) else none) = some b := h
    by_cases hl : a.length ≤ 1000000
    · rw [if_pos hl] at h
      cases h
      rw [R.str r e]
      exact ⟨small hl, rfl⟩
    · rw [if_neg hl] at h
      cases h
  | lst ds =>
    cases h
    obtain ⟨a, us, e1, e2, e3⟩ := R.lst r e
    rw [e1]
    exact .inl ⟨us, .inl e2, by rw [e3.isEmpty]⟩
  | tup ds =>
    cases h
    obtain ⟨a, us, e1, e2, e3⟩ := R.tup r e
    rw [e1]
    exact .inr (.inl ⟨us, e2, by rw [e3.isEmpty]⟩)
  | dic ds =>
    cases h
    obtain ⟨a, us, e1, e2, e3⟩ := R.dic r e
    rw [e1]
    exact .inr (.inr ⟨us, e2, by cases e3 <;> rfl⟩)
  | fn _ => cases h
  | ty _ => cases h
  | arr _ => cases h
end
section
variable {X : Cx} {fa : Fa} {Wx : WX}
/-- any value as a test -/
theorem st_tru {e : Expr} {f : Den} (h : SE X fa Wx e f) (he : ∀ whole, isTrue e X.env whole = (do let v ← whole; standAt e.pos; holding [v] (truthy v)) := by intro _; rfl) : STt X fa Wx e (dTru f) :=
  PT.imp (pt_truth h he) fun σ H Q q => by
  obtain ⟨sl, c, ad, F, ok, R, P⟩ := q
  refine ⟨sl, c, ad, F, ok, R, P.bind fun w c1 H1 F1 ad1 s p R1 P1 v rv => ?_⟩
  split at P1
  · rename_i b hb
    cases q : rd c1 w with
    | none => rw [q] at hb; cases hb
    | some d =>
      rw [q] at hb
      exact ⟨b, tru_of R1 rv q hb, P1.now R1⟩
  · exact P1.elim
end
end Pm
namespace Pm
open PySem L2 PyProof.Rows
section
variable {X : Cx} {fa : Fa} {Wx : WX} {pos p1 p2 p3 : Pos} {k : Nat}
/-- xs[::-1], xs a list -/
def dRevL (f : Den) : Den := fun sl c => (f sl c).bind fun w c1 => match rd c1 w with
  | some (.lst ds) => mkL ds.reverse c1
  | _ => .bad
theorem se_revL {e : Expr} {f : Den} (h : SE X fa Wx e f) : SE X fa Wx (.Subscript e (.Slice none none (some (.UnaryOp .USub (.Constant (.int 1) k p1) p2)) p3) pos) (dRevL f) := PE.imp (pe_revL h) fun σ H Q q => by
  obtain ⟨sl, c, ad, F, ok, R, P⟩ := q
  refine ⟨sl, c, ad, F, ok, R, P.bind fun w c1 H1 F1 ad1 s p R1 P1 v rv => ?_⟩
  split at P1
  · rename_i ds e
    obtain ⟨a, us, e1, e2, e3⟩ := R1.lst rv e
    exact ⟨a, us, e1, .inl e2, (mkL_ok P1 R1 e3.reverse).2⟩
  · exact P1.elim
end
end Pm

/-! Pm17: a dict of the module, keys texts: in, not in, d[key]. Its value is .fn of its name. -/
namespace Pm
open PySem L2 PyProof.Rows
structure Md (K : PySem.W.Frag) (w : World) (fa : Fa) (x : Str) (d : Addr) (es : Array DictEntry) (n : Nat) (tab : List (Str × D)) : Prop where
  at_ : fa.f x = some d
  kd : KDict K w d es n
  all : ∀ z : Str, ∃ r, PySem.W.nsIn K d z = some r ∧ (match tab.lookup z with
    | some t => ∃ u v, r = some u ∧ RelV v u ∧ ∀ F, Rp K fa F v t
    | none => r = none)
def oInK (x : Str) (tab : List (Str × D)) (neg : Bool) : W → W → Cells → Out W := fun w1 w2 c => match w1, w2 with
  | .d (.str z), .d (.fn y) => if y = x then .ok (.d (.bl (if neg then !(tab.lookup z).isSome else (tab.lookup z).isSome))) c else .bad
  | _, _ => .bad
def oIxK (x : Str) (tab : List (Str × D)) : W → W → Cells → Out W := fun w1 w2 c => match w1, w2 with
  | .d (.fn y), .d (.str z) => if y = x then (match tab.lookup z with
    | some t => .ok (.d t) c
    | none => .bad) else .bad
  | _, _ => .bad
section
variable {K : PySem.W.Frag} {w : World} {fa : Fa} {x : Str} {d : Addr} {es : Array DictEntry} {n : Nat} {tab : List (Str × D)}
theorem Md.some (M : Md K w fa x d es n tab) (z : Str) : ∃ r, PySem.W.nsIn K d z = some r ∧ r.isSome = (tab.lookup z).isSome := by
  obtain ⟨r, h1, h2⟩ := M.all z
  refine ⟨r, h1, ?_⟩
  cases q : tab.lookup z with
  | none => rw [q] at h2; rw [h2]; rfl
  | some t => rw [q] at h2; obtain ⟨u, v, e, _⟩ := h2; rw [e]; rfl
theorem fn_ref {F : Hp} {v : V} {y : Str} (r : Rp K fa F v (.fn y)) (h : fa.f y = some d) : v = .ref d := by
  cases r with
  | fn e => rw [h] at e; cases e; rfl
theorem l_inK (M : Md K w fa x d es n tab) : OpL K fa (fun x y H Q => ∃ (z : Str) (r : Option Value), x = .str z ∧ y = .ref d ∧ PySem.W.nsIn K d z = some r ∧ Q (.bl r.isSome) H) (oInK x tab false) := fun c ad F H v1 v2 w1 w2 Q E R r1 r2 P => by
  unfold oInK at P
  split at P
  · rename_i z y
    split at P
    · rename_i e
      subst e
      obtain ⟨r, h1, h2⟩ := M.some z
      refine ⟨z, r, r1.strD, fn_ref r2 M.at_, h1, ?_⟩
      rw [h2]
      exact P.now R _ (.bl _)
    · exact P.elim
  · exact P.elim
theorem l_ninK (M : Md K w fa x d es n tab) : OpL K fa (fun x y H Q => ∃ (z : Str) (r : Option Value), x = .str z ∧ y = .ref d ∧ PySem.W.nsIn K d z = some r ∧ Q (.bl (!r.isSome)) H) (oInK x tab true) := fun c ad F H v1 v2 w1 w2 Q E R r1 r2 P => by
  unfold oInK at P
  split at P
  · rename_i z y
    split at P
    · rename_i e
      subst e
      obtain ⟨r, h1, h2⟩ := M.some z
      refine ⟨z, r, r1.strD, fn_ref r2 M.at_, h1, ?_⟩
      rw [h2]
      exact P.now R _ (.bl _)
    · exact P.elim
  · exact P.elim
theorem l_ixK (M : Md K w fa x d es n tab) : OpL K fa (rIxD K w) (oIxK x tab) := fun c ad F H v1 v2 w1 w2 Q E R r1 r2 P => by
  unfold oIxK at P
  split at P
  · rename_i y z
    split at P
    · rename_i e
      subst e
      obtain ⟨r, h1, h2⟩ := M.all z
      split at P
      · rename_i t ht
        rw [ht] at h2
        obtain ⟨u, v, rfl, rv, rp⟩ := h2
        exact ⟨d, z, v, fn_ref r1 M.at_, r2.strD, ⟨es, n, u, M.kd.at_, M.kd.lit, h1, rv⟩, P.now R v (rp F)⟩
      · exact P.elim
    · exact P.elim
  · exact P.elim
end
section
variable {X : Cx} {fa : Fa} {Wx : WX} {pos : Pos} {x : Str} {d : Addr} {es : Array DictEntry} {n : Nat} {tab : List (Str × D)}
theorem se_inK {a b : Expr} {f g : Den} (M : Md X.K X.w fa x d es n tab) (ha : SE X fa Wx a f) (hb : SE X fa Wx b g) (hm : behindInMarks .In b = false := by rfl) : SE X fa Wx (.Compare a [.In] [b] pos) (dBin (oInK x tab false) f g) := se_cmp (op_in_kd M.kd) (l_inK M) ha hb hm
theorem se_ninK {a b : Expr} {f g : Den} (M : Md X.K X.w fa x d es n tab) (ha : SE X fa Wx a f) (hb : SE X fa Wx b g) (hm : behindInMarks .NotIn b = false := by rfl) : SE X fa Wx (.Compare a [.NotIn] [b] pos) (dBin (oInK x tab true) f g) := se_cmp (op_notIn_kd M.kd) (l_ninK M) ha hb hm
theorem se_ixK {a b : Expr} {f g : Den} (M : Md X.K X.w fa x d es n tab) (ha : SE X fa Wx a f) (hb : SE X fa Wx b g) (hs : PlainIx b) : SE X fa Wx (.Subscript a b pos) (dBin (oIxK x tab) f g) := se_ix ix_kdict (l_ixK M) ha hb hs
end
end Pm

/-! Pm18: list comprehensions with two walks. -/
namespace Pm
open PySem L2 PyProof.Rows
def loopI (item : Items) (one : Bool) (is vs : List Nat) (t : Sl → Cells → Out Bool) (f : Den) (sl : Sl) (n0 n1 : Nat) : Nat → Nat → Cells → Out Unit
  | 0, _, _ => .bad
  | k + 1, j, c => match item j c with
    | none => .bad
    | some none => .ok () (c.take (n0 + 1))
    | some (some d) => match storeC one is d (wipeS sl vs) with
      | none => .bad
      | some sl1 => (t sl1 c).ne.bind fun b c1 => if b = true then
          (f sl1 c1).ne.bind fun w c2 => (fz w c2).bind fun y c3 => match c3[n0]? with
            | some (.lst acc) => if acc.length < 1000000 then loopI item one is vs t f sl n0 n1 k (j + 1) ((c3.set n0 (.lst (acc ++ [y]))).take n1) else .bad
            | _ => .bad
        else loopI item one is vs t f sl n0 n1 k (j + 1) (c1.take n1)
def loopC2 (item : Items) (one : Bool) (is vs : List Nat) (t : Sl → Cells → Out Bool) (it1 : Sl → Cells → Out Items) (inner : Items → Sl → Nat → Cells → Out Unit) (sl : Sl) (n0 : Nat) : Nat → Nat → Cells → Out W
  | 0, _, _ => .bad
  | m + 1, i, c => match item i c with
    | none => .bad
    | some none => .ok (.c n0) (c.take (n0 + 1))
    | some (some d) => match storeC one is d (wipeS sl vs) with
      | none => .bad
      | some sl1 => (t sl1 c).ne.bind fun b c1 => if b = true then
          (it1 sl1 c1).ne.bind fun item1 c2 => (inner item1 sl1 n0 c2).bind fun _ c3 => loopC2 item one is vs t it1 inner sl n0 m (i + 1) c3
        else loopC2 item one is vs t it1 inner sl n0 m (i + 1) (c1.take (n0 + 1))
def inLc (one : Bool) (is vs : List Nat) (t : Sl → Cells → Out Bool) (f : Den) : Items → Sl → Nat → Cells → Out Unit := fun item sl n0 c => if n0 < c.length then loopI item one is vs t f sl n0 c.length bigN 0 c else .bad
def dLc2 (it : Sl → Cells → Out Items) (one : Bool) (is vs : List Nat) (t : Sl → Cells → Out Bool) (it1 : Sl → Cells → Out Items) (one1 : Bool) (is1 vs1 : List Nat) (t1 : Sl → Cells → Out Bool) (f : Den) : Den :=
  fun sl c => (it sl c).bind fun item c1 => loopC2 item one is vs t it1 (inLc one1 is1 vs1 t1 f) sl c1.length bigN 0 (c1 ++ [.lst []])
section
variable {X : Cx} {fa : Fa} {Wx : WX} {pos : Pos}
theorem lc2_of {tgK : PySem.W.Frag} {it it1 : Sl → Cells → Out Items} {one one1 : Bool} {is vs is1 vs1 : List Nat} {t t1 : Sl → Cells → Out Bool} {f : Den} {σ : L2.St} {H : Hp} {Q : VK} (hi : ∀ i ∈ is, i ∈ vs) (hi1 : ∀ i ∈ is1, i ∈ vs1) (q : tE tgK fa Wx (dLc2 it one is vs t it1 one1 is1 vs1 t1 f) σ H Q) :
    tLc2 (tI tgK fa Wx it) (gC tgK one is) (tT tgK fa WF t) (tI tgK fa WF it1) (gC tgK one1 is1) (tT tgK fa WF t1) (tE tgK fa WF f) vs vs1 σ H Q := by
  obtain ⟨sl, c, ad, F, ok, R, P⟩ := q
  refine ⟨sl, c, ad, F, ok, R, P.bind fun item c1 H1 F1 ad1 s p R1 P1 J hJ D hD => ?_⟩
  have ok1 := ok.mono s p
  have hn0 : ad1.length = c1.length := R1.len
  have RC := R1.newC (o := .lst []) (x := .lst []) hD fun nF => ⟨nF, [], upd_same, .nil⟩
  have p1 : ad1 <+: ad1 ++ [D] := List.prefix_append _ _
  refine ⟨fun i m H' => ∃ c2 ad2 F2, Same F1 F2 ∧ ad1 ++ [D] = ad2 ∧ Rel tgK fa c2 ad2 F2 H' ∧ Post tgK fa (fun cls d H' => Wx cls d σ H') ad2 F2 (fun w ad' F' H' => ∀ v, RW tgK fa ad' F' v w → Q v H') (loopC2 item one is vs t it1 (inLc one1 is1 vs1 t1 f) sl c1.length m i c2),
    ⟨bigN, _, _, F1, Same.refl _, rfl, RC, Post.weak P1 (Same.refl _) p1⟩, ?_⟩
  rintro i m H2 ⟨c2, ad2, F2, s2, rfl, R2, P2⟩
  cases m with
  | zero => exact P2.elim
  | succ m =>
    have hj := hJ i c2 _ F2 H2 s2 p1 R2
    have hD2 : (ad1 ++ [D])[c1.length]? = some D := by rw [← hn0]; simp
    have cutR : ∀ {c3 : Cells} {ad3 : List Addr} {F3 H3 : Hp}, (ad1 ++ [D]) <+: ad3 → Rel tgK fa c3 ad3 F3 H3 → Rel tgK fa (c3.take (c1.length + 1)) (ad1 ++ [D]) F3 H3 := fun {c3 ad3 F3 H3} p3 R3 => by
      have := R3.take (c1.length + 1)
      rwa [take_pre p3 (by simp [hn0])] at this
    unfold loopC2 at P2
    revert hj P2
    cases item i c2 with
    | none => exact fun _ P2 => P2.elim
    | some o =>
      cases o with
      | none =>
        intro hj P2
        exact .inl ⟨hj, P2 H2 F2 _ (Same.refl _) (List.prefix_refl _) (cutR (List.prefix_refl _) R2) (.ref D) ⟨D, hD2, rfl⟩⟩
      | some d =>
        intro hj P2
        dsimp only at hj P2
        refine .inr ⟨hj.1, fun H' => ∃ c2 F3, Same F1 F3 ∧ Rel tgK fa c2 (ad1 ++ [D]) F3 H' ∧ Post tgK fa (fun cls d H' => Wx cls d σ H') (ad1 ++ [D]) F3 (fun w ad' F' H' => ∀ v, RW tgK fa ad' F' v w → Q v H') (loopC2 item one is vs t it1 (inLc one1 is1 vs1 t1 f) sl c1.length m (i + 1) c2),
          fun H' ⟨c3, F3, h1, h2, h3⟩ => ⟨m, Nat.lt_succ_self m, c3, _, F3, h1, rfl, h2, h3⟩, fun x H' hy => ?_⟩
        obtain ⟨F3, s3, R3, r3⟩ := hj.2 x H' hy
        have P3 := Post.weak (o := _) P2 s3 (List.prefix_refl _)
        revert P3
        cases hs : storeC one is d (wipeS sl vs) with
        | none => exact fun P3 => P3.elim
        | some sl1 =>
          intro P3
          have ok3 := ((ok1.mono s2 p1).mono s3 (List.prefix_refl _)).wipe vs
          refine storeC_ok (us := vs) hi R3 r3 ok3 hs fun σ2 hw ok4 => ⟨by rw [hw, wipe_wipe vs vs fun _ h => h], sl1, c2, _, F3, ok4, R3, ?_⟩
          refine Post.ne P3 fun b c4 H4 F4 ad4 s4 p4 R4 P4 => ?_
          cases b with
          | false =>
            rw [if_neg Bool.false_ne_true] at P4 ⊢
            have P5 : Post tgK fa (fun cls d H' => Wx cls d σ H') (ad1 ++ [D]) F4 (fun w ad' F' H' => ∀ v, RW tgK fa ad' F' v w → Q v H') (loopC2 item one is vs t it1 (inLc one1 is1 vs1 t1 f) sl c1.length m (i + 1) (c4.take (c1.length + 1))) := P4
            exact ⟨_, F4, (s2.trans s3).trans s4, cutR p4 R4, P5⟩
          | true =>
            rw [if_pos rfl] at P4 ⊢
            refine ⟨sl1, c4, ad4, F4, ok4.mono s4 p4, R4, Post.ne P4 fun item1 c5 H5 F5 ad5 s5 p5 R5 P5 J1 hJ1 => ?_⟩
            have okA := (ok4.mono s4 p4).mono s5 p5
            have pA := p4.trans p5
            have sA := ((s2.trans s3).trans s4).trans s5
            unfold inLc at P5
            split at P5
            · rename_i hn1
              have hn5 : ad5.length = c5.length := R5.len
              have hD5 : ad5[c1.length]? = some D := pre_get pA hD2
              refine ⟨fun j k H' => ∃ c6 F6, Same F5 F6 ∧ Rel tgK fa c6 ad5 F6 H' ∧ Post tgK fa (fun cls d H' => Wx cls d σ H') (ad1 ++ [D]) F6 (fun w ad' F' H' => ∀ v, RW tgK fa ad' F' v w → Q v H')
                ((loopI item1 one1 is1 vs1 t1 f sl1 c1.length c5.length k j c6).bind fun _ c3 => loopC2 item one is vs t it1 (inLc one1 is1 vs1 t1 f) sl c1.length m (i + 1) c3), ⟨bigN, c5, F5, Same.refl _, R5, P5⟩, ?_⟩
              rintro j k H6 ⟨c6, F6, s6, R6, P6⟩
              cases k with
              | zero => exact P6.elim
              | succ k =>
                have hj1 := hJ1 j c6 _ F6 H6 s6 (List.prefix_refl _) R6
                unfold loopI at P6
                revert hj1 P6
                cases item1 j c6 with
                | none => exact fun _ P6 => P6.elim
                | some o =>
                  cases o with
                  | none =>
                    intro hj1 P6
                    exact .inl ⟨hj1, _, F6, sA.trans s6, cutR pA R6, P6⟩
                  | some d1 =>
                    intro hj1 P6
                    dsimp only at hj1 P6
                    refine .inr ⟨hj1.1, fun H' => ∃ c6 F7, Same F5 F7 ∧ Rel tgK fa c6 ad5 F7 H' ∧ Post tgK fa (fun cls d H' => Wx cls d σ H') (ad1 ++ [D]) F7 (fun w ad' F' H' => ∀ v, RW tgK fa ad' F' v w → Q v H')
                      ((loopI item1 one1 is1 vs1 t1 f sl1 c1.length c5.length k (j + 1) c6).bind fun _ c3 => loopC2 item one is vs t it1 (inLc one1 is1 vs1 t1 f) sl c1.length m (i + 1) c3),
                      fun H' ⟨c7, F7, h1, h2, h3⟩ => ⟨k, Nat.lt_succ_self k, c7, F7, h1, h2, h3⟩, fun x1 H' hy1 => ?_⟩
                    obtain ⟨F7, s7, R7, r7⟩ := hj1.2 x1 H' hy1
                    have P7 := Post.weak (o := _) P6 s7 (List.prefix_refl _)
                    revert P7
                    cases hs1 : storeC one1 is1 d1 (wipeS sl1 vs1) with
                    | none => exact fun P7 => P7.elim
                    | some sl2 =>
                      intro P7
                      have ok7 := ((okA.mono s6 (List.prefix_refl _)).mono s7 (List.prefix_refl _)).wipe vs1
                      refine storeC_ok (us := vs1) hi1 R7 r7 ok7 hs1 fun σ3 hw1 ok8 => ⟨by rw [hw1, wipe_wipe vs1 vs1 fun _ h => h], sl2, c6, _, F7, ok8, R7, ?_⟩
                      have cut5 : ∀ {c3 : Cells} {ad3 : List Addr} {F3 H3 : Hp}, ad5 <+: ad3 → Rel tgK fa c3 ad3 F3 H3 → Rel tgK fa (c3.take c5.length) ad5 F3 H3 := fun {c3 ad3 F3 H3} p3 R3 => by
                        have := R3.take c5.length
                        rwa [take_pre p3 hn5] at this
                      dsimp only at P7
                      have P7' : Post tgK fa (fun cls d H' => Wx cls d σ H') (ad1 ++ [D]) F7 (fun w ad' F' H' => ∀ v, RW tgK fa ad' F' v w → Q v H') ((t1 sl2 c6).ne.bind fun b c1' => (if b = true then
                          (f sl2 c1').ne.bind fun w c2 => (Pm.fz w c2).bind fun y c3 => match c3[c1.length]? with
                            | some (.lst acc) => if acc.length < 1000000 then loopI item1 one1 is1 vs1 t1 f sl1 c1.length c5.length k (j + 1) ((c3.set c1.length (.lst (acc ++ [y]))).take c5.length) else .bad
                            | _ => .bad
                        else loopI item1 one1 is1 vs1 t1 f sl1 c1.length c5.length k (j + 1) (c1'.take c5.length)).bind fun _ c3 => loopC2 item one is vs t it1 (inLc one1 is1 vs1 t1 f) sl c1.length m (i + 1) c3) := by
                        revert P7
                        cases (t1 sl2 c6).ne <;> exact fun z => z
                      refine Post.ne P7' fun b c8 H8 F8 ad8 s8 p8 R8 P8 => ?_
                      cases b with
                      | false =>
                        rw [if_neg Bool.false_ne_true] at P8 ⊢
                        exact ⟨_, F8, (s6.trans s7).trans s8, cut5 p8 R8, P8⟩
                      | true =>
                        rw [if_pos rfl] at P8 ⊢
                        have P8' : Post tgK fa (fun cls d H' => Wx cls d σ H') (ad1 ++ [D]) F8 (fun w ad' F' H' => ∀ v, RW tgK fa ad' F' v w → Q v H') ((f sl2 c8).ne.bind fun w c2 => (Pm.fz w c2).bind fun y c3 => (match c3[c1.length]? with
                            | some (.lst acc) => if acc.length < 1000000 then loopI item1 one1 is1 vs1 t1 f sl1 c1.length c5.length k (j + 1) ((c3.set c1.length (.lst (acc ++ [y]))).take c5.length) else .bad
                            | _ => .bad : Out Unit).bind fun _ c3 => loopC2 item one is vs t it1 (inLc one1 is1 vs1 t1 f) sl c1.length m (i + 1) c3) := by
                          revert P8
                          cases (f sl2 c8).ne with
                          | ok w c2 =>
                            rw [Out.bind_ok, Out.bind_ok]
                            cases Pm.fz w c2 <;> exact fun z => z
                          | exc _ _ _ => exact fun z => z
                          | bad => exact fun z => z
                        refine ⟨sl2, c8, ad8, F8, ok8.mono s8 p8, R8, Post.ne P8' fun w c9 H9 F9 ad9 s9 p9 R9 P9 v rv => ?_⟩
                        obtain ⟨y, cA, FA, sB, RA, rA, _, PA⟩ := P9.fz R9 rv
                        have pB := p8.trans p9
                        split at PA
                        · rename_i acc hacc
                          obtain ⟨a6, h6, nF6, us, hus, rus⟩ := RA.cell_at hacc
                          have ea : a6 = D := by
                            have := pre_get pB hD5
                            rw [this] at h6
                            exact (Option.some.inj h6).symm
                          subst ea
                          split at PA
                          · rename_i hlen
                            refine ⟨us, hus, by rw [rus.length]; exact Nat.lt_of_lt_of_le hlen (by decide), ?_⟩
                            have RW6 := RA.write (o := .lst (us ++ [v])) (x := .lst (acc ++ [y])) h6 nF6 ⟨nF6, _, upd_same, rus.append (.cons rA .nil)⟩
                            exact ⟨_, FA, (((s6.trans s7).trans s8).trans s9).trans sB, cut5 pB RW6, PA⟩
                          · exact PA.elim
                        · exact PA.elim
            · exact P5.elim
theorem se_lc2 {elt tg iter tg1 iter1 : Expr} {ifs ifs1 : List Expr} {scope : Scope} {own : List (Str × Nat)} {it it1 : Sl → Cells → Out Items} {one one1 : Bool} {is is1 vs1 : List Nat} {t t1 : Sl → Cells → Out Bool} {f : Den} (hc : X.calm = true) (hN : X.N.Nodup) (hi : SI X fa Wx tg iter it) (ok : BlkOk X.N X.env.scope scope own)
    (hv : ∀ i ∈ vs1, i ∈ own.map (·.2)) (his : ∀ i ∈ is, i ∈ own.map (·.2)) (his1 : ∀ i ∈ is1, i ∈ vs1) (hg : Blk X scope fun Y => PG Y tg (gC X.K one is)) (ht : Blk X scope fun Y => PTs Y ifs (tT X.K fa WF t))
    (hi1 : Blk X scope fun Y => PI Y tg1 iter1 (tI X.K fa WF it1)) (hg1 : Blk X scope fun Y => PG Y tg1 (gC X.K one1 is1)) (ht1 : Blk X scope fun Y => PTs Y ifs1 (tT X.K fa WF t1))
    (he : Blk X scope fun Y => PE Y elt (tE X.K fa WF f)) (hs : ∀ x, foldedSetIterable iter X.env x = pure x := by intro _; rfl) (hs1 : ∀ env x, foldedSetIterable iter1 env x = pure x := by intro _ _; rfl) :
    SE X fa Wx (.ListComp elt [⟨tg, iter, ifs, 0⟩, ⟨tg1, iter1, ifs1, 0⟩] scope pos) (dLc2 it one is (own.map (·.2)) t it1 one1 is1 vs1 t1 f) := PE.imp (pe_lc2 hc hN hi ok hv hg ht hi1 hg1 ht1 he hs hs1) fun σ H Q q => lc2_of his his1 q
theorem ss_setLc2 (i : Nat) {y : Str} {py spos : Pos} {elt tg iter tg1 iter1 : Expr} {ifs ifs1 : List Expr} {scope : Scope} {own : List (Str × Nat)} {it it1 : Sl → Cells → Out Items} {one one1 : Bool} {is is1 vs1 : List Nat} {t t1 : Sl → Cells → Out Bool} {f : Den} (hc : X.calm = true) (hN : X.N.Nodup) (hi : SI X fa Wx tg iter it) (ok : BlkOk X.N X.env.scope scope own)
    (hv : ∀ i ∈ vs1, i ∈ own.map (·.2)) (his : ∀ i ∈ is, i ∈ own.map (·.2)) (his1 : ∀ i ∈ is1, i ∈ vs1) (hg : Blk X scope fun Y => PG Y tg (gC X.K one is)) (ht : Blk X scope fun Y => PTs Y ifs (tT X.K fa WF t))
    (hi1 : Blk X scope fun Y => PI Y tg1 iter1 (tI X.K fa WF it1)) (hg1 : Blk X scope fun Y => PG Y tg1 (gC X.K one1 is1)) (ht1 : Blk X scope fun Y => PTs Y ifs1 (tT X.K fa WF t1))
    (he : Blk X scope fun Y => PE Y elt (tE X.K fa WF f)) (hsw : swapsWith (.ListComp elt [⟨tg, iter, ifs, 0⟩, ⟨tg1, iter1, ifs1, 0⟩] scope pos) (some (.Name y py)) spos.line X.env = pure true) (hy : X.N[i]? = some y := by rfl) (hyl : X.env.scope.names.lookup y = some .local := by rfl)
    (hs : ∀ x, foldedSetIterable iter X.env x = pure x := by intro _; rfl) (hs1 : ∀ env x, foldedSetIterable iter1 env x = pure x := by intro _ _; rfl) :
    SS X fa Wx (.Assign [.Name y py] (.ListComp elt [⟨tg, iter, ifs, 0⟩, ⟨tg1, iter1, ifs1, 0⟩] scope pos) spos) (sSet i (dLc2 it one is (own.map (·.2)) t it1 one1 is1 vs1 t1 f)) := PS.imp (ps_setLc2 hc hN hy hyl hsw hi ok hv hg ht hi1 hg1 ht1 he hs hs1) fun D σ H q => by
  obtain ⟨sl, c, ad, F, ok, R, P⟩ := q
  refine lc2_of (Wx := Wx) (fa := fa) (Q := fun v H1 => gName i v σ H1 D.nx) his his1 ⟨sl, c, ad, F, ok, R, Post.st ok P fun w c1 H1 F1 ad1 s p R1 P1 v rv => P1 H1 F1 ad1 _ (Same.refl _) (List.prefix_refl _) R1 ((ok.mono s p).set rv)⟩
end
end Pm

/-! Pm19: sum, max of a list, pop(i), insert, a list times an int, dict comprehensions. -/
namespace Pm
open PySem L2 PyProof.Rows
section
variable {K : PySem.W.Frag} {fa : Fa}
def intsD : List D → Option (List Int)
  | [] => some []
  | .int i :: ds => (intsD ds).map (i :: ·)
  | _ => none
theorem ints_ok {F : Hp} : ∀ {ds : List D} {vs : List V} {ns : List Int}, RpA K fa F vs ds → intsD ds = some ns → vs = ns.map V.int
  | [], _, _, .nil, h => by cases h; rfl
  | .int i :: ds, _, ns, .cons (.int _) rs, h => by
    unfold intsD at h
    cases q : intsD ds with
    | none => rw [q] at h; cases h
    | some ns' =>
      rw [q] at h
      cases h
      rw [ints_ok rs q]
      rfl
  | .non :: _, _, _, .cons _ _, h => by cases h
  | .bl _ :: _, _, _, .cons _ _, h => by cases h
  | .str _ :: _, _, _, .cons _ _, h => by cases h
  | .fn _ :: _, _, _, .cons _ _, h => by cases h
  | .ty _ :: _, _, _, .cons _ _, h => by cases h
  | .lst _ :: _, _, _, .cons _ _, h => by cases h
  | .tup _ :: _, _, _, .cons _ _, h => by cases h
  | .dic _ :: _, _, _, .cons _ _, h => by cases h
  | .arr _ :: _, _, _, .cons _ _, h => by cases h
theorem intsD_map : ∀ ns : List Int, intsD (ns.map D.int) = some ns
  | [] => rfl
  | n :: ns => by
    show (intsD (ns.map D.int)).map (n :: ·) = _
    rw [intsD_map ns]
    rfl
/-- the ints of a list -/
def rdInts (c : Cells) (w : W) : Option (List Int) := match rd c w with
  | some (.lst ds) => intsD ds
  | some (.arr ns) => some ns
  | _ => none
theorem rdInts_ok {c : Cells} {ad : List Addr} {F H : Hp} {v : V} {w : W} {ns : List Int} (R : Rel K fa c ad F H) (r : RW K fa ad F v w) (h : rdInts c w = some ns) : ∃ a, v = .ref a ∧ SqL K H a (ns.map V.int) := by
  unfold rdInts at h
  split at h
  · rename_i ds e
    obtain ⟨a, vs, e1, e2, e3⟩ := R.lst r e
    have := ints_ok e3 h
    subst this
    exact ⟨a, e1, .inl e2⟩
  · rename_i ns' e
    cases h
    exact R.arr r e
  · cases h
def oSum : List W → Cells → Out W := fun ws c => match ws with
  | [w] => match rdInts c w with
    | some ns => .ok (.d (.int ns.sum)) c
    | none => .bad
  | _ => .bad
theorem ll_sum : CalL K fa (rSum K) oSum := fun c ad F H vs ws Q E R r P => by
  unfold oSum at P
  split at P
  · rename_i w
    split at P
    · rename_i ns e
      match vs, r with
      | [v], .cons r .nil =>
        obtain ⟨a, e1, e2⟩ := rdInts_ok R r e
        exact ⟨a, ns, by rw [e1], e2, P.now R _ (.int _)⟩
    · exact P.elim
  · exact P.elim
def maxI : List Int → Int
  | [] => 0
  | n :: ns => ns.foldl (fun a b => if a ≤ b then b else a) n
theorem foldl_max : ∀ (ns : List Int) (n : Int), n ≤ ns.foldl (fun a b => if a ≤ b then b else a) n ∧ (∀ y ∈ ns, y ≤ ns.foldl (fun a b => if a ≤ b then b else a) n) ∧ (ns.foldl (fun a b => if a ≤ b then b else a) n = n ∨ ns.foldl (fun a b => if a ≤ b then b else a) n ∈ ns)
  | [], n => ⟨Int.le_refl _, (fun y h => absurd h (by simp)), Or.inl rfl⟩
  | x :: xs, n => by
    have ih := foldl_max xs (if n ≤ x then x else n)
    rw [List.foldl_cons]
    refine ⟨?_, fun y h => ?_, ?_⟩
    · have := ih.1; split at this <;> rename_i q <;> simp only [q, if_true, if_false] <;> omega
    · rcases List.mem_cons.mp h with e | e
      · subst e
        have := ih.1; split at this <;> rename_i q <;> simp only [q, if_true, if_false] <;> omega
      · exact ih.2.1 y e
    · rcases ih.2.2 with e | e
      · rw [e]
        split
        · exact .inr List.mem_cons_self
        · exact .inl rfl
      · exact .inr (List.mem_cons_of_mem _ e)
theorem maxI_eq {ns : List Int} {m : Int} (h1 : m ∈ ns) (h2 : ∀ y ∈ ns, y ≤ m) : maxI ns = m := by
  cases ns with
  | nil => cases h1
  | cons n ns =>
    have f := foldl_max ns n
    have g : m ≤ maxI (n :: ns) := by
      rcases List.mem_cons.mp h1 with e | e
      · rw [e]; exact f.1
      · exact f.2.1 m e
    have k : maxI (n :: ns) ≤ m := by
      rcases f.2.2 with e | e
      · show ns.foldl _ n ≤ m
        rw [e]
        exact h2 n List.mem_cons_self
      · exact h2 _ (List.mem_cons_of_mem _ e)
    omega
def oMaxL : List W → Cells → Out W := fun ws c => match ws with
  | [w] => match rdInts c w with
    | some ns => if ns.isEmpty then .bad else .ok (.d (.int (maxI ns))) c
    | none => .bad
  | _ => .bad
theorem ll_maxL : CalL K fa (rMax K) oMaxL := fun c ad F H vs ws Q E R r P => by
  unfold oMaxL at P
  split at P
  · rename_i w
    split at P
    · rename_i ns e
      split at P
      · exact P.elim
      · rename_i ne
        match vs, r with
        | [v], .cons r .nil =>
          obtain ⟨a, e1, e2⟩ := rdInts_ok R r e
          refine ⟨a, ns, by rw [e1], e2, ?_, fun m h1 h2 => ?_⟩
          · cases ns with
            | nil => exact absurd rfl ne
            | cons _ _ => simp
          · rw [maxI_eq h1 h2] at P
            exact P.now R _ (.int _)
    · exact P.elim
  · exact P.elim
theorem RpA.eraseIdx {F : Hp} : ∀ {vs : List V} {ds : List D} (k : Nat), RpA K fa F vs ds → RpA K fa F (vs.eraseIdx k) (ds.eraseIdx k)
  | _, _, _, .nil => .nil
  | _, _, 0, .cons _ r => r
  | _, _, k + 1, .cons h r => .cons h (RpA.eraseIdx k r)
def oPopAt : W → List W → Cells → Out W := fun w ws c => match w, ws with
  | .c k, [.d (.int i)] => match c[k]? with
    | some (.lst xs) => if -(2 ^ 62) ≤ i ∧ i < 2 ^ 62 then (match seqIndex? i xs.length with
      | some j => match xs[j]? with
        | some d => .ok (.d d) (c.set k (.lst (xs.eraseIdx j)))
        | none => .bad
      | none => .bad) else .bad
    | _ => .bad
  | _, _ => .bad
theorem m_popAt : MtL K fa rPopAt oPopAt := fun c ad F H v w vs ws Q E R r rs P => by
  unfold oPopAt at P
  split at P
  · rename_i k i
    match vs, rs with
    | [u], .cons r1 .nil =>
      obtain ⟨a, h1, h2⟩ := r
      split at P
      · rename_i xs hx
        obtain ⟨nF, us, hu, ru⟩ := R.cell k _ a hx h1
        split at P
        · rename_i hb
          split at P
          · rename_i j hj
            split at P
            · rename_i d hd
              obtain ⟨y, hy, ry⟩ := ru.get hd
              refine ⟨a, us, i, j, y, h2, by rw [r1.intD], hu, by omega, by omega, by rw [ru.length]; exact hj, hy, ?_⟩
              exact P _ F ad (Same.refl _) (List.prefix_refl _) (R.write h1 nF ⟨nF, _, upd_same, ru.eraseIdx j⟩) y ry
            · exact P.elim
          · exact P.elim
        · exact P.elim
      · exact P.elim
  · exact P.elim
def oInsert : W → List W → Cells → Out W := fun w ws c => match w, ws with
  | .c k, [.d (.int i), x] => (fz x c).bind fun d c1 => match c1[k]? with
    | some (.lst xs) => if 0 ≤ i ∧ i < 2 ^ 62 ∧ xs.length < 1000000 then .ok (.d .non) (c1.set k (.lst (xs.take i.toNat ++ [d] ++ xs.drop i.toNat))) else .bad
    | _ => .bad
  | _, _ => .bad
theorem m_insert : MtL K fa (fun x vs H Q => ∃ (l : Addr) (xs : List V) (i : Int) (y : V), x = .ref l ∧ vs = [.int i, y] ∧ H l = some (.lst xs) ∧ xs.length < sizeLine ∧ 0 ≤ i ∧ i < 2 ^ 63 ∧
    Q .non (upd H l (.lst (xs.take i.toNat ++ [y] ++ xs.drop i.toNat)))) oInsert := fun c ad F H v w vs ws Q E R r rs P => by
  unfold oInsert at P
  split at P
  · rename_i k i x
    match vs, rs with
    | [u, y], .cons r1 (.cons r2 .nil) =>
      obtain ⟨a, h1, h2⟩ := r
      obtain ⟨d, c1, F1, s1, R1, q1, _, P1⟩ := P.fz R r2
      split at P1
      · rename_i xs hx
        obtain ⟨nF, us, hu, ru⟩ := R1.cell k _ a hx h1
        split at P1
        · rename_i hl
          refine ⟨a, us, i, y, h2, by rw [r1.intD], hu, by rw [ru.length]; exact Nat.lt_of_lt_of_le hl.2.2 (by decide), hl.1, by omega, ?_⟩
          exact P1 _ F1 ad (Same.refl _) (List.prefix_refl _) (R1.write h1 nF ⟨nF, _, upd_same, ((ru.take _).append (.cons q1 .nil)).append (ru.drop _)⟩) .non .non
        · exact P1.elim
      · exact P1.elim
  · exact P.elim
theorem RpA.flat {F : Hp} {vs : List V} {ds : List D} (r : RpA K fa F vs ds) : ∀ n : Nat, RpA K fa F (List.replicate n vs).flatten (List.replicate n ds).flatten
  | 0 => .nil
  | n + 1 => by
    rw [List.replicate_succ, List.replicate_succ, List.flatten_cons, List.flatten_cons]
    exact r.append (RpA.flat r n)
def oRep : W → W → Cells → Out W := fun w1 w2 c => match w1, w2 with
  | .c k, .d (.int n) => match c[k]? with
    | some (.lst xs) => if -(2 ^ 62) ≤ n ∧ n < 2 ^ 62 ∧ xs.length * n.toNat ≤ 1000000 then mkL (List.replicate n.toNat xs).flatten c else .bad
    | _ => .bad
  | _, _ => .bad
theorem l_rep : OpL K fa rRep oRep := fun c ad F H v1 v2 w1 w2 Q E R r1 r2 P => by
  unfold oRep at P
  split at P
  · rename_i k n
    obtain ⟨a, h1, h2⟩ := r1
    split at P
    · rename_i xs hx
      obtain ⟨nF, us, hu, ru⟩ := R.cell k _ a hx h1
      split at P
      · rename_i hl
        exact ⟨a, n, us, h2, r2.intD, hu, by omega, by omega, by rw [ru.length]; exact small hl.2.2, (mkL_ok P R (ru.flat _)).2⟩
      · exact P.elim
    · exact P.elim
  · exact P.elim
/-! ### dict comprehensions -/
def putD (kvs : List (Key × D)) (k : Key) (v : D) : List (Key × D) :=
  if (kvs.any fun kv => decide (kv.1 = k)) = true then kvs.map (fun kv => if kv.1 = k then (kv.1, v) else kv) else kvs ++ [(k, v)]
theorem RpK.any {F : Hp} {k : Key} : ∀ {vs : List (Key × V)} {ds : List (Key × D)}, RpK K fa F vs ds → (vs.any fun kv => decide (kv.1 = k)) = (ds.any fun kv => decide (kv.1 = k))
  | _, _, .nil => rfl
  | _, _, .cons _ r => by rw [List.any_cons, List.any_cons, RpK.any r]
theorem RpK.append {F : Hp} : ∀ {vs vs' : List (Key × V)} {ds ds' : List (Key × D)}, RpK K fa F vs ds → RpK K fa F vs' ds' → RpK K fa F (vs ++ vs') (ds ++ ds')
  | _, _, _, _, .nil, s => s
  | _, _, _, _, .cons h r, s => .cons h (RpK.append r s)
theorem RpK.repl {F : Hp} {k : Key} {v : V} {d : D} (h : Rp K fa F v d) : ∀ {vs : List (Key × V)} {ds : List (Key × D)}, RpK K fa F vs ds → RpK K fa F (vs.map fun kv => if kv.1 = k then (kv.1, v) else kv) (ds.map fun kv => if kv.1 = k then (kv.1, d) else kv)
  | _, _, .nil => .nil
  | _, _, .cons (k := j) q r => by
    rw [List.map_cons, List.map_cons]
    by_cases e : j = k
    · simp only [e, if_true]
      exact .cons h (RpK.repl h r)
    · simp only [e, if_false]
      exact .cons q (RpK.repl h r)
theorem RpK.put {F : Hp} {k : Key} {v : V} {d : D} {vs : List (Key × V)} {ds : List (Key × D)} (r : RpK K fa F vs ds) (h : Rp K fa F v d) : RpK K fa F (putK vs k v) (putD ds k d) := by
  unfold putK putD
  rw [r.any (k := k)]
  split
  · exact r.repl h
  · exact r.append (.cons h .nil)
def keyW : W → Option Key
  | .d (.int i) => some (.inl i)
  | .d (.str z) => some (.inr z)
  | _ => none
theorem keyW_ok {ad : List Addr} {F : Hp} {v : V} {w : W} {k : Key} (r : RW K fa ad F v w) (h : keyW w = some k) : v = kV k := by
  unfold keyW at h
  split at h
  · cases h; rw [r.intD]; rfl
  · cases h; rw [r.strD]; rfl
  · cases h
def loopDc (item : Items) (one : Bool) (is vs : List Nat) (t : Sl → Cells → Out Bool) (fk fv : Den) (sl : Sl) (n0 : Nat) : Nat → Nat → Cells → Out W
  | 0, _, _ => .bad
  | m + 1, i, c => match item i c with
    | none => .bad
    | some none => .ok (.c n0) (c.take (n0 + 1))
    | some (some d) => match storeC one is d (wipeS sl vs) with
      | none => .bad
      | some sl1 => (t sl1 c).ne.bind fun b c1 => if b = true then
          (fk sl1 c1).ne.bind fun wk ck => (fv sl1 ck).ne.bind fun w c2 => match keyW wk with
            | some k => (fz w c2).bind fun y c3 => match c3[n0]? with
              | some (.dic acc) => if acc.length < 1000000 then loopDc item one is vs t fk fv sl n0 m (i + 1) ((c3.set n0 (.dic (putD acc k y))).take (n0 + 1)) else .bad
              | _ => .bad
            | none => .bad
        else loopDc item one is vs t fk fv sl n0 m (i + 1) (c1.take (n0 + 1))
def dDc (it : Sl → Cells → Out Items) (one : Bool) (is vs : List Nat) (t : Sl → Cells → Out Bool) (fk fv : Den) : Den := fun sl c => (it sl c).bind fun item c1 => loopDc item one is vs t fk fv sl c1.length bigN 0 (c1 ++ [.dic []])
end
section
variable {X : Cx} {fa : Fa} {Wx : WX} {pos : Pos}
theorem dc_of {tgK : PySem.W.Frag} {it : Sl → Cells → Out Items} {one : Bool} {is vs : List Nat} {t : Sl → Cells → Out Bool} {fk fv : Den} {σ : L2.St} {H : Hp} {Q : VK} (hi : ∀ i ∈ is, i ∈ vs) (q : tE tgK fa Wx (dDc it one is vs t fk fv) σ H Q) :
    tDc (tI tgK fa Wx it) (gC tgK one is) (tT tgK fa WF t) (tE tgK fa WF fk) (tE tgK fa WF fv) vs σ H Q := by
  obtain ⟨sl, c, ad, F, ok, R, P⟩ := q
  refine ⟨sl, c, ad, F, ok, R, P.bind fun item c1 H1 F1 ad1 s p R1 P1 J hJ D hD => ?_⟩
  have ok1 := ok.mono s p
  have hn0 : ad1.length = c1.length := R1.len
  have RC := R1.newC (o := .dK []) (x := .dic []) hD fun nF => ⟨nF, [], upd_same, .nil⟩
  have p1 : ad1 <+: ad1 ++ [D] := List.prefix_append _ _
  refine ⟨fun i m H' => ∃ c2 ad2 F2, Same F1 F2 ∧ ad1 ++ [D] = ad2 ∧ Rel tgK fa c2 ad2 F2 H' ∧ Post tgK fa (fun cls d H' => Wx cls d σ H') ad2 F2 (fun w ad' F' H' => ∀ v, RW tgK fa ad' F' v w → Q v H') (loopDc item one is vs t fk fv sl c1.length m i c2),
    ⟨bigN, _, _, F1, Same.refl _, rfl, RC, Post.weak P1 (Same.refl _) p1⟩, ?_⟩
  rintro i m H2 ⟨c2, ad2, F2, s2, rfl, R2, P2⟩
  cases m with
  | zero => exact P2.elim
  | succ m =>
    have hj := hJ i c2 _ F2 H2 s2 p1 R2
    have hD2 : (ad1 ++ [D])[c1.length]? = some D := by rw [← hn0]; simp
    have cutR : ∀ {c3 : Cells} {ad3 : List Addr} {F3 H3 : Hp}, (ad1 ++ [D]) <+: ad3 → Rel tgK fa c3 ad3 F3 H3 → Rel tgK fa (c3.take (c1.length + 1)) (ad1 ++ [D]) F3 H3 := fun {c3 ad3 F3 H3} p3 R3 => by
      have := R3.take (c1.length + 1)
      rwa [take_pre p3 (by simp [hn0])] at this
    unfold loopDc at P2
    revert hj P2
    cases item i c2 with
    | none => exact fun _ P2 => P2.elim
    | some o =>
      cases o with
      | none =>
        intro hj P2
        exact .inl ⟨hj, P2 H2 F2 _ (Same.refl _) (List.prefix_refl _) (cutR (List.prefix_refl _) R2) (.ref D) ⟨D, hD2, rfl⟩⟩
      | some d =>
        intro hj P2
        dsimp only at hj P2
        refine .inr ⟨hj.1, fun H' => ∃ c2 F3, Same F1 F3 ∧ Rel tgK fa c2 (ad1 ++ [D]) F3 H' ∧ Post tgK fa (fun cls d H' => Wx cls d σ H') (ad1 ++ [D]) F3 (fun w ad' F' H' => ∀ v, RW tgK fa ad' F' v w → Q v H') (loopDc item one is vs t fk fv sl c1.length m (i + 1) c2),
          fun H' ⟨c3, F3, h1, h2, h3⟩ => ⟨m, Nat.lt_succ_self m, c3, _, F3, h1, rfl, h2, h3⟩, fun x H' hy => ?_⟩
        obtain ⟨F3, s3, R3, r3⟩ := hj.2 x H' hy
        have P3 := Post.weak (o := _) P2 s3 (List.prefix_refl _)
        revert P3
        cases hs : storeC one is d (wipeS sl vs) with
        | none => exact fun P3 => P3.elim
        | some sl1 =>
          intro P3
          have ok3 := ((ok1.mono s2 p1).mono s3 (List.prefix_refl _)).wipe vs
          refine storeC_ok (us := vs) hi R3 r3 ok3 hs fun σ2 hw ok4 => ⟨by rw [hw, wipe_wipe vs vs fun _ h => h], sl1, c2, _, F3, ok4, R3, ?_⟩
          refine Post.ne P3 fun b c4 H4 F4 ad4 s4 p4 R4 P4 => ?_
          cases b with
          | false =>
            rw [if_neg Bool.false_ne_true] at P4 ⊢
            have P5 : Post tgK fa (fun cls d H' => Wx cls d σ H') (ad1 ++ [D]) F4 (fun w ad' F' H' => ∀ v, RW tgK fa ad' F' v w → Q v H') (loopDc item one is vs t fk fv sl c1.length m (i + 1) (c4.take (c1.length + 1))) := P4
            exact ⟨_, F4, (s2.trans s3).trans s4, cutR p4 R4, P5⟩
          | true =>
            rw [if_pos rfl] at P4 ⊢
            refine ⟨sl1, c4, ad4, F4, ok4.mono s4 p4, R4, Post.ne P4 fun wk ck Hk Fk adk sk pk Rk Pk vk rvk => ?_⟩
            have okk := (ok4.mono s4 p4).mono sk pk
            refine ⟨sl1, ck, adk, Fk, okk, Rk, Post.ne Pk fun w c5 H5 F5 ad5 s5 p5 R5 P5 v rv => ?_⟩
            split at P5
            · rename_i kk hkk
              obtain ⟨y, c6, F6, s6, R6, r6, _, P6⟩ := P5.fz R5 rv
              have pA := (p4.trans pk).trans p5
              split at P6
              · rename_i acc hacc
                obtain ⟨a6, h6, nF6, us, hus, rus⟩ := R6.cell_at hacc
                have ea : a6 = D := by
                  have := pre_get pA hD2
                  rw [this] at h6
                  exact (Option.some.inj h6).symm
                subst ea
                split at P6
                · rename_i hlen
                  refine ⟨us, kk, keyW_ok rvk hkk, hus, by rw [rus.length]; exact Nat.lt_of_lt_of_le hlen (by decide), ?_⟩
                  have RW6 := R6.write (o := .dK (putK us kk v)) (x := .dic (putD acc kk y)) h6 nF6 ⟨nF6, _, upd_same, rus.put r6⟩
                  exact ⟨_, F6, ((((s2.trans s3).trans s4).trans sk).trans s5).trans s6, cutR pA RW6, P6⟩
                · exact P6.elim
              · exact P6.elim
            · exact P5.elim
theorem se_dc {kx vx tg iter : Expr} {ifs : List Expr} {scope : Scope} {own : List (Str × Nat)} {it : Sl → Cells → Out Items} {one : Bool} {is : List Nat} {t : Sl → Cells → Out Bool} {fk fv : Den} (hc : X.calm = true) (hN : X.N.Nodup) (hi : SI X fa Wx tg iter it) (ok : BlkOk X.N X.env.scope scope own)
    (his : ∀ i ∈ is, i ∈ own.map (·.2)) (hg : Blk X scope fun Y => PG Y tg (gC X.K one is)) (ht : Blk X scope fun Y => PTs Y ifs (tT X.K fa WF t)) (hk : Blk X scope fun Y => PE Y kx (tE X.K fa WF fk)) (he : Blk X scope fun Y => PE Y vx (tE X.K fa WF fv)) (hs : ∀ x, foldedSetIterable iter X.env x = pure x := by intro _; rfl) :
    SE X fa Wx (.DictComp kx vx [⟨tg, iter, ifs, 0⟩] scope pos) (dDc it one is (own.map (·.2)) t fk fv) := PE.imp (pe_dc hc hN hi ok hg ht hk he hs) fun σ H Q q => dc_of his q
end
end Pm

/-! Pm20: sorted of a list of data that are alike. -/
namespace Pm
open PySem L2 PyProof.Rows PySem.W
def encD (d : D) : PyData := (toPy d).getD .none
def ltD (d e : D) : Bool := dataLt (encD d) (encD e)
def insD (d : D) : List D → List D
  | [] => [d]
  | e :: r => if ltD d e = true then d :: e :: r else e :: insD d r
def isortD : List D → List D
  | [] => []
  | d :: r => insD d (isortD r)
def strict : List D → Bool
  | [] => true
  | d :: r => r.all (ltD d) && strict r
theorem insD_perm (d : D) : ∀ r, (insD d r).Perm (d :: r)
  | [] => List.Perm.refl _
  | e :: r => by
    unfold insD
    split
    · exact List.Perm.refl _
    · exact ((insD_perm d r).cons e).trans (List.Perm.swap d e r)
theorem isortD_perm : ∀ r, (isortD r).Perm r
  | [] => List.Perm.refl _
  | d :: r => (insD_perm d _).trans ((isortD_perm r).cons d)
theorem sort_uniq : ∀ {r m : List D}, m.Perm r → strict r = true → m.Pairwise (fun x y => ltD y x = false) → m = r
  | [], m, p, _, _ => p.eq_nil
  | x :: r, [], p, _, _ => absurd p.length_eq (by simp)
  | x :: r, y :: m, p, s, h => by
    unfold strict at s
    rw [Bool.and_eq_true, List.all_eq_true] at s
    have e : y = x := by
      rcases List.mem_cons.mp (p.mem_iff.mp (List.mem_cons_self (a := y) (l := m))) with e | hy
      · exact e
      · have h1 := s.1 y hy
        rcases List.mem_cons.mp (p.mem_iff.mpr (List.mem_cons_self (a := x) (l := r))) with e | hx
        · exact e.symm
        · have := (List.pairwise_cons.mp h).1 x hx
          rw [this] at h1
          cases h1
    subst e
    rw [sort_uniq p.cons_inv s.2 (List.pairwise_cons.mp h).2]
def oneAlike (d : D) (ds : List D) : Bool := ds.all fun e => alike (encD d) (encD e)
def notTup : PyData → Bool
  | .none => false
  | .tuple _ => false
  | _ => true
def tup1 : PyData → Bool
  | .tuple (_ :: _) => true
  | _ => false
def srtOk (ds : List D) : Bool := ds.all (fun d => (toPy d).isSome && decide ((encD d).depth ≤ 60) && oneAlike d ds) && (ds.all (fun d => tup1 (encD d)) || ds.all (fun d => notTup (encD d)))
def oSorted : List W → Cells → Out W := fun ws c => match ws with
  | [w] => match rd c w with
    | some (.lst ds) => if (srtOk ds && strict (isortD ds)) = true then mkL (isortD ds) c else .bad
    | _ => .bad
  | _ => .bad
def rSrt (K : PySem.W.Frag) : List V → Hp → VK → Prop := fun vs H Q => ∃ (a : Addr) (zs : List (V × D)), vs = [V.ref a] ∧ SqL K H a (zs.map (·.1)) ∧ (∀ z ∈ zs, Dp K H z.1 (encD z.2)) ∧ srtOk (zs.map (·.2)) = true ∧
  ∀ p, H p = none → Q (.ref p) (upd H p (.lst ((zs.mergeSort (dataLe false fun z : V × D => encD z.2)).map (·.1))))
theorem each_vals : ∀ {zs : List (V × D)} {us : List Value}, Vals (zs.map (·.1)) us → EachIs (fun u (z : V × D) => RelV z.1 u) us zs
  | [], _, .nil => .nil
  | _ :: _, _, .cons r t => .cons r (each_vals t)
theorem vals_each : ∀ {zs : List (V × D)} {us : List Value}, EachIs (fun u (z : V × D) => RelV z.1 u) us zs → Vals (zs.map (·.1)) us
  | [], _, .nil => .nil
  | _ :: _, _, .cons r t => .cons r (vals_each t)
theorem each_mem {α β : Type} {R S : α → β → Prop} : ∀ {as : List α} {bs : List β}, EachIs R as bs → (∀ a, ∀ b ∈ bs, R a b → S a b) → EachIs S as bs
  | _, _, .nil, _ => .nil
  | _, _, .cons r t, h => .cons (h _ _ List.mem_cons_self r) (each_mem t fun a b hb => h a b (List.mem_cons_of_mem _ hb))
theorem cr_srt {X : Cx} (un : X.A.units + 200 < cLine) : CallR X (.builtin "sorted") (rSrt X.K) := by
  intro pins s σ H vs us Q I r h
  obtain ⟨a, zs, rfl, hs, hd, ok, q⟩ := h
  obtain ⟨its, rv, hl, hz⟩ := I.list hs
  rw [Vals.ref1 r]
  have hlz : zs.length ≤ sizeLine := by rw [List.length_map] at hz; exact hz
  unfold srtOk at ok
  rw [Bool.and_eq_true, List.all_eq_true] at ok
  have ok1 : ∀ z ∈ zs, (toPy z.2).isSome = true ∧ (encD z.2).depth ≤ 60 ∧ oneAlike z.2 (zs.map (·.2)) = true := fun z hz => by
    have := ok.1 z.2 (List.mem_map.mpr ⟨z, hz, rfl⟩)
    simp only [Bool.and_eq_true, decide_eq_true_eq] at this
    exact ⟨this.1.1, this.1.2, this.2⟩
  have hal : AllAlike (zs.map fun z : V × D => encD z.2) := by
    intro d hd d' hd'
    obtain ⟨z, hz, rfl⟩ := List.mem_map.mp hd
    obtain ⟨z', hz', rfl⟩ := List.mem_map.mp hd'
    have := (ok1 z hz).2.2
    unfold oneAlike at this
    exact List.all_eq_true.mp this z'.2 (List.mem_map.mpr ⟨z', hz', rfl⟩)
  have hk : Sortable (zs.map fun z : V × D => encD z.2) := by
    have := ok.2
    rw [Bool.or_eq_true, List.all_eq_true, List.all_eq_true] at this
    rcases this with k | k
    · refine .inl fun d hd => ?_
      obtain ⟨z, hz, rfl⟩ := List.mem_map.mp hd
      have := k z.2 (List.mem_map.mpr ⟨z, hz, rfl⟩)
      unfold tup1 at this
      split at this
      · rename_i x r e; exact ⟨x, r, e⟩
      · cases this
    · refine .inr fun d hd => ?_
      obtain ⟨z, hz, rfl⟩ := List.mem_map.mp hd
      have := k z.2 (List.mem_map.mpr ⟨z, hz, rfl⟩)
      unfold notTup at this
      split at this
      · cases this
      · cases this
      · rename_i n1 n2; exact ⟨n1, n2⟩
  have e := each_vals rv
  have er : EachIs (fun v (b : V × D) => ∃ as, Reads s.heap v (encD b.2) as) its zs := each_mem e fun u z hz ru => Dp.reads I _ _ _ (hd z hz) ru
  have ea : its.toArray.toList = its := by simp
  refine sorted_data (enc := fun z : V × D => encD z.2) (vs := its) hl.isList e er hal hk hlz (fun z hz => by have := (ok1 z hz).2.1; show X.A.units + 2 + (encD z.2).depth < cLine; omega) fun out h1 h2 => ?_
  obtain ⟨ep, he'⟩ := PyProof.Rows.sortedAll_at s.heap its out.toArray
  have hlen : ((zs.mergeSort (dataLe false fun z : V × D => encD z.2)).map (·.1)).length ≤ sizeLine := by rw [List.length_map, List.length_mergeSort]; exact hlz
  refine ⟨.ref _, upd H (s.heap.objs.size + 1) (.lst ((zs.mergeSort (dataLe false fun z : V × D => encD z.2)).map (·.1))), I.laid (t' := s.toks) (fun _ _ => PyProof.Rows.sortedAll_old) (Nat.le_succ _) ⟨hlen, out, ep, vals_each h2, he'⟩, rfl, q _ (I.hok.fresh (Nat.le_succ _))⟩
section
variable {K : PySem.W.Frag} {fa : Fa}
theorem RpA.zip {F : Hp} : ∀ {vs : List V} {ds : List D}, RpA K fa F vs ds → ∃ zs : List (V × D), vs = zs.map (·.1) ∧ ds = zs.map (·.2) ∧ ∀ z ∈ zs, Rp K fa F z.1 z.2
  | _, _, .nil => ⟨[], rfl, rfl, fun z h => by cases h⟩
  | v :: _, d :: _, .cons h r => by
    obtain ⟨zs, e1, e2, e3⟩ := RpA.zip r
    refine ⟨(v, d) :: zs, by rw [e1]; rfl, by rw [e2]; rfl, fun z hz => ?_⟩
    rcases List.mem_cons.mp hz with e | e
    · subst e; exact h
    · exact e3 z e
theorem RpA.ofZip {F : Hp} : ∀ (zs : List (V × D)), (∀ z ∈ zs, Rp K fa F z.1 z.2) → RpA K fa F (zs.map (·.1)) (zs.map (·.2))
  | [], _ => .nil
  | z :: zs, h => .cons (h z List.mem_cons_self) (RpA.ofZip zs fun y hy => h y (List.mem_cons_of_mem _ hy))
theorem encD_some {d : D} (h : (toPy d).isSome = true) : toPy d = some (encD d) := by
  unfold encD
  cases q : toPy d with
  | none => rw [q] at h; cases h
  | some p => rfl
theorem ll_srt : CalL K fa (rSrt K) oSorted := fun c ad F H vs ws Q E R r P => by
  unfold oSorted at P
  split at P
  · rename_i w
    split at P
    · rename_i ds e
      split at P
      · rename_i hok
        rw [Bool.and_eq_true] at hok
        match vs, r with
        | [v], .cons r .nil =>
          obtain ⟨a, us, e1, e2, e3⟩ := R.lst r e
          obtain ⟨zs, z1, z2, z3⟩ := e3.zip
          have hso := hok.1
          rw [z2] at hso
          refine ⟨a, zs, by rw [e1], .inl (by rw [← z1]; exact e2), fun z hz => ?_, hso, fun p hp => ?_⟩
          · unfold srtOk at hso
            rw [Bool.and_eq_true, List.all_eq_true] at hso
            have := hso.1 z.2 (List.mem_map.mpr ⟨z, hz, rfl⟩)
            simp only [Bool.and_eq_true] at this
            exact Rp.dp R.le (z3 z hz) (encD_some this.1.1)
          · have em : (zs.mergeSort (dataLe false fun z : V × D => encD z.2)).map (·.2) = isortD ds := by
              have hp : ((zs.mergeSort (dataLe false fun z : V × D => encD z.2)).map (·.2)).Perm ds := by rw [z2]; exact (List.mergeSort_perm zs _).map _
              refine sort_uniq (hp.trans (isortD_perm ds).symm) hok.2 ?_
              rw [List.pairwise_map]
              have := List.pairwise_mergeSort (le := dataLe false fun z : V × D => encD z.2) (fun a b c => ?_) (fun a b => ?_) zs
              · refine this.imp fun {x y} h => ?_
                rw [dataLe_eq] at h
                show dataLt (encD y.2) (encD x.2) = false
                simpa using h
              · exact (sortLe_total _ _ _).trans a b c
              · rw [Bool.or_eq_true]; exact (sortLe_total _ _ _).total a b
            have q1 : RpA K fa F ((zs.mergeSort (dataLe false fun z : V × D => encD z.2)).map (·.1)) (isortD ds) := by
              rw [← em]
              exact RpA.ofZip _ fun z hz => z3 z (List.mem_mergeSort.mp hz)
            exact (mkL_ok P R q1).2 p hp
      · exact P.elim
    · exact P.elim
  · exact P.elim
end
end Pm

/-! Pm21: a call that sees nothing of what stands around, or one list alone: the frame around it. -/
namespace Pm
open PySem L2 PyProof.Rows
/-! ### data that stands in no list -/
def atomD : D → Bool
  | .non => true
  | .bl _ => true
  | .int _ => true
  | .str _ => true
  | _ => false
def tflD : D → Bool
  | .tup ds => ds.all atomD
  | d => atomD d
def isTup : HO → Bool
  | .tup _ => true
  | .frz _ (.tup _) => true
  | _ => false
/-- the tuples alone -/
def tupF (F : Hp) : Hp := fun a => match F a with
  | some u => if isTup u = true then some u else none
  | none => none
theorem tupF_some {F : Hp} {a : Addr} {u : HO} (h : tupF F a = some u) : F a = some u ∧ isTup u = true := by
  unfold tupF at h
  split at h
  · rename_i v e
    split at h
    · rename_i ht
      cases h
      exact ⟨e, ht⟩
    · cases h
  · cases h
theorem tupF_of {F : Hp} {a : Addr} {u : HO} (h : F a = some u) (t : isTup u = true) : tupF F a = some u := by
  unfold tupF
  rw [h]
  exact if_pos t
theorem tupF_le (F : Hp) : Same (tupF F) F := fun a u h => (tupF_some h).1
section
variable {K : PySem.W.Frag} {fa fb : Fa} {c : Cells} {ad : List Addr} {F G H : Hp}
theorem Rp.atom {v : V} {d : D} (r : Rp K fa F v d) (h : atomD d = true) : Rp K fb G v d := by
  cases r with
  | non => exact .non
  | bl b => exact .bl b
  | int i => exact .int i
  | str x => exact .str x
  | fn _ => cases h
  | ty _ => cases h
  | lst _ _ => cases h
  | tup _ _ => cases h
  | dic _ _ => cases h
  | arr _ => cases h
theorem RpA.atoms : ∀ {vs : List V} {ds : List D}, RpA K fa F vs ds → ds.all atomD = true → RpA K fb G vs ds
  | _, _, .nil, _ => .nil
  | _, _, .cons r t, h => by
    rw [List.all_cons, Bool.and_eq_true] at h
    exact .cons (r.atom h.1) (RpA.atoms t h.2)
theorem sqT_tup {a : Addr} {xs : List V} (h : SqT K F a xs) : SqT K (tupF F) a xs := by
  rcases h with (h | ⟨o, h⟩) | h
  · exact .inl (.inl (tupF_of h rfl))
  · exact .inl (.inr ⟨o, tupF_of h rfl⟩)
  · exact .inr h
theorem Rp.tfl {v : V} {d : D} (r : Rp K fa F v d) (h : tflD d = true) : Rp K fb (tupF F) v d := by
  cases r with
  | non => exact .non
  | bl b => exact .bl b
  | int i => exact .int i
  | str x => exact .str x
  | fn _ => cases h
  | ty _ => cases h
  | lst _ _ => cases h
  | tup s q => exact .tup (sqT_tup s) (q.atoms h)
  | dic _ _ => cases h
  | arr _ => cases h
theorem RpA.tfls : ∀ {vs : List V} {ds : List D}, RpA K fa F vs ds → ds.all tflD = true → RpA K fb (tupF F) vs ds
  | _, _, .nil, _ => .nil
  | _, _, .cons r t, h => by
    rw [List.all_cons, Bool.and_eq_true] at h
    exact .cons (r.tfl h.1) (RpA.tfls t h.2)
def uni (F G : Hp) : Hp := fun a => match F a with
  | some u => some u
  | none => G a
theorem uni_l (F G : Hp) : Same F (uni F G) := fun a u h => by unfold uni; rw [h]
theorem uni_r {F G H : Hp} (h1 : Same F H) (h2 : Same G H) : Same G (uni F G) := fun a u h => by
  unfold uni
  split
  · rename_i v e
    have x := h1 a v e
    have y := h2 a u h
    rw [x] at y
    exact y
  · exact h
theorem uni_some {F G : Hp} {a : Addr} {u : HO} (h : uni F G a = some u) : F a = some u ∨ (F a = none ∧ G a = some u) := by
  unfold uni at h
  split at h
  · rename_i v e; exact .inl (e.trans h)
  · rename_i e; exact .inr ⟨e, h⟩
theorem uni_none {F G : Hp} {a : Addr} (h1 : F a = none) (h2 : G a = none) : uni F G a = none := by unfold uni; rw [h1]; exact h2
open Classical in
/-- what stands around, seen from within: it must stay; as: the lists that are seen -/
noncomputable def odF (fa : Fa) (F : Hp) (ad : List Addr) (H : Hp) (as : List Addr) : Od where
  hp := fun b => if b ∉ as ∧ tupF F b = none ∧ (F b ≠ none ∨ b ∈ ad ∨ fa.od.hp b ≠ none) then H b else none
  fz := fun _ => False
noncomputable abbrev faF (fa : Fa) (F : Hp) (ad : List Addr) (H : Hp) (as : List Addr) : Fa := { fa with od := odF fa F ad H as }
/-- what is seen -/
structure Seen (K : PySem.W.Frag) (fa : Fa) (c : Cells) (ad : List Addr) (F H : Hp) (cs : Cells) (as : List Addr) : Prop where
  len : as.length = cs.length
  nd : as.Nodup
  at_ : ∀ (j : Nat) (a : Addr), as[j]? = some a → ∃ (k : Nat) (ds : List D), cs[j]? = some (.lst ds) ∧ ds.all tflD = true ∧ ad[k]? = some a ∧ c[k]? = some (.lst ds)
theorem Seen.nil : Seen K fa c ad F H [] [] := ⟨rfl, List.nodup_nil, fun j a h => by simp at h⟩
theorem Seen.one {k : Nat} {a : Addr} {ds : List D} (h1 : ad[k]? = some a) (h2 : c[k]? = some (.lst ds)) (h3 : ds.all tflD = true) : Seen K fa c ad F H [.lst ds] [a] :=
  ⟨rfl, by simp, fun j b h => by
    cases j with
    | zero => simp at h; subst h; exact ⟨k, ds, rfl, h3, h1, h2⟩
    | succ j => simp at h⟩
theorem Rel.frame_in {cs : Cells} {as : List Addr} (R : Rel K fa c ad F H) (S : Seen K fa c ad F H cs as) : Rel K (faF fa F ad H as) cs as (tupF F) H := by
  have cell : ∀ (j : Nat) (a : Addr), as[j]? = some a → ∃ (ds : List D) (vs : List V), cs[j]? = some (.lst ds) ∧ ds.all tflD = true ∧ a ∈ ad ∧ F a = none ∧ H a = some (.lst vs) ∧ RpA K fa F vs ds := fun j a h => by
    obtain ⟨k, ds, h1, h2, h3, h4⟩ := S.at_ j a h
    obtain ⟨nF, vs, hv, rv⟩ := R.cell k _ a h4 h3
    exact ⟨ds, vs, h1, h2, List.mem_of_getElem? h3, nF, hv, rv⟩
  refine ⟨(tupF_le F).trans R.le, S.len, S.nd, fun a ha => ?_, fun j o a h1 h2 => ?_, fun b u h => ?_, fun b u h _ => ?_, fun a ha => ?_, fun a o xs h => ?_⟩
  · obtain ⟨j, hj⟩ := List.getElem?_of_mem ha
    obtain ⟨ds, vs, _, _, _, _, hv, _⟩ := cell j a hj
    exact ⟨_, hv⟩
  · obtain ⟨ds, vs, e1, e2, _, e3, e4, e5⟩ := cell j a h2
    rw [e1] at h1
    cases h1
    refine ⟨?_, vs, e4, e5.tfls e2⟩
    cases q : tupF F a with
    | none => rfl
    | some u => have := (tupF_some q).1; rw [e3] at this; cases this
  · have h : (odF fa F ad H as).hp b = some u := h
    unfold odF at h
    dsimp only at h
    split at h
    · exact h
    · cases h
  · show (odF fa F ad H as).hp b = none
    unfold odF
    dsimp only
    rw [if_neg]
    rintro ⟨_, h2, _⟩
    rw [h] at h2
    cases h2
  · show (odF fa F ad H as).hp a = none
    unfold odF
    dsimp only
    rw [if_neg]
    rintro ⟨h1, _⟩
    exact h1 ha
  · have := (tupF_some h).2
    cases this
section
variable {cs cs' c2 : Cells} {as ad' : List Addr} {F' H' : Hp}
theorem odF_keep {b : Addr} {u : HO} (h : H b = some u) (h1 : b ∉ as) (h2 : tupF F b = none) (h3 : F b ≠ none ∨ b ∈ ad ∨ fa.od.hp b ≠ none) : (odF fa F ad H as).hp b = some u := by
  unfold odF
  dsimp only
  rw [if_pos ⟨h1, h2, h3⟩]
  exact h
/-- what stood is as it was -/
theorem frame_le (R : Rel K fa c ad F H) (S : Seen K fa c ad F H cs as) (R' : Rel K (faF fa F ad H as) cs' ad' F' H') (sF : Same (tupF F) F') : Same F H' := fun b u h => by
  cases q : tupF F b with
  | some v =>
    have h1 := R'.le b v (sF b v q)
    have h2 := (tupF_some q).1
    rw [h] at h2
    cases h2
    exact h1
  | none =>
    refine R'.kp b u (odF_keep (R.le b u h) (fun hb => ?_) q (.inl (by rw [h]; simp)))
    obtain ⟨j, hj⟩ := List.getElem?_of_mem hb
    obtain ⟨k, ds, _, _, h3, h4⟩ := S.at_ j b hj
    have := (R.cell k _ b h4 h3).1
    rw [h] at this
    cases this
theorem frame_at (R : Rel K fa c ad F H) (R' : Rel K (faF fa F ad H as) cs' ad' F' H') {b : Addr} {u : HO} (h : H b = some u) (h1 : b ∉ as) (h2 : F b = none) (h3 : b ∈ ad ∨ fa.od.hp b ≠ none) : H' b = some u ∧ (odF fa F ad H as).hp b = some u := by
  have q : tupF F b = none := by
    cases q : tupF F b with
    | none => rfl
    | some v => have := (tupF_some q).1; rw [h2] at this; cases this
  have := odF_keep (fa := fa) (ad := ad) (as := as) h h1 q (.inr h3)
  exact ⟨R'.kp b u this, this⟩
/-- a list of the call's own is none of what stood -/
theorem frame_new (R : Rel K fa c ad F H) (S : Seen K fa c ad F H cs as) (R' : Rel K (faF fa F ad H as) cs' ad' F' H') (sF : Same (tupF F) F') (p : as <+: ad') {b : Addr} (hb' : b ∉ as) (hn : (odF fa F ad H as).hp b = none) (ht : tupF F b = none) : F b = none ∧ b ∉ ad ∧ fa.od.hp b = none := by
  have no : ∀ {u : HO}, H b = some u → ¬ (F b ≠ none ∨ b ∈ ad ∨ fa.od.hp b ≠ none) := fun {u} hu h => by
    have := odF_keep (fa := fa) (ad := ad) (as := as) hu hb' ht h
    rw [hn] at this
    cases this
  refine ⟨?_, fun hb => ?_, ?_⟩
  · cases q : F b with
    | none => rfl
    | some u => exact absurd (.inl (by rw [q]; simp)) (no (R.le b u q))
  · obtain ⟨u, hu⟩ := R.there b hb
    exact no hu (.inr (.inl hb))
  · cases q : fa.od.hp b with
    | none => rfl
    | some u => exact absurd (.inr (.inr (by rw [q]; simp))) (no (R.kp b u q))
/-- what the call made that is no list of its frozen tuples: none of what stood -/
theorem frame_lst (R : Rel K fa c ad F H) (S : Seen K fa c ad F H cs as) (R' : Rel K (faF fa F ad H as) cs' ad' F' H') (sF : Same (tupF F) F') (p : as <+: ad') {b : Addr} {u : HO} (h : F' b = some u) (hu : isTup u = false) (hx : ∀ fs, u ≠ .xd fs) (hb' : b ∉ ad') : F b = none ∧ b ∉ ad ∧ fa.od.hp b = none :=
  frame_new R S R' sF p (fun z => hb' (p.subset z)) (R'.nf b u h hx) (by
    cases qt : tupF F b with
    | none => rfl
    | some v =>
      have h1 := sF b v qt
      rw [h] at h1
      cases h1
      rw [(tupF_some qt).2] at hu
      cases hu)
theorem frame_cell (R : Rel K fa c ad F H) (S : Seen K fa c ad F H cs as) (R' : Rel K (faF fa F ad H as) cs' ad' F' H') (sF : Same (tupF F) F') (p : as <+: ad') {b : Addr} (hb : b ∈ ad') (hb' : b ∉ as) (ht : F' b = none ∨ (tupF F b = none)) : F b = none ∧ b ∉ ad ∧ fa.od.hp b = none :=
  frame_new R S R' sF p hb' (R'.na b hb) (by
    rcases ht with h | h
    · cases qt : tupF F b with
      | none => rfl
      | some v => have h1 := sF b v qt; rw [h] at h1; cases h1
    · exact h)
/-- the cells that stood, behind the call: those that were seen hold what the call left -/
structure BackC (c c2 : Cells) (ad : List Addr) (cs' : Cells) (as : List Addr) : Prop where
  len : c2.length = c.length
  at_ : ∀ (k : Nat) (o : O) (a : Addr), c2[k]? = some o → ad[k]? = some a → (∃ (j : Nat) (ds : List D), as[j]? = some a ∧ cs'[j]? = some (.lst ds) ∧ ds.all tflD = true ∧ o = .lst ds) ∨ (a ∉ as ∧ c[k]? = some o)
theorem BackC.nil : BackC c c ad cs' [] := ⟨rfl, fun k o a h1 h2 => .inr ⟨by simp, h1⟩⟩
theorem BackC.one (R : Rel K fa c ad F H) {k : Nat} {a : Addr} {ds : List D} {r : Cells} (h1 : ad[k]? = some a) (h3 : ds.all tflD = true) : BackC c (c.set k (.lst ds)) ad (.lst ds :: r) [a] :=
  ⟨by simp, fun j o b e1 e2 => by
    by_cases hj : j = k
    · subst hj
      rw [h1] at e2
      cases e2
      rw [List.getElem?_set] at e1
      simp only [if_true] at e1
      split at e1
      · cases e1
        exact .inl ⟨0, ds, rfl, rfl, h3, rfl⟩
      · cases e1
    · rw [List.getElem?_set_ne (Ne.symm hj)] at e1
      refine .inr ⟨fun hb => ?_, e1⟩
      simp at hb
      subst hb
      exact hj (ix_inj R.nd e2 h1)⟩
/-- the state that stood, behind the call; Z: what of the call's data is kept -/
theorem frame_out {Z H2 : Hp} (R : Rel K fa c ad F H) (S : Seen K fa c ad F H cs as) (R' : Rel K (faF fa F ad H as) cs' ad' F' H') (sF : Same (tupF F) F') (p : as <+: ad') (B : BackC c c2 ad cs' as) (hZ : Same Z F') (hT : Same (tupF F') Z)
    (hZn : ∀ a u, Z a = some u → isTup u = true ∨ (∃ fs, u = .xd fs) ∨ a ∉ ad) (keep : ∀ b u, H' b = some u → (F b ≠ none ∨ Z b ≠ none ∨ b ∈ ad ∨ fa.od.hp b ≠ none) → H2 b = some u)
    (hnz : ∀ a o xs, Z a ≠ some (.frz o (.lst xs))) : Rel K fa c2 ad (uni F Z) H2 := by
  have sFH : Same F H' := frame_le R S R' sF
  have sZH : Same Z H' := hZ.trans R'.le
  have sU : Same (uni F Z) H' := fun b u h => by
    rcases uni_some h with h | ⟨_, h⟩
    · exact sFH b u h
    · exact sZH b u h
  have sZU : Same Z (uni F Z) := uni_r sFH sZH
  -- a cell's list is no datum of Z
  have notZ : ∀ {a : Addr} {u : HO}, a ∈ ad → H' a = some u → isTup u = false → (∀ fs, u ≠ .xd fs) → Z a = none := fun {a u} ha h hu hx => by
    cases q : Z a with
    | none => rfl
    | some v =>
      have := sZH a v q
      rw [h] at this
      cases this
      rcases hZn a u q with z | ⟨fs, z⟩ | z
      · rw [z] at hu; cases hu
      · exact absurd z (hx fs)
      · exact absurd ha z
  have stay : ∀ {a : Addr} {u : HO}, a ∈ ad → a ∉ as → F a = none → H a = some u → H' a = some u := fun {a u} ha hs hF h => (frame_at R R' h hs hF (.inl ha)).1
  refine ⟨fun b u h => ?_, by rw [R.len, ← B.len], R.nd, fun a ha => ?_, fun k o a h1 h2 => ?_, fun b u h => ?_, fun b u h hx => ?_, R.na, fun a o xs h => ?_⟩
  · refine keep b u (sU b u h) ?_
    rcases uni_some h with h | ⟨_, h⟩
    · exact .inl (by rw [h]; simp)
    · exact .inr (.inl (by rw [h]; simp))
  · obtain ⟨u, hu⟩ := R.there a ha
    by_cases hs : a ∈ as
    · obtain ⟨v, hv⟩ := R'.there a (p.subset hs)
      exact ⟨v, keep a v hv (.inr (.inr (.inl ha)))⟩
    · cases q : F a with
      | some v => exact ⟨v, keep a v (sFH a v q) (.inl (by rw [q]; simp))⟩
      | none => exact ⟨u, keep a u (stay ha hs q hu) (.inr (.inr (.inl ha)))⟩
  · have ha : a ∈ ad := List.mem_of_getElem? h2
    rcases B.at_ k o a h1 h2 with ⟨j, ds, hj, hc, hd, rfl⟩ | ⟨hs, hc⟩
    · obtain ⟨nF', vs, hv, rv⟩ := R'.cell j _ a hc (pre_get p hj)
      obtain ⟨k', ds', _, _, h3, h4⟩ := S.at_ j a hj
      have nF := (R.cell k' _ a h4 h3).1
      refine ⟨uni_none nF (notZ ha hv rfl (fun fs z => by cases z)), vs, keep a _ hv (.inr (.inr (.inl ha))), ?_⟩
      exact ((RpA.tfls rv hd).mono hT).mono sZU
    · have ok := R.cell k o a hc h2
      cases o with
      | lst ds =>
        obtain ⟨nF, vs, hv, rv⟩ := ok
        have hv' := stay ha hs nF hv
        exact ⟨uni_none nF (notZ ha hv' rfl (fun fs z => by cases z)), vs, keep a _ hv' (.inr (.inr (.inl ha))), rv.mono (uni_l F Z)⟩
      | dic ds =>
        obtain ⟨nF, vs, hv, rv⟩ := ok
        have hv' := stay ha hs nF hv
        exact ⟨uni_none nF (notZ ha hv' rfl (fun fs z => by cases z)), vs, keep a _ hv' (.inr (.inr (.inl ha))), rv.mono (uni_l F Z)⟩
      | frz d => exact Rp.mono (uni_l F Z) ok
  · -- what stood before all that
    have hH := R.kp b u h
    have hs : b ∉ as := fun hb => by
      obtain ⟨j, hj⟩ := List.getElem?_of_mem hb
      obtain ⟨k, ds, _, _, h3, h4⟩ := S.at_ j b hj
      have := R.na b (List.mem_of_getElem? h3)
      rw [h] at this
      cases this
    refine keep b u ?_ (.inr (.inr (.inr (by rw [h]; simp))))
    cases q : F b with
    | some v =>
      have := R.le b v q
      rw [hH] at this
      cases this
      exact sFH b u q
    | none => exact (frame_at R R' hH hs q (.inr (by rw [h]; simp))).1
  · rcases uni_some h with h | ⟨hF, h⟩
    · exact R.nf b u h hx
    · cases q : fa.od.hp b with
      | none => rfl
      | some v =>
        have hH := R.kp b v q
        have hs : b ∉ as := fun hb => by
          obtain ⟨j, hj⟩ := List.getElem?_of_mem hb
          obtain ⟨k, ds, _, _, h3, h4⟩ := S.at_ j b hj
          have := R.na b (List.mem_of_getElem? h3)
          rw [q] at this
          cases this
        have := (frame_at R R' hH hs hF (.inr (by rw [q]; simp))).2
        have z := R'.nf b u (hZ b u h) hx
        have z : (odF fa F ad H as).hp b = none := z
        rw [this] at z
        cases z
  · rcases uni_some h with h | ⟨hF, h⟩
    · exact R.nz a o xs h
    · exact absurd h (hnz a o xs)
end
end
end Pm

/-! Pm22: calls with flat values alone: what they make is new. -/
namespace Pm
open PySem L2 PyProof.Rows
def atomW : W → Bool
  | .d d => atomD d
  | _ => false
section
variable {K : PySem.W.Frag} {fa fb : Fa} {c : Cells} {ad ad' : List Addr} {F G H : Hp}
theorem RWs.atoms : ∀ {vs : List V} {ws : List W}, RWs K fa ad F vs ws → ws.all atomW = true → RWs K fb ad' G vs ws
  | _, _, .nil, _ => .nil
  | _, _, .cons (w := w) r t, h => by
    rw [List.all_cons, Bool.and_eq_true] at h
    refine .cons ?_ (RWs.atoms t h.2)
    cases w with
    | d x => exact Rp.atom r h.1
    | c _ => cases h.1
    | x _ _ => cases h.1
    | raw _ => cases h.1
/-- one more cell, of what is there -/
theorem Rel.addC {a : Addr} {o : O} (R : Rel K fa c ad F H) (nd : a ∉ ad) (na : fa.od.hp a = none) (ht : ∃ u, H a = some u) (ok : CellOk K fa F H a o) : Rel K fa (c ++ [o]) (ad ++ [a]) F H := by
  refine ⟨R.le, by simp [R.len], ?_, fun b hb => ?_, fun k y b h1 h2 => ?_, R.kp, R.nf, fun b hb => ?_, R.nz⟩
  · rw [List.nodup_append]
    refine ⟨R.nd, by simp, fun x hx b hb => ?_⟩
    simp at hb
    subst hb
    exact fun z => nd (z ▸ hx)
  · rcases List.mem_append.mp hb with h | h
    · exact R.there b h
    · simp at h; subst h; exact ht
  · by_cases hk : k < c.length
    · rw [List.getElem?_append_left hk] at h1
      rw [List.getElem?_append_left (by rw [R.len]; exact hk)] at h2
      exact R.cell k y b h1 h2
    · have e : k = c.length := by
        have := (List.getElem?_eq_some_iff.mp h1).1
        simp at this; omega
      subst e
      simp at h1
      rw [← R.len] at h2
      simp at h2
      subst h1 h2
      exact ok
  · rcases List.mem_append.mp hb with h | h
    · exact R.na b h
    · simp at h; subst h; exact na
end
/-- what comes of a call that saw nothing around -/
def outF (o : Out W) (c1 : Cells) : Out W := match o with
  | .ok (.d d) [] => .ok (.d d) c1
  | .ok (.c 0) [.lst ds] => .ok (.c c1.length) (c1 ++ [.lst ds])
  | _ => .bad
def callF (n : Nat) (g : List W → Cells → Out W) (ws : List W) (c1 : Cells) : Out W := if ws.length = n ∧ ws.all atomW = true then outF (g ws []) c1 else .bad
def dCallF (n : Nat) (g : List W → Cells → Out W) (as : Sl → Cells → Out (List W)) : Den := fun sl c => (as sl c).bind (callF n g)
section
variable {K : PySem.W.Frag} {mg : Str → Option Value} {od : Od} {c : Cells} {ad : List Addr} {F H : Hp}
theorem callF_ok {n : Nat} {g : List W → Cells → Out W} {ws : List W} {vs : List V} {Q : VK} {E : XK} {E' : Value → Option Addr → Hp → Prop} (R : Rel K (faOf mg od) c ad F H) (r : RWs K (faOf mg od) ad F vs ws)
    (P : Post K (faOf mg od) E' ad F (fun w ad' F' H' => ∀ v, RW K (faOf mg od) ad' F' v w → Q v H') (callF n g ws c)) : spD K (faOf mg) n g vs H Q E := by
  unfold callF at P
  split at P
  · rename_i hl
    refine ⟨by rw [r.length]; exact hl.1, odF (faOf mg od) F ad H [], ws, [], [], tupF F, r.atoms hl.2, R.frame_in Seen.nil, ?_⟩
    unfold outF at P
    revert P
    cases hg : g ws [] with
    | exc _ _ _ => exact fun P => P.elim
    | bad => exact fun P => P.elim
    | ok w cs' =>
      intro P H' F' ad' sF p R' v rv
      have p : ([] : List Addr) <+: ad' := p
      have R' : Rel K (faF (faOf mg od) F ad H []) cs' ad' F' H' := R'
      have base : (∀ a ∈ ad', F' a = none) → Rel K (faOf mg od) c ad (uni F F') H' ∧ Same F (uni F F') ∧ Same F' (uni F F') := fun hno => by
        refine ⟨frame_out (Z := F') (H2 := H') R Seen.nil R' sF p BackC.nil (Same.refl _) (tupF_le _) (fun a u h => ?_) (fun b u h _ => h) (fun a o xs h => R'.nz a o xs h), uni_l _ _, uni_r (frame_le R Seen.nil R' sF) R'.le⟩
        cases ht : isTup u with
        | true => exact .inl rfl
        | false =>
          by_cases hx : ∃ fs, u = .xd fs
          · exact .inr (.inl hx)
          · refine .inr (.inr (frame_lst R Seen.nil R' sF p h ht (fun fs z => hx ⟨fs, z⟩) (fun hb => ?_)).2.1)
            rw [hno a hb] at h
            cases h
      match w, cs', P, R', rv with
      | .d d, [], P, R', rv =>
        obtain ⟨R1, s1, s2⟩ := base (fun a ha => by have := R'.len; simp at this; subst this; cases ha)
        exact P H' _ ad s1 (List.prefix_refl _) R1 v (Rp.mono s2 (Rp.sw (fa := faF (faOf mg od) F ad H []) (fb := faOf mg od) rfl (rv : Rp K (faF (faOf mg od) F ad H []) F' v d)))
      | .c 0, [.lst ds], P, R', rv =>
        obtain ⟨a, h1, h2⟩ := rv
        obtain ⟨nF', us, hu, ru⟩ := R'.cell 0 _ a rfl h1
        have ea : ad' = [a] := by
          have hlen := R'.len
          match ad', hlen, h1 with
          | [b], _, h1 => simp at h1; rw [h1]
          | [], hlen, _ => simp at hlen
          | _ :: _ :: _, hlen, _ => simp at hlen
        obtain ⟨R1, s1, s2⟩ := base (fun b hb => by rw [ea] at hb; simp at hb; subst hb; exact nF')
        obtain ⟨f1, f2, f3⟩ := frame_cell R Seen.nil R' sF p (b := a) (by rw [ea]; simp) (by simp) (.inl nF')
        have R2 := R1.addC (a := a) (o := .lst ds) f2 f3 ⟨_, hu⟩ ⟨uni_none f1 nF', us, hu, (RpA.sw (fa := faF (faOf mg od) F ad H []) (fb := faOf mg od) rfl ru).mono s2⟩
        refine P H' _ _ s1 (List.prefix_append _ _) R2 v ⟨a, ?_, h2⟩
        rw [← R1.len]; simp
      | .d _, _ :: _, P, _, _ => exact P.elim
      | .c 0, [], P, _, _ => exact P.elim
      | .c 0, o :: _ :: _, P, _, _ => cases o <;> exact P.elim
      | .c 0, [.dic _], P, _, _ => exact P.elim
      | .c 0, [.frz _], P, _, _ => exact P.elim
      | .c (_ + 1), _, P, _, _ => exact P.elim
      | .x _ _, _, P, _, _ => exact P.elim
      | .raw _, _, P, _, _ => exact P.elim
  · exact P.elim
end
section
variable {X : Cx} {fa : Fa} {od : Od} {Wx : WX} {pos p : Pos} {x : Str} {st : Stmt} {k : Nat} {ps : List Str} {g : List W → Cells → Out W}
/-- a call, by what is asked of the def -/
theorem pe_callS {e : Expr} {es : List Expr} {as : Sl → Cells → Out (List W)} (G : Fd X.prog X.w X.K X.mg X.base x st k ps g) (hr : Room k X.A) (hgd : X.A.guards = some []) (tk : Takes X Wx) (ha : SA X (faOf X.mg od) Wx (e :: es) as) (hg : Gl X x := by rfl)
    (hdb : (x == ("__debug__" : Str)) = false := by decide) (he : starEach (e :: es) X.env = (false, eval e X.env) :: starEach es X.env := by rfl) (hpl : (backTo pos (starEach es X.env)).any (·.1) = false := by rfl) :
    PE X (.Call (.Name x p) (e :: es) [] pos) (fun σ H Q => tAs X.K (faOf X.mg od) Wx as σ H fun vs H1 => spD X.K (faOf X.mg) ps.length g vs H1 Q (WE Wx σ)) := by
  obtain ⟨f, fd, Fn, hm, hb, F⟩ := G.ex
  refine ⟨fun pins s σ H Q I q => wpAny_Call_Name_kw (ld_glob I hg hm ?_ hdb)⟩
  refine PySem.W.callWith_K (h₀ := X.base) I.ok.mod.kin Fn.kp (thn (ha.run pos pins s σ H _ I q) fun us s1 h1 => ?_) he hpl
  obtain ⟨vs, H1, I1, r, q1⟩ := h1
  have hl : us.length = ps.length := by rw [← r.length]; exact F.len _ _ _ _ q1
  exact ⟨I1.kIn, run_g (us := us) F hr hgd tk I1 (binds_of hb I1.kIn hl) r q1⟩
theorem se_callF {e : Expr} {es : List Expr} {as : Sl → Cells → Out (List W)} {n : Nat} (hn : n = ps.length) (G : Fd X.prog X.w X.K X.mg X.base x st k ps g) (hr : Room k X.A) (hgd : X.A.guards = some []) (tk : Takes X Wx) (ha : SA X (faOf X.mg od) Wx (e :: es) as) (hg : Gl X x := by rfl)
    (hdb : (x == ("__debug__" : Str)) = false := by decide) (he : starEach (e :: es) X.env = (false, eval e X.env) :: starEach es X.env := by rfl) (hpl : (backTo pos (starEach es X.env)).any (·.1) = false := by rfl) :
    SE X (faOf X.mg od) Wx (.Call (.Name x p) (e :: es) [] pos) (dCallF n g as) := PE.imp (pe_callS G hr hgd tk ha hg hdb he hpl) fun σ H Q q => by
  subst hn
  obtain ⟨sl, c, ad, F, ok, R, P⟩ := q
  exact ⟨sl, c, ad, F, ok, R, P.bind fun ws c1 H1 F1 ad1 s p R1 P1 vs rv => callF_ok R1 rv P1⟩
/-- keywords alone -/
def dCallFK (n : Nat) (is : List Nat) (g : List W → Cells → Out W) (as : Sl → Cells → Out (List W)) : Den := fun sl c => (as sl c).bind fun ws c1 => callF n g (perm is ws) c1
theorem se_callFK {kw : Keyword} {kws : List Keyword} {as : Sl → Cells → Out (List W)} {ks : List Str} {is : List Nat} {n : Nat} (hn : n = ps.length) (G : Fd X.prog X.w X.K X.mg X.base x st k ps g) (KP : KwP X.K X.mg x ps ks is) (hr : Room k X.A) (hgd : X.A.guards = some []) (tk : Takes X Wx) (ha : PK X (kw :: kws) (tAs X.K (faOf X.mg od) Wx as)) (hg : Gl X x := by rfl)
    (hall : (backToKw pos (keywordEach (kw :: kws) X.env)).all (·.1.isSome) = true := by rfl) (hks : (backToKw pos (keywordEach (kw :: kws) X.env)).filterMap (·.1) = ks := by rfl)
    (hdb : (x == ("__debug__" : Str)) = false := by decide) (hpl : ((backTo pos (starEach [] X.env)).any (·.1) || (backToKw pos (keywordEach (kw :: kws) X.env)).any (·.1.isNone)) = false := by rfl) :
    SE X (faOf X.mg od) Wx (.Call (.Name x p) [] (kw :: kws) pos) (dCallFK n is g as) := by
  subst hn
  obtain ⟨f, fd, Fn, hm, hb, F⟩ := G.ex
  obtain ⟨gv, gV, KB, hV⟩ := KP.ex f fd st hm Fn
  refine ⟨fun pins s σ H Q I h => ?_⟩
  refine wpAny_Call_Name_kw (ld_glob I hg hm ?_ hdb)
  obtain ⟨sl, c, ad, F0, ok, R, P⟩ := h
  have q : tAs X.K (faOf X.mg od) Wx as σ H (fun vs H1 => spD X.K (faOf X.mg) ps.length g (perm is vs) H1 Q (WE Wx σ)) :=
    ⟨sl, c, ad, F0, ok, R, P.bind fun ws c1 H1 F1 ad1 s p R1 P1 vs rv => callF_ok R1 (RWs.perm is rv) P1⟩
  refine PySem.W.callWith_KW0 (h₀ := X.base) I.ok.mod.kin Fn.kp hall (thn (ha.run pos pins s σ H _ I q) fun ws s2 ⟨zs, H2, I2, rz, q2⟩ => ⟨I2.kIn, ?_⟩) hpl
  rw [hks]
  have q3 : spD X.K (faOf X.mg) ps.length g (gV [] zs) H2 Q (WE Wx σ) := by rw [hV]; exact q2
  have r2 := KB.rel (vs := []) .nil rz
  exact run_g (us := []) F hr hgd tk I2 (KB.to s2 [] ws I2.kIn (by rw [← r2.length]; exact F.len _ _ _ _ q3)) r2 q3
end
end Pm

/-! Pm23: a told list of lists is changed, and its first list. -/
namespace Pm
open PySem L2 PyProof.Rows
section
variable {X : Cx} {x : Str} {e : Expr} {u : V}
theorem pe_app {i : Nat} {p1 apos cpos : Pos} (he : PE X e (tC u)) (hN : X.N[i]? = some x := by rfl) (hv : Vis X.env.scope x := by first | exact Or.inl rfl | exact Or.inr (Or.inl rfl) | exact Or.inr (Or.inr rfl)) (hd : (x == ("__debug__" : Str)) = false := by decide)
    (hcd : (x == ("__classdict__" : Str)) = false := by decide) (hbase : attributeBase (.Name x p1) "append" X.env (eval (.Name x p1) X.env) = eval (.Name x p1) X.env := by rfl)
    (hfew : ((backTo cpos (starEach [e] X.env)).all (fun x => !x.1) && (backToKw cpos (keywordEach [] X.env)).all (fun x => x.1.isSome)
      && decide ([e].length + ([] : List Keyword).length + (if ([] : List Keyword).isEmpty then 0 else 1) < 30)) = true := by rfl)
    (hline : (apos.endLine == cpos.line) = true := by rfl) (hs : starEach [e] X.env = (false, eval e X.env) :: starEach [] X.env := by rfl) (hplain : (backTo cpos (starEach [] X.env)).any (·.1) = false := by rfl) :
    PE X (.Call (.Attribute (.Name x p1) "append" apos) [e] [] cpos) (fun σ H Q => ∃ a vs, σ[i]? = some (some (.ref a)) ∧ H a = some (.lst vs) ∧ vs.length < sizeLine ∧ Q .non (upd H a (.lst (vs ++ [u])))) :=
  PE.imp (pe_bm PySem.F.plainAttrs_list PySem.F.slot_list_append PySem.F.type_list_append mt_append (pe_var hN hv hd hcd) (pa_cons he pa_nil hs) hbase hfew hline hs hplain) fun σ H Q ⟨a, vs, h1, h2, h3, q⟩ =>
    ⟨.ref a, h1, .inl ⟨rfl, vs, .inl (.inl h2)⟩, a, vs, u, rfl, rfl, h2, h3, q⟩
theorem pe_app0 {i : Nat} {j : Nat} {p1 p2 p3 apos cpos : Pos} (he : PE X e (tC u)) (hN : X.N[i]? = some x := by rfl) (hv : Vis X.env.scope x := by first | exact Or.inl rfl | exact Or.inr (Or.inl rfl) | exact Or.inr (Or.inr rfl)) (hd : (x == ("__debug__" : Str)) = false := by decide)
    (hcd : (x == ("__classdict__" : Str)) = false := by decide) (hpx : PlainIx (.Constant (.int 0) j p2) := by intro _ _; rfl)
    (hbase : attributeBase (.Subscript (.Name x p1) (.Constant (.int 0) j p2) p3) "append" X.env (eval (.Subscript (.Name x p1) (.Constant (.int 0) j p2) p3) X.env) = eval (.Subscript (.Name x p1) (.Constant (.int 0) j p2) p3) X.env := by rfl)
    (hfew : ((backTo cpos (starEach [e] X.env)).all (fun x => !x.1) && (backToKw cpos (keywordEach [] X.env)).all (fun x => x.1.isSome)
      && decide ([e].length + ([] : List Keyword).length + (if ([] : List Keyword).isEmpty then 0 else 1) < 30)) = true := by rfl)
    (hline : (apos.endLine == cpos.line) = true := by rfl) (hs : starEach [e] X.env = (false, eval e X.env) :: starEach [] X.env := by rfl) (hplain : (backTo cpos (starEach [] X.env)).any (·.1) = false := by rfl) :
    PE X (.Call (.Attribute (.Subscript (.Name x p1) (.Constant (.int 0) j p2) p3) "append" apos) [e] [] cpos) (fun σ H Q => ∃ a vs b us, σ[i]? = some (some (.ref a)) ∧ H a = some (.lst vs) ∧ vs[0]? = some (.ref b) ∧ H b = some (.lst us) ∧ us.length < sizeLine ∧ Q .non (upd H b (.lst (us ++ [u])))) :=
  PE.imp (pe_bm PySem.F.plainAttrs_list PySem.F.slot_list_append PySem.F.type_list_append mt_append (pe_ix ix_seq (pe_var hN hv hd hcd) pe_int hpx) (pa_cons he pa_nil hs) hbase hfew hline hs hplain) fun σ H Q ⟨a, vs, b, us, h1, h2, h3, h4, h5, q⟩ =>
    ⟨.ref a, h1, .inl ⟨a, vs, 0, .ref b, rfl, rfl, .inl (.inl h2), by
      cases vs with
      | nil => simp at h3
      | cons v r => simp at h3; subst h3; simp [atI, ixN], .inl ⟨rfl, us, .inl (.inl h4)⟩, b, us, u, rfl, rfl, h4, h5, q⟩⟩
end
/-- a list of lists told by a call with one list, its first list changed, itself changed -/
def toldOut (i k : Nat) (o : Out W) (sl : Sl) (c1 : Cells) : OS := match o with
  | .ok (.c 1) [.lst ss', .lst (.lst es :: r)] => if ss'.all tflD = true ∧ es.length < 1000000 ∧ r.length + 1 < 1000000 ∧ i < sl.length then .nx (sl.set i none) (c1.set k (.lst ss')) else .bad
  | _ => .bad
def told (i : Nat) (g : List W → Cells → Out W) (ws : List W) (sl : Sl) (c1 : Cells) : OS := match ws with
  | [.c k] => match c1[k]? with
    | some (.lst ss) => if ss.all tflD = true then toldOut i k (g [.c 0] [.lst ss]) sl c1 else .bad
    | _ => .bad
  | _ => .bad
def sTold (i : Nat) (g : List W → Cells → Out W) (as : Sl → Cells → Out (List W)) (f : SDen) : SDen := fun sl c => (as sl c).st sl fun ws c1 => (told i g ws sl c1).andThen f
section
variable {X : Cx} {od : Od} {Wx : WX} {A B C : Stmt} {rest : List Stmt} {u u2 : V} {i : Nat} {g : List W → Cells → Out W} {as : Sl → Cells → Out (List W)} {f : SDen}
theorem tup_not_lst {F : Hp} {b : Addr} {us : List V} (h : F b = some (.lst us)) : tupF F b = none := by
  cases q : tupF F b with
  | none => rfl
  | some v => obtain ⟨h1, h2⟩ := tupF_some q; rw [h] at h1; cases h1; cases h2
theorem tup_none {F : Hp} {b : Addr} (h : F b = none) : tupF F b = none := by
  cases q : tupF F b with
  | none => rfl
  | some v => have := (tupF_some q).1; rw [h] at this; cases this
theorem ss_told (hA : PS X A (tAsg (fun σ H Q => tAs X.K (faOf X.mg od) Wx as σ H fun vs H1 => spD X.K (faOf X.mg) 1 g vs H1 Q (WE Wx σ)) (gName i)))
    (hB : PS X B (tDrop (fun σ H Q => ∃ a vs b us, σ[i]? = some (some (.ref a)) ∧ H a = some (.lst vs) ∧ vs[0]? = some (.ref b) ∧ H b = some (.lst us) ∧ us.length < sizeLine ∧ Q .non (upd H b (.lst (us ++ [u]))))))
    (hC : PS X C (tDrop (fun σ H Q => ∃ a vs, σ[i]? = some (some (.ref a)) ∧ H a = some (.lst vs) ∧ vs.length < sizeLine ∧ Q .non (upd H a (.lst (vs ++ [u2]))))))
    (hr : SSs X (faOf X.mg od) Wx rest f) : SSs X (faOf X.mg od) Wx (A :: B :: C :: rest) (sTold i g as f) := PSs.imp (pss_cons hA (pss_cons hB (pss_cons hC hr))) fun D σ H q => by
  obtain ⟨sl, c, ad, F, ok, R, P⟩ := q
  refine ⟨sl, c, ad, F, ok, R, Post.st ok P fun ws c1 H1 F1 ad1 s p R1 P1 vs rv => ?_⟩
  have ok1 := ok.mono s p
  unfold told at P1
  split at P1
  · rename_i k
    split at P1
    · rename_i ss hss
      split at P1
      · rename_i htf
        match vs, rv with
        | [v0], .cons ⟨a0, h1, h2⟩ .nil =>
        have S : Seen X.K (faOf X.mg od) c1 ad1 F1 H1 [.lst ss] [a0] := Seen.one h1 hss htf
        refine ⟨rfl, odF (faOf X.mg od) F1 ad1 H1 [a0], [.c 0], [.lst ss], [a0], tupF F1, .cons ⟨a0, rfl, h2⟩ .nil, R1.frame_in S, ?_⟩
        unfold toldOut at P1
        revert P1
        cases hg : g [.c 0] [.lst ss] with
        | exc _ _ _ => exact fun P1 => P1.elim
        | bad => exact fun P1 => P1.elim
        | ok w cs' =>
          intro P1 H' F' ad' sF p' R' v rv'
          have R' : Rel X.K (faF (faOf X.mg od) F1 ad1 H1 [a0]) cs' ad' F' H' := R'
          split at P1
          · rename_i ss' es r heq
            cases heq
            split at P1
            · rename_i hc
              obtain ⟨a, ha, rfl⟩ := rv'
              obtain ⟨nFa, vs', hva, rva⟩ := R'.cell 1 _ a rfl ha
              obtain ⟨nFs, vss, _, _⟩ := R'.cell 0 _ a0 rfl (pre_get p' rfl)
              cases rva with
              | @cons v1 vr _ _ r1 rr =>
              cases r1 with
              | @lst b us _ hb ru =>
              have hb : F' b = some (.lst us) := by
                rcases hb with hb | ⟨o, hb⟩
                · exact hb
                · exact (R'.nz b o us hb).elim
              have hbH := R'.le b _ hb
              have lad : ad' = [a0, a] := by
                have hlen := R'.len
                have hp := pre_get p' (k := 0) (a := a0) rfl
                match ad', hlen, ha, hp with
                | [x, y], _, ha, hp => simp at ha hp; rw [ha, hp]
                | [], hlen, _, _ => simp at hlen
                | [_], hlen, _, _ => simp at hlen
                | _ :: _ :: _ :: _, hlen, _, _ => simp at hlen
              have hba : b ≠ a := fun z => by subst z; rw [nFa] at hb; cases hb
              have hbs : b ≠ a0 := fun z => by subst z; rw [nFs] at hb; cases hb
              have hbn : b ∉ ad' := by rw [lad]; simp [hba, hbs]
              obtain ⟨b1, b2, b3⟩ := frame_lst R1 S R' sF p' hb rfl (fun fs z => by cases z) hbn
              have has : a ∉ [a0] := by
                have := R'.nd
                rw [lad] at this
                intro z
                simp at z this
                exact this z.symm
              obtain ⟨a1, a2, a3⟩ := frame_cell R1 S R' sF p' (b := a) (by rw [lad]; simp) has (.inl nFa)
              have hset : (σ.set i (some (.ref a)))[i]? = some (some (V.ref a)) := by
                rw [List.getElem?_set]
                simp only [if_true]
                rw [if_pos (by rw [ok1.1]; exact hc.2.2.2)]
              have l1 : us.length < sizeLine := by rw [ru.length]; exact Nat.lt_of_lt_of_le hc.2.1 (by decide)
              have l2 : (V.ref b :: vr).length < sizeLine := by
                rw [List.length_cons, rr.length]
                exact Nat.lt_of_lt_of_le hc.2.2.1 (by decide)
              refine ⟨a, _, b, us, hset, hva, rfl, hbH, l1, a, _, hset, by rw [upd_ne (Ne.symm hba)]; exact hva, l2, ?_⟩
              have sF1 : Same F1 (uni F1 (tupF F')) := uni_l _ _
              refine ⟨sl.set i none, c1.set k (.lst ss'), ad1, uni F1 (tupF F'), (ok1.mono sF1 (List.prefix_refl _)).unset _, ?_, PostS.weak P1 sF1 (List.prefix_refl _)⟩
              refine frame_out (Z := tupF F') R1 S R' sF p' (BackC.one R1 h1 hc.1) (tupF_le F') (Same.refl _) (fun x y z => .inl (tupF_some z).2) (fun y z hy hw => ?_) (fun x o xs z => by cases (tupF_some z).2)
              have y1 : y ≠ b := fun z => by
                subst z
                rcases hw with w | w | w | w
                · exact w b1
                · exact w (tup_not_lst hb)
                · exact b2 w
                · exact w b3
              have y2 : y ≠ a := fun z => by
                subst z
                rcases hw with w | w | w | w
                · exact w a1
                · exact w (tup_none nFa)
                · exact a2 w
                · exact w a3
              rw [upd_ne y2, upd_ne y1]
              exact hy
            · exact P1.elim
          · exact P1.elim
      · exact P1.elim
    · exact P1.elim
  · exact P1.elim
end
/-! ### a told list that is looked at first -/
/-- the slots seen from within: those kept, the others as they are -/
def frS (keep : List Nat) (rv : Nat → V) : Nat → Sl → Sl
  | _, [] => []
  | j, w :: r => (match w with
    | none => none
    | some x => if j ∈ keep then some x else some (.raw (rv j))) :: frS keep rv (j + 1) r
theorem frS_len (keep : List Nat) (rv : Nat → V) : ∀ (j : Nat) (sl : Sl), (frS keep rv j sl).length = sl.length
  | _, [] => rfl
  | j, w :: r => by
    unfold frS
    rw [List.length_cons, List.length_cons, frS_len keep rv (j + 1) r]
theorem frS_get (keep : List Nat) (rv : Nat → V) : ∀ (j : Nat) (sl : Sl) (k : Nat), (frS keep rv j sl)[k]? = sl[k]?.map fun w => match w with
    | none => none
    | some x => if j + k ∈ keep then some x else some (.raw (rv (j + k)))
  | _, [], k => by simp [frS]
  | j, w :: r, 0 => by simp only [frS, List.getElem?_cons_zero, Nat.add_zero, Option.map_some]
  | j, w :: r, k + 1 => by
    unfold frS
    rw [List.getElem?_cons_succ, List.getElem?_cons_succ, frS_get keep rv (j + 1) r k]
    have : j + 1 + k = j + (k + 1) := by omega
    rw [this]
structure BitsOk (keep : List Nat) (i : Nat) (b : SDen) (sl : Sl) : Prop where
  lt : i < sl.length
  atoms : ∀ j w, j ∈ keep → sl[j]? = some (some w) → atomW w = true
  run : ∀ rv : Nat → V, ∃ (cs : Cells) (es r : List D), b (frS keep rv 0 sl) [] = .nx ((frS keep rv 0 sl).set i (some (.c 0))) cs ∧ (cs[0]? = some (.frz (.lst (.lst es :: r))) ∨ cs[0]? = some (.lst (.lst es :: r))) ∧ es.length < 1000000
open Classical in
noncomputable def sBits (keep : List Nat) (i : Nat) (b f : SDen) : SDen := fun sl c => if BitsOk keep i b sl then f (sl.set i none) c else .bad
section
variable {X : Cx} {od : Od} {Wx : WX} {A B E : Stmt} {rest : List Stmt} {u : V} {i : Nat} {keep : List Nat} {f1 f2 f : SDen}
theorem PS.anyOd {f1 : SDen} (h : ∀ od, SS X (faOf X.mg od) Wx A f1) : PS X A (fun D σ H => ∃ od, tSt X.K (faOf X.mg od) Wx f1 D σ H) := ⟨fun pins s σ H D I ⟨od, q⟩ => (h od).run pins s σ H D I q⟩
theorem ss_bits (hA : ∀ od, SS X (faOf X.mg od) Wx A f1) (hB : ∀ od, SS X (faOf X.mg od) Wx B f2)
    (hE : PS X E (tDrop (fun σ H Q => ∃ a vs b us, σ[i]? = some (some (.ref a)) ∧ H a = some (.lst vs) ∧ vs[0]? = some (.ref b) ∧ H b = some (.lst us) ∧ us.length < sizeLine ∧ Q .non (upd H b (.lst (us ++ [u]))))))
    (hr : SSs X (faOf X.mg od) Wx rest f) : SSs X (faOf X.mg od) Wx (A :: B :: E :: rest) (sBits keep i (sCons f1 f2) f) := PSs.imp (pss_cons (PS.anyOd hA) (pss_cons (PS.anyOd hB) (pss_cons hE hr))) fun D σ H q => by
  obtain ⟨sl, c, ad, F, ok, R, P⟩ := q
  unfold sBits at P
  split at P
  · rename_i hb
    have val : ∀ j w, sl[j]? = some (some w) → ∃ v, σ[j]? = some (some v) ∧ RW X.K (faOf X.mg od) ad F v w := fun j w h => ok.2 j w h
    obtain ⟨rv, hrv⟩ : ∃ rv : Nat → V, ∀ j w, sl[j]? = some (some w) → σ[j]? = some (some (rv j)) ∧ RW X.K (faOf X.mg od) ad F (rv j) w := by
      refine ⟨fun j => match σ[j]? with | some (some v) => v | _ => .non, fun j w h => ?_⟩
      obtain ⟨v, h1, h2⟩ := val j w h
      simp only [h1]
      exact ⟨trivial, h2⟩
    obtain ⟨cs, es, r, e1, e2, e3⟩ := hb.run rv
    have S : Seen X.K (faOf X.mg od) c ad F H [] [] := Seen.nil
    have okF : SlOk X.K (faF (faOf X.mg od) F ad H []) [] (tupF F) σ (frS keep rv 0 sl) := by
      refine ⟨by rw [frS_len]; exact ok.1, fun j w h => ?_⟩
      rw [frS_get] at h
      cases hj : sl[j]? with
      | none => rw [hj] at h; simp at h
      | some o =>
        rw [hj] at h
        cases o with
        | none => simp at h
        | some y =>
          obtain ⟨h1, h2⟩ := hrv j y hj
          simp only [Option.map_some, Nat.zero_add] at h
          split at h
          · rename_i hk
            cases h
            refine ⟨_, h1, ?_⟩
            have ha := hb.atoms j _ hk hj
            cases w with
            | d d => exact Rp.atom h2 ha
            | c _ => cases ha
            | x _ _ => cases ha
            | raw _ => cases ha
          · cases h
            exact ⟨_, h1, rfl⟩
    have RF := R.frame_in S
    -- the two statements
    have split2 : ∃ sl1 c1, f1 (frS keep rv 0 sl) [] = .nx sl1 c1 ∧ f2 sl1 c1 = .nx ((frS keep rv 0 sl).set i (some (.c 0))) cs := by
      unfold sCons at e1
      cases hf : f1 (frS keep rv 0 sl) [] with
      | nx sl1 c1 => rw [hf] at e1; exact ⟨sl1, c1, rfl, e1⟩
      | ret _ _ => rw [hf] at e1; cases e1
      | brk _ _ => rw [hf] at e1; cases e1
      | cnt _ _ => rw [hf] at e1; cases e1
      | exc _ _ _ _ => rw [hf] at e1; cases e1
      | bad => rw [hf] at e1; cases e1
    obtain ⟨sl1, c1, g1, g2⟩ := split2
    refine ⟨odF (faOf X.mg od) F ad H [], frS keep rv 0 sl, [], [], tupF F, okF, RF, ?_⟩
    rw [g1]
    intro H1 F1 ad1 σ1 s1 p1 R1 ok1
    refine ⟨odF (faOf X.mg od) F ad H [], sl1, c1, ad1, F1, ok1, R1, ?_⟩
    rw [g2]
    intro H' F' ad' σ' s2 p2 R' ok'
    have R' : Rel X.K (faF (faOf X.mg od) F ad H []) cs ad' F' H' := R'
    have sF : Same (tupF F) F' := s1.trans s2
    have p' : ([] : List Addr) <+: ad' := List.nil_prefix
    have hi : i < (frS keep rv 0 sl).length := by rw [frS_len]; exact hb.lt
    obtain ⟨va, hva, a, ha, rfl⟩ := ok'.2 i (.c 0) (by rw [List.getElem?_set]; simp only [if_true]; rw [if_pos hi])
    have main : ∃ vs b us, H' a = some (.lst vs) ∧ vs[0]? = some (.ref b) ∧ F' b = some (.lst us) ∧ us.length = es.length := by
      have fromR : ∀ {vs : List V}, H' a = some (.lst vs) → RpA X.K (faF (faOf X.mg od) F ad H []) F' vs (.lst es :: r) → ∃ vs b us, H' a = some (.lst vs) ∧ vs[0]? = some (.ref b) ∧ F' b = some (.lst us) ∧ us.length = es.length := fun {vs} hv rv => by
        cases rv with
        | @cons v1 vr _ _ r1 rr =>
        cases r1 with
        | @lst b us _ hb ru =>
        refine ⟨_, b, us, hv, rfl, ?_, ru.length⟩
        rcases hb with hb | ⟨o, hb⟩
        · exact hb
        · exact (R'.nz b o us hb).elim
      rcases e2 with e2 | e2
      · have := R'.cell 0 _ a e2 ha
        cases (show Rp X.K _ F' (.ref a) (.lst (.lst es :: r)) from this) with
        | @lst _ vs _ hv rv =>
        rcases hv with hv | ⟨o, hv⟩
        · exact fromR (R'.le a _ hv) rv
        · exact (R'.nz a o vs hv).elim
      · obtain ⟨_, vs, hv, rv⟩ := R'.cell 0 _ a e2 ha
        exact fromR hv rv
    obtain ⟨vs, b, us, m1, m2, m3, m4⟩ := main
    obtain ⟨b1, b2, b3⟩ : F b = none ∧ b ∉ ad ∧ (faOf X.mg od).od.hp b = none := by
      by_cases hba : b ∈ ad'
      · refine frame_cell R S R' sF p' hba (by simp) (.inr ?_)
        cases q : tupF F b with
        | none => rfl
        | some v =>
          have h1 := sF b v q
          rw [m3] at h1
          cases h1
          cases (tupF_some q).2
      · exact frame_lst R S R' sF p' m3 rfl (fun fs z => by cases z) hba
    refine ⟨a, vs, b, us, hva, m1, m2, R'.le b _ m3, by rw [m4]; exact Nat.lt_of_lt_of_le e3 (by decide), ?_⟩
    have sF1 : Same F (uni F (tupF F')) := uni_l _ _
    refine ⟨sl.set i none, c, ad, uni F (tupF F'), ?_, ?_, PostS.weak P sF1 (List.prefix_refl _)⟩
    · refine ⟨by rw [ok'.1, List.length_set, frS_len, List.length_set], fun j w h => ?_⟩
      by_cases hj : j = i
      · subst hj
        rw [List.getElem?_set] at h
        simp only [if_true] at h
        split at h <;> simp at h
      · rw [List.getElem?_set_ne (Ne.symm hj)] at h
        obtain ⟨h1, h2⟩ := hrv j w h
        have hg : ((frS keep rv 0 sl).set i (some (.c 0)))[j]? = some (if j ∈ keep then some w else some (.raw (rv j))) := by
          rw [List.getElem?_set_ne (Ne.symm hj), frS_get, h]
          simp only [Option.map_some, Nat.zero_add]
        by_cases hk : j ∈ keep
        · rw [if_pos hk] at hg
          obtain ⟨v', g3, g4⟩ := ok'.2 j w hg
          refine ⟨v', g3, ?_⟩
          have ha := hb.atoms j _ hk h
          cases w with
          | d d => exact Rp.atom g4 ha
          | c _ => cases ha
          | x _ _ => cases ha
          | raw _ => cases ha
        · rw [if_neg hk] at hg
          obtain ⟨v', g3, g4⟩ := ok'.2 j _ hg
          have g4 : v' = rv j := g4
          subst g4
          exact ⟨_, g3, h2.mono sF1 (List.prefix_refl _)⟩
    · refine frame_out (Z := tupF F') R S R' sF p' BackC.nil (tupF_le F') (Same.refl _) (fun x y z => .inl (tupF_some z).2) (fun y z hy hw => ?_) (fun x o xs z => by cases (tupF_some z).2)
      have y1 : y ≠ b := fun z => by
        subst z
        rcases hw with w | w | w | w
        · exact w b1
        · exact w (tup_not_lst m3)
        · exact b2 w
        · exact w b3
      rw [upd_ne y1]
      exact hy
  · exact P.elim
end
end Pm

/-! Pm24: walks over a list or a tuple; small rules for the generator. -/
namespace Pm
open PySem L2 PyProof.Rows
section
variable {X : Cx} {fa : Fa} {Wx : WX} {pos : Pos}
def iSeqD (f : Den) : Sl → Cells → Out Items := fun sl c => (f sl c).bind fun w c1 => match rd c1 w with
  | some (.lst _) => .ok (lstItems w) c1
  | some (.tup _) => .ok (tupItems w) c1
  | _ => .bad
theorem si_seq {tg e : Expr} {f : Den} (h : SE X fa Wx e f) : SI X fa Wx tg e (iSeqD f) := ⟨fun pins s σ H Q I q => by
  obtain ⟨sl, c, ad, F, ok, R, P⟩ := q
  cases hf : f sl c with
  | bad => unfold iSeqD at P; rw [hf] at P; exact P.elim
  | exc x pl c' =>
    refine (si_lst (tg := tg) h).run pins s σ H Q I ⟨sl, c, ad, F, ok, R, ?_⟩
    unfold iSeqD at P
    unfold iLst
    rw [hf] at P ⊢
    exact P
  | ok w c1 =>
    unfold iSeqD at P
    rw [hf, Out.bind_ok] at P
    split at P
    · rename_i ds e
      refine (si_lst (tg := tg) h).run pins s σ H Q I ⟨sl, c, ad, F, ok, R, ?_⟩
      unfold iLst
      rw [hf, Out.bind_ok, e]
      exact P
    · rename_i ds e
      refine (si_tup (tg := tg) h).run pins s σ H Q I ⟨sl, c, ad, F, ok, R, ?_⟩
      unfold iTupD
      rw [hf, Out.bind_ok, e]
      exact P
    · exact P.elim⟩
theorem ps_setA (i : Nat) {x : Str} {e : Expr} {te : TE} {pos' : Pos} (hN : X.N.Nodup) (he : PE X e te) (hi : X.N[i]? = some x := by rfl) (hx : Loc X.env.scope x := by first | exact .inl rfl | exact .inr rfl) (hs : swapsWith e (some (.Name x pos')) pos.line X.env = pure false := by rfl)
    (hf : X.fn x = true ∨ X.env.scope.names.lookup x = some .local := by first | exact .inl rfl | exact .inr rfl) : PS X (.Assign [.Name x pos'] e pos) (tAsg te (gName i)) := ps_set hN hi hx he hs hf
end
end Pm
namespace Pm
open PySem L2 PyProof.Rows
/-! ### isinstance with two built-in classes -/
def kit2 (t a b : String) : Option Bool := match kitB t a with
  | some true => some true
  | some false => match kitB t b with
    | some r => some r
    | none => none
  | none => none
def dIsi2 (a b : String) (f : Den) : Den := fun sl c => (f sl c).bind fun w c1 => match rd c1 w with
  | some d => match tyD d with
    | some t => match kit2 t a b with
      | some r => .ok (.d (.bl r)) c1
      | none => .bad
    | none => .bad
  | none => .bad
section
variable {X : Cx} {fa : Fa} {Wx : WX} {pos tp p : Pos} {k : Nat}
theorem pe_ty {n x : String} {q : Pos} (hm : X.mg (Str.ofString x) = none) (hv : bootBuiltins (Str.ofString x) = some (.type n)) (hg : Gl X (Str.ofString x) := by rfl) (hn : (Str.ofString x) ≠ "__name__" := by decide) (hd : ((Str.ofString x) == ("__debug__" : Str)) = false := by decide) : PE X (.Name (Str.ofString x) q) (tC (.ty n)) := by
  refine ⟨fun pins s σ H Q I h => ?_⟩
  exact ld_blt I hg hm hv ⟨.ty n, H, I, rfl, h⟩ hn hd
theorem kit2_ok {K : PySem.W.Frag} {t a b : String} {r : Bool} (h : kit2 t a b = some r) : PySem.W.kitAny K (.type t) [.type a, .type b] = some r := by
  unfold kit2 at h
  show (match PySem.W.kitOne K (.type t) (.type a) with | some true => some true | some false => PySem.W.kitAny K (.type t) [.type b] | none => none) = _
  split at h
  · rename_i e; rw [kit_ty e]; exact h
  · rename_i e
    rw [kit_ty e]
    show (match PySem.W.kitOne K (.type t) (.type b) with | some true => some true | some false => some false | none => none) = _
    split at h
    · rename_i r' e2
      rw [kit_ty e2]
      cases r' <;> exact h
    · cases h
  · cases h
theorem se_isi2 {a b : String} {e t1 t2 : Expr} {f : Den} (hm : X.mg "isinstance" = none) (hv : bootBuiltins "isinstance" = some (.builtin "isinstance")) (he : SE X fa Wx e f) (h1 : PE X t1 (tC (.ty a))) (h2 : PE X t2 (tC (.ty b))) (hg : Gl X "isinstance" := by rfl)
    (s0 : starEach [e, .Tuple [t1, t2] k tp] X.env = (false, eval e X.env) :: starEach [.Tuple [t1, t2] k tp] X.env := by rfl) (s1 : starEach [.Tuple [t1, t2] k tp] X.env = (false, eval (.Tuple [t1, t2] k tp) X.env) :: starEach [] X.env := by rfl)
    (s2 : starEach [t1, t2] X.env = (false, eval t1 X.env) :: starEach [t2] X.env := by rfl) (s3 : starEach [t2] X.env = (false, eval t2 X.env) :: starEach [] X.env := by rfl) (hpl : (backTo pos (starEach [.Tuple [t1, t2] k tp] X.env)).any (·.1) = false := by rfl) :
    SE X fa Wx (.Call (.Name "isinstance" p) [e, .Tuple [t1, t2] k tp] [] pos) (dIsi2 a b f) :=
  PE.imp (pe_callB call_isiT hg hm hv (pa_cons he (pa_cons (pe_tup (pa_cons h1 (pa_cons h2 pa_nil s3) s2)) pa_nil s1) s0) (by decide) (by decide) s0 hpl) fun σ H Q q => by
  obtain ⟨sl, c, ad, F, ok, R, P⟩ := q
  refine ⟨sl, c, ad, F, ok, R, P.bind fun w c1 H1 F1 ad1 s p R1 P1 v rv => ?_⟩
  refine ⟨(small (by simp) : [V.ty a, V.ty b].length ≤ sizeLine), fun tpA hn => ?_⟩
  have R2 := R1.newJ (o := .tup [V.ty a, V.ty b]) hn
  split at P1
  · rename_i d hd
    split at P1
    · rename_i t ht
      split at P1
      · rename_i r hr
        exact ⟨v, tpA, [V.ty a, V.ty b], .type t, [.type a, .type b], r, rfl, upd_same, .cons (.ty a) (.cons (.ty b) .nil), tyX_ok R2 rv hd ht, kit2_ok hr, P1.now R2 _ (.bl _)⟩
      · exact P1.elim
    · exact P1.elim
  · exact P1.elim
end
end Pm
namespace Pm
open PySem L2 PyProof.Rows
theorem pe_callSn {X : Cx} {od : Od} {Wx : WX} {pos p : Pos} {x : Str} {st : Stmt} {k : Nat} {ps : List Str} {g : List W → Cells → Out W} {e : Expr} {es : List Expr} {as : Sl → Cells → Out (List W)} {n : Nat} (hn : n = ps.length) (G : Fd X.prog X.w X.K X.mg X.base x st k ps g) (hr : Room k X.A) (hgd : X.A.guards = some []) (tk : Takes X Wx) (ha : SA X (faOf X.mg od) Wx (e :: es) as) (hg : Gl X x := by rfl)
    (hdb : (x == ("__debug__" : Str)) = false := by decide) (he : starEach (e :: es) X.env = (false, eval e X.env) :: starEach es X.env := by rfl) (hpl : (backTo pos (starEach es X.env)).any (·.1) = false := by rfl) :
    PE X (.Call (.Name x p) (e :: es) [] pos) (fun σ H Q => tAs X.K (faOf X.mg od) Wx as σ H fun vs H1 => spD X.K (faOf X.mg) n g vs H1 Q (WE Wx σ)) := by
  subst hn
  exact pe_callS G hr hgd tk ha hg hdb he hpl
end Pm

/-! the text: changedsame_k51_all_cases_in_sequence -/
namespace Pm
open PySem L2 PyProof.Rows

def top (i : Nat) : Stmt := PySem.Challenge.pw_changedsame_k51_all_cases_in_sequence.main.body.getD i (.Pass ⟨0, 0, 0, 0⟩)
abbrev s__law_pot : Stmt := top 26
abbrev s__law_counted : Stmt := top 31
abbrev s__law_draw : Stmt := top 27
abbrev s__law_rises : Stmt := top 30
abbrev s__law_listed : Stmt := top 29
abbrev s__law_pick : Stmt := top 28
abbrev s_all_bits : Stmt := top 24
abbrev s_is_integer : Stmt := top 3
abbrev s_is_count : Stmt := top 4
abbrev s_bit_rows : Stmt := top 23
abbrev s_all_partitions : Stmt := top 22
abbrev s_all_unlike : Stmt := top 7
abbrev s_is_run : Stmt := top 5
abbrev s_is_short_name : Stmt := top 6
abbrev s_names_of : Stmt := top 18
abbrev s_is_sorts : Stmt := top 17
abbrev s_partitions : Stmt := top 21
abbrev s__law_right : Stmt := top 32
abbrev s_law : Stmt := top 33
abbrev si_InvalidMany : Stmt := inClass (top 10) 0
abbrev si_InvalidSorts : Stmt := inClass (top 11) 0
def k_KEYWORDS : List Str := (["and", "array", "ask", "at", "bool", "do", "else", "end", "exception", "exn", "false", "fn", "if", "in", "int", "let", "match", "mod", "module", "not", "of", "place", "raise", "rec", "ref", "same", "show", "size", "tell", "then", "true", "try", "type", "unit", "with"] : List String).map Str.ofString
def c_KEYWORDS : D := .tup (k_KEYWORDS.map D.str)
def c_LONGEST_NAME : D := .int 20
def c_MOST_BITS : D := .int 6
def c_MOST_BOOLS : D := .int 3
def c_MOST_REFS : D := .int 4
def c_MOST_SORTS : D := .int 8
def k_SORTS : List Str := (["int", "bool", "ref", "fun", "test"] : List String).map Str.ofString
def c_SORTS : D := .tup (k_SORTS.map D.str)
theorem b_abs : bootBuiltins "abs" = some (.builtin "abs") := by decide +kernel
theorem b_bool : bootBuiltins "bool" = some (.type "bool") := by decide +kernel
theorem b_divmod : bootBuiltins "divmod" = some (.builtin "divmod") := by decide +kernel
theorem b_int : bootBuiltins "int" = some (.type "int") := by decide +kernel
theorem b_isinstance : bootBuiltins "isinstance" = some (.builtin "isinstance") := by decide +kernel
theorem b_len : bootBuiltins "len" = some (.builtin "len") := by decide +kernel
theorem b_list : bootBuiltins "list" = some (.type "list") := by decide +kernel
theorem b_max : bootBuiltins "max" = some (.builtin "max") := by decide +kernel
theorem b_range : bootBuiltins "range" = some (.type "range") := by decide +kernel
theorem b_repr : bootBuiltins "repr" = some (.builtin "repr") := by decide +kernel
theorem b_sorted : bootBuiltins "sorted" = some (.builtin "sorted") := by decide +kernel
theorem b_str : bootBuiltins "str" = some (.type "str") := by decide +kernel
theorem b_sum : bootBuiltins "sum" = some (.builtin "sum") := by decide +kernel
theorem b_tuple : bootBuiltins "tuple" = some (.type "tuple") := by decide +kernel
def subT : List ((Str × Str) × Bool) := []
abbrev sub : Str → Str → Option Bool := subOf subT
noncomputable def d__law_pot : SDen := (sCons (sSet 2 (dBin oAdd (dBin oAdd (dBin oMul (dC (.int 503)) (dVar 1)) (dC (.int 883))) (dBin oMod (dCall oSum (dCons (dSl (dVar 0) pNone (pSome (dC (.int 1)))) dNil)) (dC (.int 1000003)))))
    (sCons (sIf (dTest (dBin oLt (dVar 1) (dCall oLen (dCons (dVar 0) dNil)))) (sSet 2 (dCall oAbs (dCons (dBin oIx (dVar 0) (dVar 1)) dNil))) OS.nx)
    (sRet (dLst (dCons (dCall oMax2 (dCons (dC (.int 0)) (dCons (dBin oSub (dVar 2) (dBin oPow (dC (.int 10)) (dC (.int 18)))) dNil))) (dCons (dBin oAdd (dBin oMod (dBin oMul (dBin oAdd (dBin oMod (dVar 2) (dC (.int 2147483549))) (dC (.int 197))) (dBin oPow (dBin oAdd (dBin oMul (dC (.int 2)) (dVar 1)) (dC (.int 113))) (dC (.int 3)))) (dC (.int 2147483477))) (dC (.int 1))) dNil))))))
noncomputable def g__law_pot : List W → Cells → Out W := runB 3 d__law_pot
noncomputable def d__law_counted : SDen := (sCons (sSet 1 (dLst (dCons (dLst dNil) dNil)))
    (sCons (sFor (iRng1D (dCons (dVar 0) dNil)) (gtName 2) (sSet 1 (dBin oAdd (dLc (iLst (dVar 1)) true [3] [3] tYesD (dBin oAdd (dVar 3) (dLst (dCons (dC (.bl false)) dNil)))) (dLc (iLst (dVar 1)) true [3] [3] tYesD (dBin oAdd (dVar 3) (dLst (dCons (dC (.bl true)) dNil)))))))
    (sRet (dCall oSorted (dCons (dVar 1) dNil)))))
noncomputable def g__law_counted : List W → Cells → Out W := runB 4 d__law_counted
noncomputable def d__law_draw : SDen := (sCons (sIf (dTest (dBin oGt (dBin oIx (dVar 0) (dC (.int 0))) (dC (.int 0)))) (sCons (sAsg (dCall oDivmod (dCons (dBin oIx (dVar 0) (dC (.int 0))) (dCons (dVar 1) dNil))) (gtTup 2 (gtCons (gtSub (dVar 0) (dC (.int 0)) stL) (gtCons (gtName 2) gtNil))))
    (sRet (dVar 2))) OS.nx)
    (sCons (sAsg (dBin oMod (dBin oAdd (dBin oMul (dBin oIx (dVar 0) (dC (.int 1))) (dC (.int 48271))) (dC (.int 197))) (dC (.int 2147483587))) (gtSub (dVar 0) (dC (.int 1)) stL))
    (sRet (dBin oMod (dBin oFdiv (dBin oMod (dBin oMul (dBin oIx (dVar 0) (dC (.int 1))) (dBin oIx (dVar 0) (dC (.int 1)))) (dC (.int 2147483549))) (dC (.int 13))) (dVar 1)))))
noncomputable def g__law_draw : List W → Cells → Out W := runB 3 d__law_draw
noncomputable def d__law_rises : SDen := (sCons (sSet 1 (dC (.int 0)))
    (sCons (sFor (iLst (dVar 0)) (gtName 2) (sCons (sIf (dTest (dBin oGt (dVar 2) (dVar 1))) (sRet (dC (.bl false))) OS.nx)
    (sSet 1 (dCall oMax2 (dCons (dVar 1) (dCons (dBin oAdd (dVar 2) (dC (.int 1))) dNil))))))
    (sRet (dC (.bl true)))))
noncomputable def g__law_rises : List W → Cells → Out W := runB 3 d__law_rises
noncomputable def d__law_listed : SDen := (sCons (sSet 1 (dLst (dCons (dLst dNil) dNil)))
    (sCons (sFor (iRng1D (dCons (dVar 0) dNil)) (gtName 2) (sCons (sSet 3 (dLst dNil))
    (sCons (sFor (iLst (dVar 1)) (gtName 4) (sSet 3 (dBin oAdd (dVar 3) (dLc (iRng1D (dCons (dVar 0) dNil)) true [5] [5] tYesD (dBin oAdd (dVar 4) (dLst (dCons (dVar 5) dNil)))))))
    (sSet 1 (dVar 3)))))
    (sRet (dLc (iLst (dVar 1)) true [4] [4] (dTest (dCallN 1 g__law_rises (dCons (dVar 4) dNil))) (dVar 4)))))
noncomputable def g__law_listed : List W → Cells → Out W := runB 6 d__law_listed
noncomputable def d__law_pick : SDen := (sRet (dBin oIx (dVar 1) (dCallN 2 g__law_draw (dCons (dVar 0) (dCons (dCall oLen (dCons (dVar 1) dNil)) dNil)))))
noncomputable def g__law_pick : List W → Cells → Out W := runB 2 d__law_pick
noncomputable def d_all_bits : SDen := (sCons (sSet 1 (dLst (dCons (dLst dNil) dNil)))
    (sCons (sFor (iRng1D (dCons (dVar 0) dNil)) (gtName 2) (sSet 1 (dLc2 (iLst (dVar 1)) true [3] [3, 4] tYesD (iTupD (dTup (dCons (dC (.bl false)) (dCons (dC (.bl true)) dNil)))) true [4] [4] tYesD (dBin oAdd (dVar 3) (dLst (dCons (dVar 4) dNil))))))
    (sRet (dVar 1))))
noncomputable def g_all_bits : List W → Cells → Out W := runB 5 d_all_bits
noncomputable def d_is_integer : SDen := (sRet (dAndV (dCall oIsi (dCons (dVar 0) (dCons (dC (.ty "int")) dNil))) (dNotV (dCall oIsi (dCons (dVar 0) (dCons (dC (.ty "bool")) dNil))))))
noncomputable def g_is_integer : List W → Cells → Out W := runB 1 d_is_integer
noncomputable def d_is_count : SDen := (sRet (dAndV (dCallN 1 g_is_integer (dCons (dVar 0) dNil)) (dBin oGe (dVar 0) (dC (.int 0)))))
noncomputable def g_is_count : List W → Cells → Out W := runB 1 d_is_count
noncomputable def d_bit_rows : SDen := (sCons (sIf (dOr (dNot (dTest (dCallN 1 g_is_count (dCons (dVar 0) dNil)))) (dTest (dBin oGt (dVar 0) (dC c_MOST_BITS)))) (sRaise "InvalidMany" ["value"] (dCons (dVar 0) dNil)) OS.nx)
    (sRet (dCallF 1 g_all_bits (dCons (dVar 0) dNil))))
noncomputable def g_bit_rows : List W → Cells → Out W := runB 1 d_bit_rows
noncomputable def d_all_partitions : SDen := (sCons (sSet 1 (dLst (dCons (dLst dNil) dNil)))
    (sCons (sFor (iRng1D (dCons (dVar 0) dNil)) (gtName 2) (sSet 1 (dLc2 (iLst (dVar 1)) true [3] [3, 4] tYesD (iRng1D (dCons (dBin oAdd (dCall oMaxL (dCons (dBin oAdd (dVar 3) (dLst (dCons (dNeg (dC (.int 1))) dNil))) dNil)) (dC (.int 2))) dNil)) true [4] [4] tYesD (dBin oAdd (dVar 3) (dLst (dCons (dVar 4) dNil))))))
    (sRet (dVar 1))))
noncomputable def g_all_partitions : List W → Cells → Out W := runB 5 d_all_partitions
noncomputable def d_all_unlike : SDen := (sRet (dBin oEq (dCall oLen (dCons (dDc (iLst (dVar 0)) true [1] [1] tYesD (dVar 1) (dC (.bl true))) dNil)) (dCall oLen (dCons (dVar 0) dNil))))
noncomputable def g_all_unlike : List W → Cells → Out W := runB 2 d_all_unlike
noncomputable def d_is_run : SDen := (sRet (dAndV (dCall oIsi (dCons (dVar 0) (dCons (dC (.ty "str")) dNil))) (dAndV (dMeth "str" (oS0 fun a => .bl (Txt.isascii a)) (dVar 0) dNil) (dMeth "str" (oS0 fun a => .bl (Txt.isalnum a)) (dVar 0) dNil))))
noncomputable def g_is_run : List W → Cells → Out W := runB 1 d_is_run
noncomputable def d_is_short_name : SDen := (sRet (dAndV (dCallN 1 g_is_run (dCons (dVar 0) dNil)) (dAndV (dBin oLe (dCall oLen (dCons (dVar 0) dNil)) (dC c_LONGEST_NAME)) (dAndV (dMeth "str" (oS0 fun a => .bl (Txt.islower a)) (dBin oIx (dVar 0) (dC (.int 0))) dNil) (dBin (oIn true) (dVar 0) (dC c_KEYWORDS))))))
noncomputable def g_is_short_name : List W → Cells → Out W := runB 1 d_is_short_name
noncomputable def d_names_of : SDen := (sRet (dLc (iSeqD (dVar 0)) false [2, 3] [2, 3] (dTest (dBin oEq (dVar 3) (dVar 1))) (dVar 2)))
noncomputable def g_names_of : List W → Cells → Out W := runB 4 d_names_of
noncomputable def d_is_sorts : SDen := (sCons (sIf (dOr (dNot (dTest (dIsi2 "list" "tuple" (dVar 0)))) (dTest (dBin oGt (dCall oLen (dCons (dVar 0) dNil)) (dC c_MOST_SORTS)))) (sRet (dC (.bl false))) OS.nx)
    (sCons (sFor (iSeqD (dVar 0)) (gtName 1) (sCons (sIf (dOr (dNot (dTest (dCall oIsi (dCons (dVar 1) (dCons (dC (.ty "tuple")) dNil))))) (dOr (dTest (dBin oNe (dCall oLen (dCons (dVar 1) dNil)) (dC (.int 2)))) (dNot (dTest (dCallN 1 g_is_short_name (dCons (dBin oIx (dVar 1) (dC (.int 0))) dNil)))))) (sRet (dC (.bl false))) OS.nx)
    (sIf (dTest (dBin (oIn true) (dBin oIx (dVar 1) (dC (.int 1))) (dC c_SORTS))) (sRet (dC (.bl false))) OS.nx)))
    (sCons (sIf (dNot (dTest (dCallN 1 g_all_unlike (dCons (dLc (iSeqD (dVar 0)) false [2, 3] [2, 3] tYesD (dVar 2)) dNil)))) (sRet (dC (.bl false))) OS.nx)
    (sRet (dAndV (dBin oLe (dCall oLen (dCons (dCallN 2 g_names_of (dCons (dVar 0) (dCons (dC (.str "ref")) dNil))) dNil)) (dC c_MOST_REFS)) (dBin oLe (dCall oLen (dCons (dCallN 2 g_names_of (dCons (dVar 0) (dCons (dC (.str "bool")) dNil))) dNil)) (dC c_MOST_BOOLS)))))))
noncomputable def g_is_sorts : List W → Cells → Out W := runB 4 d_is_sorts
noncomputable def d_partitions : SDen := (sCons (sIf (dNot (dTest (dCallN 1 g_is_sorts (dCons (dVar 0) dNil)))) (sRaise "InvalidSorts" ["value"] (dCons (dVar 0) dNil)) OS.nx)
    (sRet (dCallF 1 g_all_partitions (dCons (dCall oLen (dCons (dCallN 2 g_names_of (dCons (dVar 0) (dCons (dC (.str "ref")) dNil))) dNil)) dNil))))
noncomputable def g_partitions : List W → Cells → Out W := runB 1 d_partitions
noncomputable def d__law_right : SDen := (sCons (sPar 1 2 (dCons (dCallN 2 g__law_draw (dCons (dVar 0) (dCons (dC (.int 5)) dNil))) (dCons (dLst dNil) dNil)))
    (sCons (sSet 3 (dLst (dCons (dC (.str "a")) (dCons (dC (.str "b")) (dCons (dC (.str "c")) (dCons (dC (.str "d")) (dCons (dC (.str "e")) (dCons (dC (.str "g")) (dCons (dC (.str "h")) (dCons (dC (.str "k")) dNil))))))))))
    (sCons (sFor (iRng1D (dCons (dC (.int 8)) dNil)) (gtName 4) (sCons (sSet 5 (dMeth "list" oPopAt (dVar 3) (dCons (dCallN 2 g__law_draw (dCons (dVar 0) (dCons (dCall oLen (dCons (dVar 3) dNil)) dNil))) dNil)))
    (sIf (dTest (dBin oLt (dVar 4) (dVar 1))) (sExp (dMeth "list" oAppend (dVar 2) (dCons (dTup (dCons (dVar 5) (dCons (dC (.str "ref")) dNil))) dNil))) (sIf (dTest (dBin oEq (dCallN 2 g__law_draw (dCons (dVar 0) (dCons (dC (.int 2)) dNil))) (dC (.int 0)))) (sExp (dMeth "list" oInsert (dVar 2) (dCons (dCallN 2 g__law_draw (dCons (dVar 0) (dCons (dBin oAdd (dCall oLen (dCons (dVar 2) dNil)) (dC (.int 1))) dNil))) (dCons (dTup (dCons (dVar 5) (dCons (dCallN 2 g__law_pick (dCons (dVar 0) (dCons (dLst (dCons (dC (.str "int")) (dCons (dC (.str "fun")) (dCons (dC (.str "test")) dNil)))) dNil))) dNil))) dNil)))) OS.nx))))
    (sCons (sSet 6 (dCallF 1 g__law_listed (dCons (dVar 1) dNil)))
    (sCons (sIf (dOr (dTest (dBin oNe (dCall oRepr (dCons (dLst (dCons (dCallN 1 g_partitions (dCons (dVar 2) dNil)) (dCons (dCallK 1 [0] g_partitions (dCons (dCall oTupOf (dCons (dVar 2) dNil)) dNil)) dNil))) dNil)) (dCall oRepr (dCons (dLst (dCons (dVar 6) (dCons (dVar 6) dNil))) dNil)))) (dTest (dBin oNe (dCall oLen (dCons (dVar 6) dNil)) (dBin oIx (dLst (dCons (dC (.int 1)) (dCons (dC (.int 1)) (dCons (dC (.int 2)) (dCons (dC (.int 5)) (dCons (dC (.int 15)) dNil)))))) (dVar 1))))) (sRet (dC (.bl false))) OS.nx)
    (sTold 7 g_partitions (dCons (dVar 2) dNil)
    (sCons (sSet 8 (dCallN 2 g__law_draw (dCons (dVar 0) (dCons (dC (.int 7)) dNil))))
    (sBits [8] 9 (sCons (sSet 9 (dCallF 1 g_bit_rows (dCons (dVar 8) dNil)))
    (sIf (dOr (dTest (dBin oNe (dCall oRepr (dCons (dLst (dCons (dVar 9) (dCons (dCallFK 1 [0] g_bit_rows (dCons (dVar 8) dNil)) dNil))) dNil)) (dCall oRepr (dCons (dBin oRep (dLst (dCons (dCallF 1 g__law_counted (dCons (dVar 8) dNil)) dNil)) (dC (.int 2))) dNil)))) (dTest (dBin oNe (dCall oLen (dCons (dVar 9) dNil)) (dBin oIx (dLst (dCons (dC (.int 1)) (dCons (dC (.int 2)) (dCons (dC (.int 4)) (dCons (dC (.int 8)) (dCons (dC (.int 16)) (dCons (dC (.int 32)) (dCons (dC (.int 64)) dNil)))))))) (dVar 8))))) (sRet (dC (.bl false))) OS.nx))
    (sRet (dBin oEq (dCall oRepr (dCons (dLst (dCons (dCallN 1 g_partitions (dCons (dVar 2) dNil)) (dCons (dCallF 1 g_bit_rows (dCons (dVar 8) dNil)) dNil))) dNil)) (dCall oRepr (dCons (dLst (dCons (dVar 6) (dCons (dCallF 1 g__law_counted (dCons (dVar 8) dNil)) dNil))) dNil))))))))))))
noncomputable def g__law_right : List W → Cells → Out W := runB 10 d__law_right
noncomputable def d_law : SDen := (sRet (dCallN 1 g__law_right (dCons (dCallN 2 g__law_pot (dCons (dVar 0) (dCons (dC (.int 0)) dNil))) dNil)))
noncomputable def g_law : List W → Cells → Out W := runB 1 d_law
/-- what the module holds -/
structure Tx (P : Program) (w : World) (K : PySem.W.Frag) (mg : Str → Option Value) (base : Heap) (C_InvalidMany C_InvalidSorts : Addr) : Prop where
  z_abs : mg "abs" = none
  z_bool : mg "bool" = none
  z_divmod : mg "divmod" = none
  z_int : mg "int" = none
  z_isinstance : mg "isinstance" = none
  z_len : mg "len" = none
  z_list : mg "list" = none
  z_max : mg "max" = none
  z_range : mg "range" = none
  z_repr : mg "repr" = none
  z_sorted : mg "sorted" = none
  z_str : mg "str" = none
  z_sum : mg "sum" = none
  z_tuple : mg "tuple" = none
  c_KEYWORDS : Cn K mg "KEYWORDS" c_KEYWORDS
  c_LONGEST_NAME : Cn K mg "LONGEST_NAME" c_LONGEST_NAME
  c_MOST_BITS : Cn K mg "MOST_BITS" c_MOST_BITS
  c_MOST_BOOLS : Cn K mg "MOST_BOOLS" c_MOST_BOOLS
  c_MOST_REFS : Cn K mg "MOST_REFS" c_MOST_REFS
  c_MOST_SORTS : Cn K mg "MOST_SORTS" c_MOST_SORTS
  c_SORTS : Cn K mg "SORTS" c_SORTS
  m_InvalidMany : mg "InvalidMany" = some (.ref C_InvalidMany)
  m_InvalidSorts : mg "InvalidSorts" = some (.ref C_InvalidSorts)
  e_InvalidMany : Err P w K mg base "InvalidMany" ["value"]
  e_InvalidSorts : Err P w K mg base "InvalidSorts" ["value"]
section
variable {P : Program} {w : World} {K : PySem.W.Frag} {mg : Str → Option Value} {base : Heap} {C_InvalidMany C_InvalidSorts : Addr}
theorem sc__law_pot : FnScope ["_law_script", "_law_k", "_law_cell"] ["_law_script", "_law_k"] (defScope s__law_pot) := ⟨rfl, rfl, rfl, by decide +kernel, rfl, by decide +kernel, by decide +kernel⟩
theorem ok__law_pot (T : Tx P w K mg base C_InvalidMany C_InvalidSorts) {f : Addr} {fd : FuncData} (F : Fun K "_law_pot" "_law_pot" s__law_pot f fd) : FnG P w K mg base 1 f fd ["_law_script", "_law_k"] (spD K (faOf mg) 2 g__law_pot) :=
  fn_ok F sc__law_pot fun od cdv A outer s H E hr hgd => (ss_cons (ss_set 2 sc__law_pot.nd (se_bin op_addA l_add (se_bin op_addA l_add (se_bin op_mulW l_mul se_int (se_var 1)) se_int) (se_bin op_mod l_mod (se_callB (cr_sum rfl) ll_sum T.z_sum b_sum (sa_cons (se_sl (se_var 0) so_none (so_some se_int)) sa_nil)) se_int)))
    (ss_cons (ss_if (st_cmp op_lt l_lt (se_var 1) (se_callB cl_len ll_len T.z_len b_len (sa_cons (se_var 0) sa_nil)) rfl) (ss_one (ss_set 2 sc__law_pot.nd (se_callB call_abs ll_abs T.z_abs b_abs (sa_cons (se_ix ix_seq l_ix (se_var 0) (se_var 1) (fun _ _ => rfl)) sa_nil)))) ss_nil)
    (ss_one (ss_ret (se_lst (sa_cons (se_callB (call_max2 rfl) ll_max2 T.z_max b_max (sa_cons se_int (sa_cons (se_bin op_sub l_sub (se_var 2) (se_bin op_pow l_pow se_int se_int)) sa_nil))) (sa_cons (se_bin op_addA l_add (se_bin op_mod l_mod (se_bin op_mulW l_mul (se_bin op_addA l_add (se_bin op_mod l_mod (se_var 2) se_int) se_int) (se_bin op_pow l_pow (se_bin op_addA l_add (se_bin op_mulW l_mul se_int (se_var 1)) se_int) se_int)) se_int) se_int) sa_nil)))))))
theorem sc__law_counted : FnScope ["_law_many", "_law_rows", "_law_turn", "_law_row"] ["_law_many"] (defScope s__law_counted) := ⟨rfl, rfl, rfl, by decide +kernel, rfl, by decide +kernel, by decide +kernel⟩
theorem ok__law_counted (T : Tx P w K mg base C_InvalidMany C_InvalidSorts) {f : Addr} {fd : FuncData} (F : Fun K "_law_counted" "_law_counted" s__law_counted f fd) : FnG P w K mg base 1 f fd ["_law_many"] (spD K (faOf mg) 1 g__law_counted) :=
  fn_ok F sc__law_counted fun od cdv A outer s H E hr hgd => (ss_cons (ss_set 1 sc__law_counted.nd (se_lst (sa_cons (se_lst sa_nil) sa_nil)))
    (ss_cons (ss_for (passes_of rfl) rfl (si_rng1 T.z_range (sa_cons (se_var 0) sa_nil)) (gt_name 2 sc__law_counted.nd) (ss_one (ss_set 1 sc__law_counted.nd (se_bin op_addA l_add (se_lc rfl sc__law_counted.nd (si_lst (se_var 1)) (own := [("_law_row", 3)]) (blkOk_by (by rfl)) (by decide) (fun s H C cl fp => (gc_name 3 sc__law_counted.nd)) (fun s H C cl fp => sts_nil) (fun s H C cl fp => (se_bin op_addA l_add (se_var 3) (se_lst (sa_cons se_bl sa_nil))))) (se_lc rfl sc__law_counted.nd (si_lst (se_var 1)) (own := [("_law_row", 3)]) (blkOk_by (by rfl)) (by decide) (fun s H C cl fp => (gc_name 3 sc__law_counted.nd)) (fun s H C cl fp => sts_nil) (fun s H C cl fp => (se_bin op_addA l_add (se_var 3) (se_lst (sa_cons se_bl sa_nil)))))))))
    (ss_one (ss_ret (se_callB (cr_srt (unR hr)) ll_srt T.z_sorted b_sorted (sa_cons (se_var 1) sa_nil))))))
theorem sc__law_draw : FnScope ["_law_pot_here", "_law_many", "_law_digit"] ["_law_pot_here", "_law_many"] (defScope s__law_draw) := ⟨rfl, rfl, rfl, by decide +kernel, rfl, by decide +kernel, by decide +kernel⟩
theorem ok__law_draw (T : Tx P w K mg base C_InvalidMany C_InvalidSorts) {f : Addr} {fd : FuncData} (F : Fun K "_law_draw" "_law_draw" s__law_draw f fd) : FnG P w K mg base 1 f fd ["_law_pot_here", "_law_many"] (spD K (faOf mg) 2 g__law_draw) :=
  fn_ok F sc__law_draw fun od cdv A outer s H E hr hgd => (ss_cons (ss_if (st_cmp op_gt l_gt (se_ix ix_seq l_ix (se_var 0) se_int (fun _ _ => rfl)) se_int rfl) (ss_cons (ss_asg (se_callB call_divmodW ll_divmod T.z_divmod b_divmod (sa_cons (se_ix ix_seq l_ix (se_var 0) se_int (fun _ _ => rfl)) (sa_cons (se_var 1) sa_nil))) (gt_tup rfl (gts_cons (gt_sub (se_var 0) se_int set_list l_stL) (gts_cons (gt_name 2 sc__law_draw.nd) gts_nil))))
    (ss_one (ss_ret (se_var 2)))) ss_nil)
    (ss_cons (ss_asg (se_bin op_mod l_mod (se_bin op_addA l_add (se_bin op_mulW l_mul (se_ix ix_seq l_ix (se_var 0) se_int (fun _ _ => rfl)) se_int) se_int) se_int) (gt_sub (se_var 0) se_int set_list l_stL))
    (ss_one (ss_ret (se_bin op_mod l_mod (se_bin op_fdivW l_fdiv (se_bin op_mod l_mod (se_bin op_mulW l_mul (se_ix ix_seq l_ix (se_var 0) se_int (fun _ _ => rfl)) (se_ix ix_seq l_ix (se_var 0) se_int (fun _ _ => rfl))) se_int) se_int) (se_var 1))))))
theorem sc__law_rises : FnScope ["_law_row", "_law_met", "_law_number"] ["_law_row"] (defScope s__law_rises) := ⟨rfl, rfl, rfl, by decide +kernel, rfl, by decide +kernel, by decide +kernel⟩
theorem ok__law_rises (T : Tx P w K mg base C_InvalidMany C_InvalidSorts) {f : Addr} {fd : FuncData} (F : Fun K "_law_rises" "_law_rises" s__law_rises f fd) : FnG P w K mg base 1 f fd ["_law_row"] (spD K (faOf mg) 1 g__law_rises) :=
  fn_ok F sc__law_rises fun od cdv A outer s H E hr hgd => (ss_cons (ss_set 1 sc__law_rises.nd se_int)
    (ss_cons (ss_for (passes_of rfl) rfl (si_lst (se_var 0)) (gt_name 2 sc__law_rises.nd) (ss_cons (ss_if (st_cmp op_gt l_gt (se_var 2) (se_var 1) rfl) (ss_one (ss_ret se_bl)) ss_nil)
    (ss_one (ss_set 1 sc__law_rises.nd (se_callB (call_max2 rfl) ll_max2 T.z_max b_max (sa_cons (se_var 1) (sa_cons (se_bin op_addA l_add (se_var 2) se_int) sa_nil)))))))
    (ss_one (ss_ret se_bl))))
theorem sc__law_listed : FnScope ["_law_many", "_law_rows", "_law_turn", "_law_longer", "_law_row", "_law_number"] ["_law_many"] (defScope s__law_listed) := ⟨rfl, rfl, rfl, by decide +kernel, rfl, by decide +kernel, by decide +kernel⟩
theorem ok__law_listed (T : Tx P w K mg base C_InvalidMany C_InvalidSorts) (G__law_rises : Fd P w K mg base "_law_rises" s__law_rises 1 ["_law_row"] g__law_rises) {f : Addr} {fd : FuncData} (F : Fun K "_law_listed" "_law_listed" s__law_listed f fd) : FnG P w K mg base 2 f fd ["_law_many"] (spD K (faOf mg) 1 g__law_listed) :=
  fn_ok F sc__law_listed fun od cdv A outer s H E hr hgd => (ss_cons (ss_set 1 sc__law_listed.nd (se_lst (sa_cons (se_lst sa_nil) sa_nil)))
    (ss_cons (ss_for (passes_of rfl) rfl (si_rng1 T.z_range (sa_cons (se_var 0) sa_nil)) (gt_name 2 sc__law_listed.nd) (ss_cons (ss_set 3 sc__law_listed.nd (se_lst sa_nil))
    (ss_cons (ss_for (passes_of rfl) rfl (si_lst (se_var 1)) (gt_name 4 sc__law_listed.nd) (ss_one (ss_set 3 sc__law_listed.nd (se_bin op_addA l_add (se_var 3) (se_lc rfl sc__law_listed.nd (si_rng1 T.z_range (sa_cons (se_var 0) sa_nil)) (own := [("_law_number", 5)]) (blkOk_by (by rfl)) (by decide) (fun s H C cl fp => (gc_name 5 sc__law_listed.nd)) (fun s H C cl fp => sts_nil) (fun s H C cl fp => (se_bin op_addA l_add (se_var 4) (se_lst (sa_cons (se_var 5) sa_nil)))))))))
    (ss_one (ss_set 1 sc__law_listed.nd (se_var 3))))))
    (ss_one (ss_ret (se_lc rfl sc__law_listed.nd (si_lst (se_var 1)) (own := [("_law_row", 4)]) (blkOk_by (by rfl)) (by decide) (fun s H C cl fp => (gc_name 4 sc__law_listed.nd)) (fun s H C cl fp => (sts_one (st_val (se_callN G__law_rises (roomLe hr (by decide)) hgd takesF (sa_cons (se_var 4) sa_nil))))) (fun s H C cl fp => (se_var 4)))))))
theorem sc__law_pick : FnScope ["_law_pot_here", "_law_some"] ["_law_pot_here", "_law_some"] (defScope s__law_pick) := ⟨rfl, rfl, rfl, by decide +kernel, rfl, by decide +kernel, by decide +kernel⟩
theorem ok__law_pick (T : Tx P w K mg base C_InvalidMany C_InvalidSorts) (G__law_draw : Fd P w K mg base "_law_draw" s__law_draw 1 ["_law_pot_here", "_law_many"] g__law_draw) {f : Addr} {fd : FuncData} (F : Fun K "_law_pick" "_law_pick" s__law_pick f fd) : FnG P w K mg base 2 f fd ["_law_pot_here", "_law_some"] (spD K (faOf mg) 2 g__law_pick) :=
  fn_ok F sc__law_pick fun od cdv A outer s H E hr hgd => (ss_one (ss_ret (se_ix ix_seq l_ix (se_var 1) (se_callN G__law_draw (roomLe hr (by decide)) hgd (takes_of rfl rfl rfl rfl) (sa_cons (se_var 0) (sa_cons (se_callB cl_len ll_len T.z_len b_len (sa_cons (se_var 1) sa_nil)) sa_nil))) (fun _ _ => rfl))))
theorem sc_all_bits : FnScope ["many", "rows", "_", "known", "bit"] ["many"] (defScope s_all_bits) := ⟨rfl, rfl, rfl, by decide +kernel, rfl, by decide +kernel, by decide +kernel⟩
theorem ok_all_bits (T : Tx P w K mg base C_InvalidMany C_InvalidSorts) {f : Addr} {fd : FuncData} (F : Fun K "all_bits" "all_bits" s_all_bits f fd) : FnG P w K mg base 1 f fd ["many"] (spD K (faOf mg) 1 g_all_bits) :=
  fn_ok F sc_all_bits fun od cdv A outer s H E hr hgd => (ss_cons (ss_set 1 sc_all_bits.nd (se_lst (sa_cons (se_lst sa_nil) sa_nil)))
    (ss_cons (ss_for (passes_of rfl) rfl (si_rng1 T.z_range (sa_cons (se_var 0) sa_nil)) (gt_name 2 sc_all_bits.nd) (ss_one (ss_setLc2 1 rfl sc_all_bits.nd (si_lst (se_var 1)) (own := [("known", 3), ("bit", 4)]) (blkOk_by (by rfl)) (by decide) (by decide) (by decide) (fun s H C cl fp => (gc_name 3 sc_all_bits.nd)) (fun s H C cl fp => sts_nil) (fun s H C cl fp => (si_tup (se_tup (sa_cons se_bl (sa_cons se_bl sa_nil))))) (fun s H C cl fp => (gc_name 4 sc_all_bits.nd)) (fun s H C cl fp => sts_nil) (fun s H C cl fp => (se_bin op_addA l_add (se_var 3) (se_lst (sa_cons (se_var 4) sa_nil)))) (by rfl))))
    (ss_one (ss_ret (se_var 1)))))
theorem sc_is_integer : FnScope ["value"] ["value"] (defScope s_is_integer) := ⟨rfl, rfl, rfl, by decide +kernel, rfl, by decide +kernel, by decide +kernel⟩
theorem ok_is_integer (T : Tx P w K mg base C_InvalidMany C_InvalidSorts) {f : Addr} {fd : FuncData} (F : Fun K "is_integer" "is_integer" s_is_integer f fd) : FnG P w K mg base 1 f fd ["value"] (spD K (faOf mg) 1 g_is_integer) :=
  fn_ok F sc_is_integer fun od cdv A outer s H E hr hgd => (ss_one (ss_ret (se_and (se_callB call_isi ll_isi T.z_isinstance b_isinstance (sa_cons (se_var 0) (sa_cons (se_ty T.z_int b_int) sa_nil))) (se_one (se_not (se_callB call_isi ll_isi T.z_isinstance b_isinstance (sa_cons (se_var 0) (sa_cons (se_ty T.z_bool b_bool) sa_nil))))))))
theorem sc_is_count : FnScope ["value"] ["value"] (defScope s_is_count) := ⟨rfl, rfl, rfl, by decide +kernel, rfl, by decide +kernel, by decide +kernel⟩
theorem ok_is_count (T : Tx P w K mg base C_InvalidMany C_InvalidSorts) (G_is_integer : Fd P w K mg base "is_integer" s_is_integer 1 ["value"] g_is_integer) {f : Addr} {fd : FuncData} (F : Fun K "is_count" "is_count" s_is_count f fd) : FnG P w K mg base 2 f fd ["value"] (spD K (faOf mg) 1 g_is_count) :=
  fn_ok F sc_is_count fun od cdv A outer s H E hr hgd => (ss_one (ss_ret (se_and (se_callN G_is_integer (roomLe hr (by decide)) hgd (takes_of rfl rfl rfl rfl) (sa_cons (se_var 0) sa_nil)) (se_one (se_cmp op_ge l_ge (se_var 0) se_int rfl)))))
theorem sc_bit_rows : FnScope ["many"] ["many"] (defScope s_bit_rows) := ⟨rfl, rfl, rfl, by decide +kernel, rfl, by decide +kernel, by decide +kernel⟩
theorem ok_bit_rows (T : Tx P w K mg base C_InvalidMany C_InvalidSorts) (G_all_bits : Fd P w K mg base "all_bits" s_all_bits 1 ["many"] g_all_bits) (G_is_count : Fd P w K mg base "is_count" s_is_count 2 ["value"] g_is_count) {f : Addr} {fd : FuncData} (F : Fun K "bit_rows" "bit_rows" s_bit_rows f fd) : FnG P w K mg base 3 f fd ["many"] (spD K (faOf mg) 1 g_bit_rows) :=
  fn_ok F sc_bit_rows fun od cdv A outer s H E hr hgd => (ss_cons (ss_if (st_w (sw_or (st_not (st_val (se_callN G_is_count (roomLe hr (by decide)) hgd (takes_of rfl rfl rfl rfl) (sa_cons (se_var 0) sa_nil)))) (sw_or1 (st_cmp op_gt l_gt (se_var 0) (se_cn T.c_MOST_BITS) rfl)))) (ss_one (ss_raise (k := 0) T.e_InvalidMany (roomLe hr (by decide)) rfl (takes_of rfl rfl rfl rfl) (sa_cons (se_var 0) sa_nil))) ss_nil)
    (ss_one (ss_ret (se_callF rfl G_all_bits (roomLe hr (by decide)) hgd (takes_of rfl rfl rfl rfl) (sa_cons (se_var 0) sa_nil)))))
theorem sc_all_partitions : FnScope ["many", "rows", "_", "known", "at"] ["many"] (defScope s_all_partitions) := ⟨rfl, rfl, rfl, by decide +kernel, rfl, by decide +kernel, by decide +kernel⟩
theorem ok_all_partitions (T : Tx P w K mg base C_InvalidMany C_InvalidSorts) {f : Addr} {fd : FuncData} (F : Fun K "all_partitions" "all_partitions" s_all_partitions f fd) : FnG P w K mg base 1 f fd ["many"] (spD K (faOf mg) 1 g_all_partitions) :=
  fn_ok F sc_all_partitions fun od cdv A outer s H E hr hgd => (ss_cons (ss_set 1 sc_all_partitions.nd (se_lst (sa_cons (se_lst sa_nil) sa_nil)))
    (ss_cons (ss_for (passes_of rfl) rfl (si_rng1 T.z_range (sa_cons (se_var 0) sa_nil)) (gt_name 2 sc_all_partitions.nd) (ss_one (ss_setLc2 1 rfl sc_all_partitions.nd (si_lst (se_var 1)) (own := [("known", 3), ("at", 4)]) (blkOk_by (by rfl)) (by decide) (by decide) (by decide) (fun s H C cl fp => (gc_name 3 sc_all_partitions.nd)) (fun s H C cl fp => sts_nil) (fun s H C cl fp => (si_rng1 T.z_range (sa_cons (se_bin op_addA l_add (se_callB (cr_max rfl) ll_maxL T.z_max b_max (sa_cons (se_bin op_addA l_add (se_var 3) (se_lst (sa_cons (se_neg se_int) sa_nil))) sa_nil)) se_int) sa_nil))) (fun s H C cl fp => (gc_name 4 sc_all_partitions.nd)) (fun s H C cl fp => sts_nil) (fun s H C cl fp => (se_bin op_addA l_add (se_var 3) (se_lst (sa_cons (se_var 4) sa_nil)))) (by rfl))))
    (ss_one (ss_ret (se_var 1)))))
theorem sc_all_unlike : FnScope ["words", "word"] ["words"] (defScope s_all_unlike) := ⟨rfl, rfl, rfl, by decide +kernel, rfl, by decide +kernel, by decide +kernel⟩
theorem ok_all_unlike (T : Tx P w K mg base C_InvalidMany C_InvalidSorts) {f : Addr} {fd : FuncData} (F : Fun K "all_unlike" "all_unlike" s_all_unlike f fd) : FnG P w K mg base 1 f fd ["words"] (spD K (faOf mg) 1 g_all_unlike) :=
  fn_ok F sc_all_unlike fun od cdv A outer s H E hr hgd => (ss_one (ss_ret (se_cmp (op_eqA (un64 hr)) l_eq (se_callB cl_len ll_len T.z_len b_len (sa_cons (se_dc rfl sc_all_unlike.nd (si_lst (se_var 0)) (own := [("word", 1)]) (blkOk_by (by rfl)) (by decide) (fun s H C cl fp => (gc_name 1 sc_all_unlike.nd)) (fun s H C cl fp => sts_nil) (fun s H C cl fp => (se_var 1)) (fun s H C cl fp => se_bl)) sa_nil)) (se_callB cl_len ll_len T.z_len b_len (sa_cons (se_var 0) sa_nil)) rfl)))
theorem sc_is_run : FnScope ["value"] ["value"] (defScope s_is_run) := ⟨rfl, rfl, rfl, by decide +kernel, rfl, by decide +kernel, by decide +kernel⟩
theorem ok_is_run (T : Tx P w K mg base C_InvalidMany C_InvalidSorts) {f : Addr} {fd : FuncData} (F : Fun K "is_run" "is_run" s_is_run f fd) : FnG P w K mg base 1 f fd ["value"] (spD K (faOf mg) 1 g_is_run) :=
  fn_ok F sc_is_run fun od cdv A outer s H E hr hgd => (ss_one (ss_ret (se_and (se_callB call_isi ll_isi T.z_isinstance b_isinstance (sa_cons (se_var 0) (sa_cons (se_ty T.z_str b_str) sa_nil))) (se_and (se_meth0 PySem.F.plainAttrs_str PySem.F.slot_str_isascii PySem.F.type_str_isascii mt_isascii (m_s0 fun a F => .bl _) (se_var 0)) (se_one (se_meth0 PySem.F.plainAttrs_str PySem.F.slot_str_isalnum PySem.F.type_str_isalnum mt_isalnum (m_s0 fun a F => .bl _) (se_var 0)))))))
theorem sc_is_short_name : FnScope ["value"] ["value"] (defScope s_is_short_name) := ⟨rfl, rfl, rfl, by decide +kernel, rfl, by decide +kernel, by decide +kernel⟩
theorem ok_is_short_name (T : Tx P w K mg base C_InvalidMany C_InvalidSorts) (G_is_run : Fd P w K mg base "is_run" s_is_run 1 ["value"] g_is_run) {f : Addr} {fd : FuncData} (F : Fun K "is_short_name" "is_short_name" s_is_short_name f fd) : FnG P w K mg base 2 f fd ["value"] (spD K (faOf mg) 1 g_is_short_name) :=
  fn_ok F sc_is_short_name fun od cdv A outer s H E hr hgd => (ss_one (ss_ret (se_and (se_callN G_is_run (roomLe hr (by decide)) hgd (takes_of rfl rfl rfl rfl) (sa_cons (se_var 0) sa_nil)) (se_and (se_cmp op_le l_le (se_callB cl_len ll_len T.z_len b_len (sa_cons (se_var 0) sa_nil)) (se_cn T.c_LONGEST_NAME) rfl) (se_and (se_meth0 PySem.F.plainAttrs_str PySem.F.slot_str_islower PySem.F.type_str_islower mt_islower (m_s0 fun a F => .bl _) (se_ix ix_seq l_ix (se_var 0) se_int (fun _ _ => rfl))) (se_one (se_cmp op_ninA (l_in true) (se_var 0) (se_cn T.c_KEYWORDS) rfl)))))))
theorem sc_names_of : FnScope ["sorts", "sort", "name", "told"] ["sorts", "sort"] (defScope s_names_of) := ⟨rfl, rfl, rfl, by decide +kernel, rfl, by decide +kernel, by decide +kernel⟩
theorem ok_names_of (T : Tx P w K mg base C_InvalidMany C_InvalidSorts) {f : Addr} {fd : FuncData} (F : Fun K "names_of" "names_of" s_names_of f fd) : FnG P w K mg base 1 f fd ["sorts", "sort"] (spD K (faOf mg) 2 g_names_of) :=
  fn_ok F sc_names_of fun od cdv A outer s H E hr hgd => (ss_one (ss_ret (se_lc rfl sc_names_of.nd (si_seq (se_var 0)) (own := [("name", 2), ("told", 3)]) (blkOk_by (by rfl)) (by decide) (fun s H C cl fp => (gc_tup rfl (gns_cons 2 sc_names_of.nd (gns_cons 3 sc_names_of.nd gns_nil)))) (fun s H C cl fp => (sts_one (st_cmp (op_eqA (un64 hr)) l_eq (se_var 3) (se_var 1) rfl))) (fun s H C cl fp => (se_var 2)))))
theorem sc_is_sorts : FnScope ["value", "told", "name", "_"] ["value"] (defScope s_is_sorts) := ⟨rfl, rfl, rfl, by decide +kernel, rfl, by decide +kernel, by decide +kernel⟩
theorem ok_is_sorts (T : Tx P w K mg base C_InvalidMany C_InvalidSorts) (G_all_unlike : Fd P w K mg base "all_unlike" s_all_unlike 1 ["words"] g_all_unlike) (G_is_short_name : Fd P w K mg base "is_short_name" s_is_short_name 2 ["value"] g_is_short_name) (G_names_of : Fd P w K mg base "names_of" s_names_of 1 ["sorts", "sort"] g_names_of) {f : Addr} {fd : FuncData} (F : Fun K "is_sorts" "is_sorts" s_is_sorts f fd) : FnG P w K mg base 3 f fd ["value"] (spD K (faOf mg) 1 g_is_sorts) :=
  fn_ok F sc_is_sorts fun od cdv A outer s H E hr hgd => (ss_cons (ss_if (st_w (sw_or (st_not (st_val (se_isi2 T.z_isinstance b_isinstance (se_var 0) (pe_ty T.z_list b_list) (pe_ty T.z_tuple b_tuple)))) (sw_or1 (st_cmp op_gt l_gt (se_callB cl_len ll_len T.z_len b_len (sa_cons (se_var 0) sa_nil)) (se_cn T.c_MOST_SORTS) rfl)))) (ss_one (ss_ret se_bl)) ss_nil)
    (ss_cons (ss_for (passes_of rfl) rfl (si_seq (se_var 0)) (gt_name 1 sc_is_sorts.nd) (ss_cons (ss_if (st_w (sw_or (st_not (st_val (se_callB call_isi ll_isi T.z_isinstance b_isinstance (sa_cons (se_var 1) (sa_cons (se_ty T.z_tuple b_tuple) sa_nil))))) (sw_or (st_cmp (op_neA (un64 hr)) l_ne (se_callB cl_len ll_len T.z_len b_len (sa_cons (se_var 1) sa_nil)) se_int rfl) (sw_or1 (st_not (st_val (se_callN G_is_short_name (roomLe hr (by decide)) hgd (takes_of rfl rfl rfl rfl) (sa_cons (se_ix ix_seq l_ix (se_var 1) se_int (fun _ _ => rfl)) sa_nil)))))))) (ss_one (ss_ret se_bl)) ss_nil)
    (ss_one (ss_if (st_cmp op_ninA (l_in true) (se_ix ix_seq l_ix (se_var 1) se_int (fun _ _ => rfl)) (se_cn T.c_SORTS) rfl) (ss_one (ss_ret se_bl)) ss_nil))))
    (ss_cons (ss_if (st_not (st_val (se_callN G_all_unlike (roomLe hr (by decide)) hgd (takes_of rfl rfl rfl rfl) (sa_cons (se_lc rfl sc_is_sorts.nd (si_seq (se_var 0)) (own := [("name", 2), ("_", 3)]) (blkOk_by (by rfl)) (by decide) (fun s H C cl fp => (gc_tup rfl (gns_cons 2 sc_is_sorts.nd (gns_cons 3 sc_is_sorts.nd gns_nil)))) (fun s H C cl fp => sts_nil) (fun s H C cl fp => (se_var 2))) sa_nil)))) (ss_one (ss_ret se_bl)) ss_nil)
    (ss_one (ss_ret (se_and (se_cmp op_le l_le (se_callB cl_len ll_len T.z_len b_len (sa_cons (se_callN G_names_of (roomLe hr (by decide)) hgd (takes_of rfl rfl rfl rfl) (sa_cons (se_var 0) (sa_cons se_str sa_nil))) sa_nil)) (se_cn T.c_MOST_REFS) rfl) (se_one (se_cmp op_le l_le (se_callB cl_len ll_len T.z_len b_len (sa_cons (se_callN G_names_of (roomLe hr (by decide)) hgd (takes_of rfl rfl rfl rfl) (sa_cons (se_var 0) (sa_cons se_str sa_nil))) sa_nil)) (se_cn T.c_MOST_BOOLS) rfl))))))))
theorem sc_partitions : FnScope ["sorts"] ["sorts"] (defScope s_partitions) := ⟨rfl, rfl, rfl, by decide +kernel, rfl, by decide +kernel, by decide +kernel⟩
theorem ok_partitions (T : Tx P w K mg base C_InvalidMany C_InvalidSorts) (G_all_partitions : Fd P w K mg base "all_partitions" s_all_partitions 1 ["many"] g_all_partitions) (G_is_sorts : Fd P w K mg base "is_sorts" s_is_sorts 3 ["value"] g_is_sorts) (G_names_of : Fd P w K mg base "names_of" s_names_of 1 ["sorts", "sort"] g_names_of) {f : Addr} {fd : FuncData} (F : Fun K "partitions" "partitions" s_partitions f fd) : FnG P w K mg base 4 f fd ["sorts"] (spD K (faOf mg) 1 g_partitions) :=
  fn_ok F sc_partitions fun od cdv A outer s H E hr hgd => (ss_cons (ss_if (st_not (st_val (se_callN G_is_sorts (roomLe hr (by decide)) hgd (takes_of rfl rfl rfl rfl) (sa_cons (se_var 0) sa_nil)))) (ss_one (ss_raise (k := 0) T.e_InvalidSorts (roomLe hr (by decide)) rfl (takes_of rfl rfl rfl rfl) (sa_cons (se_var 0) sa_nil))) ss_nil)
    (ss_one (ss_ret (se_callF rfl G_all_partitions (roomLe hr (by decide)) hgd (takes_of rfl rfl rfl rfl) (sa_cons (se_callB cl_len ll_len T.z_len b_len (sa_cons (se_callN G_names_of (roomLe hr (by decide)) hgd (takes_of rfl rfl rfl rfl) (sa_cons (se_var 0) (sa_cons se_str sa_nil))) sa_nil)) sa_nil)))))
theorem sc__law_right : FnScope ["_law_pot_here", "_law_refs", "_law_sorts", "_law_left", "_law_turn", "_law_name", "_law_due", "_law_told", "_law_many", "_law_bits"] ["_law_pot_here"] (defScope s__law_right) := ⟨rfl, rfl, rfl, by decide +kernel, rfl, by decide +kernel, by decide +kernel⟩
theorem ok__law_right (T : Tx P w K mg base C_InvalidMany C_InvalidSorts) (G__law_counted : Fd P w K mg base "_law_counted" s__law_counted 1 ["_law_many"] g__law_counted) (G__law_draw : Fd P w K mg base "_law_draw" s__law_draw 1 ["_law_pot_here", "_law_many"] g__law_draw) (G__law_listed : Fd P w K mg base "_law_listed" s__law_listed 2 ["_law_many"] g__law_listed) (G__law_pick : Fd P w K mg base "_law_pick" s__law_pick 2 ["_law_pot_here", "_law_some"] g__law_pick) (G_bit_rows : Fd P w K mg base "bit_rows" s_bit_rows 3 ["many"] g_bit_rows) (K_bit_rows : KwP K mg "bit_rows" ["many"] ["many"] [0]) (G_partitions : Fd P w K mg base "partitions" s_partitions 4 ["sorts"] g_partitions) (K_partitions : KwP K mg "partitions" ["sorts"] ["sorts"] [0]) {f : Addr} {fd : FuncData} (F : Fun K "_law_right" "_law_right" s__law_right f fd) : FnG P w K mg base 5 f fd ["_law_pot_here"] (spD K (faOf mg) 1 g__law_right) :=
  fn_ok F sc__law_right fun od cdv A outer s H E hr hgd => (ss_cons (ss_par (i := 1) (j := 2) rfl sc__law_right.nd (sa_cons (se_callN G__law_draw (roomLe hr (by decide)) hgd (takes_of rfl rfl rfl rfl) (sa_cons (se_var 0) (sa_cons se_int sa_nil))) (sa_cons (se_lst sa_nil) sa_nil)))
    (ss_cons (ss_set 3 sc__law_right.nd (se_lst (sa_cons se_str (sa_cons se_str (sa_cons se_str (sa_cons se_str (sa_cons se_str (sa_cons se_str (sa_cons se_str (sa_cons se_str sa_nil))))))))))
    (ss_cons (ss_for (passes_of rfl) rfl (si_rng1 T.z_range (sa_cons se_int sa_nil)) (gt_name 4 sc__law_right.nd) (ss_cons (ss_set 5 sc__law_right.nd (se_meth PySem.F.plainAttrs_list PySem.F.slot_list_pop PySem.F.type_list_pop mt_popAt m_popAt (se_var 3) (sa_cons (se_callN G__law_draw (roomLe hr (by decide)) hgd (takes_of rfl rfl rfl rfl) (sa_cons (se_var 0) (sa_cons (se_callB cl_len ll_len T.z_len b_len (sa_cons (se_var 3) sa_nil)) sa_nil))) sa_nil)))
    (ss_one (ss_if (st_cmp op_lt l_lt (se_var 4) (se_var 1) rfl) (ss_one (ss_exp (se_meth PySem.F.plainAttrs_list PySem.F.slot_list_append PySem.F.type_list_append mt_append m_append (se_var 2) (sa_cons (se_tup (sa_cons (se_var 5) (sa_cons se_str sa_nil))) sa_nil)))) (ss_one (ss_if (st_cmp (op_eqA (un64 hr)) l_eq (se_callN G__law_draw (roomLe hr (by decide)) hgd (takes_of rfl rfl rfl rfl) (sa_cons (se_var 0) (sa_cons se_int sa_nil))) se_int rfl) (ss_one (ss_exp (se_meth PySem.F.plainAttrs_list PySem.F.slot_list_insert PySem.F.type_list_insert mt_insert m_insert (se_var 2) (sa_cons (se_callN G__law_draw (roomLe hr (by decide)) hgd (takes_of rfl rfl rfl rfl) (sa_cons (se_var 0) (sa_cons (se_bin op_addA l_add (se_callB cl_len ll_len T.z_len b_len (sa_cons (se_var 2) sa_nil)) se_int) sa_nil))) (sa_cons (se_tup (sa_cons (se_var 5) (sa_cons (se_callN G__law_pick (roomLe hr (by decide)) hgd (takes_of rfl rfl rfl rfl) (sa_cons (se_var 0) (sa_cons (se_lst (sa_cons se_str (sa_cons se_str (sa_cons se_str sa_nil)))) sa_nil))) sa_nil))) sa_nil))))) ss_nil))))))
    (ss_cons (ss_set 6 sc__law_right.nd (se_callF rfl G__law_listed (roomLe hr (by decide)) hgd (takes_of rfl rfl rfl rfl) (sa_cons (se_var 1) sa_nil)))
    (ss_cons (ss_if (st_w (sw_or (st_cmp (op_neA (un64 hr)) l_ne (se_callB (cl_repr (unR hr) hgd) ll_repr T.z_repr b_repr (sa_cons (se_lst (sa_cons (se_callN G_partitions (roomLe hr (by decide)) hgd (takes_of rfl rfl rfl rfl) (sa_cons (se_var 2) sa_nil)) (sa_cons (se_callK G_partitions K_partitions (roomLe hr (by decide)) hgd (takes_of rfl rfl rfl rfl) (sk_cons (se_callTy call_tuple_of ll_tupof T.z_tuple b_tuple (sa_cons (se_var 2) sa_nil)) sk_nil)) sa_nil))) sa_nil)) (se_callB (cl_repr (unR hr) hgd) ll_repr T.z_repr b_repr (sa_cons (se_lst (sa_cons (se_var 6) (sa_cons (se_var 6) sa_nil))) sa_nil)) rfl) (sw_or1 (st_cmp (op_neA (un64 hr)) l_ne (se_callB cl_len ll_len T.z_len b_len (sa_cons (se_var 6) sa_nil)) (se_ix ix_seq l_ix (se_lst (sa_cons se_int (sa_cons se_int (sa_cons se_int (sa_cons se_int (sa_cons se_int sa_nil)))))) (se_var 1) (fun _ _ => rfl)) rfl)))) (ss_one (ss_ret se_bl)) ss_nil)
    (ss_told (ps_setA 7 sc__law_right.nd (pe_callSn rfl G_partitions (roomLe hr (by decide)) hgd (takes_of rfl rfl rfl rfl) (sa_cons (se_var 2) sa_nil))) (ps_expr (pe_app0 (i := 7) pe_int)) (ps_expr (pe_app (i := 7) pe_non))
    (ss_cons (ss_set 8 sc__law_right.nd (se_callN G__law_draw (roomLe hr (by decide)) hgd (takes_of rfl rfl rfl rfl) (sa_cons (se_var 0) (sa_cons se_int sa_nil))))
    (ss_bits (fun od => (ss_set 9 sc__law_right.nd (se_callF rfl G_bit_rows (roomLe hr (by decide)) hgd (takes_of rfl rfl rfl rfl) (sa_cons (se_var 8) sa_nil))))
    (fun od => (ss_if (st_w (sw_or (st_cmp (op_neA (un64 hr)) l_ne (se_callB (cl_repr (unR hr) hgd) ll_repr T.z_repr b_repr (sa_cons (se_lst (sa_cons (se_var 9) (sa_cons (se_callFK rfl G_bit_rows K_bit_rows (roomLe hr (by decide)) hgd (takes_of rfl rfl rfl rfl) (sk_cons (se_var 8) sk_nil)) sa_nil))) sa_nil)) (se_callB (cl_repr (unR hr) hgd) ll_repr T.z_repr b_repr (sa_cons (se_bin op_rep l_rep (se_lst (sa_cons (se_callF rfl G__law_counted (roomLe hr (by decide)) hgd (takes_of rfl rfl rfl rfl) (sa_cons (se_var 8) sa_nil)) sa_nil)) se_int) sa_nil)) rfl) (sw_or1 (st_cmp (op_neA (un64 hr)) l_ne (se_callB cl_len ll_len T.z_len b_len (sa_cons (se_var 9) sa_nil)) (se_ix ix_seq l_ix (se_lst (sa_cons se_int (sa_cons se_int (sa_cons se_int (sa_cons se_int (sa_cons se_int (sa_cons se_int (sa_cons se_int sa_nil)))))))) (se_var 8) (fun _ _ => rfl)) rfl)))) (ss_one (ss_ret se_bl)) ss_nil)) (ps_expr (pe_app0 (i := 9) pe_non))
    (ss_one (ss_ret (se_cmp (op_eqA (un64 hr)) l_eq (se_callB (cl_repr (unR hr) hgd) ll_repr T.z_repr b_repr (sa_cons (se_lst (sa_cons (se_callN G_partitions (roomLe hr (by decide)) hgd (takes_of rfl rfl rfl rfl) (sa_cons (se_var 2) sa_nil)) (sa_cons (se_callF rfl G_bit_rows (roomLe hr (by decide)) hgd (takes_of rfl rfl rfl rfl) (sa_cons (se_var 8) sa_nil)) sa_nil))) sa_nil)) (se_callB (cl_repr (unR hr) hgd) ll_repr T.z_repr b_repr (sa_cons (se_lst (sa_cons (se_var 6) (sa_cons (se_callF rfl G__law_counted (roomLe hr (by decide)) hgd (takes_of rfl rfl rfl rfl) (sa_cons (se_var 8) sa_nil)) sa_nil))) sa_nil)) rfl)))))))))))
theorem sc_law : FnScope ["_law_script"] ["_law_script"] (defScope s_law) := ⟨rfl, rfl, rfl, by decide +kernel, rfl, by decide +kernel, by decide +kernel⟩
theorem ok_law (T : Tx P w K mg base C_InvalidMany C_InvalidSorts) (G__law_pot : Fd P w K mg base "_law_pot" s__law_pot 1 ["_law_script", "_law_k"] g__law_pot) (G__law_right : Fd P w K mg base "_law_right" s__law_right 5 ["_law_pot_here"] g__law_right) {f : Addr} {fd : FuncData} (F : Fun K "law" "law" s_law f fd) : FnG P w K mg base 6 f fd ["_law_script"] (spD K (faOf mg) 1 g_law) :=
  fn_ok F sc_law fun od cdv A outer s H E hr hgd => (ss_one (ss_ret (se_callN G__law_right (roomLe hr (by decide)) hgd (takes_of rfl rfl rfl rfl) (sa_cons (se_callN G__law_pot (roomLe hr (by decide)) hgd (takes_of rfl rfl rfl rfl) (sa_cons (se_var 0) (sa_cons se_int sa_nil))) sa_nil))))
end
end Pm

namespace Pm
open PySem L2 PyProof.Rows PySem.W
/-! ### rows of truths, sorted -/
def ltBL : List Bool → List Bool → Bool
  | [], [] => false
  | [], _ :: _ => true
  | _ :: _, [] => false
  | x :: xs, y :: ys => if x = y then ltBL xs ys else (!x && y)
def insB (d : List Bool) : List (List Bool) → List (List Bool)
  | [] => [d]
  | e :: r => if ltBL d e = true then d :: e :: r else e :: insB d r
def isortB : List (List Bool) → List (List Bool)
  | [] => []
  | d :: r => insB d (isortB r)
def strictB : List (List Bool) → Bool
  | [] => true
  | d :: r => r.all (ltBL d) && strictB r
def rowB (bs : List Bool) : D := .lst (bs.map D.bl)
theorem toPyA_bls : ∀ bs : List Bool, toPyA (bs.map D.bl) = some (bs.map PyData.bool)
  | [] => rfl
  | b :: bs => by
    simp only [List.map_cons, toPyA, toPy, toPyA_bls bs]
theorem toPy_rowB (bs : List Bool) : toPy (rowB bs) = some (.list (bs.map PyData.bool)) := by
  unfold rowB
  simp only [toPy, toPyA_bls, Option.map_some]
theorem enc_rowB (bs : List Bool) : encD (rowB bs) = .list (bs.map PyData.bool) := by
  unfold encD
  rw [toPy_rowB]
  rfl
theorem alike_bools : ∀ xs ys : List Bool, alikeAll (xs.map .bool) (ys.map .bool) = true
  | [], [] => by simp [alikeAll]
  | [], _ :: _ => by simp [alikeAll]
  | _ :: _, [] => by simp [alikeAll]
  | x :: xs, y :: ys => by simp [alikeAll, alike, alike_bools xs ys]
theorem depth_bools : ∀ xs : List Bool, PyData.depthAll (xs.map .bool) = 0
  | [] => rfl
  | x :: xs => by simp [PyData.depthAll, PyData.depth, depth_bools xs]
theorem rowLt_bools : ∀ xs ys : List Bool, rowLt (xs.map .bool) (ys.map .bool) = ltBL xs ys
  | [], [] => lex_irrefl _
  | [], y :: ys => by
    unfold rowLt
    rw [List.map_cons, toks_all_cons]
    simp only [keyToksAll, List.map_nil]
    rw [lex_diff (O := itemOrd) (by simp)]
    rfl
  | x :: xs, [] => by
    unfold rowLt
    rw [List.map_cons, toks_all_cons]
    simp only [keyToksAll, List.map_nil]
    rw [lex_diff (O := itemOrd) (by simp)]
    rfl
  | x :: xs, y :: ys => by
    have e : rowLt (PyData.bool x :: xs.map .bool) (PyData.bool y :: ys.map .bool) = if x = y then rowLt (xs.map .bool) (ys.map .bool) else (!x && y) := by
      unfold rowLt
      rw [dataLt_cons (by simp [alike]), dataLt_bool]
      simp only [PyData.eqv, beq_iff_eq]
      cases x <;> cases y <;> rfl
    show rowLt (PyData.bool x :: xs.map .bool) (PyData.bool y :: ys.map .bool) = _
    rw [e, rowLt_bools xs ys]
    rfl
theorem ltD_rowB (xs ys : List Bool) : ltD (rowB xs) (rowB ys) = ltBL xs ys := by
  unfold ltD
  rw [enc_rowB, enc_rowB, dataLt_list]
  exact rowLt_bools xs ys
theorem insD_rowB (d : List Bool) : ∀ r : List (List Bool), insD (rowB d) (r.map rowB) = (insB d r).map rowB
  | [] => rfl
  | e :: r => by
    rw [List.map_cons]
    unfold insD insB
    rw [ltD_rowB]
    split
    · rfl
    · rw [insD_rowB d r]; rfl
theorem isortD_rowB : ∀ r : List (List Bool), isortD (r.map rowB) = (isortB r).map rowB
  | [] => rfl
  | d :: r => by
    rw [List.map_cons]
    unfold isortD isortB
    rw [isortD_rowB r, insD_rowB]
theorem strict_rowB : ∀ r : List (List Bool), strict (r.map rowB) = strictB r
  | [] => rfl
  | d :: r => by
    rw [List.map_cons]
    unfold strict strictB
    rw [strict_rowB r, List.all_map]
    congr 1
    exact congrArg _ (funext fun e => ltD_rowB d e)
theorem srtOk_rowB (r : List (List Bool)) : srtOk (r.map rowB) = true := by
  unfold srtOk
  rw [Bool.and_eq_true, Bool.or_eq_true]
  refine ⟨?_, .inr ?_⟩
  · rw [List.all_eq_true]
    intro d hd
    obtain ⟨bs, _, rfl⟩ := List.mem_map.mp hd
    simp only [Bool.and_eq_true, decide_eq_true_eq]
    refine ⟨⟨by rw [toPy_rowB]; rfl, ?_⟩, ?_⟩
    · rw [enc_rowB]
      have : (PyData.list (bs.map .bool)).depth = PyData.depthAll (bs.map .bool) + 1 := by simp [PyData.depth]
      rw [this, depth_bools]
      decide
    · unfold oneAlike
      rw [List.all_eq_true]
      intro e he
      obtain ⟨cs, _, rfl⟩ := List.mem_map.mp he
      rw [enc_rowB, enc_rowB]
      simp [alike, alike_bools]
  · rw [List.all_eq_true]
    intro d hd
    obtain ⟨bs, _, rfl⟩ := List.mem_map.mp hd
    rw [enc_rowB]
    rfl
def rowsB : List D → Option (List (List Bool))
  | [] => some []
  | .lst ds :: r => match blsD ds, rowsB r with
    | some bs, some bss => some (bs :: bss)
    | _, _ => none
  | _ => none
theorem blsD_eq : ∀ {ds : List D} {bs : List Bool}, blsD ds = some bs → ds = bs.map D.bl
  | [], _, h => by cases h; rfl
  | .bl b :: ds, bs, h => by
    unfold blsD at h
    cases q : blsD ds with
    | none => rw [q] at h; cases h
    | some bs' => rw [q] at h; cases h; rw [blsD_eq q]; rfl
  | .non :: _, _, h => by cases h
  | .int _ :: _, _, h => by cases h
  | .str _ :: _, _, h => by cases h
  | .fn _ :: _, _, h => by cases h
  | .ty _ :: _, _, h => by cases h
  | .lst _ :: _, _, h => by cases h
  | .tup _ :: _, _, h => by cases h
  | .dic _ :: _, _, h => by cases h
  | .arr _ :: _, _, h => by cases h
theorem rowsB_eq : ∀ {ds : List D} {bss : List (List Bool)}, rowsB ds = some bss → ds = bss.map rowB
  | [], _, h => by cases h; rfl
  | .lst ds :: r, bss, h => by
    unfold rowsB at h
    cases q : blsD ds with
    | none => rw [q] at h; cases h
    | some bs =>
      cases q2 : rowsB r with
      | none => rw [q, q2] at h; cases h
      | some bss' => rw [q, q2] at h; cases h; rw [rowsB_eq q2, blsD_eq q]; rfl
  | .non :: _, _, h => by cases h
  | .bl _ :: _, _, h => by cases h
  | .int _ :: _, _, h => by cases h
  | .str _ :: _, _, h => by cases h
  | .fn _ :: _, _, h => by cases h
  | .ty _ :: _, _, h => by cases h
  | .tup _ :: _, _, h => by cases h
  | .dic _ :: _, _, h => by cases h
  | .arr _ :: _, _, h => by cases h
def oSortB : List W → Cells → Out W := fun ws c => match ws with
  | [w] => match rd c w with
    | some (.lst ds) => match rowsB ds with
      | some bss => if strictB (isortB bss) = true then mkL ((isortB bss).map rowB) c else .bad
      | none => .bad
    | _ => .bad
  | _ => .bad
theorem sortB_ok {ws : List W} {c c' : Cells} {w : W} (h : oSortB ws c = .ok w c') : oSorted ws c = .ok w c' := by
  unfold oSortB at h
  split at h
  · rename_i w0
    split at h
    · rename_i ds e
      split at h
      · rename_i bss hb
        split at h
        · rename_i hs
          unfold oSorted
          simp only [e]
          rw [rowsB_eq hb, isortD_rowB, strict_rowB, srtOk_rowB, hs]
          exact h
        · cases h
      · cases h
    · cases h
  · cases h
theorem cnt_swap {N : Nat} {a b : SDen} {as : Sl → Cells → Out (List W)} {ws : List W} {w : W} {c c' : Cells} (h : runB N (sCons a (sCons b (sRet (dCall oSortB as)))) ws c = .ok w c') : runB N (sCons a (sCons b (sRet (dCall oSorted as)))) ws c = .ok w c' := by
  revert h
  unfold runB sCons
  cases a (ws.map some ++ List.replicate (N - ws.length) none) c with
  | nx sl1 c1 =>
    rw [OS.andThen_nx, OS.andThen_nx]
    cases b sl1 c1 with
    | nx sl2 c2 =>
      rw [OS.andThen_nx, OS.andThen_nx]
      unfold sRet dCall
      cases as sl2 c2 with
      | ok vs c3 =>
        rw [Out.bind_ok, Out.bind_ok]
        cases q : oSortB vs c3 with
        | ok w1 c4 => rw [sortB_ok q]; exact id
        | exc x pl c4 => intro h; cases h
        | bad => intro h; cases h
      | exc _ _ _ => exact id
      | bad => exact id
    | ret _ _ => exact id
    | brk _ _ => exact id
    | cnt _ _ => exact id
    | exc _ _ _ _ => exact id
    | bad => exact id
  | ret _ _ => exact id
  | brk _ _ => exact id
  | cnt _ _ => exact id
  | exc _ _ _ _ => exact id
  | bad => exact id
def bitsL : Nat → List (List Bool)
  | 0 => [[]]
  | n + 1 => (bitsL n).flatMap fun r => [r ++ [false], r ++ [true]]
def bitsD (n : Nat) : List D := (bitsL n).map rowB
def partL : Nat → List (List Int)
  | 0 => [[]]
  | n + 1 => (partL n).flatMap fun r => (List.range (maxI (r ++ [-1]) + 2).toNat).map fun k : Nat => r ++ [(k : Int)]
def partD (n : Nat) : List D := (partL n).map fun r => .lst (r.map D.int)
theorem to6 {n : Nat} (h : n ≤ 6) : n = 0 ∨ n = 1 ∨ n = 2 ∨ n = 3 ∨ n = 4 ∨ n = 5 ∨ n = 6 := by omega
theorem to4 {n : Nat} (h : n ≤ 4) : n = 0 ∨ n = 1 ∨ n = 2 ∨ n = 3 ∨ n = 4 := by omega
theorem t_counted {m : Nat} (h : m ≤ 6) : g__law_counted [.d (.int m)] [] = .ok (.c 0) [.lst (bitsD m)] := by
  unfold g__law_counted d__law_counted
  rcases to6 h with rfl | rfl | rfl | rfl | rfl | rfl | rfl
  · exact cnt_swap (by kernel_rfl)
  · exact cnt_swap (by kernel_rfl)
  · exact cnt_swap (by kernel_rfl)
  · exact cnt_swap (by kernel_rfl)
  · exact cnt_swap (by kernel_rfl)
  · exact cnt_swap (by kernel_rfl)
  · exact cnt_swap (by kernel_rfl)
theorem t_bits {m : Nat} (h : m ≤ 6) : g_bit_rows [.d (.int m)] [] = .ok (.c 0) [.lst (bitsD m)] := by
  rcases to6 h with rfl | rfl | rfl | rfl | rfl | rfl | rfl <;> kernel_rfl
theorem t_parts {m : Nat} (h : m ≤ 4) : g_all_partitions [.d (.int m)] [] = .ok (.c 0) [.lst (partD m)] := by
  rcases to4 h with rfl | rfl | rfl | rfl | rfl <;> kernel_rfl
theorem t_listed {m : Nat} (h : m ≤ 4) : g__law_listed [.d (.int m)] [] = .ok (.c 0) [.lst (partD m)] := by
  rcases to4 h with rfl | rfl | rfl | rfl | rfl <;> kernel_rfl
end Pm

namespace Pm
open PySem L2 PyProof.Rows SX
/-! ### draws -/
abbrev pc (a b : Int) (r : Cells) : Cells := O.lst [.int a, .int b] :: r
theorem p_ix0 (a b : Int) (r : Cells) : oIx (.c 0) (.d (.int 0)) (pc a b r) = .ok (.d (.int a)) (pc a b r) := id rfl
theorem p_ix1 (a b : Int) (r : Cells) : oIx (.c 0) (.d (.int 1)) (pc a b r) = .ok (.d (.int b)) (pc a b r) := id rfl
theorem p_st0 (a b v : Int) (r : Cells) : stL (.c 0) (.d (.int 0)) (.d (.int v)) (pc a b r) = .ok () (pc v b r) := id rfl
theorem p_st1 (a b v : Int) (r : Cells) : stL (.c 0) (.d (.int 1)) (.d (.int v)) (pc a b r) = .ok () (pc a v r) := id rfl
theorem e_gtS (o i : Den) (st : W → W → W → Cells → Out Unit) (w : W) (sl : Sl) (c : Cells) : gtSub o i st w sl c = (o sl c).st sl fun wo c1 => (i sl c1).st sl fun wi c2 => (st wo wi w c2).st sl fun _ c3 => .nx sl c3 := id rfl
theorem log_lt {n : Nat} (h : n < 2 ^ 64) : n.log2 < 64 := by
  by_cases z : n = 0
  · subst z; decide
  · exact (Nat.log2_lt z).mpr h
theorem o_dm {a r : Int} (h : 0 < r) (h2 : r < 2 ^ 60) (c : Cells) : oDivmod [.d (.int a), .d (.int r)] c = .ok (.d (.tup [.int (a / r), .int (a % r)])) c := by
  have hy : Builtin.divisionGoesByPylong a r = false := by
    unfold Builtin.divisionGoesByPylong
    have : r.natAbs.log2 < 64 := log_lt (by omega)
    have h3 : ¬ (r == 0) = true := by simp; omega
    simp only [h3, Bool.false_eq_true, if_false]
    have : decide (r.natAbs.log2 / 30 + 1 > 300) = false := decide_eq_false (by omega)
    rw [this]
    simp
  show (if decide (0 < r ∧ Builtin.divisionGoesByPylong a r = false) = true then _ else _) = _
  rw [if_pos (decide_eq_true ⟨h, hy⟩)]
theorem o_mulS {a b : Int} (h : a.natAbs < 2 ^ 64) (h2 : b.natAbs < 2 ^ 64) (c : Cells) : oMul (.d (.int a)) (.d (.int b)) c = .ok (.d (.int (a * b))) c := by
  show (if decide (a.natAbs.log2 + b.natAbs.log2 < 1000000) = true then _ else _) = _
  have := log_lt h
  have := log_lt h2
  rw [if_pos (decide_eq_true (by omega))]
theorem o_intI (i : Int) (c : Cells) : oInt [.d (.int i)] c = .ok (.d (.int i)) c := id rfl
theorem o_fdiv {a b : Int} (h : 0 < b) (h2 : b < 2 ^ 60) (c : Cells) : oFdiv (.d (.int a)) (.d (.int b)) c = .ok (.d (.int (a / b))) c := by
  show (if decide (0 < b ∧ b.natAbs.log2 < 9000) = true then _ else _) = _
  have : b.natAbs.log2 < 64 := log_lt (by omega)
  rw [if_pos (decide_eq_true ⟨h, by omega⟩)]
def okP (a b : Int) : Prop := 0 ≤ a ∧ 0 ≤ b ∧ b < 2147483648
theorem t_draw {a b : Int} (h : okP a b) (room : Nat) (h1 : 0 < room) (h2 : room ≤ 1000) (r : Cells) : ∃ (v : Nat) (a' b' : Int), v < room ∧ okP a' b' ∧ g__law_draw [.c 0, .d (.int room)] (pc a b r) = .ok (.d (.int v)) (pc a' b' r) := by
  obtain ⟨ha, hb, hb2⟩ := h
  by_cases h0 : 0 < a
  · have m1 := Int.emod_nonneg a (show (room : Int) ≠ 0 by omega)
    have m2 := Int.emod_lt_of_pos a (show 0 < (room : Int) by omega)
    refine ⟨(a % room).toNat, a / room, b, by omega, ⟨Int.ediv_nonneg ha (by omega), hb, hb2⟩, ?_⟩
    unfold g__law_draw
    rw [runB_of [some (.c 0), some (.d (.int room)), none] rfl]
    unfold d__law_draw
    simp only [e_gt, e_gtT, e_gtC, e_gtN, OS.only_nx, OS.only_exc, ca_take, and_self, true_and, and_true, List.nodup_cons, List.nodup_nil, List.not_mem_nil, not_false_eq_true, List.zip_cons_cons, List.zip_nil_right, Nat.reduceAdd, Nat.reduceLeDiff, decide_true, decide_false, Bool.not_true, Bool.not_false, fr0, fr1, fr2, fr3, mk0, mkT1, mkT2, mkT3, e_v0, e_v1, e_v2, e_v3, e_v4, e_v5, e_v6, e_v7, e_v8, e_v9, e_g0, e_g1, e_g2, e_g3, e_g4, e_g5, e_g6, e_g7, e_g8, e_g9, e_s0, e_s1, e_s2, e_s3, e_s4, e_s5, e_s6, e_s7, e_s8, e_s9, e_c, e_nil, e_cons, e_bin, e_call, e_callN, e_test, e_not, e_and, e_or, e_andV, e_orV, e_if, e_isN, e_meth, e_tup, e_lst, e_sl, e_some, e_none, e_scons, e_set, e_ret, e_exp, e_sif, e_asg, e_raise, e_par, o_lt, o_le, o_gt, o_ge, o_sub, o_addI, o_iaddI, o_eqS, o_neS, o_eqI, o_isi, o_s0, o_sI, tyS, bT_ok, bT_exc, Out.bind_ok, Out.bind_exc, Out.bind_bad, Out.st_ok, Out.st_exc, Out.st_bad, OS.andThen_nx, OS.andThen_ret, OS.andThen_brk, OS.andThen_cnt, OS.andThen_exc, OS.andThen_bad, finR_nx, finR_ret, finR_exc, List.getElem?_cons_zero, List.getElem?_cons_succ, List.length_cons, List.length_nil, if_true, if_false, reduceIte, Bool.false_eq_true, List.take_length, p_ix0, decide_eq_true h0, o_dm (a := a) (show 0 < (room : Int) by omega) (show (room : Int) < 2 ^ 60 by omega), e_gtS, p_st0]
    rw [show ((a % (room : Int)).toNat : Int) = a % room by omega]
    simp
  · obtain ⟨b1, hb1⟩ : ∃ b1, b1 = (b * 48271 + 197) % 2147483587 := ⟨_, rfl⟩
    have k1 : 0 ≤ b1 := by rw [hb1]; exact Int.emod_nonneg _ (by decide)
    have k2 : b1 < 2147483587 := by rw [hb1]; exact Int.emod_lt_of_pos _ (by decide)
    obtain ⟨y, hy⟩ : ∃ y, y = b1 * b1 % 2147483549 := ⟨_, rfl⟩
    obtain ⟨x, hx⟩ : ∃ x, x = y / 13 := ⟨_, rfl⟩
    have m1 := Int.emod_nonneg x (show (room : Int) ≠ 0 by omega)
    have m2 := Int.emod_lt_of_pos x (show 0 < (room : Int) by omega)
    refine ⟨(x % room).toNat, a, b1, by omega, ⟨ha, k1, by omega⟩, ?_⟩
    unfold g__law_draw
    rw [runB_of [some (.c 0), some (.d (.int room)), none] rfl]
    unfold d__law_draw
    have q1 := fun c => o_mulS (a := b) (b := 48271) (by omega) (by decide) c
    have q2 : ∀ c, oMod (.d (.int (b * 48271 + 197))) (.d (.int 2147483587)) c = .ok (.d (.int b1)) c := fun c => by rw [hb1]; exact o_mod c _ _ (by decide)
    have q3 := fun c => o_mulS (a := b1) (b := b1) (by omega) (by omega) c
    have q4 : ∀ c, oMod (.d (.int (b1 * b1))) (.d (.int 2147483549)) c = .ok (.d (.int y)) c := fun c => by rw [hy]; exact o_mod c _ _ (by decide)
    have q5 : ∀ c, oFdiv (.d (.int y)) (.d (.int 13)) c = .ok (.d (.int x)) c := fun c => by rw [hx]; exact o_fdiv (by decide) (by decide) c
    have q6 : ∀ c, oMod (.d (.int x)) (.d (.int room)) c = .ok (.d (.int (x % room))) c := fun c => o_mod c _ _ (by omega)
    have e0 : (((x % (room : Int)).toNat : Nat) : Int) = x % room := by omega
    rw [e0]
    simp only [e_gt, e_gtT, e_gtC, e_gtN, OS.only_nx, OS.only_exc, ca_take, and_self, true_and, and_true, List.nodup_cons, List.nodup_nil, List.not_mem_nil, not_false_eq_true, List.zip_cons_cons, List.zip_nil_right, Nat.reduceAdd, Nat.reduceLeDiff, decide_true, decide_false, Bool.not_true, Bool.not_false, fr0, fr1, fr2, fr3, mk0, mkT1, mkT2, mkT3, e_v0, e_v1, e_v2, e_v3, e_v4, e_v5, e_v6, e_v7, e_v8, e_v9, e_g0, e_g1, e_g2, e_g3, e_g4, e_g5, e_g6, e_g7, e_g8, e_g9, e_s0, e_s1, e_s2, e_s3, e_s4, e_s5, e_s6, e_s7, e_s8, e_s9, e_c, e_nil, e_cons, e_bin, e_call, e_callN, e_test, e_not, e_and, e_or, e_andV, e_orV, e_if, e_isN, e_meth, e_tup, e_lst, e_sl, e_some, e_none, e_scons, e_set, e_ret, e_exp, e_sif, e_asg, e_raise, e_par, o_lt, o_le, o_gt, o_ge, o_sub, o_addI, o_iaddI, o_eqS, o_neS, o_eqI, o_isi, o_s0, o_sI, tyS, bT_ok, bT_exc, Out.bind_ok, Out.bind_exc, Out.bind_bad, Out.st_ok, Out.st_exc, Out.st_bad, OS.andThen_nx, OS.andThen_ret, OS.andThen_brk, OS.andThen_cnt, OS.andThen_exc, OS.andThen_bad, finR_nx, finR_ret, finR_exc, List.getElem?_cons_zero, List.getElem?_cons_succ, List.length_cons, List.length_nil, if_true, if_false, reduceIte, Bool.false_eq_true, List.take_length, p_ix0, p_ix1, decide_eq_false h0, q1, q2, q3, q4, q5, q6, o_intI, e_gtS, p_st1]
    simp
/-! ### the pot -/
theorem o_abs (i : Int) (c : Cells) : oAbs [.d (.int i)] c = .ok (.d (.int (if i < 0 then -i else i))) c := id rfl
theorem o_max2 (i j : Int) (c : Cells) : oMax2 [.d (.int i), .d (.int j)] c = .ok (.d (.int (if j > i then j else i))) c := id rfl
theorem o_lenA (ns : List Int) (c : Cells) : oLen [.d (.arr ns)] c = .ok (.d (.int ns.length)) c := id rfl
theorem o_ixA (x : Int) (ns : List Int) (c : Cells) : oIx (.d (.arr (x :: ns))) (.d (.int 0)) c = .ok (.d (.int x)) c := by
  unfold oIx
  rw [rd_d]
  dsimp only
  have : atI (x :: ns) 0 = some x := by
    unfold atI ixN
    rw [if_pos (by omega), if_pos (by simp)]
    rfl
  rw [this]
theorem o_pow1 (c : Cells) : oPow (.d (.int 10)) (.d (.int 18)) c = .ok (.d (.int 1000000000000000000)) c := by
  show (if decide ((0 : Int) ≤ 18 ∧ (18 : Int) ≤ 1000000 ∧ (10 : Int).natAbs < 2 ^ 64) = true then Out.ok (W.d (.int ((10 : Int) ^ (18 : Int).toNat))) c else .bad) = _
  rw [if_pos (by decide), show ((10 : Int) ^ (18 : Int).toNat) = 1000000000000000000 by decide]
theorem o_pow2 (c : Cells) : oPow (.d (.int 113)) (.d (.int 3)) c = .ok (.d (.int 1442897)) c := by
  show (if decide ((0 : Int) ≤ 3 ∧ (3 : Int) ≤ 1000000 ∧ (113 : Int).natAbs < 2 ^ 64) = true then Out.ok (W.d (.int ((113 : Int) ^ (3 : Int).toNat))) c else .bad) = _
  rw [if_pos (by decide), show ((113 : Int) ^ (3 : Int).toNat) = 1442897 by decide]
theorem sum_cut (ns : List Int) (sl : Sl) (c : Cells) : ∃ (S : Int) (o : O), (dCall oSum (dCons (dSl (dC (.arr ns)) pNone (pSome (dC (.int 1)))) dNil)) sl c = .ok (.d (.int S)) (c ++ [o]) := by
  have hcut : cutD (ns.map D.int) none (some 1) = ((ns.drop (HT.sIx ns.length 0 none)).take (HT.sIx ns.length ns.length (some 1) - HT.sIx ns.length 0 none)).map D.int := by
    unfold cutD
    rw [List.length_map, List.map_take, List.map_drop]
  obtain ⟨ms, hms⟩ : ∃ ms : List Int, cutD (ns.map D.int) none (some 1) = ms.map D.int ∧ ms.length ≤ 1 := by
    refine ⟨_, hcut, ?_⟩
    rw [List.length_take]
    refine Nat.le_trans (Nat.min_le_left _ _) ?_
    have : HT.sIx ns.length ns.length (some 1) ≤ 1 := by
      unfold HT.sIx
      simp
      omega
    omega
  refine ⟨ms.sum, .lst (ms.map D.int), ?_⟩
  have e1 : oSl (.d (.arr ns)) none (some 1) c = .ok (.c c.length) (c ++ [.lst (ms.map D.int)]) := by
    show mkL (cutD (ns.map D.int) none (some 1)) c = _
    rw [hms.1]
    exact mkL_of c (by rw [List.length_map]; omega)
  have e2 : oSum [.c c.length] (c ++ [.lst (ms.map D.int)]) = .ok (.d (.int ms.sum)) (c ++ [.lst (ms.map D.int)]) := by
    unfold oSum rdInts
    dsimp only
    rw [ca_rd]
    dsimp only
    rw [intsD_map]
  simp only [e_call, e_cons, e_sl, e_c, e_none, e_some, e_nil, Out.bind_ok, e1, e2]
end Pm

namespace Pm
open PySem L2 PyProof.Rows SX
theorem fin_top (d : Cells) (acc : List D) : finR 0 (.ret (.c d.length) (d ++ [.lst acc])) = .ok (.c 0) [.lst acc] := by
  have := fin_new (c := []) (d := d) acc rfl (Nat.zero_le _)
  exact this
theorem t_pot (ns : List Int) : ∃ a b, okP a b ∧ g__law_pot [.d (.arr ns), .d (.int 0)] [] = .ok (.c 0) (pc a b []) := by
  have tail : ∀ (x : Int) (c : Cells), 0 ≤ x → ∃ a b, okP a b ∧ dLst (dCons (dCall oMax2 (dCons (dC (.int 0)) (dCons (dBin oSub (dVar 2) (dBin oPow (dC (.int 10)) (dC (.int 18)))) dNil))) (dCons (dBin oAdd (dBin oMod (dBin oMul (dBin oAdd (dBin oMod (dVar 2) (dC (.int 2147483549))) (dC (.int 197))) (dBin oPow (dBin oAdd (dBin oMul (dC (.int 2)) (dVar 1)) (dC (.int 113))) (dC (.int 3)))) (dC (.int 2147483477))) (dC (.int 1))) dNil))
      [some (.d (.arr ns)), some (.d (.int 0)), some (.d (.int x))] c = .ok (.c c.length) (c ++ [.lst [.int a, .int b]]) := by
    intro x c hx
    obtain ⟨y, hy⟩ : ∃ y, y = x % 2147483549 := ⟨_, rfl⟩
    have y1 : 0 ≤ y := by rw [hy]; exact Int.emod_nonneg _ (by decide)
    have y2 : y < 2147483549 := by rw [hy]; exact Int.emod_lt_of_pos _ (by decide)
    obtain ⟨v, hv⟩ : ∃ v, v = (y + 197) * 1442897 % 2147483477 := ⟨_, rfl⟩
    have v1 : 0 ≤ v := by rw [hv]; exact Int.emod_nonneg _ (by decide)
    have v2 : v < 2147483477 := by rw [hv]; exact Int.emod_lt_of_pos _ (by decide)
    refine ⟨if x - 1000000000000000000 > 0 then x - 1000000000000000000 else 0, v + 1, ⟨by split <;> omega, by omega, by omega⟩, ?_⟩
    have q1 : ∀ c, oMod (.d (.int x)) (.d (.int 2147483549)) c = .ok (.d (.int y)) c := fun c => by rw [hy]; exact o_mod c _ _ (by decide)
    have q2 : ∀ c, oMul (.d (.int 2)) (.d (.int 0)) c = .ok (.d (.int 0)) c := fun c => o_mulS (by decide) (by decide) c
    have q3 : ∀ c, oMul (.d (.int (y + 197))) (.d (.int 1442897)) c = .ok (.d (.int ((y + 197) * 1442897))) c := fun c => o_mulS (by omega) (by decide) c
    have q4 : ∀ c, oMod (.d (.int ((y + 197) * 1442897))) (.d (.int 2147483477)) c = .ok (.d (.int v)) c := fun c => by rw [hv]; exact o_mod c _ _ (by decide)
    have e3 : (0 : Int) + 113 = 113 := by decide
    have l2 : ∀ (a b : D) c, mkL [a, b] c = .ok (.c c.length) (c ++ [.lst [a, b]]) := fun a b c => mkL_of c (by simp)
    simp only [e_gt, e_gtT, e_gtC, e_gtN, OS.only_nx, OS.only_exc, ca_take, and_self, true_and, and_true, List.nodup_cons, List.nodup_nil, List.not_mem_nil, not_false_eq_true, List.zip_cons_cons, List.zip_nil_right, Nat.reduceAdd, Nat.reduceLeDiff, decide_true, decide_false, Bool.not_true, Bool.not_false, fr0, fr1, fr2, fr3, mk0, mkT1, mkT2, mkT3, e_v0, e_v1, e_v2, e_v3, e_v4, e_v5, e_v6, e_v7, e_v8, e_v9, e_g0, e_g1, e_g2, e_g3, e_g4, e_g5, e_g6, e_g7, e_g8, e_g9, e_s0, e_s1, e_s2, e_s3, e_s4, e_s5, e_s6, e_s7, e_s8, e_s9, e_c, e_nil, e_cons, e_bin, e_call, e_callN, e_test, e_not, e_and, e_or, e_andV, e_orV, e_if, e_isN, e_meth, e_tup, e_lst, e_sl, e_some, e_none, e_scons, e_set, e_ret, e_exp, e_sif, e_asg, e_raise, e_par, o_lt, o_le, o_gt, o_ge, o_sub, o_addI, o_iaddI, o_eqS, o_neS, o_eqI, o_isi, o_s0, o_sI, tyS, bT_ok, bT_exc, Out.bind_ok, Out.bind_exc, Out.bind_bad, Out.st_ok, Out.st_exc, Out.st_bad, OS.andThen_nx, OS.andThen_ret, OS.andThen_brk, OS.andThen_cnt, OS.andThen_exc, OS.andThen_bad, finR_nx, finR_ret, finR_exc, List.getElem?_cons_zero, List.getElem?_cons_succ, List.length_cons, List.length_nil, if_true, if_false, reduceIte, Bool.false_eq_true, List.take_length, o_max2, o_pow1, o_intI, q1, q2, e3, o_pow2, q3, q4, l2]
  unfold g__law_pot
  rw [runB_of [some (.d (.arr ns)), some (.d (.int 0)), none] rfl]
  unfold d__law_pot
  obtain ⟨S, o, hS⟩ := sum_cut ns [some (.d (.arr ns)), some (.d (.int 0)), none] []
  have hS' : (dCall oSum (dCons (dSl (dVar 0) pNone (pSome (dC (.int 1)))) dNil)) [some (.d (.arr ns)), some (.d (.int 0)), none] [] = .ok (.d (.int S)) [o] := hS
  have m0 : ∀ c, oMul (.d (.int 503)) (.d (.int 0)) c = .ok (.d (.int 0)) c := fun c => o_mulS (by decide) (by decide) c
  obtain ⟨z, hz⟩ : ∃ z, z = S % 1000003 := ⟨_, rfl⟩
  have z1 : 0 ≤ z := by rw [hz]; exact Int.emod_nonneg _ (by decide)
  have q1 : ∀ c, oMod (.d (.int S)) (.d (.int 1000003)) c = .ok (.d (.int z)) c := fun c => by rw [hz]; exact o_mod c _ _ (by decide)
  have first : ∀ (f : SDen), (sCons (sSet 2 (dBin oAdd (dBin oAdd (dBin oMul (dC (.int 503)) (dVar 1)) (dC (.int 883))) (dBin oMod (dCall oSum (dCons (dSl (dVar 0) pNone (pSome (dC (.int 1)))) dNil)) (dC (.int 1000003))))) f) [some (.d (.arr ns)), some (.d (.int 0)), none] [] = f [some (.d (.arr ns)), some (.d (.int 0)), some (.d (.int (0 + 883 + z)))] [o] := fun f => by
    rw [e_scons, e_set, e_bin, e_bin, e_bin]
    simp only [e_c, e_v1, Out.bind_ok, m0, o_addI]
    rw [e_bin, hS']
    simp only [Out.bind_ok, e_c, q1, o_addI, Out.st_ok, OS.andThen_nx, e_s2]
  rw [first]
  have fin : ∀ (x : Int), 0 ≤ x → ∃ a b, okP a b ∧ finR 0 (sRet (dLst (dCons (dCall oMax2 (dCons (dC (.int 0)) (dCons (dBin oSub (dVar 2) (dBin oPow (dC (.int 10)) (dC (.int 18)))) dNil))) (dCons (dBin oAdd (dBin oMod (dBin oMul (dBin oAdd (dBin oMod (dVar 2) (dC (.int 2147483549))) (dC (.int 197))) (dBin oPow (dBin oAdd (dBin oMul (dC (.int 2)) (dVar 1)) (dC (.int 113))) (dC (.int 3)))) (dC (.int 2147483477))) (dC (.int 1))) dNil)))
      [some (.d (.arr ns)), some (.d (.int 0)), some (.d (.int x))] [o]) = .ok (.c 0) (pc a b []) := fun x hx => by
    obtain ⟨a, b, ok, e⟩ := tail x [o] hx
    refine ⟨a, b, ok, ?_⟩
    rw [e_ret, e]
    simp only [Out.st_ok]
    exact fin_top [o] _
  cases ns with
  | nil =>
    obtain ⟨a, b, ok, e⟩ := fin (0 + 883 + z) (by omega)
    refine ⟨a, b, ok, ?_⟩
    have z0 : decide ((0 : Int) < (([] : List Int).length : Int)) = false := by decide
    rw [e_scons, e_sif, e_test, e_bin, e_v1, Out.bind_ok, e_call, e_cons, e_v0]
    simp only [e_nil, Out.bind_ok, o_lenA, o_lt, z0, bT_ok, Out.st_ok, Bool.false_eq_true, reduceIte, OS.andThen_nx]
    exact e
  | cons x ns =>
    obtain ⟨a, b, ok, e⟩ := fin (if x < 0 then -x else x) (by split <;> omega)
    refine ⟨a, b, ok, ?_⟩
    have z0 : decide ((0 : Int) < ((x :: ns).length : Int)) = true := decide_eq_true (by simp)
    rw [e_scons, e_sif, e_test, e_bin, e_v1, Out.bind_ok, e_call, e_cons, e_v0]
    simp only [e_nil, Out.bind_ok, o_lenA, o_lt, z0, bT_ok, Out.st_ok, reduceIte]
    rw [e_set, e_call, e_cons, e_bin, e_v0]
    simp only [e_nil, e_v1, Out.bind_ok, o_ixA, o_abs, Out.st_ok, OS.andThen_nx, e_s2]
    exact e
end Pm

namespace Pm
open PySem L2 PyProof.Rows SX
/-! ### walks over a list or a tuple that stays -/
def SeqW (w : W) (c : Cells) (L : List D) : Prop := (∀ ext, rd (c ++ ext) w = some (.lst L)) ∨ (∀ ext, rd (c ++ ext) w = some (.tup L))
theorem SeqW.ext {w : W} {c : Cells} {L : List D} (h : SeqW w c L) (e : Cells) : SeqW w (c ++ e) L := by
  rcases h with h | h
  · exact .inl fun x => by rw [List.append_assoc]; exact h _
  · exact .inr fun x => by rw [List.append_assoc]; exact h _
theorem SeqW.rd {w : W} {c : Cells} {L : List D} (h : SeqW w c L) : Pm.rd c w = some (.lst L) ∨ Pm.rd c w = some (.tup L) := by
  rcases h with h | h
  · exact .inl (by have := h []; rwa [List.append_nil] at this)
  · exact .inr (by have := h []; rwa [List.append_nil] at this)
theorem seqW_d {c : Cells} {L : List D} : SeqW (.d (.tup L)) c L := .inr fun _ => rfl
theorem seqW_c {c : Cells} {k : Nat} {L : List D} (h : c[k]? = some (.lst L)) : SeqW (.c k) c L := .inl fun e => by
  rw [rd_c, List.getElem?_append_left (List.getElem?_eq_some_iff.mp h).1, h]
  rfl
theorem len_seq {w : W} {c : Cells} {L : List D} (h : SeqW w c L) : oLen [w] c = .ok (.d (.int L.length)) c := by
  unfold oLen
  dsimp only
  rcases h.rd with e | e <;> rw [e]
theorem isi2_seq {w : W} {c : Cells} {L : List D} (h : SeqW w c L) (r : Sl) : dIsi2 "list" "tuple" (dVar 0) (some w :: r) c = .ok (.d (.bl true)) c := by
  have k1 : kit2 "list" "list" "tuple" = some true := by decide +kernel
  have k2 : kit2 "tuple" "list" "tuple" = some true := by decide +kernel
  unfold dIsi2
  rw [e_v0, Out.bind_ok]
  rcases h.rd with e | e
  · rw [e]; simp only [tyD, k1]
  · rw [e]; simp only [tyD, k2]
theorem seq_items {w : W} {c : Cells} {L : List D} (h : SeqW w c L) (r : Sl) : ∃ item : Items, iSeqD (dVar 0) (some w :: r) c = .ok item c ∧ ∀ i ext, item i (c ++ ext) = some L[i]? := by
  unfold iSeqD
  rw [e_v0, Out.bind_ok]
  rcases h with h | h
  · have e := h []
    rw [List.append_nil] at e
    rw [e]
    exact ⟨_, rfl, fun i x => by unfold lstItems; rw [h]⟩
  · have e := h []
    rw [List.append_nil] at e
    rw [e]
    exact ⟨_, rfl, fun i x => by unfold tupItems; rw [h]⟩
/-- a loop that leaves the store as it is -/
theorem loopF_same {item : Items} {ds : List D} {g : W → SDen} {b : SDen} {c : Cells} (hi : ∀ i, item i c = some ds[i]?) (Q : Sl → Prop) (hb : ∀ d ∈ ds, ∀ sl, Q sl → ∃ sl', ((g (.d d) sl c).only.andThen fun sl1 c1 => b sl1 c1) = .nx sl' c ∧ Q sl') :
    ∀ (es : List D) (m i : Nat) (sl : Sl), ds.drop i = es → es.length < m → Q sl → ∃ sl', loopF item g b m i sl c = .nx sl' c ∧ Q sl'
  | [], m, i, sl, e, h, q => by
    obtain ⟨m, rfl⟩ : ∃ k, m = k + 1 := ⟨m - 1, by omega⟩
    have : ds[i]? = none := List.getElem?_eq_none (List.drop_eq_nil_iff.mp e)
    unfold loopF
    rw [hi, this]
    exact ⟨sl, rfl, q⟩
  | d :: es, m, i, sl, e, h, q => by
    obtain ⟨m, rfl⟩ : ∃ k, m = k + 1 := ⟨m - 1, by omega⟩
    have hlt : i < ds.length := by
      rcases Nat.lt_or_ge i ds.length with h2 | h2
      · exact h2
      · rw [List.drop_eq_nil_of_le h2] at e; cases e
    have e2 := List.drop_eq_getElem_cons hlt
    rw [e] at e2
    injection e2 with e3 e4
    have e5 : ds[i]? = some d := by rw [e3]; simp [hlt]
    obtain ⟨sl', h1, h2⟩ := hb d (List.mem_of_getElem? e5) sl q
    obtain ⟨sl2, h3, h4⟩ := loopF_same hi Q hb es m (i + 1) sl' e4.symm (by simp at h; omega) h2
    refine ⟨sl2, ?_, h4⟩
    unfold loopF
    rw [hi, e5]
    dsimp only
    revert h1
    cases (g (.d d) sl c).only with
    | nx sl1 c1 =>
      rw [OS.andThen_nx, OS.andThen_nx]
      intro h1
      rw [h1]
      exact h3
    | ret _ _ => intro h1; cases h1
    | brk _ _ => intro h1; cases h1
    | cnt _ _ => intro h1; cases h1
    | exc _ _ _ _ => intro h1; cases h1
    | bad => intro h1; cases h1
theorem loopC_flt {item : Items} {ds : List D} {one : Bool} {is vs : List Nat} {t : Sl → Cells → Out Bool} {f : Den} {sl : Sl} {c0 : Cells} (hi : ∀ i acc, item i (c0 ++ [.lst acc]) = some ds[i]?) (p : D → Bool) (h : D → D)
    (hs : ∀ d ∈ ds, ∃ sl1, storeC one is d (wipeS sl vs) = some sl1 ∧ (∀ c, t sl1 c = .ok (p d) c) ∧ ∀ c, f sl1 c = .ok (.d (h d)) c) :
    ∀ (es : List D) (m i : Nat) (acc : List D), ds.drop i = es → es.length < m → acc.length + es.length ≤ 1000000 → loopC item one is vs t f sl c0.length m i (c0 ++ [.lst acc]) = .ok (.c c0.length) (c0 ++ [.lst (acc ++ (es.filter p).map h)])
  | [], m, i, acc, e, hm, hl => by
    obtain ⟨m, rfl⟩ : ∃ k, m = k + 1 := ⟨m - 1, by omega⟩
    have : ds[i]? = none := List.getElem?_eq_none (List.drop_eq_nil_iff.mp e)
    unfold loopC
    rw [hi, this]
    dsimp only
    rw [ca_take1, List.filter_nil, List.map_nil, List.append_nil]
  | d :: es, m, i, acc, e, hm, hl => by
    obtain ⟨m, rfl⟩ : ∃ k, m = k + 1 := ⟨m - 1, by omega⟩
    have hlt : i < ds.length := by
      rcases Nat.lt_or_ge i ds.length with h2 | h2
      · exact h2
      · rw [List.drop_eq_nil_of_le h2] at e; cases e
    have e2 := List.drop_eq_getElem_cons hlt
    rw [e] at e2
    injection e2 with e3 e4
    have e5 : ds[i]? = some d := by rw [e3]; simp [hlt]
    obtain ⟨sl1, s1, s3, s2⟩ := hs d (List.mem_of_getElem? e5)
    unfold loopC
    rw [hi, e5]
    dsimp only
    rw [s1]
    dsimp only
    rw [s3]
    cases hp : p d with
    | true =>
      simp only [Out.ne_ok, Out.bind_ok, if_true, s2, fz_d, ca_get]
      rw [if_pos (by simp at hl; omega), ca_set, ca_take1]
      have ih := loopC_flt (c0 := c0) hi p h hs es m (i + 1) (acc ++ [h d]) e4.symm (by simp at hm; omega) (by simp at hl ⊢; omega)
      rw [List.filter_cons_of_pos hp, List.map_cons, show acc ++ h d :: (es.filter p).map h = (acc ++ [h d]) ++ (es.filter p).map h by simp]
      exact ih
    | false =>
      simp only [Out.ne_ok, Out.bind_ok, Bool.false_eq_true, if_false]
      rw [ca_take1, List.filter_cons_of_neg (by rw [hp]; decide)]
      exact loopC_flt (c0 := c0) hi p h hs es m (i + 1) acc e4.symm (by simp at hm; omega) (by simp at hl ⊢; omega)
/-- keys that are new each -/
theorem putD_new {kvs : List (Key × D)} {k : Key} {v : D} (h : ∀ kv ∈ kvs, kv.1 ≠ k) : putD kvs k v = kvs ++ [(k, v)] := by
  unfold putD
  rw [if_neg]
  simp only [List.any_eq_true, decide_eq_true_eq, not_exists, not_and]
  exact fun kv hk => h kv hk
theorem cd_get (c : Cells) (o : O) : (c ++ [o])[c.length]? = some o := by simp
theorem loopDc_new {item : Items} {ns : List Str} {one : Bool} {is vs : List Nat} {fk fv : Den} {sl : Sl} {c0 : Cells} {ds : List D} (hds : ds = ns.map D.str) (hi : ∀ i acc, item i (c0 ++ [.dic acc]) = some ds[i]?)
    (hs : ∀ n ∈ ns, ∃ sl1, storeC one is (.str n) (wipeS sl vs) = some sl1 ∧ (∀ c, fk sl1 c = .ok (.d (.str n)) c) ∧ ∀ c, fv sl1 c = .ok (.d (.bl true)) c) :
    ∀ (es : List Str) (m i : Nat) (acc : List (Key × D)), ns.drop i = es → es.length < m → acc.length + es.length ≤ 1000000 → es.Nodup → (∀ kv ∈ acc, ∀ n ∈ es, kv.1 ≠ .inr n) →
      loopDc item one is vs tYesD fk fv sl c0.length m i (c0 ++ [.dic acc]) = .ok (.c c0.length) (c0 ++ [.dic (acc ++ es.map fun n => (.inr n, .bl true))])
  | [], m, i, acc, e, hm, hl, nd, hn => by
    obtain ⟨m, rfl⟩ : ∃ k, m = k + 1 := ⟨m - 1, by omega⟩
    have : ds[i]? = none := List.getElem?_eq_none (by rw [hds, List.length_map]; exact List.drop_eq_nil_iff.mp e)
    unfold loopDc
    rw [hi, this]
    dsimp only
    rw [ca_take1, List.map_nil, List.append_nil]
  | d :: es, m, i, acc, e, hm, hl, nd, hn => by
    obtain ⟨m, rfl⟩ : ∃ k, m = k + 1 := ⟨m - 1, by omega⟩
    have hlt : i < ns.length := by
      rcases Nat.lt_or_ge i ns.length with h2 | h2
      · exact h2
      · rw [List.drop_eq_nil_of_le h2] at e; cases e
    have e2 := List.drop_eq_getElem_cons hlt
    rw [e] at e2
    injection e2 with e3 e4
    have e6 : ns[i]? = some d := by rw [e3]; simp [hlt]
    have e5 : ds[i]? = some (.str d) := by rw [hds, List.getElem?_map, e6]; rfl
    obtain ⟨sl1, s1, s3, s2⟩ := hs d (List.mem_of_getElem? e6)
    unfold loopDc
    rw [hi, e5]
    dsimp only
    rw [s1]
    dsimp only
    have kw : keyW (.d (.str d)) = some (.inr d) := rfl
    simp only [tYesD, Out.ne_ok, Out.bind_ok, if_true, s3, s2, kw, fz_d, cd_get]
    rw [if_pos (by simp at hl; omega), putD_new (fun kv hk => hn kv hk d List.mem_cons_self)]
    have hset : (c0 ++ [O.dic acc]).set c0.length (.dic (acc ++ [(.inr d, .bl true)])) = c0 ++ [.dic (acc ++ [(.inr d, .bl true)])] := by simp
    rw [hset, ca_take1]
    have ih := loopDc_new (c0 := c0) hds hi hs es m (i + 1) (acc ++ [(.inr d, .bl true)]) e4.symm (by simp at hm; omega) (by simp at hl ⊢; omega) (List.nodup_cons.mp nd).2 (fun kv hk n hn' => by
      rcases List.mem_append.mp hk with h | h
      · exact hn kv h n (List.mem_cons_of_mem _ hn')
      · simp at h
        subst h
        intro z
        injection z with z
        subst z
        exact (List.nodup_cons.mp nd).1 hn')
    rw [List.map_cons, show acc ++ (Sum.inr d, D.bl true) :: es.map (fun n => (Sum.inr n, D.bl true)) = (acc ++ [(.inr d, .bl true)]) ++ es.map fun n => (.inr n, .bl true) by simp]
    exact ih
end Pm

namespace Pm
open PySem L2 PyProof.Rows SX
def pool : List Str := (["a", "b", "c", "d", "e", "g", "h", "k"] : List String).map Str.ofString
def kinds : List Str := (["ref", "int", "fun", "test"] : List String).map Str.ofString
def sD (p : Str × Str) : D := .tup [.str p.1, .str p.2]
def isRef (p : Str × Str) : Bool := decide (p.2 = Str.ofString "ref")
structure Good (ss : List (Str × Str)) (rf : Nat) : Prop where
  nm : ∀ p ∈ ss, p.1 ∈ pool
  kd : ∀ p ∈ ss, p.2 ∈ kinds
  nd : (ss.map (·.1)).Nodup
  len : ss.length ≤ 8
  refs : (ss.filter isRef).length = rf
  few : rf ≤ 4
theorem t_is_run (z : Str) (c : Cells) : g_is_run [.d (.str z)] c = .ok (.d (.bl (Txt.isascii z && Txt.isalnum z))) c := by
  unfold g_is_run
  rw [runB_of [some (.d (.str z))] rfl]
  unfold d_is_run
  simp only [e_gt, e_gtT, e_gtC, e_gtN, OS.only_nx, OS.only_exc, ca_take, and_self, true_and, and_true, List.nodup_cons, List.nodup_nil, List.not_mem_nil, not_false_eq_true, List.zip_cons_cons, List.zip_nil_right, Nat.reduceAdd, Nat.reduceLeDiff, decide_true, decide_false, Bool.not_true, Bool.not_false, fr0, fr1, fr2, fr3, mk0, mkT1, mkT2, mkT3, e_v0, e_v1, e_v2, e_v3, e_v4, e_v5, e_v6, e_v7, e_v8, e_v9, e_g0, e_g1, e_g2, e_g3, e_g4, e_g5, e_g6, e_g7, e_g8, e_g9, e_s0, e_s1, e_s2, e_s3, e_s4, e_s5, e_s6, e_s7, e_s8, e_s9, e_c, e_nil, e_cons, e_bin, e_call, e_callN, e_test, e_not, e_and, e_or, e_andV, e_orV, e_if, e_isN, e_meth, e_tup, e_lst, e_sl, e_some, e_none, e_scons, e_set, e_ret, e_exp, e_sif, e_asg, e_raise, e_par, o_lt, o_le, o_gt, o_ge, o_sub, o_addI, o_iaddI, o_eqS, o_neS, o_eqI, o_isi, o_s0, o_sI, tyS, bT_ok, bT_exc, Out.bind_ok, Out.bind_exc, Out.bind_bad, Out.st_ok, Out.st_exc, Out.st_bad, OS.andThen_nx, OS.andThen_ret, OS.andThen_brk, OS.andThen_cnt, OS.andThen_exc, OS.andThen_bad, finR_nx, finR_ret, finR_exc, List.getElem?_cons_zero, List.getElem?_cons_succ, List.length_cons, List.length_nil, if_true, if_false, reduceIte, Bool.false_eq_true, List.take_length]
  cases Txt.isascii z <;> simp only [e_gt, e_gtT, e_gtC, e_gtN, OS.only_nx, OS.only_exc, ca_take, and_self, true_and, and_true, List.nodup_cons, List.nodup_nil, List.not_mem_nil, not_false_eq_true, List.zip_cons_cons, List.zip_nil_right, Nat.reduceAdd, Nat.reduceLeDiff, decide_true, decide_false, Bool.not_true, Bool.not_false, fr0, fr1, fr2, fr3, mk0, mkT1, mkT2, mkT3, e_v0, e_v1, e_v2, e_v3, e_v4, e_v5, e_v6, e_v7, e_v8, e_v9, e_g0, e_g1, e_g2, e_g3, e_g4, e_g5, e_g6, e_g7, e_g8, e_g9, e_s0, e_s1, e_s2, e_s3, e_s4, e_s5, e_s6, e_s7, e_s8, e_s9, e_c, e_nil, e_cons, e_bin, e_call, e_callN, e_test, e_not, e_and, e_or, e_andV, e_orV, e_if, e_isN, e_meth, e_tup, e_lst, e_sl, e_some, e_none, e_scons, e_set, e_ret, e_exp, e_sif, e_asg, e_raise, e_par, o_lt, o_le, o_gt, o_ge, o_sub, o_addI, o_iaddI, o_eqS, o_neS, o_eqI, o_isi, o_s0, o_sI, tyS, bT_ok, bT_exc, Out.bind_ok, Out.bind_exc, Out.bind_bad, Out.st_ok, Out.st_exc, Out.st_bad, OS.andThen_nx, OS.andThen_ret, OS.andThen_brk, OS.andThen_cnt, OS.andThen_exc, OS.andThen_bad, finR_nx, finR_ret, finR_exc, List.getElem?_cons_zero, List.getElem?_cons_succ, List.length_cons, List.length_nil, if_true, if_false, reduceIte, Bool.false_eq_true, List.take_length, Bool.true_and, Bool.false_and]
theorem pool_all : pool.all (fun n => Txt.isascii n && Txt.isalnum n && Txt.islower n && decide (n.length = 1) && !(k_KEYWORDS.any fun k => decide (k = n))) = true := by decide +kernel
theorem t_short {n : Str} (h : n ∈ pool) (c : Cells) : g_is_short_name [.d (.str n)] c = .ok (.d (.bl true)) c := by
  have hn : n = "a" ∨ n = "b" ∨ n = "c" ∨ n = "d" ∨ n = "e" ∨ n = "g" ∨ n = "h" ∨ n = "k" := by
    simpa [pool] using h
  have h1 : g_is_run [.d (.str n)] c = .ok (.d (.bl true)) c := by
    rw [t_is_run]
    have : (Txt.isascii n && Txt.isalnum n) = true := by rcases hn with rfl | rfl | rfl | rfl | rfl | rfl | rfl | rfl <;> decide +kernel
    rw [this]
  have h2 : oLen [.d (.str n)] c = .ok (.d (.int 1)) c := by rcases hn with rfl | rfl | rfl | rfl | rfl | rfl | rfl | rfl <;> kernel_rfl
  have h3 : oIx (.d (.str n)) (.d (.int 0)) c = .ok (.d (.str n)) c := by rcases hn with rfl | rfl | rfl | rfl | rfl | rfl | rfl | rfl <;> kernel_rfl
  have h4 : Txt.islower n = true := by rcases hn with rfl | rfl | rfl | rfl | rfl | rfl | rfl | rfl <;> decide +kernel
  have h5 : oIn true (.d (.str n)) (.d c_KEYWORDS) c = .ok (.d (.bl true)) c := by rcases hn with rfl | rfl | rfl | rfl | rfl | rfl | rfl | rfl <;> kernel_rfl
  have h6 : oLe (.d (.int 1)) (.d c_LONGEST_NAME) c = .ok (.d (.bl true)) c := rfl
  unfold g_is_short_name
  rw [runB_of [some (.d (.str n))] rfl]
  unfold d_is_short_name
  simp only [e_gt, e_gtT, e_gtC, e_gtN, OS.only_nx, OS.only_exc, ca_take, and_self, true_and, and_true, List.nodup_cons, List.nodup_nil, List.not_mem_nil, not_false_eq_true, List.zip_cons_cons, List.zip_nil_right, Nat.reduceAdd, Nat.reduceLeDiff, decide_true, decide_false, Bool.not_true, Bool.not_false, fr0, fr1, fr2, fr3, mk0, mkT1, mkT2, mkT3, e_v0, e_v1, e_v2, e_v3, e_v4, e_v5, e_v6, e_v7, e_v8, e_v9, e_g0, e_g1, e_g2, e_g3, e_g4, e_g5, e_g6, e_g7, e_g8, e_g9, e_s0, e_s1, e_s2, e_s3, e_s4, e_s5, e_s6, e_s7, e_s8, e_s9, e_c, e_nil, e_cons, e_bin, e_call, e_callN, e_test, e_not, e_and, e_or, e_andV, e_orV, e_if, e_isN, e_meth, e_tup, e_lst, e_sl, e_some, e_none, e_scons, e_set, e_ret, e_exp, e_sif, e_asg, e_raise, e_par, o_lt, o_le, o_gt, o_ge, o_sub, o_addI, o_iaddI, o_eqS, o_neS, o_eqI, o_isi, o_s0, o_sI, tyS, bT_ok, bT_exc, Out.bind_ok, Out.bind_exc, Out.bind_bad, Out.st_ok, Out.st_exc, Out.st_bad, OS.andThen_nx, OS.andThen_ret, OS.andThen_brk, OS.andThen_cnt, OS.andThen_exc, OS.andThen_bad, finR_nx, finR_ret, finR_exc, List.getElem?_cons_zero, List.getElem?_cons_succ, List.length_cons, List.length_nil, if_true, if_false, reduceIte, Bool.false_eq_true, List.take_length, h1, h2, h3, h4, h5, h6]
theorem bn {n m : Nat} (h : n ≤ m) (h2 : m < 1000000000) : n < bigN := by unfold bigN; omega
theorem t_unlike {ns : List Str} (nd : ns.Nodup) (hl : ns.length ≤ 1000) (c : Cells) : g_all_unlike [.c c.length] (c ++ [.lst (ns.map D.str)]) = .ok (.d (.bl true)) (c ++ [.lst (ns.map D.str)]) := by
  unfold g_all_unlike
  rw [runB_of [some (.c c.length), none] rfl]
  unfold d_all_unlike
  have hS : SeqW (.c c.length) (c ++ [.lst (ns.map D.str)]) (ns.map D.str) := seqW_c (by simp)
  have e1 : dDc (iLst (dVar 0)) true [1] [1] tYesD (dVar 1) (dC (.bl true)) [some (.c c.length), none] (c ++ [.lst (ns.map D.str)]) = .ok (.c (c ++ [O.lst (ns.map D.str)]).length) ((c ++ [.lst (ns.map D.str)]) ++ [.dic (ns.map fun n => (.inr n, .bl true))]) := by
    unfold dDc iLst
    rw [e_v0, Out.bind_ok, ca_rd]
    dsimp only [Out.bind_ok]
    have hb : ns.length < bigN := bn hl (by omega)
    generalize bigN = m at hb ⊢
    have := loopDc_new (item := lstItems (.c c.length)) (ns := ns) (one := true) (is := [1]) (vs := [1]) (fk := dVar 1) (fv := dC (.bl true)) (sl := [some (.c c.length), none]) (c0 := c ++ [.lst (ns.map D.str)]) rfl
      (fun i acc => by
        unfold lstItems
        rcases hS with h | h
        · rw [h]
        · have := h []; rw [List.append_nil, ca_rd] at this; cases this)
      (fun n hn => ⟨_, rfl, fun c => rfl, fun c => rfl⟩) ns m 0 [] rfl hb (by simp; omega) nd (fun kv h => by cases h)
    rw [List.nil_append] at this
    exact this
  have e2 : oLen [.c (c ++ [O.lst (ns.map D.str)]).length] ((c ++ [.lst (ns.map D.str)]) ++ [.dic (ns.map fun n => (.inr n, .bl true))]) = .ok (.d (.int ns.length)) ((c ++ [.lst (ns.map D.str)]) ++ [.dic (ns.map fun n => (.inr n, .bl true))]) := by
    unfold oLen
    dsimp only
    rw [rd_c, cd_get]
    simp only [Option.map_some, O.val, List.length_map]
  have e3 := len_seq (hS.ext [.dic (ns.map fun n => (.inr n, .bl true))])
  rw [List.length_map] at e3
  have e4 : decide ((ns.length : Int) = (ns.length : Int)) = true := by simp
  simp only [e_ret, e_bin, e_call, e_cons, e1, e_nil, Out.bind_ok, e2, e_v0, e3, o_eqI, e4, Out.st_ok, finR_ret]
  have : ((c ++ [O.lst (ns.map D.str)]) ++ [O.dic (ns.map fun n => (Sum.inr n, D.bl true))]).take (c ++ [O.lst (ns.map D.str)]).length = c ++ [.lst (ns.map D.str)] := List.take_left' rfl
  rw [this]
  simp
theorem t_names {w : W} {c : Cells} {ss : List (Str × Str)} (h : SeqW w c (ss.map sD)) (hl : ss.length ≤ 1000) (k : Str) : g_names_of [w, .d (.str k)] c = .ok (.c c.length) (c ++ [.lst ((ss.filter fun p => decide (p.2 = k)).map fun p => .str p.1)]) := by
  unfold g_names_of
  rw [runB_of [some w, some (.d (.str k)), none, none] rfl]
  unfold d_names_of
  obtain ⟨item, i1, i2⟩ := seq_items h [some (.d (.str k)), none, none]
  have e1 : dLc (iSeqD (dVar 0)) false [2, 3] [2, 3] (dTest (dBin oEq (dVar 3) (dVar 1))) (dVar 2) [some w, some (.d (.str k)), none, none] c = .ok (.c c.length) (c ++ [.lst ((ss.filter fun p => decide (p.2 = k)).map fun p => .str p.1)]) := by
    unfold dLc
    rw [i1, Out.bind_ok]
    have hb : (ss.map sD).length < bigN := bn (m := 1000) (by rw [List.length_map]; exact hl) (by omega)
    generalize bigN = m at hb ⊢
    have := loopC_flt (item := item) (ds := ss.map sD) (one := false) (is := [2, 3]) (vs := [2, 3]) (t := dTest (dBin oEq (dVar 3) (dVar 1))) (f := dVar 2) (sl := [some w, some (.d (.str k)), none, none]) (c0 := c) (fun i acc => i2 i _)
      (fun d => match d with | .tup [.str _, .str b] => decide (b = k) | _ => false) (fun d => match d with | .tup [.str a, .str _] => .str a | _ => .non)
      (fun d hd => by
        obtain ⟨p, _, rfl⟩ := List.mem_map.mp hd
        exact ⟨_, rfl, fun c => rfl, fun c => rfl⟩) (ss.map sD) m 0 [] rfl hb (by simp; omega)
    rw [this, List.nil_append]
    congr 3
    rw [List.filter_map, List.map_map]
    rfl
  rw [e_ret, e1]
  simp only [Out.st_ok]
  exact fin_cell c _
noncomputable abbrev bodyS : SDen := (sCons (sIf (dOr (dNot (dTest (dCall oIsi (dCons (dVar 1) (dCons (dC (.ty "tuple")) dNil))))) (dOr (dTest (dBin oNe (dCall oLen (dCons (dVar 1) dNil)) (dC (.int 2)))) (dNot (dTest (dCallN 1 g_is_short_name (dCons (dBin oIx (dVar 1) (dC (.int 0))) dNil)))))) (sRet (dC (.bl false))) OS.nx)
    (sIf (dTest (dBin (oIn true) (dBin oIx (dVar 1) (dC (.int 1))) (dC c_SORTS))) (sRet (dC (.bl false))) OS.nx))
theorem c8 : c_MOST_SORTS = .int 8 := rfl
theorem c4 : c_MOST_REFS = .int 4 := rfl
theorem c3 : c_MOST_BOOLS = .int 3 := rfl
theorem t_is_sorts {w : W} {c : Cells} {ss : List (Str × Str)} {rf : Nat} (h : SeqW w c (ss.map sD)) (g : Good ss rf) : g_is_sorts [w] c = .ok (.d (.bl true)) c := by
  unfold g_is_sorts
  rw [runB_of [some w, none, none, none] rfl]
  unfold d_is_sorts
  have l1 := len_seq h
  rw [List.length_map] at l1
  have q8 : decide ((8 : Int) < (ss.length : Int)) = false := decide_eq_false (by have := g.len; omega)
  have i2 := isi2_seq h [none, none, none]
  rw [e_scons, e_sif, e_or, e_not, e_test, i2]
  simp only [bT_ok, Out.bind_ok, Bool.not_true, Bool.false_eq_true, if_false, e_test, e_bin, e_call, e_cons, e_v0, e_nil, l1, e_c, c8, o_gt, q8, Out.st_ok, OS.andThen_nx]
  -- the walk
  obtain ⟨item, w1, w2⟩ := seq_items h [none, none, none]
  have w3 : ∀ i, item i c = some (ss.map sD)[i]? := fun i => by have := w2 i []; rwa [List.append_nil] at this
  have walk : ∃ x, sFor (iSeqD (dVar 0)) (gtName 1) bodyS [some w, none, none, none] c = .nx [some w, x, none, none] c := by
    unfold sFor
    rw [w1, Out.st_ok]
    have hb : (ss.map sD).length < bigN := bn (m := 8) (by rw [List.length_map]; exact g.len) (by omega)
    generalize bigN = m at hb ⊢
    obtain ⟨sl', r1, x, rfl⟩ := loopF_same (item := item) (ds := ss.map sD) (g := gtName 1) (b := bodyS) (c := c) w3 (fun sl => ∃ x, sl = [some w, x, none, none]) (fun d hd sl hq => by
      obtain ⟨x, rfl⟩ := hq
      obtain ⟨p, hp, rfl⟩ := List.mem_map.mp hd
      refine ⟨[some w, some (.d (sD p)), none, none], ?_, _, rfl⟩
      have hk := g.kd p hp
      have hkd : p.2 = "ref" ∨ p.2 = "int" ∨ p.2 = "fun" ∨ p.2 = "test" := by simpa [kinds] using hk
      have s1 := t_short (g.nm p hp) c
      have a1 : oIsi [.d (sD p), .d (.ty "tuple")] c = .ok (.d (.bl true)) c := rfl
      have a2 : oLen [.d (sD p)] c = .ok (.d (.int 2)) c := rfl
      have a3 : oNe (.d (.int 2)) (.d (.int 2)) c = .ok (.d (.bl false)) c := rfl
      have a4 : oIx (.d (sD p)) (.d (.int 0)) c = .ok (.d (.str p.1)) c := rfl
      have a5 : oIx (.d (sD p)) (.d (.int 1)) c = .ok (.d (.str p.2)) c := rfl
      have a6 : oIn true (.d (.str p.2)) (.d c_SORTS) c = .ok (.d (.bl false)) c := by
        rcases hkd with e | e | e | e <;> rw [e] <;> kernel_rfl
      unfold bodyS
      simp only [e_gt, e_gtT, e_gtC, e_gtN, OS.only_nx, OS.only_exc, ca_take, and_self, true_and, and_true, List.nodup_cons, List.nodup_nil, List.not_mem_nil, not_false_eq_true, List.zip_cons_cons, List.zip_nil_right, Nat.reduceAdd, Nat.reduceLeDiff, decide_true, decide_false, Bool.not_true, Bool.not_false, fr0, fr1, fr2, fr3, mk0, mkT1, mkT2, mkT3, e_v0, e_v1, e_v2, e_v3, e_v4, e_v5, e_v6, e_v7, e_v8, e_v9, e_g0, e_g1, e_g2, e_g3, e_g4, e_g5, e_g6, e_g7, e_g8, e_g9, e_s0, e_s1, e_s2, e_s3, e_s4, e_s5, e_s6, e_s7, e_s8, e_s9, e_c, e_nil, e_cons, e_bin, e_call, e_callN, e_test, e_not, e_and, e_or, e_andV, e_orV, e_if, e_isN, e_meth, e_tup, e_lst, e_sl, e_some, e_none, e_scons, e_set, e_ret, e_exp, e_sif, e_asg, e_raise, e_par, o_lt, o_le, o_gt, o_ge, o_sub, o_addI, o_iaddI, o_eqS, o_neS, o_eqI, o_isi, o_s0, o_sI, tyS, bT_ok, bT_exc, Out.bind_ok, Out.bind_exc, Out.bind_bad, Out.st_ok, Out.st_exc, Out.st_bad, OS.andThen_nx, OS.andThen_ret, OS.andThen_brk, OS.andThen_cnt, OS.andThen_exc, OS.andThen_bad, finR_nx, finR_ret, finR_exc, List.getElem?_cons_zero, List.getElem?_cons_succ, List.length_cons, List.length_nil, if_true, if_false, reduceIte, Bool.false_eq_true, List.take_length, a1, a2, a3, a4, a5, a6, s1]) (ss.map sD) m 0 [some w, none, none, none] rfl hb ⟨none, rfl⟩
    exact ⟨x, r1⟩
  obtain ⟨x, hx⟩ := walk
  rw [e_scons, hx, OS.andThen_nx]
  -- unlike names
  obtain ⟨item2, v1, v2⟩ := seq_items h [x, none, none]
  have e1 : dLc (iSeqD (dVar 0)) false [2, 3] [2, 3] tYesD (dVar 2) [some w, x, none, none] c = .ok (.c c.length) (c ++ [.lst ((ss.map (·.1)).map D.str)]) := by
    unfold dLc
    rw [v1, Out.bind_ok]
    have hb : (ss.map sD).length < bigN := bn (m := 8) (by rw [List.length_map]; exact g.len) (by omega)
    generalize bigN = m at hb ⊢
    have := loopC_flt (item := item2) (ds := ss.map sD) (one := false) (is := [2, 3]) (vs := [2, 3]) (t := tYesD) (f := dVar 2) (sl := [some w, x, none, none]) (c0 := c) (fun i acc => v2 i _)
      (fun d => true) (fun d => match d with | .tup [.str a, .str _] => .str a | _ => .non)
      (fun d hd => by
        obtain ⟨p, _, rfl⟩ := List.mem_map.mp hd
        exact ⟨_, rfl, fun c => rfl, fun c => rfl⟩) (ss.map sD) m 0 [] rfl hb (by have := g.len; simp; omega)
    rw [this, List.nil_append]
    congr 3
    rw [List.filter_eq_self.mpr (fun _ _ => rfl), List.map_map, List.map_map]
    rfl
  have e2 := t_unlike g.nd (by rw [List.length_map]; have := g.len; omega) c
  rw [e_scons, e_sif, e_not, e_test, e_callN, e_cons, e1]
  simp only [Out.bind_ok, e_nil, List.length_cons, List.length_nil, Nat.reduceAdd, if_true, e2, bT_ok, Bool.not_true, Out.st_ok, Bool.false_eq_true, if_false, OS.andThen_nx]
  -- how many
  have n1 := t_names (h.ext [.lst ((ss.map (·.1)).map D.str)]) (by have := g.len; omega) "ref"
  have n2 := t_names ((h.ext [.lst ((ss.map (·.1)).map D.str)]).ext [.lst ((ss.filter fun p => decide (p.2 = Str.ofString "ref")).map fun p => .str p.1)]) (by have := g.len; omega) "bool"
  have z : ss.filter (fun p => decide (p.2 = Str.ofString "bool")) = [] := by
    rw [List.filter_eq_nil_iff]
    intro p hp hb
    have := g.kd p hp
    have hkd : p.2 = "ref" ∨ p.2 = "int" ∨ p.2 = "fun" ∨ p.2 = "test" := by simpa [kinds] using this
    have hb : p.2 = Str.ofString "bool" := of_decide_eq_true hb
    rw [hb] at hkd
    revert hkd
    decide +kernel
  rw [z] at n2
  have q1 : oLen [.c (c ++ [O.lst ((ss.map (·.1)).map D.str)]).length] ((c ++ [O.lst ((ss.map (·.1)).map D.str)]) ++ [.lst ((ss.filter fun p => decide (p.2 = Str.ofString "ref")).map fun p => .str p.1)]) = .ok (.d (.int rf)) ((c ++ [O.lst ((ss.map (·.1)).map D.str)]) ++ [.lst ((ss.filter fun p => decide (p.2 = Str.ofString "ref")).map fun p => .str p.1)]) := by
    unfold oLen
    dsimp only
    rw [ca_rd]
    dsimp only
    rw [List.length_map]
    have := g.refs
    rw [show (ss.filter fun p => decide (p.2 = Str.ofString "ref")).length = rf from this]
  have q2 : decide ((rf : Int) ≤ 4) = true := decide_eq_true (by have := g.few; omega)
  have q3 : ∀ (d : Cells) c', oLen [.c d.length] (d ++ [.lst (([] : List (Str × Str)).map fun p => .str p.1)]) = .ok (.d (.int 0)) c' ∨ True := fun _ _ => .inr trivial
  have q4 : ∀ (d : Cells), oLen [.c d.length] (d ++ [.lst (([] : List (Str × Str)).map fun p => .str p.1)]) = .ok (.d (.int 0)) (d ++ [.lst (([] : List (Str × Str)).map fun p => .str p.1)]) := fun d => by
    unfold oLen
    dsimp only
    rw [ca_rd]
    rfl
  have q5 : decide ((0 : Int) ≤ 3) = true := by decide
  rw [e_ret, e_andV, e_bin, e_call, e_cons, e_callN, e_cons]
  simp only [e_v0, Out.bind_ok, e_cons, e_c, e_nil, List.length_cons, List.length_nil, Nat.reduceAdd, if_true, n1, q1, c4, o_le, q2, bT_ok, e_bin, e_call, e_callN, n2, q4, c3, q5, Out.st_ok, finR_ret]
  congr 1
  simp only [List.append_assoc]
  exact List.take_left' rfl
end Pm

namespace Pm
open PySem L2 PyProof.Rows SX
theorem outF_c (ds : List D) (c1 : Cells) : outF (.ok (.c 0) [.lst ds]) c1 = .ok (.c c1.length) (c1 ++ [.lst ds]) := rfl
theorem callF_of {g : List W → Cells → Out W} {d : D} {ds : List D} (h : g [.d d] [] = .ok (.c 0) [.lst ds]) (ha : atomD d = true) (c1 : Cells) : callF 1 g [.d d] c1 = .ok (.c c1.length) (c1 ++ [.lst ds]) := by
  unfold callF
  rw [if_pos ⟨rfl, by simp [atomW, ha]⟩, h, outF_c]
theorem e_callF (n : Nat) (g : List W → Cells → Out W) (as : Sl → Cells → Out (List W)) (sl : Sl) (c : Cells) : dCallF n g as sl c = (as sl c).bind (callF n g) := id rfl
theorem t_partitions {w : W} {c : Cells} {ss : List (Str × Str)} {rf : Nat} (h : SeqW w c (ss.map sD)) (g : Good ss rf) : g_partitions [w] c = .ok (.c c.length) (c ++ [.lst (partD rf)]) := by
  unfold g_partitions
  rw [runB_of [some w] rfl]
  unfold d_partitions
  have s1 := t_is_sorts h g
  have n1 := t_names h (by have := g.len; omega) "ref"
  have q1 : oLen [.c c.length] (c ++ [.lst ((ss.filter fun p => decide (p.2 = Str.ofString "ref")).map fun p => .str p.1)]) = .ok (.d (.int rf)) (c ++ [.lst ((ss.filter fun p => decide (p.2 = Str.ofString "ref")).map fun p => .str p.1)]) := by
    unfold oLen
    dsimp only
    rw [ca_rd]
    dsimp only
    rw [List.length_map]
    have := g.refs
    rw [show (ss.filter fun p => decide (p.2 = Str.ofString "ref")).length = rf from this]
  have p1 := t_parts g.few
  have cf := fun d => callF_of p1 rfl d
  have inner : dCons (dCall oLen (dCons (dCallN 2 g_names_of (dCons (dVar 0) (dCons (dC (.str "ref")) dNil))) dNil)) dNil [some w] c = .ok [.d (.int rf)] (c ++ [.lst ((ss.filter fun p => decide (p.2 = Str.ofString "ref")).map fun p => .str p.1)]) := by
    simp only [e_cons, e_call, e_callN, e_v0, e_c, e_nil, Out.bind_ok, List.length_cons, List.length_nil, Nat.reduceAdd, if_true, n1, q1]
  have e1 : dCallF 1 g_all_partitions (dCons (dCall oLen (dCons (dCallN 2 g_names_of (dCons (dVar 0) (dCons (dC (.str "ref")) dNil))) dNil)) dNil) [some w] c = .ok (.c (c ++ [O.lst ((ss.filter fun p => decide (p.2 = Str.ofString "ref")).map fun p => .str p.1)]).length) ((c ++ [O.lst ((ss.filter fun p => decide (p.2 = Str.ofString "ref")).map fun p => .str p.1)]) ++ [.lst (partD rf)]) := by
    rw [e_callF, inner, Out.bind_ok, cf]
  have t1 : (dNot (dTest (dCallN 1 g_is_sorts (dCons (dVar 0) dNil)))) [some w] c = .ok false c := by
    simp only [e_not, e_test, e_callN, e_cons, e_v0, e_nil, Out.bind_ok, List.length_cons, List.length_nil, Nat.reduceAdd, if_true, s1, bT_ok, Bool.not_true]
  rw [e_scons, e_sif, t1, Out.st_ok, if_neg Bool.false_ne_true, OS.andThen_nx, e_ret, e1, Out.st_ok]
  exact fin_new _ (by simp) (by simp)
end Pm

namespace Pm
open PySem L2 PyProof.Rows SX
/-! ### texts of what is told -/
def flatOk (p : PyData) : Bool := p.showable && decide (p.depth ≤ 60) && PyData.layable0 p && p.intsShort 13
theorem shOk_of {p : PyData} (h : flatOk p = true) : shOk p = true := by
  unfold flatOk at h
  simp only [Bool.and_eq_true, decide_eq_true_eq] at h
  unfold shOk
  have := shown_le13 h.1.2 h.2
  simp only [Bool.and_eq_true, decide_eq_true_eq]
  exact ⟨⟨h.1.1.1, h.1.1.2⟩, by omega⟩
def pyOk (d : D) : Bool := match toPy d with
  | some p => flatOk p
  | none => false
theorem repr_of {ds : List D} (h : pyOk (.lst ds) = true) : ∃ s, reprD (.lst ds) = some s := by
  unfold pyOk at h
  cases e : toPy (.lst ds) with
  | none => rw [e] at h; cases h
  | some p =>
    rw [e] at h
    refine ⟨p.shown, ?_⟩
    show (match toPy (.lst ds) with | some p => if shOk p = true then some p.shown else none | none => none) = _
    rw [e]
    exact if_pos (shOk_of h)
theorem o_repr {ds : List D} {s : Str} (h : reprD (.lst ds) = some s) (c : Cells) : oRepr [.c c.length] (c ++ [.lst ds]) = .ok (.d (.str s)) (c ++ [.lst ds]) := by
  unfold oRepr
  dsimp only
  rw [ca_rd]
  dsimp only
  rw [h]
theorem s_bits {m : Nat} (h : m ≤ 6) : ∃ s, reprD (.lst [.lst (bitsD m), .lst (bitsD m)]) = some s := by
  refine repr_of ?_
  rcases to6 h with rfl | rfl | rfl | rfl | rfl | rfl | rfl <;> kernel_rfl
theorem s_parts {m : Nat} (h : m ≤ 4) : ∃ s, reprD (.lst [.lst (partD m), .lst (partD m)]) = some s := by
  refine repr_of ?_
  rcases to4 h with rfl | rfl | rfl | rfl | rfl <;> kernel_rfl
theorem s_both {n m : Nat} (h : n ≤ 4) (h2 : m ≤ 6) : ∃ s, reprD (.lst [.lst (partD n), .lst (bitsD m)]) = some s := by
  refine repr_of ?_
  rcases to4 h with rfl | rfl | rfl | rfl | rfl <;> rcases to6 h2 with rfl | rfl | rfl | rfl | rfl | rfl | rfl <;> kernel_rfl
/-! ### the rows of truths, looked at -/
noncomputable abbrev D1 : SDen := (sSet 9 (dCallF 1 g_bit_rows (dCons (dVar 8) dNil)))
noncomputable abbrev T2a : Den := (dBin oNe (dCall oRepr (dCons (dLst (dCons (dVar 9) (dCons (dCallFK 1 [0] g_bit_rows (dCons (dVar 8) dNil)) dNil))) dNil)) (dCall oRepr (dCons (dBin oRep (dLst (dCons (dCallF 1 g__law_counted (dCons (dVar 8) dNil)) dNil)) (dC (.int 2))) dNil)))
noncomputable abbrev T2b : Den := (dBin oNe (dCall oLen (dCons (dVar 9) dNil)) (dBin oIx (dLst (dCons (dC (.int 1)) (dCons (dC (.int 2)) (dCons (dC (.int 4)) (dCons (dC (.int 8)) (dCons (dC (.int 16)) (dCons (dC (.int 32)) (dCons (dC (.int 64)) dNil)))))))) (dVar 8)))
noncomputable abbrev D2 : SDen := (sIf (dOr (dTest T2a) (dTest T2b)) (sRet (dC (.bl false))) OS.nx)
def sevens : List D := [.int 1, .int 2, .int 4, .int 8, .int 16, .int 32, .int 64]
theorem e_callFK (n : Nat) (is : List Nat) (g : List W → Cells → Out W) (as : Sl → Cells → Out (List W)) (sl : Sl) (c : Cells) : dCallFK n is g as sl c = (as sl c).bind fun ws c1 => callF n g (perm is ws) c1 := id rfl
theorem perm0 (w : W) : perm [0] [w] = [w] := rfl
theorem lens7 {m : Nat} (h : m ≤ 6) : (bitsD m).length = 2 ^ m := by
  rcases to6 h with rfl | rfl | rfl | rfl | rfl | rfl | rfl <;> decide +kernel
theorem frz_c0 (a : List D) (r : Cells) : fz (.c 0) (.lst a :: r) = .ok (.lst a) (.frz (.lst a) :: r) := id rfl
section
variable {m : Nat} (h : m ≤ 6) (v0 v1 v2 v3 v4 v5 v6 : Option W)
include h
theorem run_D1 : D1 [v0, v1, v2, v3, v4, v5, v6, none, some (.d (.int m)), none] [] = .nx [v0, v1, v2, v3, v4, v5, v6, none, some (.d (.int m)), some (.c 0)] [.lst (bitsD m)] := by
  have e1 : dCallF 1 g_bit_rows (dCons (dVar 8) dNil) [v0, v1, v2, v3, v4, v5, v6, none, some (.d (.int m)), none] [] = .ok (.c 0) [.lst (bitsD m)] := by
    have e2 : dCons (dVar 8) dNil [v0, v1, v2, v3, v4, v5, v6, none, some (.d (.int m)), none] [] = .ok [.d (.int m)] [] := rfl
    rw [e_callF, e2, Out.bind_ok, callF_of (t_bits h) rfl]
    rfl
  show sSet 9 _ _ _ = _
  rw [e_set, e1]
  rfl
theorem run_T2a (w9 : W) (hw : w9 = .c 0) : ∃ r, T2a [v0, v1, v2, v3, v4, v5, v6, none, some (.d (.int m)), some w9] [.lst (bitsD m)] = .ok (.d (.bl false)) (.frz (.lst (bitsD m)) :: r) := by
  subst hw
  obtain ⟨s, hs⟩ := s_bits h
  obtain ⟨sl, hsl⟩ : ∃ sl : Sl, sl = [v0, v1, v2, v3, v4, v5, v6, none, some (.d (.int m)), some (.c 0)] := ⟨_, rfl⟩
  rw [← hsl]
  have v8 : ∀ c, dCons (dVar 8) dNil sl c = .ok [.d (.int m)] c := fun c => by rw [hsl]; rfl
  have v9 : ∀ c, dVar 9 sl c = .ok (.c 0) c := fun c => by rw [hsl]; rfl
  have b1 : ∀ c, dCallFK 1 [0] g_bit_rows (dCons (dVar 8) dNil) sl c = .ok (.c c.length) (c ++ [.lst (bitsD m)]) := fun c => by
    rw [e_callFK, v8, Out.bind_ok, perm0, callF_of (t_bits h) rfl]
  have b2 : ∀ c, dCallF 1 g__law_counted (dCons (dVar 8) dNil) sl c = .ok (.c c.length) (c ++ [.lst (bitsD m)]) := fun c => by
    rw [e_callF, v8, Out.bind_ok, callF_of (t_counted h) rfl]
  have l1 : dLst (dCons (dVar 9) (dCons (dCallFK 1 [0] g_bit_rows (dCons (dVar 8) dNil)) dNil)) sl [.lst (bitsD m)] = .ok (.c 2) ([.frz (.lst (bitsD m)), .frz (.lst (bitsD m))] ++ [.lst [.lst (bitsD m), .lst (bitsD m)]]) := by
    rw [e_lst, e_cons, v9, Out.bind_ok, e_cons, b1, Out.bind_ok, e_nil, Out.bind_ok, Out.bind_ok, Out.bind_ok]
    rfl
  have r1 : dCall oRepr (dCons (dLst (dCons (dVar 9) (dCons (dCallFK 1 [0] g_bit_rows (dCons (dVar 8) dNil)) dNil))) dNil) sl [.lst (bitsD m)] = .ok (.d (.str s)) ([.frz (.lst (bitsD m)), .frz (.lst (bitsD m))] ++ [.lst [.lst (bitsD m), .lst (bitsD m)]]) := by
    rw [e_call, e_cons, l1, Out.bind_ok, e_nil, Out.bind_ok, Out.bind_ok]
    exact o_repr hs [.frz (.lst (bitsD m)), .frz (.lst (bitsD m))]
  have l2 : ∀ c, dLst (dCons (dCallF 1 g__law_counted (dCons (dVar 8) dNil)) dNil) sl c = .ok (.c (c ++ [O.frz (.lst (bitsD m))]).length) ((c ++ [.frz (.lst (bitsD m))]) ++ [.lst [.lst (bitsD m)]]) := fun c => by
    rw [e_lst, e_cons, b2, Out.bind_ok, e_nil, Out.bind_ok, Out.bind_ok]
    have : frzAll [.c c.length] (c ++ [.lst (bitsD m)]) = .ok [.lst (bitsD m)] (c ++ [.frz (.lst (bitsD m))]) := by
      unfold frzAll
      rw [fz_cell, Out.bind_ok]
      rfl
    rw [this, Out.bind_ok, mkL_of _ (by simp)]
  have l3 : ∀ c, oRep (.c c.length) (.d (.int 2)) (c ++ [.lst [.lst (bitsD m)]]) = .ok (.c (c ++ [O.lst [.lst (bitsD m)]]).length) ((c ++ [.lst [.lst (bitsD m)]]) ++ [.lst [.lst (bitsD m), .lst (bitsD m)]]) := fun c => by
    unfold oRep
    simp only [ca_get]
    rw [if_pos ⟨by decide, by decide, (show 1 * 2 ≤ 1000000 by decide)⟩]
    exact mkL_of _ (show 2 ≤ 1000000 by decide)
  have r2 : ∀ c, ∃ r, dCall oRepr (dCons (dBin oRep (dLst (dCons (dCallF 1 g__law_counted (dCons (dVar 8) dNil)) dNil)) (dC (.int 2))) dNil) sl c = .ok (.d (.str s)) (c ++ r) := fun c => by
    refine ⟨[.frz (.lst (bitsD m)), .lst [.lst (bitsD m)], .lst [.lst (bitsD m), .lst (bitsD m)]], ?_⟩
    rw [e_call, e_cons, e_bin, l2, Out.bind_ok, e_c, Out.bind_ok, l3, Out.bind_ok, e_nil, Out.bind_ok, Out.bind_ok, o_repr hs]
    simp only [List.append_assoc, List.cons_append, List.nil_append]
  obtain ⟨r, hr⟩ := r2 ([.frz (.lst (bitsD m)), .frz (.lst (bitsD m))] ++ [.lst [.lst (bitsD m), .lst (bitsD m)]])
  refine ⟨[.frz (.lst (bitsD m)), .lst [.lst (bitsD m), .lst (bitsD m)]] ++ r, ?_⟩
  show dBin oNe _ _ sl _ = _
  rw [e_bin, r1, Out.bind_ok, hr, Out.bind_ok, o_neS]
  simp
theorem run_T2b (r : Cells) : ∃ r', T2b [v0, v1, v2, v3, v4, v5, v6, none, some (.d (.int m)), some (.c 0)] (.frz (.lst (bitsD m)) :: r) = .ok (.d (.bl false)) (.frz (.lst (bitsD m)) :: r') := by
  refine ⟨r ++ [.lst sevens], ?_⟩
  have e1 : dCall oLen (dCons (dVar 9) dNil) [v0, v1, v2, v3, v4, v5, v6, none, some (.d (.int m)), some (.c 0)] (.frz (.lst (bitsD m)) :: r) = .ok (.d (.int (bitsD m).length)) (.frz (.lst (bitsD m)) :: r) := rfl
  have e2 : dLst (dCons (dC (.int 1)) (dCons (dC (.int 2)) (dCons (dC (.int 4)) (dCons (dC (.int 8)) (dCons (dC (.int 16)) (dCons (dC (.int 32)) (dCons (dC (.int 64)) dNil))))))) [v0, v1, v2, v3, v4, v5, v6, none, some (.d (.int m)), some (.c 0)] (.frz (.lst (bitsD m)) :: r) = .ok (.c (O.frz (.lst (bitsD m)) :: r).length) ((.frz (.lst (bitsD m)) :: r) ++ [.lst sevens]) := by
    rw [e_lst]
    simp only [e_cons, e_c, e_nil, Out.bind_ok]
    exact mkL_of _ (by decide)
  have e3 : oIx (.c (O.frz (.lst (bitsD m)) :: r).length) (.d (.int m)) ((.frz (.lst (bitsD m)) :: r) ++ [.lst sevens]) = .ok (.d (.int ((2 ^ m : Nat) : Int))) ((.frz (.lst (bitsD m)) :: r) ++ [.lst sevens]) := by
    unfold oIx
    rw [ca_rd]
    dsimp only
    have : atI sevens (m : Int) = some (.int ((2 ^ m : Nat) : Int)) := by
      rcases to6 h with rfl | rfl | rfl | rfl | rfl | rfl | rfl <;> rfl
    rw [this]
  show dBin oNe _ _ _ _ = _
  rw [e_bin, e1, Out.bind_ok, e_bin, e2, Out.bind_ok]
  have v8 : ∀ c, dVar 8 [v0, v1, v2, v3, v4, v5, v6, none, some (.d (.int m)), some (.c 0)] c = .ok (.d (.int m)) c := fun c => rfl
  rw [v8, Out.bind_ok, e3, Out.bind_ok, lens7 h]
  show Out.ok (W.d (D.bl (!decide (((2 ^ m : Nat) : Int) = ((2 ^ m : Nat) : Int))))) _ = _
  simp
omit h in
theorem bitsD_cons (h : m ≤ 6) : ∃ es r, bitsD m = .lst es :: r ∧ es.length < 1000000 := by
  rcases to6 h with rfl | rfl | rfl | rfl | rfl | rfl | rfl <;> exact ⟨_, _, rfl, by decide⟩
theorem run_block : ∃ cs es r, (sCons D1 D2) [v0, v1, v2, v3, v4, v5, v6, none, some (.d (.int m)), none] [] = .nx [v0, v1, v2, v3, v4, v5, v6, none, some (.d (.int m)), some (.c 0)] cs ∧ (cs[0]? = some (.frz (.lst (.lst es :: r))) ∨ cs[0]? = some (.lst (.lst es :: r))) ∧ es.length < 1000000 := by
  obtain ⟨r1, h1⟩ := run_T2a h v0 v1 v2 v3 v4 v5 v6 (.c 0) rfl
  obtain ⟨r2, h2⟩ := run_T2b h v0 v1 v2 v3 v4 v5 v6 r1
  obtain ⟨es, r, h3, h4⟩ := bitsD_cons h
  refine ⟨.frz (.lst (bitsD m)) :: r2, es, r, ?_, .inl (by rw [h3]; rfl), h4⟩
  · rw [e_scons, run_D1 h, OS.andThen_nx]
    show sIf _ _ _ _ _ = _
    rw [e_sif, e_or, e_test, h1, bT_ok, Out.bind_ok, if_neg Bool.false_ne_true, e_test, h2, bT_ok, Out.st_ok, if_neg Bool.false_ne_true]
end
theorem bits_ok {m : Nat} (h : m ≤ 6) (w0 w1 w2 w3 w4 w5 w6 : W) : BitsOk [8] 9 (sCons D1 D2) [some w0, some w1, some w2, some w3, some w4, some w5, some w6, none, some (.d (.int m)), none] := by
  refine ⟨by simp, fun j w hj hw => ?_, fun rv => ?_⟩
  · simp at hj
    subst hj
    simp at hw
    subst hw
    rfl
  · have e : frS [8] rv 0 [some w0, some w1, some w2, some w3, some w4, some w5, some w6, none, some (.d (.int m)), none] = [some (.raw (rv 0)), some (.raw (rv 1)), some (.raw (rv 2)), some (.raw (rv 3)), some (.raw (rv 4)), some (.raw (rv 5)), some (.raw (rv 6)), none, some (.d (.int m)), none] := rfl
    rw [e]
    exact run_block h _ _ _ _ _ _ _
end Pm

namespace Pm
open PySem L2 PyProof.Rows SX
/-! ### steps -/
section
variable {sl : Sl} {c c1 c2 c3 : Cells} {w w1 w2 w3 : W} {f f1 f2 f3 : Den} {g : List W → Cells → Out W} {as : Sl → Cells → Out (List W)} {ws : List W} {o : W → List W → Cells → Out W} {T : String}
theorem x_a1 (h1 : f1 sl c = .ok w1 c1) : dCons f1 dNil sl c = .ok [w1] c1 := by
  rw [e_cons, h1]
  exact id rfl
theorem x_a2 (h1 : f1 sl c = .ok w1 c1) (h2 : f2 sl c1 = .ok w2 c2) : dCons f1 (dCons f2 dNil) sl c = .ok [w1, w2] c2 := by
  rw [e_cons, h1, Out.bind_ok, x_a1 h2]
  exact id rfl
theorem x_a3 (h1 : f1 sl c = .ok w1 c1) (h2 : f2 sl c1 = .ok w2 c2) (h3 : f3 sl c2 = .ok w3 c3) : dCons f1 (dCons f2 (dCons f3 dNil)) sl c = .ok [w1, w2, w3] c3 := by
  rw [e_cons, h1, Out.bind_ok, x_a2 h2 h3]
  exact id rfl
theorem x_call (h : as sl c = .ok ws c1) : dCall g as sl c = g ws c1 := by rw [e_call, h, Out.bind_ok]
theorem x_n1 (h : as sl c = .ok [w1] c1) : dCallN 1 g as sl c = g [w1] c1 := by
  rw [e_callN, h, Out.bind_ok]
  exact if_pos rfl
theorem x_n2 (h : as sl c = .ok [w1, w2] c1) : dCallN 2 g as sl c = g [w1, w2] c1 := by
  rw [e_callN, h, Out.bind_ok]
  exact if_pos rfl
theorem x_bin {p : W → W → Cells → Out W} (h1 : f1 sl c = .ok w1 c1) (h2 : f2 sl c1 = .ok w2 c2) : dBin p f1 f2 sl c = p w1 w2 c2 := by rw [e_bin, h1, Out.bind_ok, h2, Out.bind_ok]
theorem x_meth (h1 : f sl c = .ok w c1) (ht : tyOk T c1 w = true) (h2 : as sl c1 = .ok ws c2) : dMeth T o f as sl c = o w ws c2 := by
  rw [e_meth, h1, Out.bind_ok, if_pos ht, h2, Out.bind_ok]
theorem x_lst {ds : List D} (h : as sl c = .ok ws c1) (h2 : frzAll ws c1 = .ok ds c2) (hl : ds.length ≤ 1000000) : dLst as sl c = .ok (.c c2.length) (c2 ++ [.lst ds]) := by
  rw [e_lst, h, Out.bind_ok, h2, Out.bind_ok, mkL_of _ hl]
theorem x_tup {ds : List D} (h : as sl c = .ok ws c1) (h2 : frzAll ws c1 = .ok ds c2) (hl : ds.length ≤ 1000000) : dTup as sl c = .ok (.d (.tup ds)) c2 := by
  rw [e_tup, h, Out.bind_ok, h2, Out.bind_ok, mkT_of _ hl]
theorem x_test {b : Bool} (h : f sl c = .ok (.d (.bl b)) c1) : dTest f sl c = .ok b c1 := by rw [e_test, h, bT_ok]
theorem x_ifT {t : Sl → Cells → Out Bool} {p q : SDen} (h : t sl c = .ok true c1) : sIf t p q sl c = p sl c1 := by rw [e_sif, h, Out.st_ok, if_pos rfl]
theorem x_ifF {t : Sl → Cells → Out Bool} {p q : SDen} (h : t sl c = .ok false c1) : sIf t p q sl c = q sl c1 := by rw [e_sif, h, Out.st_ok, if_neg Bool.false_ne_true]
theorem x_set {i : Nat} (h : f sl c = .ok w c1) : sSet i f sl c = .nx (sl.set i (some w)) c1 := by rw [e_set, h, Out.st_ok]
theorem x_exp (h : f sl c = .ok w c1) : sExp f sl c = .nx sl c1 := by rw [e_exp, h, Out.st_ok]
theorem x_ret (h : f sl c = .ok w c1) : sRet f sl c = .ret w c1 := by rw [e_ret, h, Out.st_ok]
theorem x_seq {p q : SDen} {sl1 : Sl} (h : p sl c = .nx sl1 c1) : sCons p q sl c = q sl1 c1 := by rw [e_scons, h, OS.andThen_nx]
end
/-! ### the drawn sorts -/
abbrev st (a b : Int) (ss : List (Str × Str)) (lf : List Str) (ext : Cells) : Cells := pc a b (.lst (ss.map sD) :: .lst (lf.map D.str) :: ext)
structure Iv (rf t : Nat) (ss : List (Str × Str)) (lf : List Str) : Prop where
  nd : (ss.map (·.1) ++ lf).Nodup
  mem : ∀ n ∈ ss.map (·.1) ++ lf, n ∈ pool
  len : lf.length = 8 - t
  sl : ss.length ≤ t
  kd : ∀ p ∈ ss, p.2 ∈ kinds
  refs : (ss.filter isRef).length = min t rf
theorem erase_perm : ∀ {lf : List Str} {v : Nat} {n : Str}, lf[v]? = some n → (n :: lf.eraseIdx v).Perm lf
  | [], v, n, h => by simp at h
  | x :: l, 0, n, h => by
    simp at h
    subst h
    exact List.Perm.refl _
  | x :: l, v + 1, n, h => by
    have ih := erase_perm (lf := l) (v := v) (n := n) (by simpa using h)
    exact (List.Perm.swap x n _).trans (ih.cons x)
theorem erase_map {α β : Type} (f : α → β) : ∀ (l : List α) (v : Nat), (l.map f).eraseIdx v = (l.eraseIdx v).map f
  | [], v => by simp
  | x :: l, 0 => rfl
  | x :: l, v + 1 => by
    show f x :: (l.map f).eraseIdx v = f x :: (l.eraseIdx v).map f
    rw [erase_map f l v]
theorem Iv.skip {rf t : Nat} {ss : List (Str × Str)} {lf : List Str} {v : Nat} {n : Str} (I : Iv rf t ss lf) (h : lf[v]? = some n) (ht : ¬ t < rf) : Iv rf (t + 1) ss (lf.eraseIdx v) := by
  have p := erase_perm h
  have p2 : (n :: (ss.map (·.1) ++ lf.eraseIdx v)).Perm (ss.map (·.1) ++ lf) := List.perm_middle.symm.trans (p.append_left _)
  have hl := p.length_eq
  rw [List.length_cons, I.len] at hl
  refine ⟨(List.nodup_cons.mp (p2.nodup_iff.mpr I.nd)).2, fun m hm => I.mem m (p2.mem_iff.mp (List.mem_cons_of_mem _ hm)), by omega, by have := I.sl; omega, I.kd, by rw [I.refs]; omega⟩
theorem Iv.put {rf t : Nat} {ss ss' : List (Str × Str)} {lf : List Str} {v : Nat} {n k : Str} (I : Iv rf t ss lf) (h : lf[v]? = some n) (hp : ss'.Perm ((n, k) :: ss)) (hk : k ∈ kinds) (hr : (if isRef (n, k) = true then 1 else 0) + min t rf = min (t + 1) rf) : Iv rf (t + 1) ss' (lf.eraseIdx v) := by
  have p := erase_perm h
  have p1 : (ss'.map (·.1)).Perm (n :: ss.map (·.1)) := hp.map _
  have p2 : (ss'.map (·.1) ++ lf.eraseIdx v).Perm (ss.map (·.1) ++ lf) := (p1.append_right _).trans (List.perm_middle.symm.trans (p.append_left _))
  have hl := p.length_eq
  rw [List.length_cons, I.len] at hl
  refine ⟨p2.nodup_iff.mpr I.nd, fun m hm => I.mem m (p2.mem_iff.mp hm), by omega, by rw [hp.length_eq, List.length_cons]; have := I.sl; omega, fun q hq => ?_, ?_⟩
  · rcases List.mem_cons.mp (hp.mem_iff.mp hq) with e | e
    · subst e; exact hk
    · exact I.kd q e
  · rw [(hp.filter isRef).length_eq, List.filter_cons]
    have := I.refs
    split
    · rename_i e; rw [if_pos e] at hr; rw [List.length_cons, this]; omega
    · rename_i e; rw [if_neg e] at hr; rw [this]; omega
theorem seq_at {v n : Nat} (h : v < n) : seqIndex? (v : Int) n = some v := by
  have : ixN n (v : Int) = some v := by
    unfold ixN
    rw [if_pos (by omega), if_pos (by omega)]
    simp
  exact (ixN_seq this).1
theorem o_pop {a b : Int} {ss : List (Str × Str)} {lf : List Str} {ext : Cells} {v : Nat} {n : Str} (h : lf[v]? = some n) (hl : lf.length ≤ 100) : oPopAt (.c 2) [.d (.int v)] (st a b ss lf ext) = .ok (.d (.str n)) (st a b ss (lf.eraseIdx v) ext) := by
  have hv := (List.getElem?_eq_some_iff.mp h).1
  unfold oPopAt
  dsimp only [st, pc, List.getElem?_cons_succ, List.getElem?_cons_zero]
  rw [if_pos (by omega), List.length_map, seq_at hv]
  dsimp only
  rw [List.getElem?_map, h]
  dsimp only [Option.map_some]
  rw [erase_map]
  rfl
def three : List D := [.str "int", .str "fun", .str "test"]
def k3 (k : Str) : Prop := k = Str.ofString "int" ∨ k = Str.ofString "fun" ∨ k = Str.ofString "test"
theorem k3_kinds {k : Str} (h : k3 k) : k ∈ kinds := by
  rcases h with rfl | rfl | rfl <;> simp [kinds]
theorem k3_ref {n k : Str} (h : k3 k) : isRef (n, k) = false := by
  unfold isRef
  rcases h with rfl | rfl | rfl
  · show decide (Str.ofString "int" = Str.ofString "ref") = false; decide +kernel
  · show decide (Str.ofString "fun" = Str.ofString "ref") = false; decide +kernel
  · show decide (Str.ofString "test" = Str.ofString "ref") = false; decide +kernel
theorem ref_ref (n : Str) : isRef (n, Str.ofString "ref") = true := by
  unfold isRef
  show decide (Str.ofString "ref" = Str.ofString "ref") = true
  decide +kernel
theorem t_pick {a b : Int} (h : okP a b) (r : Cells) : ∃ (k : Str) (a' b' : Int), k3 k ∧ okP a' b' ∧ g__law_pick [.c 0, .c (pc a b r).length] (pc a b r ++ [.lst three]) = .ok (.d (.str k)) (pc a' b' r ++ [.lst three]) := by
  obtain ⟨v, a1, b1, hv, ok1, e1⟩ := t_draw h 3 (by decide) (by decide) (r ++ [.lst three])
  have e1 : g__law_draw [.c 0, .d (.int 3)] (pc a b r ++ [.lst three]) = .ok (.d (.int v)) (pc a1 b1 r ++ [.lst three]) := e1
  obtain ⟨k, hk, hk3⟩ : ∃ k, atI three (v : Int) = some (.str k) ∧ k3 k := by
    have : v = 0 ∨ v = 1 ∨ v = 2 := by omega
    rcases this with rfl | rfl | rfl
    · exact ⟨_, rfl, .inl rfl⟩
    · exact ⟨_, rfl, .inr (.inl rfl)⟩
    · exact ⟨_, rfl, .inr (.inr rfl)⟩
  refine ⟨k, a1, b1, hk3, ok1, ?_⟩
  unfold g__law_pick
  rw [runB_of [some (.c 0), some (.c (pc a b r).length)] rfl]
  unfold d__law_pick
  have l1 : oLen [.c (pc a b r).length] (pc a b r ++ [.lst three]) = .ok (.d (.int 3)) (pc a b r ++ [.lst three]) := by
    unfold oLen
    dsimp only
    rw [ca_rd]
    rfl
  have i1 : oIx (.c (pc a b r).length) (.d (.int v)) (pc a1 b1 r ++ [.lst three]) = .ok (.d (.str k)) (pc a1 b1 r ++ [.lst three]) := by
    have : (pc a b r).length = (pc a1 b1 r).length := rfl
    rw [this]
    unfold oIx
    rw [ca_rd]
    dsimp only
    rw [hk]
  have v0 : ∀ c, dVar 0 [some (.c 0), some (.c (pc a b r).length)] c = .ok (.c 0) c := fun c => rfl
  have v1 : ∀ c, dVar 1 [some (.c 0), some (.c (pc a b r).length)] c = .ok (.c (pc a b r).length) c := fun c => rfl
  rw [x_ret ((x_bin (v1 _) ((x_n2 (x_a2 (v0 _) ((x_call (x_a1 (v1 _))).trans l1))).trans e1)).trans i1), finR_ret]
  have : ∀ X : List O, (pc a1 b1 r ++ X).take (pc a b r ++ X).length = pc a1 b1 r ++ X := fun X => List.take_of_length_le (Nat.le_refl _)
  rw [this]
noncomputable abbrev POP : Den := (dMeth "list" oPopAt (dVar 3) (dCons (dCallN 2 g__law_draw (dCons (dVar 0) (dCons (dCall oLen (dCons (dVar 3) dNil)) dNil))) dNil))
noncomputable abbrev APP : Den := (dMeth "list" oAppend (dVar 2) (dCons (dTup (dCons (dVar 5) (dCons (dC (.str "ref")) dNil))) dNil))
noncomputable abbrev DR2 : Den := (dBin oEq (dCallN 2 g__law_draw (dCons (dVar 0) (dCons (dC (.int 2)) dNil))) (dC (.int 0)))
noncomputable abbrev INS : Den := (dMeth "list" oInsert (dVar 2) (dCons (dCallN 2 g__law_draw (dCons (dVar 0) (dCons (dBin oAdd (dCall oLen (dCons (dVar 2) dNil)) (dC (.int 1))) dNil))) (dCons (dTup (dCons (dVar 5) (dCons (dCallN 2 g__law_pick (dCons (dVar 0) (dCons (dLst (dCons (dC (.str "int")) (dCons (dC (.str "fun")) (dCons (dC (.str "test")) dNil)))) dNil))) dNil))) dNil)))
noncomputable abbrev BODY : SDen := (sCons (sSet 5 POP) (sIf (dTest (dBin oLt (dVar 4) (dVar 1))) (sExp APP) (sIf (dTest DR2) (sExp INS) OS.nx)))
abbrev sl0 (rf : Nat) (x4 x5 : Option W) : Sl := [some (.c 0), some (.d (.int rf)), some (.c 1), some (.c 2), x4, x5, none, none, none, none]
section
variable {a b : Int} {ss : List (Str × Str)} {lf : List Str} {ext : Cells} {rf t : Nat} {x4 x5 : Option W}
theorem run_POP (h : okP a b) (I : Iv rf t ss lf) (ht : t < 8) : ∃ (v : Nat) (n : Str) (a' b' : Int), lf[v]? = some n ∧ okP a' b' ∧ POP (sl0 rf x4 x5) (st a b ss lf ext) = .ok (.d (.str n)) (st a' b' ss (lf.eraseIdx v) ext) := by
  have hl := I.len
  obtain ⟨v, a1, b1, hv, ok1, e1⟩ := t_draw h lf.length (by omega) (by omega) (.lst (ss.map sD) :: .lst (lf.map D.str) :: ext)
  have hn : lf[v]? = some lf[v] := by simp [hv]
  refine ⟨v, lf[v], a1, b1, hn, ok1, ?_⟩
  have p1 := o_pop (a := a1) (b := b1) (ss := ss) (ext := ext) hn (by omega)
  have l1 : oLen [.c 2] (st a b ss lf ext) = .ok (.d (.int lf.length)) (st a b ss lf ext) := by
    show Out.ok (W.d (D.int ((lf.map D.str).length : Nat))) _ = _
    rw [List.length_map]
  have ty : tyOk "list" (st a b ss lf ext) (.c 2) = true := rfl
  have v3 : ∀ c, dVar 3 (sl0 rf x4 x5) c = .ok (.c 2) c := fun c => rfl
  have v0 : ∀ c, dVar 0 (sl0 rf x4 x5) c = .ok (.c 0) c := fun c => rfl
  exact (x_meth (v3 _) ty (x_a1 ((x_n2 (x_a2 (v0 _) ((x_call (x_a1 (v3 _))).trans l1))).trans e1))).trans p1
theorem run_APP (n : Str) (hl : ss.length ≤ 100) : APP (sl0 rf x4 (some (.d (.str n)))) (st a b ss lf ext) = .ok (.d .non) (st a b (ss ++ [(n, Str.ofString "ref")]) lf ext) := by
  have v2 : ∀ c, dVar 2 (sl0 rf x4 (some (.d (.str n)))) c = .ok (.c 1) c := fun c => rfl
  have v5 : ∀ c, dVar 5 (sl0 rf x4 (some (.d (.str n)))) c = .ok (.d (.str n)) c := fun c => rfl
  have ty : tyOk "list" (st a b ss lf ext) (.c 1) = true := rfl
  refine (x_meth (v2 _) ty (x_a1 (x_tup (ds := [.str n, .str "ref"]) (x_a2 (v5 _) (e_c _ _ _)) (fr2 _ _ _) (by simp)))).trans ?_
  unfold oAppend
  dsimp only
  rw [fz_d, Out.bind_ok]
  dsimp only [st, pc, List.getElem?_cons_succ, List.getElem?_cons_zero]
  rw [if_pos (by rw [List.length_map]; omega)]
  rw [List.map_append]
  rfl
theorem run_DR2 (h : okP a b) : ∃ (q : Bool) (a' b' : Int), okP a' b' ∧ DR2 (sl0 rf x4 x5) (st a b ss lf ext) = .ok (.d (.bl q)) (st a' b' ss lf ext) := by
  obtain ⟨v, a1, b1, hv, ok1, e1⟩ := t_draw h 2 (by decide) (by decide) (.lst (ss.map sD) :: .lst (lf.map D.str) :: ext)
  have e1 : g__law_draw [.c 0, .d (.int 2)] (st a b ss lf ext) = .ok (.d (.int v)) (st a1 b1 ss lf ext) := e1
  refine ⟨decide ((v : Int) = 0), a1, b1, ok1, ?_⟩
  have v0 : ∀ c, dVar 0 (sl0 rf x4 x5) c = .ok (.c 0) c := fun c => rfl
  exact (x_bin ((x_n2 (x_a2 (v0 _) (e_c _ _ _))).trans e1) (e_c _ _ _)).trans (o_eqI _ _ _)
theorem run_INS (h : okP a b) (n : Str) (hl : ss.length ≤ 100) : ∃ (j : Nat) (k : Str) (a' b' : Int) (ext' : Cells), k3 k ∧ okP a' b' ∧ INS (sl0 rf x4 (some (.d (.str n)))) (st a b ss lf ext) = .ok (.d .non) (st a' b' (ss.take j ++ [(n, k)] ++ ss.drop j) lf ext') := by
  obtain ⟨j, a1, b1, hj, ok1, e1⟩ := t_draw h (ss.length + 1) (by omega) (by omega) (.lst (ss.map sD) :: .lst (lf.map D.str) :: ext)
  obtain ⟨k, a2, b2, hk, ok2, e2⟩ := t_pick ok1 (.lst (ss.map sD) :: .lst (lf.map D.str) :: ext)
  refine ⟨j, k, a2, b2, ext ++ [.lst three], hk, ok2, ?_⟩
  have v0 : ∀ c, dVar 0 (sl0 rf x4 (some (.d (.str n)))) c = .ok (.c 0) c := fun c => rfl
  have v2 : ∀ c, dVar 2 (sl0 rf x4 (some (.d (.str n)))) c = .ok (.c 1) c := fun c => rfl
  have v5 : ∀ c, dVar 5 (sl0 rf x4 (some (.d (.str n)))) c = .ok (.d (.str n)) c := fun c => rfl
  have ty : tyOk "list" (st a b ss lf ext) (.c 1) = true := rfl
  have l1 : oLen [.c 1] (st a b ss lf ext) = .ok (.d (.int ss.length)) (st a b ss lf ext) := by
    show Out.ok (W.d (D.int ((ss.map sD).length : Nat))) _ = _
    rw [List.length_map]
  have e1 : g__law_draw [.c 0, .d (.int ((ss.length : Int) + 1))] (st a b ss lf ext) = .ok (.d (.int j)) (st a1 b1 ss lf ext) := e1
  have e2 : g__law_pick [.c 0, .c (st a1 b1 ss lf ext).length] (st a1 b1 ss lf ext ++ [.lst three]) = .ok (.d (.str k)) (st a2 b2 ss lf ext ++ [.lst three]) := e2
  have l3 : ∀ c, dLst (dCons (dC (.str "int")) (dCons (dC (.str "fun")) (dCons (dC (.str "test")) dNil))) (sl0 rf x4 (some (.d (.str n)))) c = .ok (.c c.length) (c ++ [.lst three]) := fun c =>
    x_lst (ds := three) (x_a3 (e_c _ _ _) (e_c _ _ _) (e_c _ _ _)) (fr3 _ _ _ _) (by decide)
  have dr := (x_n2 (g := g__law_draw) (x_a2 (v0 (st a b ss lf ext)) ((x_bin ((x_call (x_a1 (v2 _))).trans l1) (e_c _ _ _)).trans (o_addI _ _ _)))).trans e1
  have tp := x_tup (x_a2 (v5 (st a1 b1 ss lf ext)) ((x_n2 (g := g__law_pick) (x_a2 (v0 _) (l3 _))).trans e2)) (fr2 _ _ _) (by simp)
  refine (x_meth (v2 _) ty (x_a2 dr tp)).trans ?_
  unfold oInsert
  dsimp only
  rw [fz_d, Out.bind_ok]
  dsimp only [st, pc, List.getElem?_cons_succ, List.getElem?_cons_zero, List.cons_append]
  rw [if_pos ⟨by omega, by omega, by rw [List.length_map]; omega⟩]
  rw [List.map_append, List.map_append, ← List.map_take, ← List.map_drop]
  rfl
theorem run_BODY (h : okP a b) (I : Iv rf t ss lf) (ht : t < 8) : ∃ (a' b' : Int) (ss' : List (Str × Str)) (lf' : List Str) (ext' : Cells) (n : Str), okP a' b' ∧ Iv rf (t + 1) ss' lf' ∧ BODY (sl0 rf (some (.d (.int t))) x5) (st a b ss lf ext) = .nx (sl0 rf (some (.d (.int t))) (some (.d (.str n)))) (st a' b' ss' lf' ext') := by
  obtain ⟨v, n, a1, b1, hn, ok1, e1⟩ := run_POP (x4 := some (.d (.int t))) (x5 := x5) (ext := ext) h I ht
  have hsl := I.sl
  have set5 : (sl0 rf (some (.d (.int t))) x5).set 5 (some (.d (.str n))) = sl0 rf (some (.d (.int t))) (some (.d (.str n))) := rfl
  have tst : ∀ c, dTest (dBin oLt (dVar 4) (dVar 1)) (sl0 rf (some (.d (.int t))) (some (.d (.str n)))) c = .ok (decide ((t : Int) < (rf : Int))) c := fun c => rfl
  have first : BODY (sl0 rf (some (.d (.int t))) x5) (st a b ss lf ext) = (sIf (dTest (dBin oLt (dVar 4) (dVar 1))) (sExp APP) (sIf (dTest DR2) (sExp INS) OS.nx)) (sl0 rf (some (.d (.int t))) (some (.d (.str n)))) (st a1 b1 ss (lf.eraseIdx v) ext) := by
    show sCons _ _ _ _ = _
    rw [e_scons, e_set, e1, Out.st_ok, OS.andThen_nx, set5]
  by_cases hr : t < rf
  · refine ⟨a1, b1, ss ++ [(n, Str.ofString "ref")], lf.eraseIdx v, ext, n, ok1, I.put hn (List.perm_append_comm (l₁ := ss) (l₂ := [(n, Str.ofString "ref")])) (by simp [kinds]) (by rw [if_pos (ref_ref n)]; omega), ?_⟩
    rw [first, e_sif, tst, Out.st_ok, decide_eq_true (by omega : (t : Int) < (rf : Int)), if_pos rfl, e_exp, run_APP n (by omega), Out.st_ok]
  · obtain ⟨q, a2, b2, ok2, e2⟩ := run_DR2 (rf := rf) (x4 := some (.d (.int t))) (x5 := some (.d (.str n))) (ss := ss) (lf := lf.eraseIdx v) (ext := ext) ok1
    cases q with
    | false =>
      refine ⟨a2, b2, ss, lf.eraseIdx v, ext, n, ok2, I.skip hn hr, ?_⟩
      rw [first, e_sif, tst, Out.st_ok, decide_eq_false (by omega : ¬ (t : Int) < (rf : Int)), if_neg Bool.false_ne_true, e_sif, e_test, e2, bT_ok, Out.st_ok, if_neg Bool.false_ne_true]
    | true =>
      obtain ⟨j, k, a3, b3, ext3, hk, ok3, e3⟩ := run_INS (rf := rf) (x4 := some (.d (.int t))) (ss := ss) (lf := lf.eraseIdx v) (ext := ext) ok2 n (by omega)
      refine ⟨a3, b3, ss.take j ++ [(n, k)] ++ ss.drop j, lf.eraseIdx v, ext3, n, ok3, I.put hn ?_ (k3_kinds hk) (by rw [if_neg (by rw [k3_ref hk]; exact Bool.false_ne_true)]; omega), ?_⟩
      · have : (ss.take j ++ [(n, k)] ++ ss.drop j).Perm ((n, k) :: (ss.take j ++ ss.drop j)) := by
          rw [List.append_assoc]
          exact List.perm_middle
        rwa [List.take_append_drop] at this
      · rw [first, e_sif, tst, Out.st_ok, decide_eq_false (by omega : ¬ (t : Int) < (rf : Int)), if_neg Bool.false_ne_true, e_sif, e_test, e2, bT_ok, Out.st_ok, if_pos rfl, e_exp, e3, Out.st_ok]
end
theorem t_loop {rf : Nat} : ∀ (n t : Nat) (a b : Int) (ss : List (Str × Str)) (lf : List Str) (ext : Cells) (x4 x5 : Option W), t + n = 8 → okP a b → Iv rf t ss lf →
    ∃ (a' b' : Int) (ss' : List (Str × Str)) (ext' : Cells) (y4 y5 : Option W), okP a' b' ∧ Iv rf 8 ss' [] ∧ forL (gtName 4) BODY ((List.range' t n).map fun i : Nat => D.int (i : Int)) (sl0 rf x4 x5) (st a b ss lf ext) = .nx (sl0 rf y4 y5) (st a' b' ss' [] ext')
  | 0, t, a, b, ss, lf, ext, x4, x5, hn, h, I => by
    obtain rfl : t = 8 := by omega
    have : lf = [] := List.eq_nil_of_length_eq_zero (by have := I.len; omega)
    subst this
    exact ⟨a, b, ss, ext, x4, x5, h, I, rfl⟩
  | n + 1, t, a, b, ss, lf, ext, x4, x5, hn, h, I => by
    obtain ⟨a1, b1, ss1, lf1, ext1, nm, ok1, I1, e1⟩ := run_BODY (x5 := x5) (ext := ext) h I (by omega)
    obtain ⟨a2, b2, ss2, ext2, y4, y5, ok2, I2, e2⟩ := t_loop n (t + 1) a1 b1 ss1 lf1 ext1 (some (.d (.int t))) (some (.d (.str nm))) (by omega) ok1 I1
    refine ⟨a2, b2, ss2, ext2, y4, y5, ok2, I2, ?_⟩
    rw [List.range'_succ, List.map_cons, forL_cons]
    have g1 : gtName 4 (.d (.int (t : Int))) (sl0 rf x4 x5) (st a b ss lf ext) = .nx (sl0 rf (some (.d (.int t))) x5) (st a b ss lf ext) := rfl
    rw [g1, OS.only_nx, OS.andThen_nx, e1]
    exact e2
end Pm

namespace Pm
open PySem L2 PyProof.Rows SX
theorem frS9 (rv : Nat → V) (m : Nat) (v0 v1 v2 v3 v4 v5 v6 : Option W) : ∃ u0 u1 u2 u3 u4 u5 u6, frS [8] rv 0 [v0, v1, v2, v3, v4, v5, v6, none, some (.d (.int m)), none] = [u0, u1, u2, u3, u4, u5, u6, none, some (.d (.int m)), none] := ⟨_, _, _, _, _, _, _, rfl⟩
theorem bits_ok' {m : Nat} (h : m ≤ 6) (v0 v1 v2 v3 v4 v5 v6 : Option W) : BitsOk [8] 9 (sCons D1 D2) [v0, v1, v2, v3, v4, v5, v6, none, some (.d (.int m)), none] := by
  refine ⟨by simp, fun j w hj hw => ?_, fun rv => ?_⟩
  · simp at hj
    subst hj
    simp at hw
    subst hw
    rfl
  · obtain ⟨u0, u1, u2, u3, u4, u5, u6, e⟩ := frS9 rv m v0 v1 v2 v3 v4 v5 v6
    rw [e]
    exact run_block h _ _ _ _ _ _ _
theorem x_callF {g : List W → Cells → Out W} {as : Sl → Cells → Out (List W)} {sl : Sl} {c c1 : Cells} {d : D} {ds : List D} (h : as sl c = .ok [.d d] c1) (hg : g [.d d] [] = .ok (.c 0) [.lst ds]) (ha : atomD d = true) : dCallF 1 g as sl c = .ok (.c c1.length) (c1 ++ [.lst ds]) := by
  rw [e_callF, h, Out.bind_ok, callF_of hg ha]
theorem fz_mid (c : Cells) (A : List D) (e : Cells) : fz (.c c.length) ((c ++ [.lst A]) ++ e) = .ok (.lst A) ((c ++ [.frz (.lst A)]) ++ e) := by
  unfold fz
  have : ((c ++ [O.lst A]) ++ e)[c.length]? = some (.lst A) := by simp
  dsimp only
  rw [this]
  dsimp only [O.val]
  congr 1
  simp
theorem fz_mid' (c : Cells) (A : List D) (e : Cells) : fz (.c c.length) ((c ++ [.frz (.lst A)]) ++ e) = .ok (.lst A) ((c ++ [.frz (.lst A)]) ++ e) := by
  unfold fz
  have : ((c ++ [O.frz (.lst A)]) ++ e)[c.length]? = some (.frz (.lst A)) := by simp
  dsimp only
  rw [this]
  dsimp only [O.val]
  congr 1
  simp
theorem fz_end (c : Cells) (A : List D) : fz (.c c.length) (c ++ [.lst A]) = .ok (.lst A) (c ++ [.frz (.lst A)]) := by
  have := fz_mid c A []
  rwa [List.append_nil, List.append_nil] at this
theorem frz2 (c : Cells) (A B : List D) : frzAll [.c c.length, .c (c ++ [O.lst A]).length] ((c ++ [.lst A]) ++ [.lst B]) = .ok [.lst A, .lst B] ((c ++ [.frz (.lst A)]) ++ [.frz (.lst B)]) := by
  have : (c ++ [O.lst A]).length = (c ++ [O.frz (.lst A)]).length := by simp
  rw [this]
  unfold frzAll
  rw [fz_mid, Out.bind_ok]
  unfold frzAll
  rw [fz_end, Out.bind_ok]
  exact id rfl
theorem frz_dup (c : Cells) (A : List D) (e : Cells) : frzAll [.c c.length, .c c.length] ((c ++ [.lst A]) ++ e) = .ok [.lst A, .lst A] ((c ++ [.frz (.lst A)]) ++ e) := by
  unfold frzAll
  rw [fz_mid, Out.bind_ok]
  unfold frzAll
  rw [fz_mid', Out.bind_ok]
  exact id rfl
theorem frz_last (c : Cells) (A B : List D) (e : Cells) : frzAll [.c c.length, .c ((c ++ [O.frz (.lst A)]) ++ e).length] (((c ++ [.frz (.lst A)]) ++ e) ++ [.lst B]) = .ok [.lst A, .lst B] (((c ++ [.frz (.lst A)]) ++ e) ++ [.frz (.lst B)]) := by
  unfold frzAll
  rw [show ((c ++ [O.frz (.lst A)]) ++ e) ++ [O.lst B] = (c ++ [O.frz (.lst A)]) ++ (e ++ [.lst B]) by simp, fz_mid', Out.bind_ok]
  unfold frzAll
  rw [show (c ++ [O.frz (.lst A)]) ++ (e ++ [O.lst B]) = ((c ++ [O.frz (.lst A)]) ++ e) ++ [.lst B] by simp, fz_end, Out.bind_ok]
  exact id rfl
theorem e_for8 (sl : Sl) (c : Cells) (g : W → SDen) (b : SDen) : sFor (iRng1D (dCons (dC (.int 8)) dNil)) g b sl c = forL g b ((List.range' 0 8).map fun i : Nat => D.int (i : Int)) sl c := by
  have e1 : iRng1D (dCons (dC (.int 8)) dNil) sl c = .ok (rngItems 0 8) c := by
    unfold iRng1D
    rw [x_a1 (e_c _ _ _), Out.bind_ok]
    exact if_pos (by decide)
  unfold sFor
  rw [e1, Out.st_ok]
  have hb : 8 < bigN := by unfold bigN; decide
  generalize bigN = m at hb ⊢
  refine loopF_fix (item := rngItems 0 8) (ds := (List.range' 0 8).map fun i : Nat => D.int (i : Int)) (fun i c => ?_) g b _ m 0 sl c rfl (by simpa using hb)
  unfold rngItems
  by_cases h : i < 8
  · rw [if_pos h]
    have : i = 0 ∨ i = 1 ∨ i = 2 ∨ i = 3 ∨ i = 4 ∨ i = 5 ∨ i = 6 ∨ i = 7 := by omega
    rcases this with rfl | rfl | rfl | rfl | rfl | rfl | rfl | rfl <;> rfl
  · rw [if_neg h, List.getElem?_eq_none (by simp; omega)]
theorem tfl_ss (ss : List (Str × Str)) : (ss.map sD).all tflD = true := by
  rw [List.all_eq_true]
  intro d hd
  obtain ⟨p, _, rfl⟩ := List.mem_map.mp hd
  rfl
theorem o_tupof (ss : List (Str × Str)) (c : Cells) (k : Nat) (h : c[k]? = some (.lst (ss.map sD))) (hl : ss.length ≤ 1000) : oTupOf [.c k] c = .ok (.d (.tup (ss.map sD))) c := by
  unfold oTupOf
  dsimp only
  rw [rd_c, h]
  dsimp only [Option.map_some, O.val]
  exact mkT_of _ (by rw [List.length_map]; omega)
theorem x_callK {g : List W → Cells → Out W} {as : Sl → Cells → Out (List W)} {sl : Sl} {c c1 : Cells} {w : W} (h : as sl c = .ok [w] c1) : dCallK 1 [0] g as sl c = g [w] c1 := by
  unfold dCallK
  rw [h, Out.bind_ok, perm0]
  exact if_pos rfl
def fives : List D := [.int 1, .int 1, .int 2, .int 5, .int 15]
theorem at5 {m : Nat} (h : m ≤ 4) : atI fives (m : Int) = some (.int ((partD m).length : Nat)) := by
  rcases to4 h with rfl | rfl | rfl | rfl | rfl <;> kernel_rfl
theorem partD_cons {m : Nat} (h : m ≤ 4) : ∃ es r, partD m = .lst es :: r ∧ es.length < 1000000 ∧ r.length + 1 < 1000000 := by
  rcases to4 h with rfl | rfl | rfl | rfl | rfl
  · exact ⟨_, _, rfl, by decide, by decide⟩
  · exact ⟨_, _, rfl, by decide, by decide⟩
  · exact ⟨_, _, rfl, by decide +kernel, by decide +kernel⟩
  · exact ⟨_, _, rfl, by decide +kernel, by decide +kernel⟩
  · exact ⟨_, _, rfl, by decide +kernel, by decide +kernel⟩
noncomputable abbrev T4a : Den := (dBin oNe (dCall oRepr (dCons (dLst (dCons (dCallN 1 g_partitions (dCons (dVar 2) dNil)) (dCons (dCallK 1 [0] g_partitions (dCons (dCall oTupOf (dCons (dVar 2) dNil)) dNil)) dNil))) dNil)) (dCall oRepr (dCons (dLst (dCons (dVar 6) (dCons (dVar 6) dNil))) dNil)))
noncomputable abbrev T4b : Den := (dBin oNe (dCall oLen (dCons (dVar 6) dNil)) (dBin oIx (dLst (dCons (dC (.int 1)) (dCons (dC (.int 1)) (dCons (dC (.int 2)) (dCons (dC (.int 5)) (dCons (dC (.int 15)) dNil)))))) (dVar 1)))
noncomputable abbrev R9 : Den := (dBin oEq (dCall oRepr (dCons (dLst (dCons (dCallN 1 g_partitions (dCons (dVar 2) dNil)) (dCons (dCallF 1 g_bit_rows (dCons (dVar 8) dNil)) dNil))) dNil)) (dCall oRepr (dCons (dLst (dCons (dVar 6) (dCons (dCallF 1 g__law_counted (dCons (dVar 8) dNil)) dNil))) dNil)))
section
variable {a b : Int} {ss : List (Str × Str)} {ext : Cells} {rf m : Nat} {y4 y5 : Option W}
abbrev sl6 (rf N : Nat) (y4 y5 : Option W) (y8 : Option W) : Sl := [some (.c 0), some (.d (.int rf)), some (.c 1), some (.c 2), y4, y5, some (.c N), none, y8, none]
theorem run_T4a (g : Good ss rf) (y8 : Option W) : ∃ e, T4a (sl6 rf (st a b ss [] ext).length y4 y5 y8) (st a b ss [] ext ++ [.lst (partD rf)]) = .ok (.d (.bl false)) ((st a b ss [] ext ++ [.frz (.lst (partD rf))]) ++ e) := by
  obtain ⟨s, hs⟩ := s_parts g.few
  obtain ⟨c0, hc0⟩ : ∃ c0, c0 = st a b ss [] ext := ⟨_, rfl⟩
  obtain ⟨sl, hsl⟩ : ∃ sl, sl = sl6 rf c0.length y4 y5 y8 := ⟨_, rfl⟩
  rw [← hc0, ← hsl]
  have at1 : ∀ e, (c0 ++ e)[1]? = some (.lst (ss.map sD)) := fun e => by rw [hc0]; rfl
  have v2 : ∀ c, dVar 2 sl c = .ok (.c 1) c := fun c => by rw [hsl]; exact id rfl
  have v6 : ∀ c, dVar 6 sl c = .ok (.c c0.length) c := fun c => by rw [hsl]; exact id rfl
  have p1 : ∀ e, dCallN 1 g_partitions (dCons (dVar 2) dNil) sl (c0 ++ e) = .ok (.c (c0 ++ e).length) ((c0 ++ e) ++ [.lst (partD rf)]) := fun e => (x_n1 (x_a1 (v2 _))).trans (t_partitions (seqW_c (at1 e)) g)
  have p2 : ∀ e, dCallK 1 [0] g_partitions (dCons (dCall oTupOf (dCons (dVar 2) dNil)) dNil) sl (c0 ++ e) = .ok (.c (c0 ++ e).length) ((c0 ++ e) ++ [.lst (partD rf)]) := fun e =>
    (x_callK (x_a1 ((x_call (x_a1 (v2 _))).trans (o_tupof ss _ 1 (at1 e) (by have := g.len; omega))))).trans (t_partitions seqW_d g)
  have l1 : dLst (dCons (dCallN 1 g_partitions (dCons (dVar 2) dNil)) (dCons (dCallK 1 [0] g_partitions (dCons (dCall oTupOf (dCons (dVar 2) dNil)) dNil)) dNil)) sl (c0 ++ [.lst (partD rf)]) = _ := x_lst (x_a2 (p1 [.lst (partD rf)]) ((congrArg _ (List.append_assoc _ _ _)).trans ((p2 ([.lst (partD rf)] ++ [.lst (partD rf)])).trans (by rw [← List.append_assoc])))) (frz2 (c0 ++ [.lst (partD rf)]) (partD rf) (partD rf)) (by simp)
  have r1 := (x_call (g := oRepr) (x_a1 l1)).trans (o_repr hs _)
  have l2 : ∀ e, dLst (dCons (dVar 6) (dCons (dVar 6) dNil)) sl ((c0 ++ [.lst (partD rf)]) ++ e) = _ := fun e => x_lst (x_a2 (v6 _) (v6 _)) (frz_dup c0 (partD rf) e) (by simp)
  have r2 := fun e => (x_call (g := oRepr) (x_a1 (l2 e))).trans (o_repr hs _)
  refine ⟨([.frz (.lst (partD rf)), .frz (.lst (partD rf)), .lst [.lst (partD rf), .lst (partD rf)]] : Cells) ++ [.lst [.lst (partD rf), .lst (partD rf)]], ?_⟩
  have r2' := r2 [.frz (.lst (partD rf)), .frz (.lst (partD rf)), .lst [.lst (partD rf), .lst (partD rf)]]
  have as : (((c0 ++ [O.lst (partD rf)]) ++ [O.frz (.lst (partD rf))]) ++ [O.frz (.lst (partD rf))]) ++ [O.lst [.lst (partD rf), .lst (partD rf)]] = (c0 ++ [.lst (partD rf)]) ++ [.frz (.lst (partD rf)), .frz (.lst (partD rf)), .lst [.lst (partD rf), .lst (partD rf)]] := by simp
  rw [as] at r1
  refine ((x_bin r1 r2').trans (o_neS _ _ _)).trans ?_
  rw [decide_eq_true rfl, List.append_assoc]
  rfl
theorem run_T4b (g : Good ss rf) (y8 : Option W) (e : Cells) : ∃ e', T4b (sl6 rf (st a b ss [] ext).length y4 y5 y8) ((st a b ss [] ext ++ [.frz (.lst (partD rf))]) ++ e) = .ok (.d (.bl false)) ((st a b ss [] ext ++ [.frz (.lst (partD rf))]) ++ e') := by
  obtain ⟨c0, hc0⟩ : ∃ c0, c0 = st a b ss [] ext := ⟨_, rfl⟩
  obtain ⟨sl, hsl⟩ : ∃ sl, sl = sl6 rf c0.length y4 y5 y8 := ⟨_, rfl⟩
  rw [← hc0, ← hsl]
  have v1 : ∀ c, dVar 1 sl c = .ok (.d (.int rf)) c := fun c => by rw [hsl]; exact id rfl
  have v6 : ∀ c, dVar 6 sl c = .ok (.c c0.length) c := fun c => by rw [hsl]; exact id rfl
  have ln : oLen [.c c0.length] ((c0 ++ [.frz (.lst (partD rf))]) ++ e) = .ok (.d (.int ((partD rf).length : Nat))) ((c0 ++ [.frz (.lst (partD rf))]) ++ e) := by
    unfold oLen
    dsimp only
    have : rd ((c0 ++ [.frz (.lst (partD rf))]) ++ e) (.c c0.length) = some (.lst (partD rf)) := by
      rw [rd_c]
      have : ((c0 ++ [O.frz (.lst (partD rf))]) ++ e)[c0.length]? = some (.frz (.lst (partD rf))) := by simp
      rw [this]
      rfl
    rw [this]
  have l1 : ∀ c, dLst (dCons (dC (.int 1)) (dCons (dC (.int 1)) (dCons (dC (.int 2)) (dCons (dC (.int 5)) (dCons (dC (.int 15)) dNil))))) sl c = .ok (.c c.length) (c ++ [.lst fives]) := fun c => by
    rw [e_lst]
    simp only [e_cons, e_c, e_nil, Out.bind_ok]
    exact mkL_of _ (by decide)
  have ix : ∀ c : Cells, oIx (.c c.length) (.d (.int rf)) (c ++ [.lst fives]) = .ok (.d (.int ((partD rf).length : Nat))) (c ++ [.lst fives]) := fun c => by
    unfold oIx
    rw [ca_rd]
    dsimp only
    rw [at5 g.few]
  refine ⟨e ++ [.lst fives], ?_⟩
  refine ((x_bin ((x_call (x_a1 (v6 _))).trans ln) ((x_bin (l1 _) (v1 _)).trans (ix _)))).trans ?_
  rw [← List.append_assoc]
  show Out.ok (W.d (D.bl (!decide ((((partD rf).length : Nat) : Int) = (((partD rf).length : Nat) : Int))))) _ = _
  rw [decide_eq_true rfl]
  rfl
theorem run_R9 (g : Good ss rf) (hm : m ≤ 6) (e : Cells) : ∃ e', R9 (sl6 rf (st a b ss [] ext).length y4 y5 (some (.d (.int m)))) ((st a b ss [] ext ++ [.frz (.lst (partD rf))]) ++ e) = .ok (.d (.bl true)) e' := by
  obtain ⟨s, hs⟩ := s_both g.few hm
  obtain ⟨c0, hc0⟩ : ∃ c0, c0 = st a b ss [] ext := ⟨_, rfl⟩
  obtain ⟨sl, hsl⟩ : ∃ sl, sl = sl6 rf c0.length y4 y5 (some (.d (.int m))) := ⟨_, rfl⟩
  rw [← hc0, ← hsl]
  have at1 : ∀ e, (c0 ++ e)[1]? = some (.lst (ss.map sD)) := fun e => by rw [hc0]; rfl
  have v2 : ∀ c, dVar 2 sl c = .ok (.c 1) c := fun c => by rw [hsl]; exact id rfl
  have v6 : ∀ c, dVar 6 sl c = .ok (.c c0.length) c := fun c => by rw [hsl]; exact id rfl
  have v8 : ∀ c, dVar 8 sl c = .ok (.d (.int m)) c := fun c => by rw [hsl]; exact id rfl
  have p1 : ∀ e, dCallN 1 g_partitions (dCons (dVar 2) dNil) sl (c0 ++ e) = .ok (.c (c0 ++ e).length) ((c0 ++ e) ++ [.lst (partD rf)]) := fun e => (x_n1 (x_a1 (v2 _))).trans (t_partitions (seqW_c (at1 e)) g)
  have b1 : ∀ c, dCallF 1 g_bit_rows (dCons (dVar 8) dNil) sl c = .ok (.c c.length) (c ++ [.lst (bitsD m)]) := fun c => x_callF (x_a1 (v8 _)) (t_bits hm) rfl
  have b2 : ∀ c, dCallF 1 g__law_counted (dCons (dVar 8) dNil) sl c = .ok (.c c.length) (c ++ [.lst (bitsD m)]) := fun c => x_callF (x_a1 (v8 _)) (t_counted hm) rfl
  have l1 : ∀ e, dLst (dCons (dCallN 1 g_partitions (dCons (dVar 2) dNil)) (dCons (dCallF 1 g_bit_rows (dCons (dVar 8) dNil)) dNil)) sl (c0 ++ e) = _ := fun e => x_lst (x_a2 (p1 e) (b1 _)) (frz2 (c0 ++ e) (partD rf) (bitsD m)) (by simp)
  have r1 := fun e => (x_call (g := oRepr) (x_a1 (l1 e))).trans (o_repr hs _)
  have l2 : ∀ e, dLst (dCons (dVar 6) (dCons (dCallF 1 g__law_counted (dCons (dVar 8) dNil)) dNil)) sl ((c0 ++ [.frz (.lst (partD rf))]) ++ e) = _ := fun e => x_lst (x_a2 (v6 _) (b2 _)) (frz_last c0 (partD rf) (bitsD m) e) (by simp)
  have r2 := fun e => (x_call (g := oRepr) (x_a1 (l2 e))).trans (o_repr hs _)
  have r1' := r1 ([.frz (.lst (partD rf))] ++ e)
  have as : (((c0 ++ ([O.frz (.lst (partD rf))] ++ e)) ++ [O.frz (.lst (partD rf))]) ++ [O.frz (.lst (bitsD m))]) ++ [O.lst [.lst (partD rf), .lst (bitsD m)]] = (c0 ++ [.frz (.lst (partD rf))]) ++ (e ++ [.frz (.lst (partD rf)), .frz (.lst (bitsD m)), .lst [.lst (partD rf), .lst (bitsD m)]]) := by simp
  rw [as, ← List.append_assoc] at r1'
  have fin := (x_bin (p := oEq) r1' (r2 _)).trans (o_eqS _ _ _)
  rw [decide_eq_true rfl] at fin
  exact ⟨_, fin⟩
end
end Pm

namespace Pm
open PySem L2 PyProof.Rows SX
theorem Iv.good {rf : Nat} {ss : List (Str × Str)} (I : Iv rf 8 ss []) (h : rf ≤ 4) : Good ss rf :=
  ⟨fun p hp => I.mem p.1 (List.mem_append_left _ (List.mem_map.mpr ⟨p, hp, rfl⟩)), I.kd, by have := I.nd; rwa [List.append_nil] at this, by have := I.sl; omega, by rw [I.refs]; omega, h⟩
theorem Iv.start (rf : Nat) : Iv rf 0 [] pool :=
  ⟨(by decide +kernel : pool.Nodup), fun n hn => hn, by decide +kernel, Nat.le_refl _, fun p hp => (nomatch hp), (Nat.zero_min rf).symm⟩
theorem told_ok {ss : List (Str × Str)} {rf i : Nat} (g : Good ss rf) {sl : Sl} (hi : i < sl.length) {c : Cells} (h : c[1]? = some (.lst (ss.map sD))) (hset : c.set 1 (.lst (ss.map sD)) = c) : told i g_partitions [.c 1] sl c = .nx (sl.set i none) c := by
  obtain ⟨es, r, e1, e2, e3⟩ := partD_cons g.few
  have p : g_partitions [.c 0] [.lst (ss.map sD)] = .ok (.c 1) ([.lst (ss.map sD)] ++ [.lst (partD rf)]) := t_partitions (w := .c 0) (c := [.lst (ss.map sD)]) (seqW_c rfl) g
  rw [e1] at p
  unfold told
  dsimp only
  rw [h]
  dsimp only
  rw [if_pos (tfl_ss ss), p]
  unfold toldOut
  show (if (ss.map sD).all tflD = true ∧ es.length < 1000000 ∧ r.length + 1 < 1000000 ∧ i < sl.length then OS.nx (sl.set i none) (c.set 1 (.lst (ss.map sD))) else .bad) = _
  rw [if_pos ⟨tfl_ss ss, e2, e3, hi⟩, hset]
theorem st_of {a b : Int} {ss : List (Str × Str)} {lf : List Str} {ext e : Cells} : (st a b ss lf ext ++ e)[1]? = some (.lst (ss.map sD)) := rfl
theorem st_set (a b : Int) (ss : List (Str × Str)) (lf : List Str) (ext e : Cells) : (st a b ss lf ext ++ e).set 1 (.lst (ss.map sD)) = st a b ss lf ext ++ e := rfl
theorem fr8 (a b d e f g h k : D) (c : Cells) : frzAll [.d a, .d b, .d d, .d e, .d f, .d g, .d h, .d k] c = .ok [a, b, d, e, f, g, h, k] c := rfl
theorem t_right {a b : Int} (h : okP a b) : ∃ c, g__law_right [.c 0] (pc a b []) = .ok (.d (.bl true)) c := by
  unfold g__law_right
  rw [runB_of [some (.c 0), none, none, none, none, none, none, none, none, none] rfl]
  unfold d__law_right
  -- how many references
  obtain ⟨rf, a1, b1, hrf, ok1, e1⟩ := t_draw h 5 (by decide) (by decide) []
  have e1 : g__law_draw [.c 0, .d (.int 5)] (pc a b []) = .ok (.d (.int rf)) (pc a1 b1 []) := e1
  have v0 : ∀ c, dVar 0 [some (.c 0), none, none, none, none, none, none, none, none, none] c = .ok (.c 0) c := fun c => rfl
  have nl : ∀ (sl : Sl) c, dLst dNil sl c = .ok (.c c.length) (c ++ [.lst []]) := fun sl c => x_lst (e_nil _ _) (fr0 _) (by decide)
  have S1 : sPar 1 2 (dCons (dCallN 2 g__law_draw (dCons (dVar 0) (dCons (dC (.int 5)) dNil))) (dCons (dLst dNil) dNil)) [some (.c 0), none, none, none, none, none, none, none, none, none] (pc a b []) = .nx [some (.c 0), some (.d (.int rf)), some (.c 1), none, none, none, none, none, none, none] (pc a1 b1 [.lst []]) := by
    rw [e_par, x_a2 ((x_n2 (x_a2 (v0 _) (e_c _ _ _))).trans e1) (nl _ _), Out.st_ok]
    rfl
  have S2 : sSet 3 (dLst (dCons (dC (.str "a")) (dCons (dC (.str "b")) (dCons (dC (.str "c")) (dCons (dC (.str "d")) (dCons (dC (.str "e")) (dCons (dC (.str "g")) (dCons (dC (.str "h")) (dCons (dC (.str "k")) dNil))))))))) [some (.c 0), some (.d (.int rf)), some (.c 1), none, none, none, none, none, none, none] (pc a1 b1 [.lst []]) = .nx (sl0 rf none none) (st a1 b1 [] pool []) := by
    have args : dCons (dC (.str "a")) (dCons (dC (.str "b")) (dCons (dC (.str "c")) (dCons (dC (.str "d")) (dCons (dC (.str "e")) (dCons (dC (.str "g")) (dCons (dC (.str "h")) (dCons (dC (.str "k")) dNil))))))) [some (.c 0), some (.d (.int rf)), some (.c 1), none, none, none, none, none, none, none] (pc a1 b1 [.lst []]) = .ok [.d (.str "a"), .d (.str "b"), .d (.str "c"), .d (.str "d"), .d (.str "e"), .d (.str "g"), .d (.str "h"), .d (.str "k")] (pc a1 b1 [.lst []]) := by
      simp only [e_cons, e_c, e_nil, Out.bind_ok]
    exact x_set (x_lst args (fr8 _ _ _ _ _ _ _ _ _) (by simp))
  obtain ⟨a2, b2, ss, ext, y4, y5, ok2, I2, e2⟩ := t_loop 8 0 a1 b1 [] pool [] none none rfl ok1 (Iv.start rf)
  have g := I2.good (by omega)
  have S3 := (e_for8 (sl0 rf none none) (st a1 b1 [] pool []) (gtName 4) BODY).trans e2
  have S4 : sSet 6 (dCallF 1 g__law_listed (dCons (dVar 1) dNil)) (sl0 rf y4 y5) (st a2 b2 ss [] ext) = .nx (sl6 rf (st a2 b2 ss [] ext).length y4 y5 none) (st a2 b2 ss [] ext ++ [.lst (partD rf)]) := by
    have v1 : ∀ c, dVar 1 (sl0 rf y4 y5) c = .ok (.d (.int rf)) c := fun c => rfl
    exact x_set (x_callF (x_a1 (v1 _)) (t_listed g.few) rfl)
  obtain ⟨x1, T1⟩ := run_T4a (a := a2) (b := b2) (ext := ext) (y4 := y4) (y5 := y5) g none
  obtain ⟨x2, T2⟩ := run_T4b (a := a2) (b := b2) (ext := ext) (y4 := y4) (y5 := y5) g none x1
  have S5 : sIf (dOr (dTest T4a) (dTest T4b)) (sRet (dC (.bl false))) OS.nx (sl6 rf (st a2 b2 ss [] ext).length y4 y5 none) (st a2 b2 ss [] ext ++ [.lst (partD rf)]) = .nx (sl6 rf (st a2 b2 ss [] ext).length y4 y5 none) ((st a2 b2 ss [] ext ++ [.frz (.lst (partD rf))]) ++ x2) := by
    rw [e_sif, e_or, x_test T1, Out.bind_ok, if_neg Bool.false_ne_true, x_test T2, Out.st_ok, if_neg Bool.false_ne_true]
  rw [x_seq S1, x_seq S2, x_seq S3, x_seq S4, x_seq S5]
  -- the told list changed
  have T7 := told_ok (i := 7) g (sl := sl6 rf (st a2 b2 ss [] ext).length y4 y5 none) (by simp) (c := (st a2 b2 ss [] ext ++ [.frz (.lst (partD rf))]) ++ x2) (by rw [List.append_assoc]; exact st_of) (by rw [List.append_assoc]; exact st_set _ _ _ _ _ _)
  have v2 : ∀ c, dVar 2 (sl6 rf (st a2 b2 ss [] ext).length y4 y5 none) c = .ok (.c 1) c := fun c => rfl
  have S7 : ∀ f : SDen, sTold 7 g_partitions (dCons (dVar 2) dNil) f (sl6 rf (st a2 b2 ss [] ext).length y4 y5 none) ((st a2 b2 ss [] ext ++ [.frz (.lst (partD rf))]) ++ x2) = f (sl6 rf (st a2 b2 ss [] ext).length y4 y5 none) ((st a2 b2 ss [] ext ++ [.frz (.lst (partD rf))]) ++ x2) := fun f => by
    unfold sTold
    rw [x_a1 (v2 _), Out.st_ok, T7, OS.andThen_nx]
    rfl
  rw [S7]
  obtain ⟨m, a3, b3, hm, ok3, e3⟩ := t_draw ok2 7 (by decide) (by decide) ((.lst (ss.map sD) :: .lst (([] : List Str).map D.str) :: ext ++ [.frz (.lst (partD rf))]) ++ x2)
  have e3 : g__law_draw [.c 0, .d (.int 7)] ((st a2 b2 ss [] ext ++ [.frz (.lst (partD rf))]) ++ x2) = .ok (.d (.int m)) ((st a3 b3 ss [] ext ++ [.frz (.lst (partD rf))]) ++ x2) := e3
  have w0 : ∀ c, dVar 0 (sl6 rf (st a2 b2 ss [] ext).length y4 y5 none) c = .ok (.c 0) c := fun c => rfl
  have S8 : sSet 8 (dCallN 2 g__law_draw (dCons (dVar 0) (dCons (dC (.int 7)) dNil))) (sl6 rf (st a2 b2 ss [] ext).length y4 y5 none) ((st a2 b2 ss [] ext ++ [.frz (.lst (partD rf))]) ++ x2) = .nx (sl6 rf (st a3 b3 ss [] ext).length y4 y5 (some (.d (.int m)))) ((st a3 b3 ss [] ext ++ [.frz (.lst (partD rf))]) ++ x2) :=
    x_set ((x_n2 (x_a2 (w0 _) (e_c _ _ _))).trans e3)
  rw [x_seq S8]
  have hm6 : m ≤ 6 := by omega
  have S9 : ∀ (f : SDen) c, sBits [8] 9 (sCons D1 D2) f (sl6 rf (st a3 b3 ss [] ext).length y4 y5 (some (.d (.int m)))) c = f (sl6 rf (st a3 b3 ss [] ext).length y4 y5 (some (.d (.int m)))) c := fun f c => by
    unfold sBits
    rw [if_pos (bits_ok' hm6 _ _ _ _ _ _ _)]
    rfl
  rw [S9]
  obtain ⟨x3, T9⟩ := run_R9 (a := a3) (b := b3) (ext := ext) (y4 := y4) (y5 := y5) g hm6 x2
  rw [x_ret T9, finR_ret]
  exact ⟨_, rfl⟩
theorem t_law (ns : List Int) : ∃ c, g_law [.d (.arr ns)] [] = .ok (.d (.bl true)) c := by
  obtain ⟨a, b, ok, e⟩ := t_pot ns
  obtain ⟨c, e2⟩ := t_right ok
  unfold g_law
  rw [runB_of [some (.d (.arr ns))] rfl]
  unfold d_law
  have v0 : ∀ c, dVar 0 [some (.d (.arr ns))] c = .ok (.d (.arr ns)) c := fun c => rfl
  rw [x_ret ((x_n1 (x_a1 ((x_n2 (x_a2 (v0 _) (e_c _ _ _))).trans e))).trans e2), finR_ret]
  exact ⟨_, rfl⟩
end Pm

namespace Pm
open PySem L2 PyProof.Rows
theorem sci_InvalidMany : FnScope ["self", "value"] ["self", "value"] (defScope si_InvalidMany) := ⟨rfl, rfl, rfl, by decide +kernel, rfl, by decide +kernel, by decide +kernel⟩
theorem sci_InvalidSorts : FnScope ["self", "value"] ["self", "value"] (defScope si_InvalidSorts) := ⟨rfl, rfl, rfl, by decide +kernel, rfl, by decide +kernel, by decide +kernel⟩
theorem all_mk {l : PySem.W.OpenLaw} {w : World} {K : PySem.W.Frag} {h : Heap} {mg : Str → Option Value} {fl : Addr} (X : K.In h) (G : h.Ns mainGlobals mg) (hfl : mg "law" = some (.ref fl))
    {A_KEYWORDS : Addr} {od_KEYWORDS : Option Addr} {its_KEYWORDS : Array Value} {n_KEYWORDS : Nat} {sl_KEYWORDS : Array (Option Value)}
    {tk_LONGEST_NAME : Tok}
    {tk_MOST_BITS : Tok}
    {tk_MOST_BOOLS : Tok}
    {tk_MOST_REFS : Tok}
    {tk_MOST_SORTS : Tok}
    {A_SORTS : Addr} {od_SORTS : Option Addr} {its_SORTS : Array Value} {n_SORTS : Nat} {sl_SORTS : Array (Option Value)}
    {C_InvalidMany : Addr}
    {C_InvalidSorts : Addr}
    {nm_InvalidMany q_InvalidMany : Str} {N_InvalidMany : Addr} {bs_InvalidMany bm_InvalidMany : List Value} {sn_InvalidMany : List Str} {sb_InvalidMany : List Value} {ab_InvalidMany : Bool} {col_InvalidMany : Option Bool} {dd_InvalidMany : Option Addr} {m0_InvalidMany m1_InvalidMany m2_InvalidMany m3_InvalidMany m5_InvalidMany : Option Value} {f_InvalidMany : Addr} {od_InvalidMany an_InvalidMany : Option Addr} {sl_InvalidMany : Array (Option Value)} {oc_InvalidMany kV_InvalidMany dc_InvalidMany pm_InvalidMany cd_InvalidMany ct_InvalidMany : Value}
    {nm_InvalidSorts q_InvalidSorts : Str} {N_InvalidSorts : Addr} {bs_InvalidSorts bm_InvalidSorts : List Value} {sn_InvalidSorts : List Str} {sb_InvalidSorts : List Value} {ab_InvalidSorts : Bool} {col_InvalidSorts : Option Bool} {dd_InvalidSorts : Option Addr} {m0_InvalidSorts m1_InvalidSorts m2_InvalidSorts m3_InvalidSorts m5_InvalidSorts : Option Value} {f_InvalidSorts : Addr} {od_InvalidSorts an_InvalidSorts : Option Addr} {sl_InvalidSorts : Array (Option Value)} {oc_InvalidSorts kV_InvalidSorts dc_InvalidSorts pm_InvalidSorts cd_InvalidSorts ct_InvalidSorts : Value}
    {F__law_pot : Addr} {fod__law_pot fan__law_pot : Option Addr} {fsl__law_pot : Array (Option Value)} {foc__law_pot fkV__law_pot fdc__law_pot fpm__law_pot fcd__law_pot fct__law_pot : Value}
    {F__law_counted : Addr} {fod__law_counted fan__law_counted : Option Addr} {fsl__law_counted : Array (Option Value)} {foc__law_counted fkV__law_counted fdc__law_counted fpm__law_counted fcd__law_counted fct__law_counted : Value}
    {F__law_draw : Addr} {fod__law_draw fan__law_draw : Option Addr} {fsl__law_draw : Array (Option Value)} {foc__law_draw fkV__law_draw fdc__law_draw fpm__law_draw fcd__law_draw fct__law_draw : Value}
    {F__law_rises : Addr} {fod__law_rises fan__law_rises : Option Addr} {fsl__law_rises : Array (Option Value)} {foc__law_rises fkV__law_rises fdc__law_rises fpm__law_rises fcd__law_rises fct__law_rises : Value}
    {F__law_listed : Addr} {fod__law_listed fan__law_listed : Option Addr} {fsl__law_listed : Array (Option Value)} {foc__law_listed fkV__law_listed fdc__law_listed fpm__law_listed fcd__law_listed fct__law_listed : Value}
    {F__law_pick : Addr} {fod__law_pick fan__law_pick : Option Addr} {fsl__law_pick : Array (Option Value)} {foc__law_pick fkV__law_pick fdc__law_pick fpm__law_pick fcd__law_pick fct__law_pick : Value}
    {F_all_bits : Addr} {fod_all_bits fan_all_bits : Option Addr} {fsl_all_bits : Array (Option Value)} {foc_all_bits fkV_all_bits fdc_all_bits fpm_all_bits fcd_all_bits fct_all_bits : Value}
    {F_is_integer : Addr} {fod_is_integer fan_is_integer : Option Addr} {fsl_is_integer : Array (Option Value)} {foc_is_integer fkV_is_integer fdc_is_integer fpm_is_integer fcd_is_integer fct_is_integer : Value}
    {F_is_count : Addr} {fod_is_count fan_is_count : Option Addr} {fsl_is_count : Array (Option Value)} {foc_is_count fkV_is_count fdc_is_count fpm_is_count fcd_is_count fct_is_count : Value}
    {F_bit_rows : Addr} {fod_bit_rows fan_bit_rows : Option Addr} {fsl_bit_rows : Array (Option Value)} {foc_bit_rows fkV_bit_rows fdc_bit_rows fpm_bit_rows fcd_bit_rows fct_bit_rows : Value}
    {F_all_partitions : Addr} {fod_all_partitions fan_all_partitions : Option Addr} {fsl_all_partitions : Array (Option Value)} {foc_all_partitions fkV_all_partitions fdc_all_partitions fpm_all_partitions fcd_all_partitions fct_all_partitions : Value}
    {F_all_unlike : Addr} {fod_all_unlike fan_all_unlike : Option Addr} {fsl_all_unlike : Array (Option Value)} {foc_all_unlike fkV_all_unlike fdc_all_unlike fpm_all_unlike fcd_all_unlike fct_all_unlike : Value}
    {F_is_run : Addr} {fod_is_run fan_is_run : Option Addr} {fsl_is_run : Array (Option Value)} {foc_is_run fkV_is_run fdc_is_run fpm_is_run fcd_is_run fct_is_run : Value}
    {F_is_short_name : Addr} {fod_is_short_name fan_is_short_name : Option Addr} {fsl_is_short_name : Array (Option Value)} {foc_is_short_name fkV_is_short_name fdc_is_short_name fpm_is_short_name fcd_is_short_name fct_is_short_name : Value}
    {F_names_of : Addr} {fod_names_of fan_names_of : Option Addr} {fsl_names_of : Array (Option Value)} {foc_names_of fkV_names_of fdc_names_of fpm_names_of fcd_names_of fct_names_of : Value}
    {F_is_sorts : Addr} {fod_is_sorts fan_is_sorts : Option Addr} {fsl_is_sorts : Array (Option Value)} {foc_is_sorts fkV_is_sorts fdc_is_sorts fpm_is_sorts fcd_is_sorts fct_is_sorts : Value}
    {F_partitions : Addr} {fod_partitions fan_partitions : Option Addr} {fsl_partitions : Array (Option Value)} {foc_partitions fkV_partitions fdc_partitions fpm_partitions fcd_partitions fct_partitions : Value}
    {F__law_right : Addr} {fod__law_right fan__law_right : Option Addr} {fsl__law_right : Array (Option Value)} {foc__law_right fkV__law_right fdc__law_right fpm__law_right fcd__law_right fct__law_right : Value}
    {F_law : Addr} {fod_law fan_law : Option Addr} {fsl_law : Array (Option Value)} {foc_law fkV_law fdc_law fpm_law fcd_law fct_law : Value}
    (z_abs : PySem.W.nsIn K mainGlobals "abs" = some none)
    (z_bool : PySem.W.nsIn K mainGlobals "bool" = some none)
    (z_divmod : PySem.W.nsIn K mainGlobals "divmod" = some none)
    (z_int : PySem.W.nsIn K mainGlobals "int" = some none)
    (z_isinstance : PySem.W.nsIn K mainGlobals "isinstance" = some none)
    (z_len : PySem.W.nsIn K mainGlobals "len" = some none)
    (z_list : PySem.W.nsIn K mainGlobals "list" = some none)
    (z_max : PySem.W.nsIn K mainGlobals "max" = some none)
    (z_range : PySem.W.nsIn K mainGlobals "range" = some none)
    (z_repr : PySem.W.nsIn K mainGlobals "repr" = some none)
    (z_sorted : PySem.W.nsIn K mainGlobals "sorted" = some none)
    (z_str : PySem.W.nsIn K mainGlobals "str" = some none)
    (z_sum : PySem.W.nsIn K mainGlobals "sum" = some none)
    (z_tuple : PySem.W.nsIn K mainGlobals "tuple" = some none)
    (a_KEYWORDS : PySem.W.nsIn K mainGlobals "KEYWORDS" = some (some (.ref A_KEYWORDS)))
    (l_KEYWORDS : K.lookup A_KEYWORDS = some ⟨.type "tuple", od_KEYWORDS, .seq its_KEYWORDS n_KEYWORDS, sl_KEYWORDS⟩)
    (e_KEYWORDS : its_KEYWORDS.toList.map absV = k_KEYWORDS.map fun y => some (V.str y))
    (a_LONGEST_NAME : PySem.W.nsIn K mainGlobals "LONGEST_NAME" = some (some (.int 20 tk_LONGEST_NAME)))
    (a_MOST_BITS : PySem.W.nsIn K mainGlobals "MOST_BITS" = some (some (.int 6 tk_MOST_BITS)))
    (a_MOST_BOOLS : PySem.W.nsIn K mainGlobals "MOST_BOOLS" = some (some (.int 3 tk_MOST_BOOLS)))
    (a_MOST_REFS : PySem.W.nsIn K mainGlobals "MOST_REFS" = some (some (.int 4 tk_MOST_REFS)))
    (a_MOST_SORTS : PySem.W.nsIn K mainGlobals "MOST_SORTS" = some (some (.int 8 tk_MOST_SORTS)))
    (a_SORTS : PySem.W.nsIn K mainGlobals "SORTS" = some (some (.ref A_SORTS)))
    (l_SORTS : K.lookup A_SORTS = some ⟨.type "tuple", od_SORTS, .seq its_SORTS n_SORTS, sl_SORTS⟩)
    (e_SORTS : its_SORTS.toList.map absV = k_SORTS.map fun y => some (V.str y))
    (a_InvalidMany : PySem.W.nsIn K mainGlobals "InvalidMany" = some (some (.ref C_InvalidMany)))
    (a_InvalidSorts : PySem.W.nsIn K mainGlobals "InvalidSorts" = some (some (.ref C_InvalidSorts)))
    (xL_InvalidMany : K.lookup C_InvalidMany = some (excClassObj nm_InvalidMany q_InvalidMany C_InvalidMany N_InvalidMany bs_InvalidMany bm_InvalidMany true sn_InvalidMany sb_InvalidMany ab_InvalidMany col_InvalidMany dd_InvalidMany m0_InvalidMany m1_InvalidMany m2_InvalidMany m3_InvalidMany m5_InvalidMany "ValueError.__new__"))
    (rv_InvalidMany : PySem.HandSPX.refsVE bm_InvalidMany = true)
    (sa_InvalidMany : PySem.W.findIn K (.ref C_InvalidMany) "__setattr__" = some (some (.builtin "object.__setattr__")))
    (eC_InvalidMany : PySem.W.subIn K (.ref C_InvalidMany) (.type "BaseException") = some true)
    (tC_InvalidMany : PySem.W.typeIn K (.ref C_InvalidMany) = some (.type "type"))
    (kC_InvalidMany : PySem.W.keepIn K (.ref C_InvalidMany) = true)
    (i1_InvalidMany : PySem.W.findIn K (.ref C_InvalidMany) "__init__" = some (some (.ref f_InvalidMany)))
    (it_InvalidMany : PySem.W.typeIn K (.ref f_InvalidMany) = some (.type "function"))
    (il_InvalidMany : K.lookup f_InvalidMany = some ⟨oc_InvalidMany, od_InvalidMany, .func (PySem.W.fnOf "__init__" "InvalidMany.__init__" (defArgs si_InvalidMany) (defBody si_InvalidMany) (defScope si_InvalidMany) .none kV_InvalidMany dc_InvalidMany pm_InvalidMany an_InvalidMany cd_InvalidMany ct_InvalidMany), sl_InvalidMany⟩)
    (ic_InvalidMany : PySem.W.codeIn K cd_InvalidMany "InvalidMany.__init__" = true)
    (ik_InvalidMany : PySem.W.keepIn K (.ref f_InvalidMany) = true)
    (no_InvalidMany : PySem.W.findIn K (.ref C_InvalidMany) "value" = some none)
    (xL_InvalidSorts : K.lookup C_InvalidSorts = some (excClassObj nm_InvalidSorts q_InvalidSorts C_InvalidSorts N_InvalidSorts bs_InvalidSorts bm_InvalidSorts true sn_InvalidSorts sb_InvalidSorts ab_InvalidSorts col_InvalidSorts dd_InvalidSorts m0_InvalidSorts m1_InvalidSorts m2_InvalidSorts m3_InvalidSorts m5_InvalidSorts "ValueError.__new__"))
    (rv_InvalidSorts : PySem.HandSPX.refsVE bm_InvalidSorts = true)
    (sa_InvalidSorts : PySem.W.findIn K (.ref C_InvalidSorts) "__setattr__" = some (some (.builtin "object.__setattr__")))
    (eC_InvalidSorts : PySem.W.subIn K (.ref C_InvalidSorts) (.type "BaseException") = some true)
    (tC_InvalidSorts : PySem.W.typeIn K (.ref C_InvalidSorts) = some (.type "type"))
    (kC_InvalidSorts : PySem.W.keepIn K (.ref C_InvalidSorts) = true)
    (i1_InvalidSorts : PySem.W.findIn K (.ref C_InvalidSorts) "__init__" = some (some (.ref f_InvalidSorts)))
    (it_InvalidSorts : PySem.W.typeIn K (.ref f_InvalidSorts) = some (.type "function"))
    (il_InvalidSorts : K.lookup f_InvalidSorts = some ⟨oc_InvalidSorts, od_InvalidSorts, .func (PySem.W.fnOf "__init__" "InvalidSorts.__init__" (defArgs si_InvalidSorts) (defBody si_InvalidSorts) (defScope si_InvalidSorts) .none kV_InvalidSorts dc_InvalidSorts pm_InvalidSorts an_InvalidSorts cd_InvalidSorts ct_InvalidSorts), sl_InvalidSorts⟩)
    (ic_InvalidSorts : PySem.W.codeIn K cd_InvalidSorts "InvalidSorts.__init__" = true)
    (ik_InvalidSorts : PySem.W.keepIn K (.ref f_InvalidSorts) = true)
    (no_InvalidSorts : PySem.W.findIn K (.ref C_InvalidSorts) "value" = some none)
    (fa__law_pot : PySem.W.nsIn K mainGlobals "_law_pot" = some (some (.ref F__law_pot)))
    (fl__law_pot : K.lookup F__law_pot = some ⟨foc__law_pot, fod__law_pot, .func (PySem.W.fnOf "_law_pot" "_law_pot" (defArgs s__law_pot) (defBody s__law_pot) (defScope s__law_pot) .none fkV__law_pot fdc__law_pot fpm__law_pot fan__law_pot fcd__law_pot fct__law_pot), fsl__law_pot⟩)
    (fc__law_pot : PySem.W.codeIn K fcd__law_pot "_law_pot" = true)
    (fk__law_pot : PySem.W.keepIn K (.ref F__law_pot) = true)
    (fa__law_counted : PySem.W.nsIn K mainGlobals "_law_counted" = some (some (.ref F__law_counted)))
    (fl__law_counted : K.lookup F__law_counted = some ⟨foc__law_counted, fod__law_counted, .func (PySem.W.fnOf "_law_counted" "_law_counted" (defArgs s__law_counted) (defBody s__law_counted) (defScope s__law_counted) .none fkV__law_counted fdc__law_counted fpm__law_counted fan__law_counted fcd__law_counted fct__law_counted), fsl__law_counted⟩)
    (fc__law_counted : PySem.W.codeIn K fcd__law_counted "_law_counted" = true)
    (fk__law_counted : PySem.W.keepIn K (.ref F__law_counted) = true)
    (fa__law_draw : PySem.W.nsIn K mainGlobals "_law_draw" = some (some (.ref F__law_draw)))
    (fl__law_draw : K.lookup F__law_draw = some ⟨foc__law_draw, fod__law_draw, .func (PySem.W.fnOf "_law_draw" "_law_draw" (defArgs s__law_draw) (defBody s__law_draw) (defScope s__law_draw) .none fkV__law_draw fdc__law_draw fpm__law_draw fan__law_draw fcd__law_draw fct__law_draw), fsl__law_draw⟩)
    (fc__law_draw : PySem.W.codeIn K fcd__law_draw "_law_draw" = true)
    (fk__law_draw : PySem.W.keepIn K (.ref F__law_draw) = true)
    (fa__law_rises : PySem.W.nsIn K mainGlobals "_law_rises" = some (some (.ref F__law_rises)))
    (fl__law_rises : K.lookup F__law_rises = some ⟨foc__law_rises, fod__law_rises, .func (PySem.W.fnOf "_law_rises" "_law_rises" (defArgs s__law_rises) (defBody s__law_rises) (defScope s__law_rises) .none fkV__law_rises fdc__law_rises fpm__law_rises fan__law_rises fcd__law_rises fct__law_rises), fsl__law_rises⟩)
    (fc__law_rises : PySem.W.codeIn K fcd__law_rises "_law_rises" = true)
    (fk__law_rises : PySem.W.keepIn K (.ref F__law_rises) = true)
    (fa__law_listed : PySem.W.nsIn K mainGlobals "_law_listed" = some (some (.ref F__law_listed)))
    (fl__law_listed : K.lookup F__law_listed = some ⟨foc__law_listed, fod__law_listed, .func (PySem.W.fnOf "_law_listed" "_law_listed" (defArgs s__law_listed) (defBody s__law_listed) (defScope s__law_listed) .none fkV__law_listed fdc__law_listed fpm__law_listed fan__law_listed fcd__law_listed fct__law_listed), fsl__law_listed⟩)
    (fc__law_listed : PySem.W.codeIn K fcd__law_listed "_law_listed" = true)
    (fk__law_listed : PySem.W.keepIn K (.ref F__law_listed) = true)
    (fa__law_pick : PySem.W.nsIn K mainGlobals "_law_pick" = some (some (.ref F__law_pick)))
    (fl__law_pick : K.lookup F__law_pick = some ⟨foc__law_pick, fod__law_pick, .func (PySem.W.fnOf "_law_pick" "_law_pick" (defArgs s__law_pick) (defBody s__law_pick) (defScope s__law_pick) .none fkV__law_pick fdc__law_pick fpm__law_pick fan__law_pick fcd__law_pick fct__law_pick), fsl__law_pick⟩)
    (fc__law_pick : PySem.W.codeIn K fcd__law_pick "_law_pick" = true)
    (fk__law_pick : PySem.W.keepIn K (.ref F__law_pick) = true)
    (fa_all_bits : PySem.W.nsIn K mainGlobals "all_bits" = some (some (.ref F_all_bits)))
    (fl_all_bits : K.lookup F_all_bits = some ⟨foc_all_bits, fod_all_bits, .func (PySem.W.fnOf "all_bits" "all_bits" (defArgs s_all_bits) (defBody s_all_bits) (defScope s_all_bits) .none fkV_all_bits fdc_all_bits fpm_all_bits fan_all_bits fcd_all_bits fct_all_bits), fsl_all_bits⟩)
    (fc_all_bits : PySem.W.codeIn K fcd_all_bits "all_bits" = true)
    (fk_all_bits : PySem.W.keepIn K (.ref F_all_bits) = true)
    (fa_is_integer : PySem.W.nsIn K mainGlobals "is_integer" = some (some (.ref F_is_integer)))
    (fl_is_integer : K.lookup F_is_integer = some ⟨foc_is_integer, fod_is_integer, .func (PySem.W.fnOf "is_integer" "is_integer" (defArgs s_is_integer) (defBody s_is_integer) (defScope s_is_integer) .none fkV_is_integer fdc_is_integer fpm_is_integer fan_is_integer fcd_is_integer fct_is_integer), fsl_is_integer⟩)
    (fc_is_integer : PySem.W.codeIn K fcd_is_integer "is_integer" = true)
    (fk_is_integer : PySem.W.keepIn K (.ref F_is_integer) = true)
    (fa_is_count : PySem.W.nsIn K mainGlobals "is_count" = some (some (.ref F_is_count)))
    (fl_is_count : K.lookup F_is_count = some ⟨foc_is_count, fod_is_count, .func (PySem.W.fnOf "is_count" "is_count" (defArgs s_is_count) (defBody s_is_count) (defScope s_is_count) .none fkV_is_count fdc_is_count fpm_is_count fan_is_count fcd_is_count fct_is_count), fsl_is_count⟩)
    (fc_is_count : PySem.W.codeIn K fcd_is_count "is_count" = true)
    (fk_is_count : PySem.W.keepIn K (.ref F_is_count) = true)
    (fa_bit_rows : PySem.W.nsIn K mainGlobals "bit_rows" = some (some (.ref F_bit_rows)))
    (fl_bit_rows : K.lookup F_bit_rows = some ⟨foc_bit_rows, fod_bit_rows, .func (PySem.W.fnOf "bit_rows" "bit_rows" (defArgs s_bit_rows) (defBody s_bit_rows) (defScope s_bit_rows) .none fkV_bit_rows fdc_bit_rows fpm_bit_rows fan_bit_rows fcd_bit_rows fct_bit_rows), fsl_bit_rows⟩)
    (fc_bit_rows : PySem.W.codeIn K fcd_bit_rows "bit_rows" = true)
    (fk_bit_rows : PySem.W.keepIn K (.ref F_bit_rows) = true)
    (fa_all_partitions : PySem.W.nsIn K mainGlobals "all_partitions" = some (some (.ref F_all_partitions)))
    (fl_all_partitions : K.lookup F_all_partitions = some ⟨foc_all_partitions, fod_all_partitions, .func (PySem.W.fnOf "all_partitions" "all_partitions" (defArgs s_all_partitions) (defBody s_all_partitions) (defScope s_all_partitions) .none fkV_all_partitions fdc_all_partitions fpm_all_partitions fan_all_partitions fcd_all_partitions fct_all_partitions), fsl_all_partitions⟩)
    (fc_all_partitions : PySem.W.codeIn K fcd_all_partitions "all_partitions" = true)
    (fk_all_partitions : PySem.W.keepIn K (.ref F_all_partitions) = true)
    (fa_all_unlike : PySem.W.nsIn K mainGlobals "all_unlike" = some (some (.ref F_all_unlike)))
    (fl_all_unlike : K.lookup F_all_unlike = some ⟨foc_all_unlike, fod_all_unlike, .func (PySem.W.fnOf "all_unlike" "all_unlike" (defArgs s_all_unlike) (defBody s_all_unlike) (defScope s_all_unlike) .none fkV_all_unlike fdc_all_unlike fpm_all_unlike fan_all_unlike fcd_all_unlike fct_all_unlike), fsl_all_unlike⟩)
    (fc_all_unlike : PySem.W.codeIn K fcd_all_unlike "all_unlike" = true)
    (fk_all_unlike : PySem.W.keepIn K (.ref F_all_unlike) = true)
    (fa_is_run : PySem.W.nsIn K mainGlobals "is_run" = some (some (.ref F_is_run)))
    (fl_is_run : K.lookup F_is_run = some ⟨foc_is_run, fod_is_run, .func (PySem.W.fnOf "is_run" "is_run" (defArgs s_is_run) (defBody s_is_run) (defScope s_is_run) .none fkV_is_run fdc_is_run fpm_is_run fan_is_run fcd_is_run fct_is_run), fsl_is_run⟩)
    (fc_is_run : PySem.W.codeIn K fcd_is_run "is_run" = true)
    (fk_is_run : PySem.W.keepIn K (.ref F_is_run) = true)
    (fa_is_short_name : PySem.W.nsIn K mainGlobals "is_short_name" = some (some (.ref F_is_short_name)))
    (fl_is_short_name : K.lookup F_is_short_name = some ⟨foc_is_short_name, fod_is_short_name, .func (PySem.W.fnOf "is_short_name" "is_short_name" (defArgs s_is_short_name) (defBody s_is_short_name) (defScope s_is_short_name) .none fkV_is_short_name fdc_is_short_name fpm_is_short_name fan_is_short_name fcd_is_short_name fct_is_short_name), fsl_is_short_name⟩)
    (fc_is_short_name : PySem.W.codeIn K fcd_is_short_name "is_short_name" = true)
    (fk_is_short_name : PySem.W.keepIn K (.ref F_is_short_name) = true)
    (fa_names_of : PySem.W.nsIn K mainGlobals "names_of" = some (some (.ref F_names_of)))
    (fl_names_of : K.lookup F_names_of = some ⟨foc_names_of, fod_names_of, .func (PySem.W.fnOf "names_of" "names_of" (defArgs s_names_of) (defBody s_names_of) (defScope s_names_of) .none fkV_names_of fdc_names_of fpm_names_of fan_names_of fcd_names_of fct_names_of), fsl_names_of⟩)
    (fc_names_of : PySem.W.codeIn K fcd_names_of "names_of" = true)
    (fk_names_of : PySem.W.keepIn K (.ref F_names_of) = true)
    (fa_is_sorts : PySem.W.nsIn K mainGlobals "is_sorts" = some (some (.ref F_is_sorts)))
    (fl_is_sorts : K.lookup F_is_sorts = some ⟨foc_is_sorts, fod_is_sorts, .func (PySem.W.fnOf "is_sorts" "is_sorts" (defArgs s_is_sorts) (defBody s_is_sorts) (defScope s_is_sorts) .none fkV_is_sorts fdc_is_sorts fpm_is_sorts fan_is_sorts fcd_is_sorts fct_is_sorts), fsl_is_sorts⟩)
    (fc_is_sorts : PySem.W.codeIn K fcd_is_sorts "is_sorts" = true)
    (fk_is_sorts : PySem.W.keepIn K (.ref F_is_sorts) = true)
    (fa_partitions : PySem.W.nsIn K mainGlobals "partitions" = some (some (.ref F_partitions)))
    (fl_partitions : K.lookup F_partitions = some ⟨foc_partitions, fod_partitions, .func (PySem.W.fnOf "partitions" "partitions" (defArgs s_partitions) (defBody s_partitions) (defScope s_partitions) .none fkV_partitions fdc_partitions fpm_partitions fan_partitions fcd_partitions fct_partitions), fsl_partitions⟩)
    (fc_partitions : PySem.W.codeIn K fcd_partitions "partitions" = true)
    (fk_partitions : PySem.W.keepIn K (.ref F_partitions) = true)
    (fa__law_right : PySem.W.nsIn K mainGlobals "_law_right" = some (some (.ref F__law_right)))
    (fl__law_right : K.lookup F__law_right = some ⟨foc__law_right, fod__law_right, .func (PySem.W.fnOf "_law_right" "_law_right" (defArgs s__law_right) (defBody s__law_right) (defScope s__law_right) .none fkV__law_right fdc__law_right fpm__law_right fan__law_right fcd__law_right fct__law_right), fsl__law_right⟩)
    (fc__law_right : PySem.W.codeIn K fcd__law_right "_law_right" = true)
    (fk__law_right : PySem.W.keepIn K (.ref F__law_right) = true)
    (fa_law : PySem.W.nsIn K mainGlobals "law" = some (some (.ref F_law)))
    (fl_law : K.lookup F_law = some ⟨foc_law, fod_law, .func (PySem.W.fnOf "law" "law" (defArgs s_law) (defBody s_law) (defScope s_law) .none fkV_law fdc_law fpm_law fan_law fcd_law fct_law), fsl_law⟩)
    (fc_law : PySem.W.codeIn K fcd_law "law" = true)
    (fk_law : PySem.W.keepIn K (.ref F_law) = true)
    : ∃ fd : FuncData, (∀ (s : Shared) (u : Value), BindsTo s fd ⟨[u], []⟩ [("_law_script", u)]) ∧ ∀ base : Heap, K.In base → base.Ns mainGlobals mg → FnG l.prog w K mg base 6 fl fd ["_law_script"] (spD K (faOf mg) 1 g_law) := by
  have e := hfl.symm.trans (PySem.W.mg_of X G fa_law)
  cases e
  have M_InvalidMany := PySem.W.mg_of X G a_InvalidMany
  have M_InvalidSorts := PySem.W.mg_of X G a_InvalidSorts
  have X_InvalidMany : OexC K C_InvalidMany := ⟨⟨nm_InvalidMany, q_InvalidMany, N_InvalidMany, bs_InvalidMany, bm_InvalidMany, sn_InvalidMany, sb_InvalidMany, ab_InvalidMany, col_InvalidMany, dd_InvalidMany, m0_InvalidMany, m1_InvalidMany, m2_InvalidMany, m3_InvalidMany, m5_InvalidMany, xL_InvalidMany, rv_InvalidMany⟩, sa_InvalidMany, eC_InvalidMany, tC_InvalidMany, kC_InvalidMany⟩
  have I_InvalidMany := fun_mk (st := si_InvalidMany) il_InvalidMany ic_InvalidMany ik_InvalidMany
  have J_InvalidMany := I_InvalidMany.binds (ps := ["self", "value"]) fun _ _ _ _ _ _ us hl => match us, hl with | [_, _], _ => rfl
  have X_InvalidSorts : OexC K C_InvalidSorts := ⟨⟨nm_InvalidSorts, q_InvalidSorts, N_InvalidSorts, bs_InvalidSorts, bm_InvalidSorts, sn_InvalidSorts, sb_InvalidSorts, ab_InvalidSorts, col_InvalidSorts, dd_InvalidSorts, m0_InvalidSorts, m1_InvalidSorts, m2_InvalidSorts, m3_InvalidSorts, m5_InvalidSorts, xL_InvalidSorts, rv_InvalidSorts⟩, sa_InvalidSorts, eC_InvalidSorts, tC_InvalidSorts, kC_InvalidSorts⟩
  have I_InvalidSorts := fun_mk (st := si_InvalidSorts) il_InvalidSorts ic_InvalidSorts ik_InvalidSorts
  have J_InvalidSorts := I_InvalidSorts.binds (ps := ["self", "value"]) fun _ _ _ _ _ _ us hl => match us, hl with | [_, _], _ => rfl
  have N__law_pot := fun_mk (st := s__law_pot) fl__law_pot fc__law_pot fk__law_pot
  have B__law_pot := N__law_pot.binds (ps := ["_law_script", "_law_k"]) fun _ _ _ _ _ _ us hl => match us, hl with | [_, _], _ => rfl
  have H__law_pot := PySem.W.mg_of X G fa__law_pot
  have N__law_counted := fun_mk (st := s__law_counted) fl__law_counted fc__law_counted fk__law_counted
  have B__law_counted := N__law_counted.binds (ps := ["_law_many"]) fun _ _ _ _ _ _ us hl => match us, hl with | [_], _ => rfl
  have H__law_counted := PySem.W.mg_of X G fa__law_counted
  have N__law_draw := fun_mk (st := s__law_draw) fl__law_draw fc__law_draw fk__law_draw
  have B__law_draw := N__law_draw.binds (ps := ["_law_pot_here", "_law_many"]) fun _ _ _ _ _ _ us hl => match us, hl with | [_, _], _ => rfl
  have H__law_draw := PySem.W.mg_of X G fa__law_draw
  have N__law_rises := fun_mk (st := s__law_rises) fl__law_rises fc__law_rises fk__law_rises
  have B__law_rises := N__law_rises.binds (ps := ["_law_row"]) fun _ _ _ _ _ _ us hl => match us, hl with | [_], _ => rfl
  have H__law_rises := PySem.W.mg_of X G fa__law_rises
  have N__law_listed := fun_mk (st := s__law_listed) fl__law_listed fc__law_listed fk__law_listed
  have B__law_listed := N__law_listed.binds (ps := ["_law_many"]) fun _ _ _ _ _ _ us hl => match us, hl with | [_], _ => rfl
  have H__law_listed := PySem.W.mg_of X G fa__law_listed
  have N__law_pick := fun_mk (st := s__law_pick) fl__law_pick fc__law_pick fk__law_pick
  have B__law_pick := N__law_pick.binds (ps := ["_law_pot_here", "_law_some"]) fun _ _ _ _ _ _ us hl => match us, hl with | [_, _], _ => rfl
  have H__law_pick := PySem.W.mg_of X G fa__law_pick
  have N_all_bits := fun_mk (st := s_all_bits) fl_all_bits fc_all_bits fk_all_bits
  have B_all_bits := N_all_bits.binds (ps := ["many"]) fun _ _ _ _ _ _ us hl => match us, hl with | [_], _ => rfl
  have H_all_bits := PySem.W.mg_of X G fa_all_bits
  have N_is_integer := fun_mk (st := s_is_integer) fl_is_integer fc_is_integer fk_is_integer
  have B_is_integer := N_is_integer.binds (ps := ["value"]) fun _ _ _ _ _ _ us hl => match us, hl with | [_], _ => rfl
  have H_is_integer := PySem.W.mg_of X G fa_is_integer
  have N_is_count := fun_mk (st := s_is_count) fl_is_count fc_is_count fk_is_count
  have B_is_count := N_is_count.binds (ps := ["value"]) fun _ _ _ _ _ _ us hl => match us, hl with | [_], _ => rfl
  have H_is_count := PySem.W.mg_of X G fa_is_count
  have N_bit_rows := fun_mk (st := s_bit_rows) fl_bit_rows fc_bit_rows fk_bit_rows
  have B_bit_rows := N_bit_rows.binds (ps := ["many"]) fun _ _ _ _ _ _ us hl => match us, hl with | [_], _ => rfl
  have H_bit_rows := PySem.W.mg_of X G fa_bit_rows
  have N_all_partitions := fun_mk (st := s_all_partitions) fl_all_partitions fc_all_partitions fk_all_partitions
  have B_all_partitions := N_all_partitions.binds (ps := ["many"]) fun _ _ _ _ _ _ us hl => match us, hl with | [_], _ => rfl
  have H_all_partitions := PySem.W.mg_of X G fa_all_partitions
  have N_all_unlike := fun_mk (st := s_all_unlike) fl_all_unlike fc_all_unlike fk_all_unlike
  have B_all_unlike := N_all_unlike.binds (ps := ["words"]) fun _ _ _ _ _ _ us hl => match us, hl with | [_], _ => rfl
  have H_all_unlike := PySem.W.mg_of X G fa_all_unlike
  have N_is_run := fun_mk (st := s_is_run) fl_is_run fc_is_run fk_is_run
  have B_is_run := N_is_run.binds (ps := ["value"]) fun _ _ _ _ _ _ us hl => match us, hl with | [_], _ => rfl
  have H_is_run := PySem.W.mg_of X G fa_is_run
  have N_is_short_name := fun_mk (st := s_is_short_name) fl_is_short_name fc_is_short_name fk_is_short_name
  have B_is_short_name := N_is_short_name.binds (ps := ["value"]) fun _ _ _ _ _ _ us hl => match us, hl with | [_], _ => rfl
  have H_is_short_name := PySem.W.mg_of X G fa_is_short_name
  have N_names_of := fun_mk (st := s_names_of) fl_names_of fc_names_of fk_names_of
  have B_names_of := N_names_of.binds (ps := ["sorts", "sort"]) fun _ _ _ _ _ _ us hl => match us, hl with | [_, _], _ => rfl
  have H_names_of := PySem.W.mg_of X G fa_names_of
  have N_is_sorts := fun_mk (st := s_is_sorts) fl_is_sorts fc_is_sorts fk_is_sorts
  have B_is_sorts := N_is_sorts.binds (ps := ["value"]) fun _ _ _ _ _ _ us hl => match us, hl with | [_], _ => rfl
  have H_is_sorts := PySem.W.mg_of X G fa_is_sorts
  have N_partitions := fun_mk (st := s_partitions) fl_partitions fc_partitions fk_partitions
  have B_partitions := N_partitions.binds (ps := ["sorts"]) fun _ _ _ _ _ _ us hl => match us, hl with | [_], _ => rfl
  have H_partitions := PySem.W.mg_of X G fa_partitions
  have N__law_right := fun_mk (st := s__law_right) fl__law_right fc__law_right fk__law_right
  have B__law_right := N__law_right.binds (ps := ["_law_pot_here"]) fun _ _ _ _ _ _ us hl => match us, hl with | [_], _ => rfl
  have H__law_right := PySem.W.mg_of X G fa__law_right
  have N_law := fun_mk (st := s_law) fl_law fc_law fk_law
  have B_law := N_law.binds (ps := ["_law_script"]) fun _ _ _ _ _ _ us hl => match us, hl with | [_], _ => rfl
  have H_law := PySem.W.mg_of X G fa_law
  refine ⟨PySem.W.fnOf "law" "law" (defArgs s_law) (defBody s_law) (defScope s_law) .none fkV_law fdc_law fpm_law fan_law fcd_law fct_law, fun s u => .of_eq rfl, fun base _ _ => ?_⟩
  have T : Tx l.prog w K mg base C_InvalidMany C_InvalidSorts := {
    z_abs := PySem.W.mg_none_of X G z_abs
    z_bool := PySem.W.mg_none_of X G z_bool
    z_divmod := PySem.W.mg_none_of X G z_divmod
    z_int := PySem.W.mg_none_of X G z_int
    z_isinstance := PySem.W.mg_none_of X G z_isinstance
    z_len := PySem.W.mg_none_of X G z_len
    z_list := PySem.W.mg_none_of X G z_list
    z_max := PySem.W.mg_none_of X G z_max
    z_range := PySem.W.mg_none_of X G z_range
    z_repr := PySem.W.mg_none_of X G z_repr
    z_sorted := PySem.W.mg_none_of X G z_sorted
    z_str := PySem.W.mg_none_of X G z_str
    z_sum := PySem.W.mg_none_of X G z_sum
    z_tuple := PySem.W.mg_none_of X G z_tuple
    c_KEYWORDS := Cn.strs (PySem.W.mg_of X G a_KEYWORDS) l_KEYWORDS e_KEYWORDS (by decide +kernel)
    c_LONGEST_NAME := Cn.int (PySem.W.mg_of X G a_LONGEST_NAME)
    c_MOST_BITS := Cn.int (PySem.W.mg_of X G a_MOST_BITS)
    c_MOST_BOOLS := Cn.int (PySem.W.mg_of X G a_MOST_BOOLS)
    c_MOST_REFS := Cn.int (PySem.W.mg_of X G a_MOST_REFS)
    c_MOST_SORTS := Cn.int (PySem.W.mg_of X G a_MOST_SORTS)
    c_SORTS := Cn.strs (PySem.W.mg_of X G a_SORTS) l_SORTS e_SORTS (by decide +kernel)
    m_InvalidMany := M_InvalidMany
    m_InvalidSorts := M_InvalidSorts
    e_InvalidMany := ⟨C_InvalidMany, f_InvalidMany, _, M_InvalidMany, X_InvalidMany, i1_InvalidMany, it_InvalidMany, J_InvalidMany, err_init1 I_InvalidMany sci_InvalidMany X_InvalidMany no_InvalidMany rfl (.inl rfl) (.inl rfl) (by decide +kernel) (by decide +kernel)⟩
    e_InvalidSorts := ⟨C_InvalidSorts, f_InvalidSorts, _, M_InvalidSorts, X_InvalidSorts, i1_InvalidSorts, it_InvalidSorts, J_InvalidSorts, err_init1 I_InvalidSorts sci_InvalidSorts X_InvalidSorts no_InvalidSorts rfl (.inl rfl) (.inl rfl) (by decide +kernel) (by decide +kernel)⟩ }
  have D__law_pot : Fd l.prog w K mg base "_law_pot" s__law_pot 1 ["_law_script", "_law_k"] g__law_pot := ⟨F__law_pot, _, N__law_pot, H__law_pot, B__law_pot, ok__law_pot T N__law_pot⟩
  have D__law_counted : Fd l.prog w K mg base "_law_counted" s__law_counted 1 ["_law_many"] g__law_counted := ⟨F__law_counted, _, N__law_counted, H__law_counted, B__law_counted, ok__law_counted T N__law_counted⟩
  have D__law_draw : Fd l.prog w K mg base "_law_draw" s__law_draw 1 ["_law_pot_here", "_law_many"] g__law_draw := ⟨F__law_draw, _, N__law_draw, H__law_draw, B__law_draw, ok__law_draw T N__law_draw⟩
  have D__law_rises : Fd l.prog w K mg base "_law_rises" s__law_rises 1 ["_law_row"] g__law_rises := ⟨F__law_rises, _, N__law_rises, H__law_rises, B__law_rises, ok__law_rises T N__law_rises⟩
  have D__law_listed : Fd l.prog w K mg base "_law_listed" s__law_listed 2 ["_law_many"] g__law_listed := ⟨F__law_listed, _, N__law_listed, H__law_listed, B__law_listed, ok__law_listed T D__law_rises N__law_listed⟩
  have D__law_pick : Fd l.prog w K mg base "_law_pick" s__law_pick 2 ["_law_pot_here", "_law_some"] g__law_pick := ⟨F__law_pick, _, N__law_pick, H__law_pick, B__law_pick, ok__law_pick T D__law_draw N__law_pick⟩
  have D_all_bits : Fd l.prog w K mg base "all_bits" s_all_bits 1 ["many"] g_all_bits := ⟨F_all_bits, _, N_all_bits, H_all_bits, B_all_bits, ok_all_bits T N_all_bits⟩
  have D_is_integer : Fd l.prog w K mg base "is_integer" s_is_integer 1 ["value"] g_is_integer := ⟨F_is_integer, _, N_is_integer, H_is_integer, B_is_integer, ok_is_integer T N_is_integer⟩
  have D_is_count : Fd l.prog w K mg base "is_count" s_is_count 2 ["value"] g_is_count := ⟨F_is_count, _, N_is_count, H_is_count, B_is_count, ok_is_count T D_is_integer N_is_count⟩
  have D_bit_rows : Fd l.prog w K mg base "bit_rows" s_bit_rows 3 ["many"] g_bit_rows := ⟨F_bit_rows, _, N_bit_rows, H_bit_rows, B_bit_rows, ok_bit_rows T D_all_bits D_is_count N_bit_rows⟩
  have K_bit_rows : KwP K mg "bit_rows" ["many"] ["many"] [0] := kwp_one N_bit_rows H_bit_rows fun _ _ _ _ _ _ _ => rfl
  have D_all_partitions : Fd l.prog w K mg base "all_partitions" s_all_partitions 1 ["many"] g_all_partitions := ⟨F_all_partitions, _, N_all_partitions, H_all_partitions, B_all_partitions, ok_all_partitions T N_all_partitions⟩
  have D_all_unlike : Fd l.prog w K mg base "all_unlike" s_all_unlike 1 ["words"] g_all_unlike := ⟨F_all_unlike, _, N_all_unlike, H_all_unlike, B_all_unlike, ok_all_unlike T N_all_unlike⟩
  have D_is_run : Fd l.prog w K mg base "is_run" s_is_run 1 ["value"] g_is_run := ⟨F_is_run, _, N_is_run, H_is_run, B_is_run, ok_is_run T N_is_run⟩
  have D_is_short_name : Fd l.prog w K mg base "is_short_name" s_is_short_name 2 ["value"] g_is_short_name := ⟨F_is_short_name, _, N_is_short_name, H_is_short_name, B_is_short_name, ok_is_short_name T D_is_run N_is_short_name⟩
  have D_names_of : Fd l.prog w K mg base "names_of" s_names_of 1 ["sorts", "sort"] g_names_of := ⟨F_names_of, _, N_names_of, H_names_of, B_names_of, ok_names_of T N_names_of⟩
  have D_is_sorts : Fd l.prog w K mg base "is_sorts" s_is_sorts 3 ["value"] g_is_sorts := ⟨F_is_sorts, _, N_is_sorts, H_is_sorts, B_is_sorts, ok_is_sorts T D_all_unlike D_is_short_name D_names_of N_is_sorts⟩
  have D_partitions : Fd l.prog w K mg base "partitions" s_partitions 4 ["sorts"] g_partitions := ⟨F_partitions, _, N_partitions, H_partitions, B_partitions, ok_partitions T D_all_partitions D_is_sorts D_names_of N_partitions⟩
  have K_partitions : KwP K mg "partitions" ["sorts"] ["sorts"] [0] := kwp_one N_partitions H_partitions fun _ _ _ _ _ _ _ => rfl
  have D__law_right : Fd l.prog w K mg base "_law_right" s__law_right 5 ["_law_pot_here"] g__law_right := ⟨F__law_right, _, N__law_right, H__law_right, B__law_right, ok__law_right T D__law_counted D__law_draw D__law_listed D__law_pick D_bit_rows K_bit_rows D_partitions K_partitions N__law_right⟩
  exact ok_law T D__law_pot D__law_right N_law
theorem law_sp (K : PySem.W.Frag) (mg : Str → Option Value) (H : Hp) (a : Addr) (ns : List Int) (hS : SqL K H a (ns.map V.int)) : spD K (faOf mg) 1 g_law [.ref a] H (fun v _ => v = .bl true) fun _ _ _ => False := by
  obtain ⟨c, e⟩ := t_law ns
  refine ⟨rfl, {}, [.d (.arr ns)], [], [], H, .cons (.arr hS) .nil, ⟨Same.refl H, rfl, List.nodup_nil, fun a h => (nomatch h), fun k o a h => (by simp at h), fun a u h => (nomatch h), fun a u h x => rfl, fun a h => (nomatch h), fun a o xs h => trivial⟩, ?_⟩
  rw [e]
  intro H' F' ad' _ _ R v rv
  cases rv
  rfl
end Pm
open PySem PySem.W PyProof.Rows
set_option maxRecDepth 100000 in
set_option maxHeartbeats 0 in
theorem PySem.Challenge.cw_changedsame_k51_all_cases_in_sequence_holds : PySem.Challenge.rw_changedsame_k51_all_cases_in_sequence.Holds := by
  w_on; o_law; k_head; (case hw => w_witness2)
  k_fill
  refine Pm.walk_g (l := PySem.Challenge.rw_changedsame_k51_all_cases_in_sequence) (n := 63) (k := 6) (x := "_law_script") (sp := fun K mg => Pm.spD K (Pm.faOf mg) 1 Pm.g_law) rfl (by decide) rfl ⟨rfl, by decide, by decide⟩ (fun w h Y => PySem.W.kIn_of Y) ?F (fun K mg H a ns _ _ hS => Pm.law_sp K mg H a ns hS)
  case F =>
    intro w mg fl h KX G hmg
    refine' Pm.all_mk KX G hmg ?z_abs ?z_bool ?z_divmod ?z_int ?z_isinstance ?z_len ?z_list ?z_max ?z_range ?z_repr ?z_sorted ?z_str ?z_sum ?z_tuple ?a_KEYWORDS ?l_KEYWORDS ?e_KEYWORDS ?a_LONGEST_NAME ?a_MOST_BITS ?a_MOST_BOOLS ?a_MOST_REFS ?a_MOST_SORTS ?a_SORTS ?l_SORTS ?e_SORTS ?a_InvalidMany ?a_InvalidSorts ?xL_InvalidMany ?rv_InvalidMany ?sa_InvalidMany ?eC_InvalidMany ?tC_InvalidMany ?kC_InvalidMany ?i1_InvalidMany ?it_InvalidMany ?il_InvalidMany ?ic_InvalidMany ?ik_InvalidMany ?no_InvalidMany ?xL_InvalidSorts ?rv_InvalidSorts ?sa_InvalidSorts ?eC_InvalidSorts ?tC_InvalidSorts ?kC_InvalidSorts ?i1_InvalidSorts ?it_InvalidSorts ?il_InvalidSorts ?ic_InvalidSorts ?ik_InvalidSorts ?no_InvalidSorts ?fa__law_pot ?fl__law_pot ?fc__law_pot ?fk__law_pot ?fa__law_counted ?fl__law_counted ?fc__law_counted ?fk__law_counted ?fa__law_draw ?fl__law_draw ?fc__law_draw ?fk__law_draw ?fa__law_rises ?fl__law_rises ?fc__law_rises ?fk__law_rises ?fa__law_listed ?fl__law_listed ?fc__law_listed ?fk__law_listed ?fa__law_pick ?fl__law_pick ?fc__law_pick ?fk__law_pick ?fa_all_bits ?fl_all_bits ?fc_all_bits ?fk_all_bits ?fa_is_integer ?fl_is_integer ?fc_is_integer ?fk_is_integer ?fa_is_count ?fl_is_count ?fc_is_count ?fk_is_count ?fa_bit_rows ?fl_bit_rows ?fc_bit_rows ?fk_bit_rows ?fa_all_partitions ?fl_all_partitions ?fc_all_partitions ?fk_all_partitions ?fa_all_unlike ?fl_all_unlike ?fc_all_unlike ?fk_all_unlike ?fa_is_run ?fl_is_run ?fc_is_run ?fk_is_run ?fa_is_short_name ?fl_is_short_name ?fc_is_short_name ?fk_is_short_name ?fa_names_of ?fl_names_of ?fc_names_of ?fk_names_of ?fa_is_sorts ?fl_is_sorts ?fc_is_sorts ?fk_is_sorts ?fa_partitions ?fl_partitions ?fc_partitions ?fk_partitions ?fa__law_right ?fl__law_right ?fc__law_right ?fk__law_right ?fa_law ?fl_law ?fc_law ?fk_law
    (case z_abs => k_is)
    (case z_bool => k_is)
    (case z_divmod => k_is)
    (case z_int => k_is)
    (case z_isinstance => k_is)
    (case z_len => k_is)
    (case z_list => k_is)
    (case z_max => k_is)
    (case z_range => k_is)
    (case z_repr => k_is)
    (case z_sorted => k_is)
    (case z_str => k_is)
    (case z_sum => k_is)
    (case z_tuple => k_is)
    (case a_KEYWORDS => k_is)
    (case l_KEYWORDS => k_is)
    (case e_KEYWORDS => first | rfl | decide +kernel | k_is)
    (case a_LONGEST_NAME => k_is)
    (case a_MOST_BITS => k_is)
    (case a_MOST_BOOLS => k_is)
    (case a_MOST_REFS => k_is)
    (case a_MOST_SORTS => k_is)
    (case a_SORTS => k_is)
    (case l_SORTS => k_is)
    (case e_SORTS => first | rfl | decide +kernel | k_is)
    (case a_InvalidMany => k_is)
    (case a_InvalidSorts => k_is)
    (case xL_InvalidMany => k_is)
    (case rv_InvalidMany => first | rfl | decide +kernel | k_is)
    (case sa_InvalidMany => k_is)
    (case eC_InvalidMany => k_is)
    (case tC_InvalidMany => k_is)
    (case kC_InvalidMany => k_is)
    (case i1_InvalidMany => k_is)
    (case it_InvalidMany => k_is)
    (case il_InvalidMany => k_is)
    (case ic_InvalidMany => k_is)
    (case ik_InvalidMany => k_is)
    (case no_InvalidMany => k_is)
    (case xL_InvalidSorts => k_is)
    (case rv_InvalidSorts => first | rfl | decide +kernel | k_is)
    (case sa_InvalidSorts => k_is)
    (case eC_InvalidSorts => k_is)
    (case tC_InvalidSorts => k_is)
    (case kC_InvalidSorts => k_is)
    (case i1_InvalidSorts => k_is)
    (case it_InvalidSorts => k_is)
    (case il_InvalidSorts => k_is)
    (case ic_InvalidSorts => k_is)
    (case ik_InvalidSorts => k_is)
    (case no_InvalidSorts => k_is)
    (case fa__law_pot => k_is)
    (case fl__law_pot => k_is)
    (case fc__law_pot => k_is)
    (case fk__law_pot => k_is)
    (case fa__law_counted => k_is)
    (case fl__law_counted => k_is)
    (case fc__law_counted => k_is)
    (case fk__law_counted => k_is)
    (case fa__law_draw => k_is)
    (case fl__law_draw => k_is)
    (case fc__law_draw => k_is)
    (case fk__law_draw => k_is)
    (case fa__law_rises => k_is)
    (case fl__law_rises => k_is)
    (case fc__law_rises => k_is)
    (case fk__law_rises => k_is)
    (case fa__law_listed => k_is)
    (case fl__law_listed => k_is)
    (case fc__law_listed => k_is)
    (case fk__law_listed => k_is)
    (case fa__law_pick => k_is)
    (case fl__law_pick => k_is)
    (case fc__law_pick => k_is)
    (case fk__law_pick => k_is)
    (case fa_all_bits => k_is)
    (case fl_all_bits => k_is)
    (case fc_all_bits => k_is)
    (case fk_all_bits => k_is)
    (case fa_is_integer => k_is)
    (case fl_is_integer => k_is)
    (case fc_is_integer => k_is)
    (case fk_is_integer => k_is)
    (case fa_is_count => k_is)
    (case fl_is_count => k_is)
    (case fc_is_count => k_is)
    (case fk_is_count => k_is)
    (case fa_bit_rows => k_is)
    (case fl_bit_rows => k_is)
    (case fc_bit_rows => k_is)
    (case fk_bit_rows => k_is)
    (case fa_all_partitions => k_is)
    (case fl_all_partitions => k_is)
    (case fc_all_partitions => k_is)
    (case fk_all_partitions => k_is)
    (case fa_all_unlike => k_is)
    (case fl_all_unlike => k_is)
    (case fc_all_unlike => k_is)
    (case fk_all_unlike => k_is)
    (case fa_is_run => k_is)
    (case fl_is_run => k_is)
    (case fc_is_run => k_is)
    (case fk_is_run => k_is)
    (case fa_is_short_name => k_is)
    (case fl_is_short_name => k_is)
    (case fc_is_short_name => k_is)
    (case fk_is_short_name => k_is)
    (case fa_names_of => k_is)
    (case fl_names_of => k_is)
    (case fc_names_of => k_is)
    (case fk_names_of => k_is)
    (case fa_is_sorts => k_is)
    (case fl_is_sorts => k_is)
    (case fc_is_sorts => k_is)
    (case fk_is_sorts => k_is)
    (case fa_partitions => k_is)
    (case fl_partitions => k_is)
    (case fc_partitions => k_is)
    (case fk_partitions => k_is)
    (case fa__law_right => k_is)
    (case fl__law_right => k_is)
    (case fc__law_right => k_is)
    (case fk__law_right => k_is)
    (case fa_law => k_is)
    (case fl_law => k_is)
    (case fc_law => k_is)
    (case fk_law => k_is)
#print axioms PySem.Challenge.cw_changedsame_k51_all_cases_in_sequence_holds
