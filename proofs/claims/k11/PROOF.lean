import PyProof.Rows.All
import Wide.All
import OpenK.AllK
import Wide.FinOn
import HandS.ForMost
import HandS.Exc
import HandS.ExcInit
import HandS.TryMany
import HandS.CallSlots
import HandS.StrMore
import HandS.TupAny
import HandS.IsInst
import HandS.Wide
import HandS.WideBits
import HandS.WordsExc
import HandS.RaiseMore
import HandS.ExcIs
import HandS.ExcField
import HandS.Codes
import PySem.Challenge.RW_changedsame_k11_tokens_by_own_walk
set_option Elab.async false
set_option linter.all false
set_option maxRecDepth 100000
set_option maxHeartbeats 4000000
/-! Pm: a def's body as a plain function over plain data and a small store of lists. -/
namespace Pm
open PySem L2

/-! ### data -/
inductive D where
  | non | bl (b : Bool) | int (i : Int) | str (s : Str) | fn (f : Str) | ty (n : String) | lst (xs : List D) | tup (xs : List D) | dic (kvs : List (Key × D)) | arr (xs : List Int)
instance : Inhabited D := ⟨.non⟩
/-- where the defs and classes stand; in an except suite: the exception's address, its dict's, its class's -/
structure Fa where
  f : Str → Option Addr
  rg : Option (Addr × Addr × Addr) := none
/-- a value that may stand in the store; x: the exception that is handled -/
inductive W where
  | d (x : D) | c (k : Nat) | x (cls : Str) (pl : List (Str × D))
instance : Inhabited W := ⟨.d .non⟩
inductive O where
  | lst (xs : List D) | dic (kvs : List (Key × D)) | frz (d : D)
abbrev Cells := List O
def O.val : O → D
  | .lst xs => .lst xs
  | .dic kvs => .dic kvs
  | .frz d => d
inductive Out (α : Type) where
  | ok (a : α) (c : Cells) | exc (cls : Str) (pl : List (Str × D)) (c : Cells) | bad
def Out.bind {α β : Type} (o : Out α) (f : α → Cells → Out β) : Out β := match o with
  | .ok a c => f a c
  | .exc x pl c => .exc x pl c
  | .bad => .bad
@[simp] theorem Out.bind_ok {α β : Type} (a : α) (c : Cells) (f : α → Cells → Out β) : (Out.ok a c).bind f = f a c := rfl
@[simp] theorem Out.bind_exc {α β : Type} (x : Str) (pl : List (Str × D)) (c : Cells) (f : α → Cells → Out β) : (Out.exc x pl c : Out α).bind f = .exc x pl c := rfl
@[simp] theorem Out.bind_bad {α β : Type} (f : α → Cells → Out β) : (Out.bad : Out α).bind f = .bad := rfl
abbrev Sl := List (Option W)
abbrev Den := Sl → Cells → Out W

def rd (c : Cells) : W → Option D
  | .d x => some x
  | .c k => (c[k]?).map O.val
  | .x _ _ => none
/-- the value, frozen -/
def fz (w : W) (c : Cells) : Out D := match w with
  | .d x => .ok x c
  | .c k => match c[k]? with
    | some o => .ok o.val (c.set k (.frz o.val))
    | none => .bad
  | .x _ _ => .bad

/-! ### what stands for data -/
section
variable (K : PySem.W.Frag) (fa : Fa)
mutual
inductive Rp (F : Hp) : V → D → Prop
  | non : Rp F .non .non
  | bl (b : Bool) : Rp F (.bl b) (.bl b)
  | int (i : Int) : Rp F (.int i) (.int i)
  | str (x : Str) : Rp F (.str x) (.str x)
  | fn {x : Str} {a : Addr} : fa.f x = some a → Rp F (.ref a) (.fn x)
  | ty (n : String) : Rp F (.ty n) (.ty n)
  | lst {a : Addr} {xs : List V} {ds : List D} : Rd F a (.lst xs) → RpA F xs ds → Rp F (.ref a) (.lst ds)
  | tup {a : Addr} {xs : List V} {ds : List D} : SqT K F a xs → RpA F xs ds → Rp F (.ref a) (.tup ds)
  | dic {a : Addr} {kvs : List (Key × V)} {ds : List (Key × D)} : F a = some (.dK kvs) → RpK F kvs ds → Rp F (.ref a) (.dic ds)
  | arr {a : Addr} {xs : List Int} : SqL K F a (xs.map V.int) → Rp F (.ref a) (.arr xs)
inductive RpA (F : Hp) : List V → List D → Prop
  | nil : RpA F [] []
  | cons {v : V} {vs : List V} {d : D} {ds : List D} : Rp F v d → RpA F vs ds → RpA F (v :: vs) (d :: ds)
inductive RpK (F : Hp) : List (Key × V) → List (Key × D) → Prop
  | nil : RpK F [] []
  | cons {k : Key} {v : V} {vs : List (Key × V)} {d : D} {ds : List (Key × D)} : Rp F v d → RpK F vs ds → RpK F ((k, v) :: vs) ((k, d) :: ds)
end
end
section
variable {K : PySem.W.Frag} {fa : Fa}
theorem rd_mono {F F' : Hp} {a : Addr} {u : HO} (e : Same F F') (h : Rd F a u) : Rd F' a u := by
  rcases h with h | ⟨o, h⟩
  · exact .inl (e _ _ h)
  · exact .inr ⟨o, e _ _ h⟩
theorem sqT_mono {F F' : Hp} {a : Addr} {xs : List V} (e : Same F F') (h : SqT K F a xs) : SqT K F' a xs := by
  rcases h with (h | ⟨o, h⟩) | h
  · exact .inl (.inl (e _ _ h))
  · exact .inl (.inr ⟨o, e _ _ h⟩)
  · exact .inr h
theorem sqL_mono {F F' : Hp} {a : Addr} {xs : List V} (e : Same F F') (h : SqL K F a xs) : SqL K F' a xs := by
  rcases h with (h | ⟨o, h⟩) | h
  · exact .inl (.inl (e _ _ h))
  · exact .inl (.inr ⟨o, e _ _ h⟩)
  · exact .inr h
mutual
theorem Rp.mono {F F' : Hp} (e : Same F F') : ∀ {v : V} {d : D}, Rp K fa F v d → Rp K fa F' v d
  | _, _, .non => .non
  | _, _, .bl b => .bl b
  | _, _, .int i => .int i
  | _, _, .str x => .str x
  | _, _, .fn h => .fn h
  | _, _, .ty n => .ty n
  | _, _, .lst h r => .lst (rd_mono e h) (RpA.mono e r)
  | _, _, .tup h r => .tup (sqT_mono e h) (RpA.mono e r)
  | _, _, .dic h r => .dic (e _ _ h) (RpK.mono e r)
  | _, _, .arr h => .arr (sqL_mono e h)
theorem RpA.mono {F F' : Hp} (e : Same F F') : ∀ {vs : List V} {ds : List D}, RpA K fa F vs ds → RpA K fa F' vs ds
  | _, _, .nil => .nil
  | _, _, .cons h r => .cons (Rp.mono e h) (RpA.mono e r)
theorem RpK.mono {F F' : Hp} (e : Same F F') : ∀ {vs : List (Key × V)} {ds : List (Key × D)}, RpK K fa F vs ds → RpK K fa F' vs ds
  | _, _, .nil => .nil
  | _, _, .cons h r => .cons (Rp.mono e h) (RpK.mono e r)
end
theorem RpA.length {F : Hp} : ∀ {vs : List V} {ds : List D}, RpA K fa F vs ds → vs.length = ds.length
  | _, _, .nil => rfl
  | _, _, .cons _ r => by simp [RpA.length r]
theorem RpA.get {F : Hp} : ∀ {vs : List V} {ds : List D} {i : Nat} {d : D}, RpA K fa F vs ds → ds[i]? = some d → ∃ v, vs[i]? = some v ∧ Rp K fa F v d
  | _, _, _, _, .nil, e => by simp at e
  | _, _, 0, _, .cons h _, e => by simp at e; subst e; exact ⟨_, rfl, h⟩
  | _, _, i + 1, _, .cons _ r, e => by
    obtain ⟨v, h1, h2⟩ := RpA.get (i := i) r (by simpa using e)
    exact ⟨v, by simpa using h1, h2⟩
theorem RpA.getV {F : Hp} : ∀ {vs : List V} {ds : List D} {i : Nat} {v : V}, RpA K fa F vs ds → vs[i]? = some v → ∃ d, ds[i]? = some d ∧ Rp K fa F v d
  | _, _, _, _, .nil, e => by simp at e
  | _, _, 0, _, .cons h _, e => by simp at e; subst e; exact ⟨_, rfl, h⟩
  | _, _, i + 1, _, .cons _ r, e => by
    obtain ⟨v, h1, h2⟩ := RpA.getV (i := i) r (by simpa using e)
    exact ⟨v, by simpa using h1, h2⟩
theorem RpA.append {F : Hp} : ∀ {vs vs' : List V} {ds ds' : List D}, RpA K fa F vs ds → RpA K fa F vs' ds' → RpA K fa F (vs ++ vs') (ds ++ ds')
  | _, _, _, _, .nil, s => s
  | _, _, _, _, .cons h r, s => .cons h (RpA.append r s)
theorem RpA.take {F : Hp} : ∀ {vs : List V} {ds : List D} (n : Nat), RpA K fa F vs ds → RpA K fa F (vs.take n) (ds.take n)
  | _, _, 0, _ => .nil
  | _, _, _ + 1, .nil => .nil
  | _, _, n + 1, .cons h r => .cons h (RpA.take n r)
theorem RpA.drop {F : Hp} : ∀ {vs : List V} {ds : List D} (n : Nat), RpA K fa F vs ds → RpA K fa F (vs.drop n) (ds.drop n)
  | _, _, 0, r => r
  | _, _, _ + 1, .nil => .nil
  | _, _, n + 1, .cons _ r => RpA.drop n r
theorem RpA.set {F : Hp} {v : V} {d : D} (h : Rp K fa F v d) : ∀ {vs : List V} {ds : List D} (i : Nat), RpA K fa F vs ds → RpA K fa F (vs.set i v) (ds.set i d)
  | _, _, _, .nil => .nil
  | _, _, 0, .cons _ r => .cons h r
  | _, _, i + 1, .cons q r => .cons q (RpA.set h i r)
theorem RpA.reverse {F : Hp} : ∀ {vs : List V} {ds : List D}, RpA K fa F vs ds → RpA K fa F vs.reverse ds.reverse
  | _, _, .nil => .nil
  | _, _, .cons h r => by simpa using RpA.append (RpA.reverse r) (.cons h .nil)
theorem RpA.strs {F : Hp} : ∀ (ys : List Str), RpA K fa F (ys.map V.str) (ys.map D.str)
  | [] => .nil
  | y :: ys => .cons (.str y) (RpA.strs ys)
theorem RpA.ints {F : Hp} : ∀ (ys : List Int), RpA K fa F (ys.map V.int) (ys.map D.int)
  | [] => .nil
  | y :: ys => .cons (.int y) (RpA.ints ys)
end

/-! ### the store against the heap -/
section
variable (K : PySem.W.Frag) (fa : Fa)
def CellOk (F H : Hp) (a : Addr) : O → Prop
  | .lst ds => F a = none ∧ ∃ vs, H a = some (.lst vs) ∧ RpA K fa F vs ds
  | .dic ds => F a = none ∧ ∃ vs, H a = some (.dK vs) ∧ RpK K fa F vs ds
  | .frz d => Rp K fa F (.ref a) d
structure Rel (c : Cells) (ad : List Addr) (F H : Hp) : Prop where
  le : Same F H
  len : ad.length = c.length
  nd : ad.Nodup
  there : ∀ a ∈ ad, ∃ o, H a = some o
  cell : ∀ (k : Nat) (o : O) (a : Addr), c[k]? = some o → ad[k]? = some a → CellOk K fa F H a o
/-- the fields of an exception -/
def Flds (F : Hp) (fs : List (Str × V)) (pl : List (Str × D)) : Prop := ∀ x d, pl.lookup x = some d → ∃ v, fs.lookup x = some v ∧ Rp K fa F v d
def RW (ad : List Addr) (F : Hp) (v : V) : W → Prop
  | .d x => Rp K fa F v x
  | .c k => ∃ a, ad[k]? = some a ∧ v = .ref a
  | .x cls pl => ∃ a dd C fs, v = .ref a ∧ fa.rg = some (a, dd, C) ∧ fa.f cls = some C ∧ F dd = some (.xd fs) ∧ Flds K fa F fs pl
inductive RWs (ad : List Addr) (F : Hp) : List V → List W → Prop
  | nil : RWs ad F [] []
  | cons {v : V} {vs : List V} {w : W} {ws : List W} : RW K fa ad F v w → RWs ad F vs ws → RWs ad F (v :: vs) (w :: ws)
def SlOk (ad : List Addr) (F : Hp) (σ : L2.St) (sl : Sl) : Prop := σ.length = sl.length ∧ ∀ (i : Nat) (w : W), sl[i]? = some (some w) → ∃ v, σ[i]? = some (some v) ∧ RW K fa ad F v w
/-- what is to be shown of an outcome -/
def Post {α : Type} (Wx : Value → Option Addr → Hp → Prop) (ad : List Addr) (F : Hp) (Q : α → List Addr → Hp → Hp → Prop) : Out α → Prop
  | .ok a c => ∀ H F' ad', Same F F' → ad <+: ad' → Rel K fa c ad' F' H → Q a ad' F' H
  | .exc x pl c => ∀ H F' ad' C d fs, Same F F' → ad <+: ad' → Rel K fa c ad' F' H → fa.f x = some C → H d = some (.xd fs) → Flds K fa F' fs pl → Wx (.ref C) (some d) H
  | .bad => False
end
section
variable {K : PySem.W.Frag} {fa : Fa} {c c' : Cells} {ad ad' : List Addr} {F F' H H' : Hp} {σ : L2.St} {sl : Sl} {v : V} {w : W}
theorem ix_inj : ∀ {l : List Addr} {i j : Nat} {a : Addr}, l.Nodup → l[i]? = some a → l[j]? = some a → i = j
  | [], _, _, _, _, h, _ => by simp at h
  | b :: l, 0, 0, _, _, _, _ => rfl
  | b :: l, 0, j + 1, a, n, h1, h2 => by
    simp at h1 h2
    subst h1
    exact absurd (List.mem_of_getElem? h2) (List.nodup_cons.mp n).1
  | b :: l, i + 1, 0, a, n, h1, h2 => by
    simp at h1 h2
    subst h2
    exact absurd (List.mem_of_getElem? h1) (List.nodup_cons.mp n).1
  | b :: l, i + 1, j + 1, a, n, h1, h2 => by
    simp at h1 h2
    rw [ix_inj (List.nodup_cons.mp n).2 h1 h2]
theorem pre_get {l l' : List Addr} (h : l <+: l') {k : Nat} {a : Addr} (e : l[k]? = some a) : l'[k]? = some a := by
  obtain ⟨t, rfl⟩ := h
  rw [List.getElem?_append_left (List.getElem?_eq_some_iff.mp e).1]
  exact e
theorem RW.mono (e : Same F F') (p : ad <+: ad') (h : RW K fa ad F v w) : RW K fa ad' F' v w := by
  cases w with
  | d x => exact Rp.mono e h
  | c k =>
    obtain ⟨a, h1, h2⟩ := h
    exact ⟨a, pre_get p h1, h2⟩
  | x cls pl =>
    obtain ⟨a, dd, C, fs, h1, h2, h3, h4, h5⟩ := h
    exact ⟨a, dd, C, fs, h1, h2, h3, e _ _ h4, fun y d q => let ⟨v, q1, q2⟩ := h5 y d q; ⟨v, q1, q2.mono e⟩⟩
theorem RWs.mono (e : Same F F') (p : ad <+: ad') : ∀ {vs : List V} {ws : List W}, RWs K fa ad F vs ws → RWs K fa ad' F' vs ws
  | _, _, .nil => .nil
  | _, _, .cons h r => .cons (h.mono e p) (RWs.mono e p r)
theorem RWs.length : ∀ {vs : List V} {ws : List W}, RWs K fa ad F vs ws → vs.length = ws.length
  | _, _, .nil => rfl
  | _, _, .cons _ r => by simp [RWs.length r]
theorem SlOk.mono (e : Same F F') (p : ad <+: ad') (h : SlOk K fa ad F σ sl) : SlOk K fa ad' F' σ sl := ⟨h.1, fun i w q => by
  obtain ⟨v, h1, h2⟩ := h.2 i w q
  exact ⟨v, h1, h2.mono e p⟩⟩
theorem SlOk.set {i : Nat} (h : SlOk K fa ad F σ sl) (r : RW K fa ad F v w) : SlOk K fa ad F (σ.set i (some v)) (sl.set i (some w)) := ⟨by simp [h.1], fun j w' q => by
  by_cases e : i = j
  · subst e
    rw [List.getElem?_set] at q
    rw [List.getElem?_set]
    simp only [if_true] at q ⊢
    split at q
    · rename_i hl
      simp at q
      subst q
      rw [if_pos (by rw [h.1]; exact hl)]
      exact ⟨v, rfl, r⟩
    · cases q
  · rw [List.getElem?_set_ne e] at q ⊢
    exact h.2 j w' q⟩
theorem SlOk.unset {i : Nat} (h : SlOk K fa ad F σ sl) (y : Option V) : SlOk K fa ad F (σ.set i y) (sl.set i none) := ⟨by simp [h.1], fun j w' q => by
  by_cases e : i = j
  · subst e
    rw [List.getElem?_set] at q
    simp only [if_true] at q
    split at q <;> simp at q
  · rw [List.getElem?_set_ne e] at q ⊢
    exact h.2 j w' q⟩
theorem Rel.cell_at (R : Rel K fa c ad F H) {k : Nat} {o : O} (e : c[k]? = some o) : ∃ a, ad[k]? = some a ∧ CellOk K fa F H a o := by
  have hk : k < ad.length := by rw [R.len]; exact (List.getElem?_eq_some_iff.mp e).1
  exact ⟨ad[k], by simp [hk], R.cell k o _ e (by simp [hk])⟩
/-- the value of a word, read over the heap -/
theorem Rel.rd (R : Rel K fa c ad F H) {d : D} (r : RW K fa ad F v w) (e : rd c w = some d) :
    (∃ a ds vs, d = .lst ds ∧ v = .ref a ∧ Rd H a (.lst vs) ∧ RpA K fa F vs ds) ∨ (∃ a ds vs, d = .dic ds ∧ v = .ref a ∧ H a = some (.dK vs) ∧ RpK K fa F vs ds) ∨ Rp K fa F v d := by
  cases w with
  | d x =>
    injection e with e
    subst e
    exact .inr (.inr r)
  | c k =>
    obtain ⟨a, h1, h2⟩ := r
    replace e : (c[k]?).map O.val = some d := e
    cases q : c[k]? with
    | none => rw [q] at e; cases e
    | some o =>
      rw [q] at e
      simp at e
      have ok := R.cell k o a q h1
      cases o with
      | lst ds =>
        obtain ⟨_, vs, h3, h4⟩ := ok
        exact .inl ⟨a, ds, vs, e.symm, h2, .inl h3, h4⟩
      | dic ds =>
        obtain ⟨_, vs, h3, h4⟩ := ok
        exact .inr (.inl ⟨a, ds, vs, e.symm, h2, h3, h4⟩)
      | frz d' =>
        have : d' = d := e
        subst this
        rw [h2]
        exact .inr (.inr ok)
  | x _ _ => cases e
theorem Rel.lst (R : Rel K fa c ad F H) {ds : List D} (r : RW K fa ad F v w) (e : Pm.rd c w = some (.lst ds)) : ∃ a vs, v = .ref a ∧ Rd H a (.lst vs) ∧ RpA K fa F vs ds := by
  rcases R.rd r e with ⟨a, ds', vs, h1, h2, h3, h4⟩ | ⟨a, ds', vs, h1, h2, h3, h4⟩ | h
  · cases h1; exact ⟨a, vs, h2, h3, h4⟩
  · cases h1
  · cases h with
    | lst s q => exact ⟨_, _, rfl, rd_mono R.le s, q⟩
theorem Rel.tup (R : Rel K fa c ad F H) {ds : List D} (r : RW K fa ad F v w) (e : Pm.rd c w = some (.tup ds)) : ∃ a vs, v = .ref a ∧ SqT K H a vs ∧ RpA K fa F vs ds := by
  rcases R.rd r e with ⟨a, ds', vs, h1, h2, h3, h4⟩ | ⟨a, ds', vs, h1, h2, h3, h4⟩ | h
  · cases h1
  · cases h1
  · cases h with
    | tup s q => exact ⟨_, _, rfl, sqT_mono R.le s, q⟩
theorem Rel.int (R : Rel K fa c ad F H) {i : Int} (r : RW K fa ad F v w) (e : Pm.rd c w = some (.int i)) : v = .int i := by
  rcases R.rd r e with ⟨a, ds', vs, h1, _⟩ | ⟨a, ds', vs, h1, _⟩ | h
  · cases h1
  · cases h1
  · cases h; rfl
theorem Rel.bl (R : Rel K fa c ad F H) {i : Bool} (r : RW K fa ad F v w) (e : Pm.rd c w = some (.bl i)) : v = .bl i := by
  rcases R.rd r e with ⟨a, ds', vs, h1, _⟩ | ⟨a, ds', vs, h1, _⟩ | h
  · cases h1
  · cases h1
  · cases h; rfl
theorem Rel.str (R : Rel K fa c ad F H) {i : Str} (r : RW K fa ad F v w) (e : Pm.rd c w = some (.str i)) : v = .str i := by
  rcases R.rd r e with ⟨a, ds', vs, h1, _⟩ | ⟨a, ds', vs, h1, _⟩ | h
  · cases h1
  · cases h1
  · cases h; rfl
theorem Rel.non (R : Rel K fa c ad F H) (r : RW K fa ad F v w) (e : Pm.rd c w = some .non) : v = .non := by
  rcases R.rd r e with ⟨a, ds', vs, h1, _⟩ | ⟨a, ds', vs, h1, _⟩ | h
  · cases h1
  · cases h1
  · cases h; rfl
/-- a new object, frozen -/
theorem Rel.newF (R : Rel K fa c ad F H) {p : Addr} {o : HO} (n : H p = none) : Rel K fa c ad (upd F p o) (upd H p o) ∧ Same F (upd F p o) := by
  have nF : F p = none := by
    cases q : F p with
    | none => rfl
    | some u => have := R.le p u q; rw [n] at this; cases this
  have sF : Same F (upd F p o) := fun b u e => by rw [upd_ne (ne_of_none e nF)]; exact e
  refine ⟨⟨fun b u e => ?_, R.len, R.nd, fun a ha => ?_, fun k x a h1 h2 => ?_⟩, sF⟩
  · by_cases hb : b = p
    · subst hb; rw [upd_same] at e ⊢; exact e
    · rw [upd_ne hb] at e ⊢; exact R.le b u e
  · obtain ⟨u, hu⟩ := R.there a ha
    exact ⟨u, by rw [upd_ne (ne_of_none hu n)]; exact hu⟩
  · obtain ⟨u, hu⟩ := R.there a (List.mem_of_getElem? h2)
    have ne := ne_of_none hu n
    have ok := R.cell k x a h1 h2
    cases x with
    | lst ds => obtain ⟨h3, vs, h4, h5⟩ := ok; exact ⟨by rw [upd_ne ne]; exact h3, vs, by rw [upd_ne ne]; exact h4, h5.mono sF⟩
    | dic ds => obtain ⟨h3, vs, h4, h5⟩ := ok; exact ⟨by rw [upd_ne ne]; exact h3, vs, by rw [upd_ne ne]; exact h4, h5.mono sF⟩
    | frz d => exact Rp.mono sF ok
/-- a new object that is not tracked by the store -/
theorem Rel.newJ (R : Rel K fa c ad F H) {p : Addr} {o : HO} (n : H p = none) : Rel K fa c ad F (upd H p o) := by
  refine ⟨fun b u e => ?_, R.len, R.nd, fun a ha => ?_, fun k x a h1 h2 => ?_⟩
  · have := R.le b u e
    rw [upd_ne (ne_of_none this n)]; exact this
  · obtain ⟨u, hu⟩ := R.there a ha
    exact ⟨u, by rw [upd_ne (ne_of_none hu n)]; exact hu⟩
  · obtain ⟨u, hu⟩ := R.there a (List.mem_of_getElem? h2)
    have ne := ne_of_none hu n
    have ok := R.cell k x a h1 h2
    cases x with
    | lst ds => obtain ⟨h3, vs, h4, h5⟩ := ok; exact ⟨h3, vs, by rw [upd_ne ne]; exact h4, h5⟩
    | dic ds => obtain ⟨h3, vs, h4, h5⟩ := ok; exact ⟨h3, vs, by rw [upd_ne ne]; exact h4, h5⟩
    | frz d => exact ok
/-- a new cell -/
theorem Rel.newC (R : Rel K fa c ad F H) {p : Addr} {o : HO} {x : O} (n : H p = none) (ok : F p = none → CellOk K fa F (upd H p o) p x) : Rel K fa (c ++ [x]) (ad ++ [p]) F (upd H p o) := by
  have nF : F p = none := by
    cases q : F p with
    | none => rfl
    | some u => have := R.le p u q; rw [n] at this; cases this
  have J := R.newJ (o := o) n
  refine ⟨J.le, by simp [R.len], ?_, fun a ha => ?_, fun k y a h1 h2 => ?_⟩
  · rw [List.nodup_append]
    refine ⟨R.nd, by simp, fun a ha b hb => ?_⟩
    obtain ⟨u, hu⟩ := R.there a ha
    simp at hb
    subst hb
    exact ne_of_none hu n
  · rcases List.mem_append.mp ha with h | h
    · exact J.there a h
    · simp at h; subst h; exact ⟨_, upd_same⟩
  · by_cases hk : k < c.length
    · rw [List.getElem?_append_left hk] at h1
      rw [List.getElem?_append_left (by rw [R.len]; exact hk)] at h2
      exact J.cell k y a h1 h2
    · have e : k = c.length := by
        have := (List.getElem?_eq_some_iff.mp h1).1
        simp at this; omega
      subst e
      simp at h1
      rw [← R.len] at h2
      simp at h2
      subst h1 h2
      exact ok nF
/-- a cell changed -/
theorem Rel.write (R : Rel K fa c ad F H) {k : Nat} {a : Addr} {o : HO} {x : O} (e : ad[k]? = some a) (nF : F a = none) (ok : CellOk K fa F (upd H a o) a x) : Rel K fa (c.set k x) ad F (upd H a o) := by
  have other : ∀ (j : Nat) (b : Addr), ad[j]? = some b → j ≠ k → b ≠ a := fun j b h1 h2 z => by
    subst z
    exact h2 (ix_inj R.nd h1 e)
  refine ⟨fun b u q => ?_, by simp [R.len], R.nd, fun b hb => ?_, fun j y b h1 h2 => ?_⟩
  · rw [upd_ne (ne_of_none q nF)]; exact R.le b u q
  · by_cases z : b = a
    · subst z; exact ⟨_, upd_same⟩
    · obtain ⟨u, hu⟩ := R.there b hb
      exact ⟨u, by rw [upd_ne z]; exact hu⟩
  · by_cases hj : j = k
    · subst hj
      rw [e] at h2
      cases h2
      rw [List.getElem?_set] at h1
      simp only [if_true] at h1
      split at h1
      · simp at h1; subst h1; exact ok
      · cases h1
    · rw [List.getElem?_set_ne (Ne.symm hj)] at h1
      have ne := other j b h2 hj
      have q := R.cell j y b h1 h2
      cases y with
      | lst ds => obtain ⟨h3, vs, h4, h5⟩ := q; exact ⟨h3, vs, by rw [upd_ne ne]; exact h4, h5⟩
      | dic ds => obtain ⟨h3, vs, h4, h5⟩ := q; exact ⟨h3, vs, by rw [upd_ne ne]; exact h4, h5⟩
      | frz d => exact q
/-- a word frozen -/
theorem Rel.fz (R : Rel K fa c ad F H) {d : D} {c' : Cells} (r : RW K fa ad F v w) (e : fz w c = .ok d c') : ∃ F', Same F F' ∧ Rel K fa c' ad F' H ∧ Rp K fa F' v d := by
  cases w with
  | d x =>
    injection e with e1 e2
    subst e1 e2
    exact ⟨F, Same.refl F, R, r⟩
  | c k =>
    obtain ⟨a, h1, h2⟩ := r
    replace e : (match c[k]? with | some o => Out.ok o.val (c.set k (.frz o.val)) | none => .bad) = Out.ok d c' := e
    cases q : c[k]? with
    | none => rw [q] at e; cases e
    | some o =>
      rw [q] at e
      injection e with e1 e2
      subst e1 e2
      have ok := R.cell k o a q h1
      have other : ∀ (j : Nat) (b : Addr), ad[j]? = some b → j ≠ k → b ≠ a := fun j b h1' h2' z => by
        subst z
        exact h2' (ix_inj R.nd h1' h1)
      have fin : ∀ {u : HO} {d : D}, F a = none → H a = some u → (∀ F', Same F F' → F' a = some u → Rp K fa F' (.ref a) d) → ∃ F', Same F F' ∧ Rel K fa (c.set k (.frz d)) ad F' H ∧ Rp K fa F' v d := fun {u d} nF hu hr => by
        have sF : Same F (upd F a u) := fun b x e => by rw [upd_ne (ne_of_none e nF)]; exact e
        have rp := hr _ sF upd_same
        refine ⟨upd F a u, sF, ⟨fun b x e => ?_, by simp [R.len], R.nd, R.there, fun j y b h3 h4 => ?_⟩, by rw [h2]; exact rp⟩
        · by_cases z : b = a
          · subst z; rw [upd_same] at e; cases e; exact hu
          · rw [upd_ne z] at e; exact R.le b x e
        · by_cases hj : j = k
          · subst hj
            rw [h1] at h4; cases h4
            rw [List.getElem?_set] at h3
            simp only [if_true] at h3
            split at h3
            · simp at h3; subst h3; exact rp
            · cases h3
          · rw [List.getElem?_set_ne (Ne.symm hj)] at h3
            have ne := other j b h4 hj
            have q' := R.cell j y b h3 h4
            cases y with
            | lst ds => obtain ⟨h5, vs, h6, h7⟩ := q'; exact ⟨by rw [upd_ne ne]; exact h5, vs, h6, h7.mono sF⟩
            | dic ds => obtain ⟨h5, vs, h6, h7⟩ := q'; exact ⟨by rw [upd_ne ne]; exact h5, vs, h6, h7.mono sF⟩
            | frz d => exact Rp.mono sF q'
      cases o with
      | lst ds =>
        obtain ⟨nF, vs, h3, h4⟩ := ok
        exact fin nF h3 fun F' s e => .lst (.inl e) (h4.mono s)
      | dic ds =>
        obtain ⟨nF, vs, h3, h4⟩ := ok
        exact fin nF h3 fun F' s e => .dic e (h4.mono s)
      | frz d =>
        refine ⟨F, Same.refl F, ?_, by rw [h2]; exact ok⟩
        have : c.set k (O.frz d) = c := by
          apply List.ext_getElem?
          intro j
          rw [List.getElem?_set]
          split
          · rename_i z; subst z; rw [if_pos (List.getElem?_eq_some_iff.mp q).1, q]
          · rfl
        show Rel K fa (c.set k (O.frz d)) ad F H
        rw [this]; exact R
  | x _ _ => cases e
/-! ### another register -/
mutual
theorem Rp.sw {fb : Fa} (e : fa.f = fb.f) {F : Hp} : ∀ {v : V} {d : D}, Rp K fa F v d → Rp K fb F v d
  | _, _, .non => .non
  | _, _, .bl b => .bl b
  | _, _, .int i => .int i
  | _, _, .str x => .str x
  | _, _, .fn h => .fn (by rw [← e]; exact h)
  | _, _, .ty n => .ty n
  | _, _, .lst h r => .lst h (RpA.sw e r)
  | _, _, .tup h r => .tup h (RpA.sw e r)
  | _, _, .dic h r => .dic h (RpK.sw e r)
  | _, _, .arr h => .arr h
theorem RpA.sw {fb : Fa} (e : fa.f = fb.f) {F : Hp} : ∀ {vs : List V} {ds : List D}, RpA K fa F vs ds → RpA K fb F vs ds
  | _, _, .nil => .nil
  | _, _, .cons h r => .cons (Rp.sw e h) (RpA.sw e r)
theorem RpK.sw {fb : Fa} (e : fa.f = fb.f) {F : Hp} : ∀ {vs : List (Key × V)} {ds : List (Key × D)}, RpK K fa F vs ds → RpK K fb F vs ds
  | _, _, .nil => .nil
  | _, _, .cons h r => .cons (Rp.sw e h) (RpK.sw e r)
end
theorem Rel.sw {fb : Fa} (e : fa.f = fb.f) (R : Rel K fa c ad F H) : Rel K fb c ad F H := ⟨R.le, R.len, R.nd, R.there, fun k o a h1 h2 => by
  have q := R.cell k o a h1 h2
  cases o with
  | lst ds => obtain ⟨h3, vs, h4, h5⟩ := q; exact ⟨h3, vs, h4, h5.sw e⟩
  | dic ds => obtain ⟨h3, vs, h4, h5⟩ := q; exact ⟨h3, vs, h4, h5.sw e⟩
  | frz d => exact Rp.sw e q⟩
theorem Flds.sw {fb : Fa} (e : fa.f = fb.f) {fs : List (Str × V)} {pl : List (Str × D)} (h : Flds K fa F fs pl) : Flds K fb F fs pl := fun x d q => let ⟨v, q1, q2⟩ := h x d q; ⟨v, q1, q2.sw e⟩
def noX : W → Bool
  | .x _ _ => false
  | _ => true
theorem RW.sw {fb : Fa} (e : fa.f = fb.f) (n : noX w = true) (h : RW K fa ad F v w) : RW K fb ad F v w := by
  cases w with
  | d x => exact Rp.sw e h
  | c k => exact h
  | x _ _ => cases n
/-- the store cut at the end of a def -/
theorem Rel.take (R : Rel K fa c ad F H) (n : Nat) : Rel K fa (c.take n) (ad.take n) F H := by
  refine ⟨R.le, by simp [R.len], R.nd.sublist (List.take_sublist ..), fun a ha => R.there a (List.mem_of_mem_take ha), fun k o a h1 h2 => ?_⟩
  rw [List.getElem?_take] at h1 h2
  split at h1
  · rename_i hk
    rw [if_pos hk] at h2
    exact R.cell k o a h1 h2
  · cases h1
end
end Pm

/-! Pm2: the judgements by plain functions; glue. -/
namespace Pm
open PySem L2

/-! ### consequence -/
section
variable {X : Cx}
theorem PE.imp {e : Expr} {t t' : TE} (h : PE X e t) (i : ∀ σ H Q, t' σ H Q → t σ H Q) : PE X e t' := ⟨fun pins s σ H Q I q => h.run pins s σ H Q I (i σ H Q q)⟩
theorem PT.imp {e : Expr} {t t' : TT} (h : PT X e t) (i : ∀ σ H Q, t' σ H Q → t σ H Q) : PT X e t' := ⟨fun pins s σ H Q I q => h.run pins s σ H Q I (i σ H Q q)⟩
theorem PW.imp {e : Expr} {t t' : TT} (h : PW X e t) (i : ∀ σ H Q, t' σ H Q → t σ H Q) : PW X e t' := ⟨fun wh pins s σ H Q I q => h.run wh pins s σ H Q I (i σ H Q q)⟩
theorem PA.imp {e : List Expr} {t t' : TA} (h : PA X e t) (i : ∀ σ H Q, t' σ H Q → t σ H Q) : PA X e t' := ⟨fun pos pins s σ H Q I q => h.run pos pins s σ H Q I (i σ H Q q)⟩
theorem PK.imp {e : List Keyword} {t t' : TA} (h : PK X e t) (i : ∀ σ H Q, t' σ H Q → t σ H Q) : PK X e t' := ⟨fun pos pins s σ H Q I q => h.run pos pins s σ H Q I (i σ H Q q)⟩
theorem PS.imp {e : Stmt} {t t' : TS} (h : PS X e t) (i : ∀ D σ H, t' D σ H → t D σ H) : PS X e t' := ⟨fun pins s σ H D I q => h.run pins s σ H D I (i D σ H q)⟩
theorem PSs.imp {e : List Stmt} {t t' : TS} (h : PSs X e t) (i : ∀ D σ H, t' D σ H → t D σ H) : PSs X e t' := ⟨fun pins s σ H D I q => h.run pins s σ H D I (i D σ H q)⟩
theorem PG.imp {e : Expr} {t t' : TG} (h : PG X e t) (i : ∀ v σ H Q, t' v σ H Q → t v σ H Q) : PG X e t' := ⟨fun pins s σ H v u Q I r q => h.run pins s σ H v u Q I r (i v σ H Q q)⟩
theorem PGs.imp {e : List Expr} {t t' : TGs} (h : PGs X e t) (i : ∀ v σ H Q, t' v σ H Q → t v σ H Q) : PGs X e t' := ⟨fun pins s σ H v u Q I r q => h.run pins s σ H v u Q I r (i v σ H Q q)⟩
theorem PI.imp {tg e : Expr} {t t' : TI} (h : PI X tg e t) (i : ∀ σ H R, t' σ H R → t σ H R) : PI X tg e t' := ⟨fun pins s σ H Q I q => h.run pins s σ H Q I (i σ H Q q)⟩
end

/-! ### statements' outcomes -/
inductive OS where
  | nx (sl : Sl) (c : Cells) | ret (w : W) (c : Cells) | brk (sl : Sl) (c : Cells) | cnt (sl : Sl) (c : Cells) | exc (sl : Sl) (x : Str) (pl : List (Str × D)) (c : Cells) | bad
abbrev SDen := Sl → Cells → OS
def OS.andThen (o : OS) (f : SDen) : OS := match o with
  | .nx sl c => f sl c
  | .ret w c => .ret w c
  | .brk sl c => .brk sl c
  | .cnt sl c => .cnt sl c
  | .exc sl x pl c => .exc sl x pl c
  | .bad => .bad
@[simp] theorem OS.andThen_nx (sl : Sl) (c : Cells) (f : SDen) : (OS.nx sl c).andThen f = f sl c := rfl
@[simp] theorem OS.andThen_ret (w : W) (c : Cells) (f : SDen) : (OS.ret w c).andThen f = .ret w c := rfl
@[simp] theorem OS.andThen_brk (sl : Sl) (c : Cells) (f : SDen) : (OS.brk sl c).andThen f = .brk sl c := rfl
@[simp] theorem OS.andThen_cnt (sl : Sl) (c : Cells) (f : SDen) : (OS.cnt sl c).andThen f = .cnt sl c := rfl
@[simp] theorem OS.andThen_exc (sl : Sl) (x : Str) (pl : List (Str × D)) (c : Cells) (f : SDen) : (OS.exc sl x pl c).andThen f = .exc sl x pl c := rfl
@[simp] theorem OS.andThen_bad (f : SDen) : OS.bad.andThen f = .bad := rfl
/-- an expression's outcome, in a statement -/
def Out.st {α : Type} (o : Out α) (sl : Sl) (f : α → Cells → OS) : OS := match o with
  | .ok a c => f a c
  | .exc x pl c => .exc sl x pl c
  | .bad => .bad
@[simp] theorem Out.st_ok {α : Type} (a : α) (c : Cells) (sl : Sl) (f : α → Cells → OS) : (Out.ok a c).st sl f = f a c := rfl
@[simp] theorem Out.st_exc {α : Type} (x : Str) (pl : List (Str × D)) (c : Cells) (sl : Sl) (f : α → Cells → OS) : (Out.exc x pl c : Out α).st sl f = .exc sl x pl c := rfl
@[simp] theorem Out.st_bad {α : Type} (sl : Sl) (f : α → Cells → OS) : (Out.bad : Out α).st sl f = .bad := rfl

section
variable (K : PySem.W.Frag) (fa : Fa) (Wx : WX)
/-- the readings -/
def tE (f : Den) : TE := fun σ H Q => ∃ sl c ad F, SlOk K fa ad F σ sl ∧ Rel K fa c ad F H ∧
  Post K fa (fun cls d H' => Wx cls d σ H') ad F (fun w ad' F' H' => ∀ v, RW K fa ad' F' v w → Q v H') (f sl c)
def tT (f : Sl → Cells → Out Bool) : TT := fun σ H Q => ∃ sl c ad F, SlOk K fa ad F σ sl ∧ Rel K fa c ad F H ∧
  Post K fa (fun cls d H' => Wx cls d σ H') ad F (fun b ad' F' H' => Q b H') (f sl c)
def tAs (f : Sl → Cells → Out (List W)) : TA := fun σ H Q => ∃ sl c ad F, SlOk K fa ad F σ sl ∧ Rel K fa c ad F H ∧
  Post K fa (fun cls d H' => Wx cls d σ H') ad F (fun ws ad' F' H' => ∀ vs, RWs K fa ad' F' vs ws → Q vs H') (f sl c)
def PostS (ad : List Addr) (F : Hp) (D : Ends) : OS → Prop
  | .nx sl c => ∀ H F' ad' σ', Same F F' → ad <+: ad' → Rel K fa c ad' F' H → SlOk K fa ad' F' σ' sl → D.nx σ' H
  | .brk sl c => ∀ H F' ad' σ', Same F F' → ad <+: ad' → Rel K fa c ad' F' H → SlOk K fa ad' F' σ' sl → D.bk σ' H
  | .cnt sl c => ∀ H F' ad' σ', Same F F' → ad <+: ad' → Rel K fa c ad' F' H → SlOk K fa ad' F' σ' sl → D.ct σ' H
  | .ret w c => ∀ H F' ad' v, Same F F' → ad <+: ad' → Rel K fa c ad' F' H → RW K fa ad' F' v w → D.rt v H
  | .exc sl x pl c => ∀ H F' ad' σ' C d fs, Same F F' → ad <+: ad' → Rel K fa c ad' F' H → SlOk K fa ad' F' σ' sl → fa.f x = some C → H d = some (.xd fs) → Flds K fa F' fs pl → Wx (.ref C) (some d) σ' H
  | .bad => False
def tSt (f : SDen) : TS := fun D σ H => ∃ sl c ad F, SlOk K fa ad F σ sl ∧ Rel K fa c ad F H ∧ PostS K fa Wx ad F D (f sl c)
/-- a target: what is stored -/
def tGt (g : W → SDen) : TG := fun v σ H Q => ∃ w sl c ad F, RW K fa ad F v w ∧ SlOk K fa ad F σ sl ∧ Rel K fa c ad F H ∧ PostS K fa Wx ad F { nx := Q, rt := fun _ _ => False } (g w sl c)
end

/-! ### what follows from a Post -/
section
variable {K : PySem.W.Frag} {fa : Fa} {E : Value → Option Addr → Hp → Prop} {c : Cells} {ad ad1 : List Addr} {F F1 H : Hp} {α : Type} {σ : L2.St} {sl : Sl} {Wx : WX}
theorem Post.now {a : α} {Q : α → List Addr → Hp → Hp → Prop} (h : Post K fa E ad F Q (.ok a c)) (R : Rel K fa c ad F H) : Q a ad F H := h H F ad (Same.refl F) (List.prefix_refl ad) R
theorem Post.weak {o : Out α} {Q : α → List Addr → Hp → Hp → Prop} (h : Post K fa E ad F Q o) (s : Same F F1) (p : ad <+: ad1) : Post K fa E ad1 F1 Q o := by
  cases o with
  | ok a c => exact fun H F' ad' e q R => h H F' ad' (s.trans e) (p.trans q) R
  | exc x pl c => exact fun H F' ad' C d fs e q R => h H F' ad' C d fs (s.trans e) (p.trans q) R
  | bad => exact h
theorem PostS.weak {o : OS} {D : Ends} (h : PostS K fa Wx ad F D o) (s : Same F F1) (p : ad <+: ad1) : PostS K fa Wx ad1 F1 D o := by
  cases o with
  | nx sl c => exact fun H F' ad' σ' e q R => h H F' ad' σ' (s.trans e) (p.trans q) R
  | brk sl c => exact fun H F' ad' σ' e q R => h H F' ad' σ' (s.trans e) (p.trans q) R
  | cnt sl c => exact fun H F' ad' σ' e q R => h H F' ad' σ' (s.trans e) (p.trans q) R
  | ret w c => exact fun H F' ad' σ' e q R => h H F' ad' σ' (s.trans e) (p.trans q) R
  | exc sl x pl c => exact fun H F' ad' σ' C d fs e q R => h H F' ad' σ' C d fs (s.trans e) (p.trans q) R
  | bad => exact h
theorem Post.bind {β : Type} {o : Out α} {f : α → Cells → Out β} {Q : β → List Addr → Hp → Hp → Prop} {Q' : α → List Addr → Hp → Hp → Prop}
    (h : Post K fa E ad F Q (o.bind f)) (k : ∀ a c1 H1 F1 ad1, Same F F1 → ad <+: ad1 → Rel K fa c1 ad1 F1 H1 → Post K fa E ad1 F1 Q (f a c1) → Q' a ad1 F1 H1) : Post K fa E ad F Q' o := by
  cases o with
  | ok a c => exact fun H1 F1 ad1 s p R => k a c H1 F1 ad1 s p R (Post.weak (o := f a c) h s p)
  | exc x pl c => exact h
  | bad => exact h
/-- an expression within a statement -/
theorem Post.st {o : Out α} {f : α → Cells → OS} {D : Ends} {Q' : α → List Addr → Hp → Hp → Prop} (ok : SlOk K fa ad F σ sl)
    (h : PostS K fa Wx ad F D (o.st sl f)) (k : ∀ a c1 H1 F1 ad1, Same F F1 → ad <+: ad1 → Rel K fa c1 ad1 F1 H1 → PostS K fa Wx ad1 F1 D (f a c1) → Q' a ad1 F1 H1) : Post K fa (fun cls d H' => Wx cls d σ H') ad F Q' o := by
  cases o with
  | ok a c => exact fun H1 F1 ad1 s p R => k a c H1 F1 ad1 s p R (PostS.weak (o := f a c) h s p)
  | exc x pl c => exact fun H F' ad' C d fs s p R => h H F' ad' σ C d fs s p R (ok.mono s p)
  | bad => exact h
theorem PostS.andThen {o : OS} {f : SDen} {D : Ends} {N : L2.St → Hp → Prop} (h : PostS K fa Wx ad F D (o.andThen f))
    (k : ∀ sl1 c1 σ1 H1 F1 ad1, Same F F1 → ad <+: ad1 → SlOk K fa ad1 F1 σ1 sl1 → Rel K fa c1 ad1 F1 H1 → PostS K fa Wx ad1 F1 D (f sl1 c1) → N σ1 H1) : PostS K fa Wx ad F { D with nx := N } o := by
  cases o with
  | nx sl c => exact fun H1 F1 ad1 σ1 s p R ok => k sl c σ1 H1 F1 ad1 s p ok R (PostS.weak (o := f sl c) h s p)
  | ret w c => exact h
  | brk sl c => exact h
  | cnt sl c => exact h
  | exc sl x pl c => exact h
  | bad => exact h
end

/-! ### expressions: names, constants, arguments -/
section
variable {X : Cx} {fa : Fa} {Wx : WX} {pos : Pos}
abbrev SE (X : Cx) (fa : Fa) (Wx : WX) (e : Expr) (f : Den) : Prop := PE X e (tE X.K fa Wx f)
abbrev STt (X : Cx) (fa : Fa) (Wx : WX) (e : Expr) (f : Sl → Cells → Out Bool) : Prop := PT X e (tT X.K fa Wx f)
abbrev SA (X : Cx) (fa : Fa) (Wx : WX) (es : List Expr) (f : Sl → Cells → Out (List W)) : Prop := PA X es (tAs X.K fa Wx f)
abbrev SS (X : Cx) (fa : Fa) (Wx : WX) (s : Stmt) (f : SDen) : Prop := PS X s (tSt X.K fa Wx f)
abbrev SSs (X : Cx) (fa : Fa) (Wx : WX) (s : List Stmt) (f : SDen) : Prop := PSs X s (tSt X.K fa Wx f)

def dVar (i : Nat) : Den := fun sl c => match sl[i]? with
  | some (some w) => .ok w c
  | _ => .bad
def dC (d : D) : Den := fun _ c => .ok (.d d) c
theorem se_of_var {i : Nat} {e : Expr} (h : PE X e (tVar i)) : SE X fa Wx e (dVar i) := PE.imp h fun σ H Q q => by
  obtain ⟨sl, c, ad, F, ok, R, P⟩ := q
  unfold dVar at P
  split at P
  · rename_i w hw
    obtain ⟨v, h1, h2⟩ := ok.2 i w hw
    exact ⟨v, h1, P.now R v h2⟩
  · exact P.elim
theorem se_var (i : Nat) {x : Str} {pos : Pos} (hN : X.N[i]? = some x := by rfl) (hv : Vis X.env.scope x := by first | exact Or.inl rfl | exact Or.inr (Or.inl rfl) | exact Or.inr (Or.inr rfl)) (hd : (x == ("__debug__" : Str)) = false := by decide)
    (hcd : (x == ("__classdict__" : Str)) = false := by decide) : SE X fa Wx (.Name x pos) (dVar i) := se_of_var (pe_var hN hv hd hcd)
theorem se_of_c {v : V} {d : D} {e : Expr} (h : PE X e (tC v)) (r : ∀ F, Rp X.K fa F v d) : SE X fa Wx e (dC d) := PE.imp h fun σ H Q q => by
  obtain ⟨sl, c, ad, F, ok, R, P⟩ := q
  exact P.now R v (r F)
theorem se_int {i : Int} {j : Nat} : SE X fa Wx (.Constant (.int i) j pos) (dC (.int i)) := se_of_c pe_int fun _ => .int i
theorem se_bl {b : Bool} {j : Nat} : SE X fa Wx (.Constant (.bool b) j pos) (dC (.bl b)) := se_of_c pe_bl fun _ => .bl b
theorem se_non {j : Nat} : SE X fa Wx (.Constant .none j pos) (dC .non) := se_of_c pe_non fun _ => .non
theorem se_str {x : Str} {j : Nat} : SE X fa Wx (.Constant (.str x) j pos) (dC (.str x)) := se_of_c pe_str fun _ => .str x
/-- a global: a def as a value, a module's constant -/
theorem se_glob {x : Str} {v : V} {u : Value} {d : D} (hg : Gl X x) (hm : X.mg x = some u) (r : RelV v u) (rp : ∀ F, Rp X.K fa F v d) (hd : (x == ("__debug__" : Str)) = false := by decide) : SE X fa Wx (.Name x pos) (dC d) :=
  se_of_c (pe_glob hg hm r hd) rp

def dNil : Sl → Cells → Out (List W) := fun _ c => .ok [] c
def dCons (f : Den) (g : Sl → Cells → Out (List W)) : Sl → Cells → Out (List W) := fun sl c => (f sl c).bind fun w c1 => (g sl c1).bind fun ws c2 => .ok (w :: ws) c2
theorem sa_nil : SA X fa Wx [] dNil := PA.imp pa_nil fun σ H Q q => by
  obtain ⟨sl, c, ad, F, ok, R, P⟩ := q
  exact P.now R [] .nil
theorem sa_cons {e : Expr} {es : List Expr} {f : Den} {g : Sl → Cells → Out (List W)} (ha : SE X fa Wx e f) (hr : SA X fa Wx es g) (hs : starEach (e :: es) X.env = (false, eval e X.env) :: starEach es X.env := by rfl) : SA X fa Wx (e :: es) (dCons f g) :=
  PA.imp (pa_cons ha hr hs) fun σ H Q q => by
  obtain ⟨sl, c, ad, F, ok, R, P⟩ := q
  refine ⟨sl, c, ad, F, ok, R, P.bind fun w c1 H1 F1 ad1 s p R1 P1 v rv => ?_⟩
  refine ⟨sl, c1, ad1, F1, ok.mono s p, R1, P1.bind fun ws c2 H2 F2 ad2 s2 p2 R2 P2 vs rvs => ?_⟩
  exact P2.now R2 (v :: vs) (.cons (rv.mono s2 p2) rvs)

/-! ### operators -/
def OpL (K : PySem.W.Frag) (fa : Fa) (r : R2) (o : W → W → Cells → Out W) : Prop :=
  ∀ (c : Cells) (ad : List Addr) (F H : Hp) (v1 v2 : V) (w1 w2 : W) (Q : VK) (E : Value → Option Addr → Hp → Prop), Rel K fa c ad F H → RW K fa ad F v1 w1 → RW K fa ad F v2 w2 →
    Post K fa E ad F (fun w ad' F' H' => ∀ v, RW K fa ad' F' v w → Q v H') (o w1 w2 c) → r v1 v2 H Q
def dBin (o : W → W → Cells → Out W) (f g : Den) : Den := fun sl c => (f sl c).bind fun w1 c1 => (g sl c1).bind fun w2 c2 => o w1 w2 c2
theorem tOp_of {K : PySem.W.Frag} {r : R2} {o : W → W → Cells → Out W} (hl : OpL K fa r o) {f g : Den} {σ : L2.St} {H : Hp} {Q : VK} (q : tE K fa Wx (dBin o f g) σ H Q) : tOp r (tE K fa Wx f) (tE K fa Wx g) σ H Q := by
  obtain ⟨sl, c, ad, F, ok, R, P⟩ := q
  refine ⟨sl, c, ad, F, ok, R, P.bind fun w c1 H1 F1 ad1 s p R1 P1 v rv => ?_⟩
  refine ⟨sl, c1, ad1, F1, ok.mono s p, R1, P1.bind fun w2 c2 H2 F2 ad2 s2 p2 R2 P2 v2 rv2 => ?_⟩
  exact hl c2 ad2 F2 H2 v v2 w w2 Q _ R2 (rv.mono s2 p2) rv2 P2
theorem se_bin {op : Operator} {r : R2} {o : W → W → Cells → Out W} {a b : Expr} {f g : Den} (ho : OpR X (binaryOp op) r) (hl : OpL X.K fa r o) (ha : SE X fa Wx a f) (hb : SE X fa Wx b g) : SE X fa Wx (.BinOp a op b pos) (dBin o f g) :=
  PE.imp (pe_op ho ha hb) fun σ H Q q => tOp_of hl q
theorem se_cmp {op : CmpOp} {r : R2} {o : W → W → Cells → Out W} {a b : Expr} {f g : Den} (ho : OpR X (compareOp op) r) (hl : OpL X.K fa r o) (ha : SE X fa Wx a f) (hb : SE X fa Wx b g) (hm : behindInMarks op b = false) : SE X fa Wx (.Compare a [op] [b] pos) (dBin o f g) :=
  PE.imp (pe_cmpR ho ha hb hm) fun σ H Q q => tOp_of hl q
theorem se_ix {r : R2} {o : W → W → Cells → Out W} {a b : Expr} {f g : Den} (hr : IxR X r) (hl : OpL X.K fa r o) (ha : SE X fa Wx a f) (hb : SE X fa Wx b g) (hs : PlainIx b) : SE X fa Wx (.Subscript a b pos) (dBin o f g) :=
  PE.imp (pe_ix hr ha hb hs) fun σ H Q q => tOp_of hl q
/-- an expression that gives a bool, as a test -/
def bT (o : Out W) : Out Bool := o.bind fun w c => match w with
  | .d (.bl b) => .ok b c
  | _ => .bad
def dTest (f : Den) : Sl → Cells → Out Bool := fun sl c => bT (f sl c)
theorem tB_of {K : PySem.W.Frag} {f : Den} {σ : L2.St} {H : Hp} {Q : Bool → Hp → Prop} (q : tT K fa Wx (dTest f) σ H Q) : tE K fa Wx f σ H (fun x H1 => ∃ b, x = .bl b ∧ Q b H1) := by
  obtain ⟨sl, c, ad, F, ok, R, P⟩ := q
  refine ⟨sl, c, ad, F, ok, R, P.bind fun w c1 H1 F1 ad1 s p R1 P1 v rv => ?_⟩
  cases w with
  | c k => exact P1.elim
  | x _ _ => exact P1.elim
  | d x =>
    cases x <;> first | exact P1.elim | skip
    rename_i b
    cases rv
    exact ⟨b, rfl, P1.now R1⟩
theorem st_val {e : Expr} {f : Den} (h : SE X fa Wx e f) (he : ∀ whole, isTrue e X.env whole = (do let v ← whole; standAt e.pos; holding [v] (truthy v)) := by intro _; rfl) : STt X fa Wx e (dTest f) :=
  PT.imp (pt_val h he) fun σ H Q q => tB_of q
theorem st_cmp {op : CmpOp} {r : R2} {o : W → W → Cells → Out W} {a b : Expr} {f g : Den} (ho : OpR X (compareOp op) r) (hl : OpL X.K fa r o) (ha : SE X fa Wx a f) (hb : SE X fa Wx b g) (hm : behindInMarks op b = false) : STt X fa Wx (.Compare a [op] [b] pos) (dTest (dBin o f g)) :=
  PT.imp (pt_cmpR ho ha hb hm) fun σ H Q q => tOp_of hl (tB_of q)
def dNot (f : Sl → Cells → Out Bool) : Sl → Cells → Out Bool := fun sl c => (f sl c).bind fun b c1 => .ok (!b) c1
theorem st_not {a : Expr} {f : Sl → Cells → Out Bool} (h : STt X fa Wx a f) : STt X fa Wx (.UnaryOp .Not a pos) (dNot f) := PT.imp (pt_not h) fun σ H Q q => by
  obtain ⟨sl, c, ad, F, ok, R, P⟩ := q
  exact ⟨sl, c, ad, F, ok, R, P.bind fun b c1 H1 F1 ad1 s p R1 P1 => P1.now R1⟩
def dAnd (f g : Sl → Cells → Out Bool) : Sl → Cells → Out Bool := fun sl c => (f sl c).bind fun b c1 => if b = true then g sl c1 else .ok false c1
def dOr (f g : Sl → Cells → Out Bool) : Sl → Cells → Out Bool := fun sl c => (f sl c).bind fun b c1 => if b = true then .ok true c1 else g sl c1
abbrev SWt (X : Cx) (fa : Fa) (Wx : WX) (e : Expr) (f : Sl → Cells → Out Bool) : Prop := PW X e (tT X.K fa Wx f)
theorem sw_and1 {a : Expr} {f : Sl → Cells → Out Bool} (h : STt X fa Wx a f) : SWt X fa Wx (.BoolOp .And [a] pos) f := pw_and1 h
theorem sw_or1 {a : Expr} {f : Sl → Cells → Out Bool} (h : STt X fa Wx a f) : SWt X fa Wx (.BoolOp .Or [a] pos) f := pw_or1 h
theorem sw_and {a b : Expr} {rest : List Expr} {f g : Sl → Cells → Out Bool} (ha : STt X fa Wx a f) (hb : SWt X fa Wx (.BoolOp .And (b :: rest) pos) g) : SWt X fa Wx (.BoolOp .And (a :: b :: rest) pos) (dAnd f g) := PW.imp (pw_and ha hb) fun σ H Q q => by
  obtain ⟨sl, c, ad, F, ok, R, P⟩ := q
  refine ⟨sl, c, ad, F, ok, R, P.bind fun b c1 H1 F1 ad1 s p R1 P1 => ?_⟩
  cases b with
  | true => rw [if_pos rfl]; exact ⟨sl, c1, ad1, F1, ok.mono s p, R1, P1⟩
  | false => rw [if_neg Bool.false_ne_true]; exact P1.now R1
theorem sw_or {a b : Expr} {rest : List Expr} {f g : Sl → Cells → Out Bool} (ha : STt X fa Wx a f) (hb : SWt X fa Wx (.BoolOp .Or (b :: rest) pos) g) : SWt X fa Wx (.BoolOp .Or (a :: b :: rest) pos) (dOr f g) := PW.imp (pw_or ha hb) fun σ H Q q => by
  obtain ⟨sl, c, ad, F, ok, R, P⟩ := q
  refine ⟨sl, c, ad, F, ok, R, P.bind fun b c1 H1 F1 ad1 s p R1 P1 => ?_⟩
  cases b with
  | true => rw [if_pos rfl]; exact P1.now R1
  | false => rw [if_neg Bool.false_ne_true]; exact ⟨sl, c1, ad1, F1, ok.mono s p, R1, P1⟩
theorem st_w {e : Expr} {f : Sl → Cells → Out Bool} (h : SWt X fa Wx e f) : STt X fa Wx e f := PW.pt h
/-- a test's answer as a value -/
def dBool (f : Sl → Cells → Out Bool) : Den := fun sl c => (f sl c).bind fun b c1 => .ok (.d (.bl b)) c1
theorem bl_of {K : PySem.W.Frag} {f : Sl → Cells → Out Bool} {σ : L2.St} {H : Hp} {Q : VK} (q : tE K fa Wx (dBool f) σ H Q) : tT K fa Wx f σ H (fun b H1 => Q (.bl b) H1) := by
  obtain ⟨sl, c, ad, F, ok, R, P⟩ := q
  exact ⟨sl, c, ad, F, ok, R, P.bind fun b c1 H1 F1 ad1 s p R1 P1 => P1.now R1 _ (.bl b)⟩
/-- and, or, not as values; each part gives a bool -/
theorem se_one {a : Expr} {op : BoolOp} {f : Den} (h : SE X fa Wx a f) : SE X fa Wx (.BoolOp op [a] pos) f := pe_one h
def dAndV (f g : Den) : Den := fun sl c => (bT (f sl c)).bind fun b c1 => if b = true then g sl c1 else .ok (.d (.bl false)) c1
def dOrV (f g : Den) : Den := fun sl c => (bT (f sl c)).bind fun b c1 => if b = true then .ok (.d (.bl true)) c1 else g sl c1
theorem se_and {a b : Expr} {rest : List Expr} {f g : Den} (ha : SE X fa Wx a f) (hb : SE X fa Wx (.BoolOp .And (b :: rest) pos) g) : SE X fa Wx (.BoolOp .And (a :: b :: rest) pos) (dAndV f g) := PE.imp (pe_and ha hb) fun σ H Q q => by
  obtain ⟨sl, c, ad, F, ok, R, P⟩ := q
  refine tB_of (Q := fun b H1 => if b = true then tE X.K fa Wx g σ H1 Q else Q (.bl false) H1) ⟨sl, c, ad, F, ok, R, ?_⟩
  refine Post.bind P fun b c1 H1 F1 ad1 s p R1 P1 => ?_
  cases b with
  | true => rw [if_pos rfl]; exact ⟨sl, c1, ad1, F1, ok.mono s p, R1, P1⟩
  | false => rw [if_neg Bool.false_ne_true]; exact P1.now R1 _ (.bl false)
theorem se_or {a b : Expr} {rest : List Expr} {f g : Den} (ha : SE X fa Wx a f) (hb : SE X fa Wx (.BoolOp .Or (b :: rest) pos) g) : SE X fa Wx (.BoolOp .Or (a :: b :: rest) pos) (dOrV f g) := PE.imp (pe_or ha hb) fun σ H Q q => by
  obtain ⟨sl, c, ad, F, ok, R, P⟩ := q
  refine tB_of (Q := fun b H1 => if b = true then Q (.bl true) H1 else tE X.K fa Wx g σ H1 Q) ⟨sl, c, ad, F, ok, R, ?_⟩
  refine Post.bind P fun b c1 H1 F1 ad1 s p R1 P1 => ?_
  cases b with
  | true => rw [if_pos rfl]; exact P1.now R1 _ (.bl true)
  | false => rw [if_neg Bool.false_ne_true]; exact ⟨sl, c1, ad1, F1, ok.mono s p, R1, P1⟩
def dNotV (f : Den) : Den := fun sl c => (bT (f sl c)).bind fun b c1 => .ok (.d (.bl (!b))) c1
theorem se_not {a : Expr} {f : Den} (h : SE X fa Wx a f) : SE X fa Wx (.UnaryOp .Not a pos) (dNotV f) := PE.imp (pe_not h) fun σ H Q q => by
  obtain ⟨sl, c, ad, F, ok, R, P⟩ := q
  refine tB_of (Q := fun b H1 => Q (.bl (!b)) H1) ⟨sl, c, ad, F, ok, R, ?_⟩
  exact Post.bind P fun b c1 H1 F1 ad1 s p R1 P1 => P1.now R1 _ (.bl _)
def dIf (t : Sl → Cells → Out Bool) (f g : Den) : Den := fun sl c => (t sl c).bind fun b c1 => if b = true then f sl c1 else g sl c1
theorem se_if {t a b : Expr} {ft : Sl → Cells → Out Bool} {f g : Den} (ht : STt X fa Wx t ft) (ha : SE X fa Wx a f) (hb : SE X fa Wx b g) : SE X fa Wx (.IfExp t a b pos) (dIf ft f g) := PE.imp (pe_ifExp ht ha hb) fun σ H Q q => by
  obtain ⟨sl, c, ad, F, ok, R, P⟩ := q
  refine ⟨sl, c, ad, F, ok, R, P.bind fun b c1 H1 F1 ad1 s p R1 P1 => ?_⟩
  cases b with
  | true => rw [if_pos rfl]; exact ⟨sl, c1, ad1, F1, ok.mono s p, R1, P1⟩
  | false => rw [if_neg Bool.false_ne_true]; exact ⟨sl, c1, ad1, F1, ok.mono s p, R1, P1⟩
/-- is None -/
def isN : W → Bool
  | .d .non => true
  | _ => false
theorem isN_iff {K : PySem.W.Frag} {c : Cells} {ad : List Addr} {F H : Hp} {v : V} {w : W} (R : Rel K fa c ad F H) (r : RW K fa ad F v w) : decide (v = .non) = isN w := by
  cases w with
  | c k => obtain ⟨a, h1, h2⟩ := r; subst h2; simp [isN]
  | x _ _ => obtain ⟨a, _, _, _, h2, _⟩ := r; subst h2; simp [isN]
  | d x => cases r <;> simp [isN]
def dIsN (f : Den) : Den := fun sl c => (f sl c).bind fun w c1 => .ok (.d (.bl (isN w))) c1
def dNotN (f : Den) : Den := fun sl c => (f sl c).bind fun w c1 => .ok (.d (.bl (!isN w))) c1
theorem se_isN {a : Expr} {f : Den} {j : Nat} {p : Pos} (h : SE X fa Wx a f) : SE X fa Wx (.Compare a [.Is] [.Constant .none j p] pos) (dIsN f) := PE.imp (pe_cmp (pc_isN h) rfl) fun σ H Q q => by
  obtain ⟨sl, c, ad, F, ok, R, P⟩ := q
  refine ⟨sl, c, ad, F, ok, R, P.bind fun w c1 H1 F1 ad1 s p R1 P1 v rv => ?_⟩
  show Q (.bl (decide (v = .non))) H1
  rw [isN_iff R1 rv]
  exact P1.now R1 _ (.bl _)
theorem se_notN {a : Expr} {f : Den} {j : Nat} {p : Pos} (h : SE X fa Wx a f) : SE X fa Wx (.Compare a [.IsNot] [.Constant .none j p] pos) (dNotN f) := PE.imp (pe_cmp (pc_notN h) rfl) fun σ H Q q => by
  obtain ⟨sl, c, ad, F, ok, R, P⟩ := q
  refine ⟨sl, c, ad, F, ok, R, P.bind fun w c1 H1 F1 ad1 s p R1 P1 v rv => ?_⟩
  show Q (.bl (!decide (v = .non))) H1
  rw [isN_iff R1 rv]
  exact P1.now R1 _ (.bl _)
theorem st_isN {a : Expr} {f : Den} {j : Nat} {p : Pos} (h : SE X fa Wx a f) : STt X fa Wx (.Compare a [.Is] [.Constant .none j p] pos) (dTest (dIsN f)) := PT.imp (pt_cmp (pc_isN h) rfl) fun σ H Q q => by
  obtain ⟨sl, c, ad, F, ok, R, P⟩ := tB_of q
  refine ⟨sl, c, ad, F, ok, R, P.bind fun w c1 H1 F1 ad1 s p R1 P1 v rv => ?_⟩
  show ∃ b, V.bl (decide (v = .non)) = .bl b ∧ Q b H1
  rw [isN_iff R1 rv]
  exact P1.now R1 _ (.bl _)
theorem st_notN {a : Expr} {f : Den} {j : Nat} {p : Pos} (h : SE X fa Wx a f) : STt X fa Wx (.Compare a [.IsNot] [.Constant .none j p] pos) (dTest (dNotN f)) := PT.imp (pt_cmp (pc_notN h) rfl) fun σ H Q q => by
  obtain ⟨sl, c, ad, F, ok, R, P⟩ := tB_of q
  refine ⟨sl, c, ad, F, ok, R, P.bind fun w c1 H1 F1 ad1 s p R1 P1 v rv => ?_⟩
  show ∃ b, V.bl (!decide (v = .non)) = .bl b ∧ Q b H1
  rw [isN_iff R1 rv]
  exact P1.now R1 _ (.bl _)
end
end Pm

/-! Pm3: calls of defs, displays, statements, loops, comprehensions. -/
namespace Pm
open PySem L2 PyProof.Rows

/-! ### defs -/
def faOf (mg : Str → Option Value) : Fa := ⟨fun x => match mg x with
  | some (.ref a) => some a
  | _ => none, none⟩
theorem faOf_of {mg : Str → Option Value} {x : Str} {a : Addr} (h : mg x = some (.ref a)) : (faOf mg).f x = some a := by show (match mg x with | some (.ref a) => some a | _ => none) = some a; rw [h]
def spD (K : PySem.W.Frag) (fa : Fa) (n : Nat) (g : List W → Cells → Out W) : Sp := fun vs H Q E => vs.length = n ∧ ∃ ws c ad F, RWs K fa ad F vs ws ∧ Rel K fa c ad F H ∧
  Post K fa E ad F (fun w ad' F' H' => ∀ v, RW K fa ad' F' v w → Q v H') (g ws c)
def fin (n : Nat) (w : W) (c : Cells) : Out W := match w with
  | .d x => .ok (.d x) (c.take n)
  | .c k => if k < n then .ok (.c k) (c.take n) else match c[k]? with
    | some (.frz d) => .ok (.d d) (c.take n)
    | some o => .ok (.c n) (c.take n ++ [o])
    | none => .bad
  | .x _ _ => .bad
def runB (N : Nat) (b : SDen) (ws : List W) (c : Cells) : Out W := match b (ws.map some ++ List.replicate (N - ws.length) none) c with
  | .nx _ c' => .ok (.d .non) (c'.take c.length)
  | .ret w c' => fin c.length w c'
  | .exc _ x pl c' => .exc x pl (c'.take c.length)
  | _ => .bad
section
variable {K : PySem.W.Frag} {fa : Fa} {c : Cells} {ad : List Addr} {F H : Hp}
/-- cut, with one cell kept -/
theorem Rel.pick (R : Rel K fa c ad F H) {n k : Nat} {o : O} {a : Addr} (hk : n ≤ k) (h1 : c[k]? = some o) (h2 : ad[k]? = some a) : Rel K fa (c.take n ++ [o]) (ad.take n ++ [a]) F H := by
  have T := R.take n
  have hlt : k < c.length := (List.getElem?_eq_some_iff.mp h1).1
  have lt : (c.take n).length = n := by rw [List.length_take]; omega
  have la : (ad.take n).length = n := by rw [List.length_take, R.len]; omega
  refine ⟨R.le, by simp [T.len], ?_, fun b hb => ?_, fun j x b e1 e2 => ?_⟩
  · rw [List.nodup_append]
    refine ⟨T.nd, by simp, fun b hb b' hb' z => ?_⟩
    simp at hb'
    subst hb' z
    obtain ⟨j, hj⟩ := List.getElem?_of_mem hb
    rw [List.getElem?_take] at hj
    split at hj
    · rename_i hjn
      have := ix_inj R.nd hj h2
      omega
    · cases hj
  · rcases List.mem_append.mp hb with h | h
    · exact T.there b h
    · simp at h; subst h; exact R.there b (List.mem_of_getElem? h2)
  · by_cases hj : j < n
    · rw [List.getElem?_append_left (by omega)] at e1 e2
      exact T.cell j x b e1 e2
    · have e : j = n := by
        have := (List.getElem?_eq_some_iff.mp e1).1
        simp [lt] at this; omega
      subst e
      rw [List.getElem?_append_right (by omega)] at e1 e2
      simp [lt] at e1
      simp [la] at e2
      subst e1 e2
      exact R.cell k o a h1 h2
theorem take_pre {l l' : List Addr} {n : Nat} (h : l <+: l') (e : l.length = n) : l'.take n = l := by
  obtain ⟨t, rfl⟩ := h
  subst e
  simp
/-- from the end of a body to the end of the call -/
theorem fin_ok {E : Value → Option Addr → Hp → Prop} {Q : VK} {ad0 : List Addr} {F0 : Hp} {n : Nat} {w : W} {v : V} (P : Post K fa E ad0 F0 (fun w ad' F' H' => ∀ v, RW K fa ad' F' v w → Q v H') (fin n w c)) (hn : ad0.length = n)
    (s : Same F0 F) (p : ad0 <+: ad) (R : Rel K fa c ad F H) (r : RW K fa ad F v w) : Q v H := by
  have T := R.take n
  have ea := take_pre p hn
  rw [ea] at T
  cases w with
  | d x => exact P H F ad0 s (List.prefix_refl _) T v r
  | c k =>
    obtain ⟨a, h1, h2⟩ := r
    unfold fin at P
    dsimp only at P
    split at P
    · rename_i hk
      have : ad0[k]? = some a := by rw [← ea, List.getElem?_take, if_pos hk]; exact h1
      exact P H F ad0 s (List.prefix_refl _) T v ⟨a, this, h2⟩
    · rename_i hk
      split at P
      · rename_i d hd
        have ok := R.cell k _ a hd h1
        exact P H F ad0 s (List.prefix_refl _) T v (by rw [h2]; exact ok)
      · rename_i o hno ho
        have J := R.pick (n := n) (Nat.le_of_not_lt hk) ho h1
        rw [ea] at J
        refine P H F _ s (List.prefix_append _ _) J v ⟨a, ?_, h2⟩
        rw [← hn]; simp
      · exact P.elim
  | x _ _ => exact P.elim
end
section
variable {P : Program} {w : World} {K : PySem.W.Frag} {mg : Str → Option Value} {base : Heap} {fa : Fa}
theorem start_ok {N : List Str} {ad : List Addr} {F : Hp} : ∀ {vs : List V} {ws : List W} (m : Nat), RWs K fa ad F vs ws → SlOk K fa ad F (vs.map some ++ List.replicate m none) (ws.map some ++ List.replicate m none) := by
  intro vs ws m r
  refine ⟨by simp [r.length], fun i x h => ?_⟩
  have get : ∀ {vs : List V} {ws : List W} {i : Nat} {x : W}, RWs K fa ad F vs ws → ws[i]? = some x → ∃ v, vs[i]? = some v ∧ RW K fa ad F v x := by
    intro vs ws i x r
    induction r generalizing i with
    | nil => intro h; simp at h
    | cons q _ ih =>
      intro h
      cases i with
      | zero => simp at h; subst h; exact ⟨_, rfl, q⟩
      | succ i => simp at h; obtain ⟨v, h1, h2⟩ := ih h; exact ⟨v, by simpa using h1, h2⟩
  by_cases hi : i < ws.length
  · rw [List.getElem?_append_left (by simpa using hi)] at h
    rw [List.getElem?_map] at h
    cases q : ws[i]? with
    | none => rw [q] at h; simp at h
    | some y =>
      rw [q] at h
      simp at h
      subst h
      obtain ⟨v, h1, h2⟩ := get r q
      refine ⟨v, ?_, h2⟩
      rw [List.getElem?_append_left (by rw [List.length_map, r.length]; exact hi), List.getElem?_map, h1]
      rfl
  · rw [List.getElem?_append_right (by simpa using hi)] at h
    have := List.mem_of_getElem? h
    rw [List.mem_replicate] at this
    exact absurd this.2 (by simp)
/-- a def's promise, called where nothing is being shown -/
structure FnG (P : Program) (w : World) (K : PySem.W.Frag) (mg : Str → Option Value) (base : Heap) (k : Nat) (f : Addr) (fd : FuncData) (ps : List Str) (sp : Sp) : Prop where
  len : ∀ vs H Q E, sp vs H Q E → vs.length = ps.length
  run : ∀ (A : Around) (outer : List Env) (s : Shared) (H : Hp) (args : Args) (us : List Value) (vs : List V) (Q : VK) (E : XK), Room k A → A.guards = some [] → Env0 P w K mg base A outer s H →
    BindsTo s fd args (ps.zip us) → Vals vs us → sp vs H Q E → codeAny (model P w) A (.call (.ref f) args) (CR (L2.CX P w) outer P w H s Q E) s
theorem FnG.mono {j k : Nat} {f : Addr} {fd : FuncData} {ps : List Str} {sp : Sp} (F : FnG P w K mg base j f fd ps sp) (h : j ≤ k) : FnG P w K mg base k f fd ps sp :=
  ⟨F.len, fun A outer s H args us vs Q E r => F.run A outer s H args us vs Q E (r.mono h)⟩
/-- the body's end is the call's end -/
theorem ends_call {N : List Str} {qual : Str} {sc : Scope} {f : Addr} {cd : Value} {A : Around} {outer : List Env} {s s2 : Shared} {H : Hp} {Q : VK} {E : XK} {fl : Flow}
    (h : SP (cxOf (L2.CX P w) P w K mg base N qual sc f cd A outer s H E) [] { nx := fun _ H' => Q .non H', rt := Q } fl s2) : CR (L2.CX P w) outer P w H s Q E (.ok (match fl with | .next => .ret .none | x => x)) s2 := by
  cases fl with
  | next =>
    obtain ⟨_, H2, J, q⟩ := h
    exact ⟨.non, H2, J.os, J.bare, J.base, J.hok, rfl, q⟩
  | ret u =>
    obtain ⟨v, _, H2, J, r, q⟩ := h
    exact ⟨v, H2, J.os, J.bare, J.base, J.hok, r, q⟩
  | brk =>
    obtain ⟨_, _, _, q⟩ := h
    exact q
  | cont =>
    obtain ⟨_, _, _, q⟩ := h
    exact q
theorem fn_g {x qual : Str} {st : Stmt} {f : Addr} {fd : FuncData} {N ps : List Str} {k : Nat} {sp : Sp} (Fn : Fun K x qual st f fd) (S : FnScope N ps (defScope st)) (len : ∀ vs H Q E, sp vs H Q E → vs.length = ps.length)
    (hb : ∀ (cdv : Value) (A : Around) (outer : List Env) (s : Shared) (H : Hp) (vs : List V) (Q : VK) (E : XK), Room k (A.deeper (envOfC qual (defScope st) s.heap.objs.size f cdv)) → A.guards = some [] → sp vs H Q E →
      ∃ t, PSs (cxOf (L2.CX P w) P w K mg base N qual (defScope st) f cdv A outer s H E) (defBody st) t ∧ t { nx := fun _ H' => Q .non H', rt := Q } (L2.start N vs) H) : FnG P w K mg base (k + 1) f fd ps sp := by
  obtain ⟨oc, od, kV, doc, pm, an, cdv, ct, osl, rfl, lk, hcd⟩ := Fn.ex
  refine ⟨len, fun A outer s H args us vs Q E hr hgd e0 bind rv hsp => ?_⟩
  have inK : K.In s.heap := e0.mod.kin.keeps fun b o e => (e0.bs b o e).1
  refine codeAny_call_function hr.depth (inK _ _ lk) rfl S.co S.gen rfl (PySem.W.codeRec_of inK hcd) (bind _ _ _ _ ?_)
  refine wpAny_newFunctionEnv_cells S.kind (fun y hy => ?_) fun env he s1 ic => ?_
  · have hm := (List.of_mem_zip (a := y.1) (b := y.2) hy).1
    rcases S.par _ hm with q | q
    · exact .inl q
    · exact .inr ⟨q, PySem.W.cellsFrom_some _ _ _ (.inl q)⟩
  · subst he
    have lim : s.heap.NoLimit := e0.mod.nolimit.keeps fun b o e => (e0.bs b o e).1
    obtain ⟨t, ht, hq⟩ := hb cdv A outer s H vs Q E (hr.deeper _) hgd hsp
    have I := inv_start (E := E) (CX := L2.CX P w) (f := f) (cd := cdv) (qual := qual) S hr.hd e0 (len _ _ _ _ hsp) rv ic
    refine ⟨lim.keeps ic.toInCall.keep, codeAny_func (wpAny_mono (ht.run [] s1 _ H _ I hq) (fun fl s2 hs => ?_) fun _ _ z => z)⟩
    have e := ends_call hs
    cases fl with
    | next => exact e
    | ret u => exact e
    | brk => exact (show False from e).elim
    | cont => exact (show False from e).elim
/-- THE RULE for a def -/
theorem fn_ok {x qual : Str} {st : Stmt} {f : Addr} {fd : FuncData} {N ps : List Str} {k : Nat} {b : SDen} (Fn : Fun K x qual st f fd) (S : FnScope N ps (defScope st))
    (hb : ∀ (cdv : Value) (A : Around) (outer : List Env) (s : Shared) (H : Hp) (E : XK), Room k (A.deeper (envOfC qual (defScope st) s.heap.objs.size f cdv)) → A.guards = some [] →
      SSs (cxOf (L2.CX P w) P w K mg base N qual (defScope st) f cdv A outer s H E) fa (fun cls d _ H => E cls d H) (defBody st) b) : FnG P w K mg base (k + 1) f fd ps (spD K fa ps.length (runB N.length b)) := by
  refine fn_g Fn S (fun vs H Q E h => h.1) (fun cdv A outer s H vs Q E hr hgd h => ⟨_, hb cdv A outer s H E hr hgd, ?_⟩)
  obtain ⟨hl, ws, c, ad, F, rw_, R, P⟩ := h
  have hlen := rw_.length
  have hN : N.length - vs.length = N.length - ws.length := by rw [hlen]
  refine ⟨_, c, ad, F, start_ok (N := N) (N.length - ws.length) rw_ |> fun z => by unfold L2.start; rw [hN]; exact z, R, ?_⟩
  unfold runB at P
  revert P
  cases b (ws.map some ++ List.replicate (N.length - ws.length) none) c with
  | nx sl c' => exact fun P H' F' ad' σ' s' p' R' _ => P H' F' _ s' (by rw [take_pre p' R.len]; exact List.prefix_refl _) (R'.take c.length) .non .non
  | ret w c' => exact fun P H' F' ad' v s' p' R' r' => fin_ok (fa := fa) P R.len s' p' R' r'
  | exc sl x pl c' => exact fun P H' F' ad' σ' C d fs s' p' R' _ hC hd hf => P H' F' _ C d fs s' (by rw [take_pre p' R.len]; exact List.prefix_refl _) (R'.take c.length) hC hd hf
  | bad => exact fun P => P.elim
  | brk _ _ => exact fun P => P.elim
  | cnt _ _ => exact fun P => P.elim
theorem FnG.imp {f : Addr} {fd : FuncData} {ps : List Str} {k : Nat} {sp sp' : Sp} (F : FnG P w K mg base k f fd ps sp) (h : ∀ vs H Q E, sp' vs H Q E → sp vs H Q E) : FnG P w K mg base k f fd ps sp' :=
  ⟨fun vs H Q E q => F.len vs H Q E (h _ _ _ _ q), fun A outer s H args us vs Q E r g e b rv q => F.run A outer s H args us vs Q E r g e b rv (h _ _ _ _ q)⟩
theorem FnG.to {f : Addr} {fd : FuncData} {ps : List Str} {k n : Nat} {g g' : List W → Cells → Out W} (h : FnG P w K mg base k f fd ps (spD K fa n g)) (e : ∀ ws c, ws.length = n → g' ws c ≠ .bad → g ws c = g' ws c) : FnG P w K mg base k f fd ps (spD K fa n g') :=
  h.imp fun vs H Q E q => by
    obtain ⟨hl, ws, c, ad, F, r, R, P⟩ := q
    refine ⟨hl, ws, c, ad, F, r, R, ?_⟩
    rw [e ws c (by rw [← r.length]; exact hl) (by intro z; rw [z] at P; exact P.elim)]
    exact P
/-- a def of the text, with what it computes -/
structure Fd (P : Program) (w : World) (K : PySem.W.Frag) (mg : Str → Option Value) (base : Heap) (x : Str) (st : Stmt) (k : Nat) (ps : List Str) (g : List W → Cells → Out W) : Prop where
  ex : ∃ f fd, Fun K x x st f fd ∧ mg x = some (.ref f) ∧ Binds K fd ps [] ∧ FnG P w K mg base k f fd ps (spD K (faOf mg) ps.length g)
end

/-! ### calls -/
section
variable {X : Cx} {fa : Fa} {Wx : WX} {pos p : Pos} {x : Str} {st : Stmt} {k : Nat} {ps : List Str} {g : List W → Cells → Out W}
def dCall (g : List W → Cells → Out W) (as : Sl → Cells → Out (List W)) : Den := fun sl c => (as sl c).bind g
theorem sp_of_as {K : PySem.W.Frag} {n : Nat} {as : Sl → Cells → Out (List W)} {σ : L2.St} {H : Hp} {Q : VK} (q : tE K fa Wx (fun sl c => (as sl c).bind fun ws c1 => if ws.length = n then g ws c1 else .bad) σ H Q) : tAs K fa Wx as σ H (fun vs H1 => spD K fa n g vs H1 Q (WE Wx σ)) := by
  obtain ⟨sl, c, ad, F, ok, R, P⟩ := q
  refine ⟨sl, c, ad, F, ok, R, P.bind fun ws c1 H1 F1 ad1 s p R1 P1 vs rv => ?_⟩
  split at P1
  · rename_i hl
    exact ⟨by rw [rv.length]; exact hl, ws, c1, ad1, F1, rv, R1, P1⟩
  · exact P1.elim
def dCallN (n : Nat) (g : List W → Cells → Out W) (as : Sl → Cells → Out (List W)) : Den := fun sl c => (as sl c).bind fun ws c1 => if ws.length = n then g ws c1 else .bad
/-- the callee runs, positional values us, keywords' values ws -/
theorem run_g {pins : List (Addr × Obj)} {σ : L2.St} {H : Hp} {s : Shared} {Q : VK} {us : List Value} {vs : List V} {f : Addr} {fd : FuncData} {sp : Sp} {kw : List (Str × Value)} {all : List Value} (F : FnG X.prog X.w X.K X.mg X.base k f fd ps sp) (hr : Room k X.A) (hgd : X.A.guards = some []) (tk : Takes X Wx)
    (I : Inv X pins σ H s) (hb : BindsTo s fd ⟨us, kw⟩ (ps.zip all)) (r : Vals vs all) (h : sp vs H Q (WE Wx σ)) : wpAny (model X.prog X.w) X.A (call (.ref f) us kw) (EP X pins σ Q) X.xe s := by
  refine wpAny_call (codeAny_mono (F.run X.A X.stack s H ⟨us, kw⟩ all vs Q (WE Wx σ) hr hgd I.env0 hb r h) fun res s' hq => ?_)
  match res, hq with
  | .error e, hq => exact passAt tk σ pins H s e s' I hq
  | .ok (.ret u), hq => exact I.after hq
  | .ok .next, hq => exact False.elim hq
  | .ok .brk, hq => exact False.elim hq
  | .ok .cont, hq => exact False.elim hq
theorem binds_of {fd : FuncData} {s : Shared} {us : List Value} {K : PySem.W.Frag} (hb : Binds K fd ps []) (h : K.In s.heap) (hl : us.length = ps.length) : BindsTo s fd ⟨us, []⟩ (ps.zip us) := by
  have q := hb s us h (by simpa using hl)
  rwa [List.append_nil] at q
theorem se_call {e : Expr} {es : List Expr} {as : Sl → Cells → Out (List W)} (G : Fd X.prog X.w X.K X.mg X.base x st k ps g) (hr : Room k X.A) (hgd : X.A.guards = some []) (tk : Takes X Wx) (ha : SA X (faOf X.mg) Wx (e :: es) as) (hg : Gl X x := by rfl)
    (hdb : (x == ("__debug__" : Str)) = false := by decide) (he : starEach (e :: es) X.env = (false, eval e X.env) :: starEach es X.env := by rfl) (hpl : (backTo pos (starEach es X.env)).any (·.1) = false := by rfl) :
    SE X (faOf X.mg) Wx (.Call (.Name x p) (e :: es) [] pos) (dCallN ps.length g as) := by
  obtain ⟨f, fd, Fn, hm, hb, F⟩ := G.ex
  refine ⟨fun pins s σ H Q I q => wpAny_Call_Name_kw (ld_glob I hg hm ?_ hdb)⟩
  refine PySem.W.callWith_K (h₀ := X.base) I.ok.mod.kin Fn.kp (thn (ha.run pos pins s σ H _ I (sp_of_as q)) fun us s1 h1 => ?_) he hpl
  obtain ⟨vs, H1, I1, r, q1⟩ := h1
  have hl : us.length = ps.length := by rw [← r.length]; exact F.len _ _ _ _ q1
  exact ⟨I1.kIn, run_g (us := us) F hr hgd tk I1 (binds_of hb I1.kIn hl) r q1⟩
theorem se_call0 (G : Fd X.prog X.w X.K X.mg X.base x st k [] g) (hr : Room k X.A) (hgd : X.A.guards = some []) (tk : Takes X Wx) (hg : Gl X x := by rfl) (hdb : (x == ("__debug__" : Str)) = false := by decide) : SE X (faOf X.mg) Wx (.Call (.Name x p) [] [] pos) (dCallN 0 g dNil) := by
  obtain ⟨f, fd, Fn, hm, hb, F⟩ := G.ex
  refine ⟨fun pins s σ H Q I h => ?_⟩
  refine wpAny_Call_Name_kw (ld_glob I hg hm ?_ hdb)
  refine PySem.W.callWith_K0 I.kIn Fn.kp (run_g (us := []) F hr hgd tk I (binds_of hb I.kIn rfl) .nil ?_)
  obtain ⟨sl, c, ad, F, ok, R, P⟩ := h
  exact ⟨rfl, [], c, ad, F, .nil, R, P⟩
/-- keywords -/
theorem sk_nil : PK X [] (tAs X.K fa Wx dNil) := PK.imp pk_nil fun σ H Q q => by
  obtain ⟨sl, c, ad, F, ok, R, P⟩ := q
  exact P.now R [] .nil
theorem sk_cons {e : Expr} {kws : List Keyword} {nm : Option Str} {kpos : Pos} {f : Den} {h : Sl → Cells → Out (List W)} (ha : SE X fa Wx e f) (hr : PK X kws (tAs X.K fa Wx h)) : PK X (⟨nm, e, kpos⟩ :: kws) (tAs X.K fa Wx (dCons f h)) :=
  PK.imp (pk_cons ha hr) fun σ H Q q => by
  obtain ⟨sl, c, ad, F, ok, R, P⟩ := q
  refine ⟨sl, c, ad, F, ok, R, P.bind fun w c1 H1 F1 ad1 s p R1 P1 v rv => ?_⟩
  refine ⟨sl, c1, ad1, F1, ok.mono s p, R1, P1.bind fun ws c2 H2 F2 ad2 s2 p2 R2 P2 vs rvs => ?_⟩
  exact P2.now R2 (v :: vs) (.cons (rv.mono s2 p2) rvs)
/-- f(k = v, ..) with keywords alone; perm: the parameters in order, by the keywords' places -/
structure KwP (K : PySem.W.Frag) (mg : Str → Option Value) (x : Str) (ps ks : List Str) (perm : List Nat) : Prop where
  ex : ∀ f fd st, mg x = some (.ref f) → Fun K x x st f fd → ∃ gv gV, KBinds K fd ps ks gv gV ∧ ∀ zs : List V, gV [] zs = perm.filterMap fun i => zs[i]?
def perm {α : Type} (is : List Nat) (ws : List α) : List α := is.filterMap fun i => ws[i]?
theorem RWs.perm {K : PySem.W.Frag} {ad : List Addr} {F : Hp} : ∀ (is : List Nat) {vs : List V} {ws : List W}, RWs K fa ad F vs ws → RWs K fa ad F (Pm.perm is vs) (Pm.perm is ws)
  | [], _, _, _ => .nil
  | i :: is, vs, ws, r => by
    have ih := RWs.perm is r
    have get : ∀ {vs : List V} {ws : List W} {i : Nat}, RWs K fa ad F vs ws → (∃ v w, vs[i]? = some v ∧ ws[i]? = some w ∧ RW K fa ad F v w) ∨ (vs[i]? = none ∧ ws[i]? = none) := by
      intro vs ws i r
      induction r generalizing i with
      | nil => right; simp
      | cons q _ ih =>
        cases i with
        | zero => left; exact ⟨_, _, rfl, rfl, q⟩
        | succ i => simpa using ih (i := i)
    unfold Pm.perm at ih ⊢
    rw [List.filterMap_cons, List.filterMap_cons]
    rcases get (i := i) r with ⟨v, w, h1, h2, h3⟩ | ⟨h1, h2⟩
    · rw [h1, h2]; exact .cons h3 ih
    · rw [h1, h2]; exact ih
theorem se_callK0 {kw : Keyword} {kws : List Keyword} {as : Sl → Cells → Out (List W)} {ks : List Str} {is : List Nat} (G : Fd X.prog X.w X.K X.mg X.base x st k ps g) (KP : KwP X.K X.mg x ps ks is) (hr : Room k X.A) (hgd : X.A.guards = some []) (tk : Takes X Wx) (ha : PK X (kw :: kws) (tAs X.K (faOf X.mg) Wx as)) (hg : Gl X x := by rfl)
    (hall : (backToKw pos (keywordEach (kw :: kws) X.env)).all (·.1.isSome) = true := by rfl) (hks : (backToKw pos (keywordEach (kw :: kws) X.env)).filterMap (·.1) = ks := by rfl)
    (hdb : (x == ("__debug__" : Str)) = false := by decide) (hpl : ((backTo pos (starEach [] X.env)).any (·.1) || (backToKw pos (keywordEach (kw :: kws) X.env)).any (·.1.isNone)) = false := by rfl) :
    SE X (faOf X.mg) Wx (.Call (.Name x p) [] (kw :: kws) pos) (fun sl c => (as sl c).bind fun ws c1 => if (perm is ws).length = ps.length then g (perm is ws) c1 else .bad) := by
  obtain ⟨f, fd, Fn, hm, hb, F⟩ := G.ex
  obtain ⟨gv, gV, KB, hV⟩ := KP.ex f fd st hm Fn
  refine ⟨fun pins s σ H Q I h => ?_⟩
  refine wpAny_Call_Name_kw (ld_glob I hg hm ?_ hdb)
  obtain ⟨sl, c, ad, F0, ok, R, P⟩ := h
  have q : tAs X.K (faOf X.mg) Wx as σ H (fun vs H1 => spD X.K (faOf X.mg) ps.length g (perm is vs) H1 Q (WE Wx σ)) := by
    refine ⟨sl, c, ad, F0, ok, R, P.bind fun ws c1 H1 F1 ad1 s p R1 P1 vs rv => ?_⟩
    split at P1
    · rename_i hl
      have r2 := RWs.perm is rv
      exact ⟨by rw [r2.length]; exact hl, _, c1, ad1, F1, r2, R1, P1⟩
    · exact P1.elim
  refine PySem.W.callWith_KW0 (h₀ := X.base) I.ok.mod.kin Fn.kp hall (thn (ha.run pos pins s σ H _ I q) fun ws s2 ⟨zs, H2, I2, rz, q2⟩ => ⟨I2.kIn, ?_⟩) hpl
  rw [hks]
  have q3 : spD X.K (faOf X.mg) ps.length g (gV [] zs) H2 Q (WE Wx σ) := by rw [hV]; exact q2
  have r2 := KB.rel (vs := []) .nil rz
  exact run_g (us := []) F hr hgd tk I2 (KB.to s2 [] ws I2.kIn (by rw [← r2.length]; exact F.len _ _ _ _ q3)) r2 q3
end

/-! ### built-ins by name, methods -/
section
variable {X : Cx} {fa : Fa} {Wx : WX} {pos p : Pos} {x : Str}
def CalL (K : PySem.W.Frag) (fa : Fa) (r : List V → Hp → VK → Prop) (o : List W → Cells → Out W) : Prop :=
  ∀ (c : Cells) (ad : List Addr) (F H : Hp) (vs : List V) (ws : List W) (Q : VK) (E : Value → Option Addr → Hp → Prop), Rel K fa c ad F H → RWs K fa ad F vs ws →
    Post K fa E ad F (fun w ad' F' H' => ∀ v, RW K fa ad' F' v w → Q v H') (o ws c) → r vs H Q
theorem tCB_of {K : PySem.W.Frag} {r : List V → Hp → VK → Prop} {o : List W → Cells → Out W} {as : Sl → Cells → Out (List W)} (hl : CalL K fa r o) {σ : L2.St} {H : Hp} {Q : VK} (q : tE K fa Wx (dCall o as) σ H Q) : tCB r (tAs K fa Wx as) σ H Q := by
  obtain ⟨sl, c, ad, F, ok, R, P⟩ := q
  exact ⟨sl, c, ad, F, ok, R, P.bind fun ws c1 H1 F1 ad1 s p R1 P1 vs rv => hl c1 ad1 F1 H1 vs ws Q _ R1 rv P1⟩
theorem se_callB {id : String} {r : List V → Hp → VK → Prop} {o : List W → Cells → Out W} {as : Sl → Cells → Out (List W)} {e : Expr} {es : List Expr} (hc : CallR X (.builtin id) r) (hl : CalL X.K fa r o) (hm : X.mg x = none) (hv : bootBuiltins x = some (.builtin id)) (ha : SA X fa Wx (e :: es) as) (hg : Gl X x := by rfl) (hn : x ≠ "__name__" := by decide) (hdb : (x == ("__debug__" : Str)) = false := by decide)
    (he : starEach (e :: es) X.env = (false, eval e X.env) :: starEach es X.env := by rfl) (hpl : (backTo pos (starEach es X.env)).any (·.1) = false := by rfl) : SE X fa Wx (.Call (.Name x p) (e :: es) [] pos) (dCall o as) :=
  PE.imp (pe_callB hc hg hm hv ha hn hdb he hpl) fun σ H Q q => tCB_of hl q
theorem se_callTy {T : String} {r : List V → Hp → VK → Prop} {o : List W → Cells → Out W} {as : Sl → Cells → Out (List W)} {e : Expr} {es : List Expr} (hc : CallR X (.type T) r) (hl : CalL X.K fa r o) (hm : X.mg x = none) (hv : bootBuiltins x = some (.type T)) (ha : SA X fa Wx (e :: es) as) (hg : Gl X x := by rfl) (hn : x ≠ "__name__" := by decide) (hdb : (x == ("__debug__" : Str)) = false := by decide)
    (he : starEach (e :: es) X.env = (false, eval e X.env) :: starEach es X.env := by rfl) (hpl : (backTo pos (starEach es X.env)).any (·.1) = false := by rfl) : SE X fa Wx (.Call (.Name x p) (e :: es) [] pos) (dCall o as) :=
  PE.imp (pe_callTy hc hg hm hv ha hn hdb he hpl) fun σ H Q q => tCB_of hl q
/-- a method of a text -/
def MtL (K : PySem.W.Frag) (fa : Fa) (r : V → List V → Hp → VK → Prop) (o : W → List W → Cells → Out W) : Prop :=
  ∀ (c : Cells) (ad : List Addr) (F H : Hp) (v : V) (w : W) (vs : List V) (ws : List W) (Q : VK) (E : Value → Option Addr → Hp → Prop), Rel K fa c ad F H → RW K fa ad F v w → RWs K fa ad F vs ws →
    Post K fa E ad F (fun w ad' F' H' => ∀ v, RW K fa ad' F' v w → Q v H') (o w ws c) → r v vs H Q
def tyOk (T : String) (c : Cells) (w : W) : Bool := match rd c w with
  | some (.str _) => T == "str"
  | some (.lst _) => T == "list"
  | some (.dic _) => T == "dict"
  | _ => false
theorem tyOk_ok {K : PySem.W.Frag} {c : Cells} {ad : List Addr} {F H : Hp} {v : V} {w : W} {T : String} (R : Rel K fa c ad F H) (r : RW K fa ad F v w) (h : tyOk T c w = true) : tyV K T v H := by
  unfold tyOk at h
  split at h
  · rename_i s e
    rw [R.str r e]
    show T = "str"
    simpa using h
  · rename_i ds e
    obtain ⟨a, vs, h1, h2, h3⟩ := R.lst r e
    rw [h1]
    exact .inl ⟨by simpa using h, vs, .inl h2⟩
  · rename_i ds e
    rcases R.rd r e with ⟨a, ds', vs, h1, _⟩ | ⟨a, ds', vs, h1, h2, h3, h4⟩ | q
    · cases h1
    · rw [h2]; exact .inr (.inr (.inl ⟨by simpa using h, .inl ⟨_, h3⟩⟩))
    · cases q with
      | dic s q => exact .inr (.inr (.inl ⟨by simpa using h, .inl ⟨_, R.le _ _ s⟩⟩))
  · cases h
def dMeth (T : String) (o : W → List W → Cells → Out W) (f : Den) (as : Sl → Cells → Out (List W)) : Den := fun sl c => (f sl c).bind fun w c1 => if tyOk T c1 w = true then (as sl c1).bind fun ws c2 => o w ws c2 else .bad
theorem se_meth {T id : String} {name : Str} {r : V → List V → Hp → VK → Prop} {o : W → List W → Cells → Out W} {a e : Expr} {es : List Expr} {apos : Pos} {f : Den} {as : Sl → Cells → Out (List W)} (pa : PlainAttrs T) (slot : Slot T name id) (hty : typeOf (.builtin id) = pure (.type "method_descriptor")) (hm : MtR X id r) (hl : MtL X.K fa r o) (ho : SE X fa Wx a f) (ha : SA X fa Wx (e :: es) as)
    (hbase : attributeBase a name X.env (eval a X.env) = eval a X.env := by rfl)
    (hfew : ((backTo pos (starEach (e :: es) X.env)).all (fun x => !x.1) && (backToKw pos (keywordEach [] X.env)).all (fun x => x.1.isSome)
      && decide ((e :: es).length + ([] : List Keyword).length + (if ([] : List Keyword).isEmpty then 0 else 1) < 30)) = true := by rfl)
    (hline : (apos.endLine == pos.line) = true := by rfl) (hs : starEach (e :: es) X.env = (false, eval e X.env) :: starEach es X.env := by rfl) (hplain : (backTo pos (starEach es X.env)).any (·.1) = false := by rfl) :
    SE X fa Wx (.Call (.Attribute a name apos) (e :: es) [] pos) (dMeth T o f as) := PE.imp (pe_bm pa slot hty hm ho ha hbase hfew hline hs hplain) fun σ H Q q => by
  obtain ⟨sl, c, ad, F, ok, R, P⟩ := q
  refine ⟨sl, c, ad, F, ok, R, P.bind fun w c1 H1 F1 ad1 s p R1 P1 v rv => ?_⟩
  split at P1
  · rename_i ht
    refine ⟨tyOk_ok R1 rv ht, sl, c1, ad1, F1, ok.mono s p, R1, P1.bind fun ws c2 H2 F2 ad2 s2 p2 R2 P2 vs rvs => ?_⟩
    exact hl c2 ad2 F2 H2 v w vs ws Q _ R2 (rv.mono s2 p2) rvs P2
  · exact P1.elim
theorem se_meth0 {T id : String} {name : Str} {r : V → List V → Hp → VK → Prop} {o : W → List W → Cells → Out W} {a : Expr} {apos : Pos} {f : Den} (pa : PlainAttrs T) (slot : Slot T name id) (hty : typeOf (.builtin id) = pure (.type "method_descriptor")) (hm : MtR X id r) (hl : MtL X.K fa r o) (ho : SE X fa Wx a f)
    (hbase : attributeBase a name X.env (eval a X.env) = eval a X.env := by rfl) (hline : (apos.endLine == pos.line) = true := by rfl) :
    SE X fa Wx (.Call (.Attribute a name apos) [] [] pos) (dMeth T o f dNil) := PE.imp (pe_bm0 pa slot hty hm ho hbase hline) fun σ H Q q => by
  obtain ⟨sl, c, ad, F, ok, R, P⟩ := q
  refine ⟨sl, c, ad, F, ok, R, P.bind fun w c1 H1 F1 ad1 s p R1 P1 v rv => ?_⟩
  split at P1
  · rename_i ht
    exact ⟨tyOk_ok R1 rv ht, hl c1 ad1 F1 H1 v w [] [] Q _ R1 rv .nil P1⟩
  · exact P1.elim
end

/-! ### displays -/
def frzAll : List W → Cells → Out (List D)
  | [], c => .ok [] c
  | w :: ws, c => (fz w c).bind fun d c1 => (frzAll ws c1).bind fun ds c2 => .ok (d :: ds) c2
section
variable {K : PySem.W.Frag} {fa : Fa}
theorem Rel.frz {ad : List Addr} {H : Hp} : ∀ {ws : List W} {vs : List V} {c c' : Cells} {F : Hp} {ds : List D}, Rel K fa c ad F H → RWs K fa ad F vs ws → frzAll ws c = .ok ds c' → ∃ F', Same F F' ∧ Rel K fa c' ad F' H ∧ RpA K fa F' vs ds
  | [], _, c, c', F, ds, R, .nil, e => by
    injection e with e1 e2
    subst e1 e2
    exact ⟨F, Same.refl F, R, .nil⟩
  | w :: ws, v :: vs, c, c', F, ds, R, .cons r rs, e => by
    unfold frzAll at e
    cases h1 : Pm.fz w c with
    | ok d c1 =>
      rw [h1] at e
      rw [Out.bind_ok] at e
      obtain ⟨F1, s1, R1, q1⟩ := R.fz r h1
      cases h2 : frzAll ws c1 with
      | ok ds2 c2 =>
        rw [h2, Out.bind_ok] at e
        injection e with e1 e2
        subst e1 e2
        obtain ⟨F2, s2, R2, q2⟩ := Rel.frz (F := F1) R1 (rs.mono s1 (List.prefix_refl _)) h2
        exact ⟨F2, s1.trans s2, R2, .cons (q1.mono s2) q2⟩
      | exc _ _ _ => rw [h2] at e; cases e
      | bad => rw [h2] at e; cases e
    | exc _ _ _ => rw [h1] at e; cases e
    | bad => rw [h1] at e; cases e
theorem fz_exc {w : W} {c : Cells} {x : Str} {pl : List (Str × D)} {c' : Cells} : fz w c ≠ .exc x pl c' := by
  unfold fz
  cases w with
  | d _ => intro h; cases h
  | c k => dsimp only; split <;> intro h <;> cases h
  | x _ _ => intro h; cases h
theorem frz_exc {x : Str} {pl : List (Str × D)} : ∀ {ws : List W} {c c' : Cells}, frzAll ws c ≠ .exc x pl c'
  | [], _, _ => by intro h; cases h
  | w :: ws, c, c' => by
    intro h
    unfold frzAll at h
    cases h1 : fz w c with
    | ok d c1 =>
      rw [h1, Out.bind_ok] at h
      cases h2 : frzAll ws c1 with
      | ok _ _ => rw [h2] at h; cases h
      | exc _ _ _ => exact frz_exc h2
      | bad => rw [h2] at h; cases h
    | exc _ _ _ => exact fz_exc h1
    | bad => rw [h1] at h; cases h
end
theorem small {n : Nat} (h : n ≤ 1000000) : n ≤ sizeLine := Nat.le_trans h (by decide)
section
variable {X : Cx} {fa : Fa} {Wx : WX} {pos : Pos} {es : List Expr} {as : Sl → Cells → Out (List W)}
def mkT (ds : List D) (c : Cells) : Out W := if ds.length ≤ 1000000 then .ok (.d (.tup ds)) c else .bad
def mkL (ds : List D) (c : Cells) : Out W := if ds.length ≤ 1000000 then .ok (.c c.length) (c ++ [.lst ds]) else .bad
theorem mkT_ok {K : PySem.W.Frag} {E : Value → Option Addr → Hp → Prop} {Q : VK} {c : Cells} {ad : List Addr} {F H : Hp} {ds : List D} {vs : List V} (P : Post K fa E ad F (fun w ad' F' H' => ∀ v, RW K fa ad' F' v w → Q v H') (mkT ds c)) (R : Rel K fa c ad F H) (r : RpA K fa F vs ds) :
    vs.length ≤ sizeLine ∧ ∀ p, H p = none → Q (.ref p) (upd H p (.tup vs)) := by
  unfold mkT at P
  split at P
  · rename_i hl
    refine ⟨by rw [r.length]; exact small hl, fun p n => ?_⟩
    obtain ⟨R', s'⟩ := R.newF (o := .tup vs) n
    exact P _ _ ad s' (List.prefix_refl _) R' (.ref p) (.tup (SqT.of upd_same) (r.mono s'))
  · exact P.elim
theorem mkL_ok {K : PySem.W.Frag} {E : Value → Option Addr → Hp → Prop} {Q : VK} {c : Cells} {ad : List Addr} {F H : Hp} {ds : List D} {vs : List V} (P : Post K fa E ad F (fun w ad' F' H' => ∀ v, RW K fa ad' F' v w → Q v H') (mkL ds c)) (R : Rel K fa c ad F H) (r : RpA K fa F vs ds) :
    vs.length ≤ sizeLine ∧ ∀ p, H p = none → Q (.ref p) (upd H p (.lst vs)) := by
  unfold mkL at P
  split at P
  · rename_i hl
    refine ⟨by rw [r.length]; exact small hl, fun p n => ?_⟩
    have R' := R.newC (o := .lst vs) (x := .lst ds) n fun nF => ⟨nF, vs, upd_same, r⟩
    refine P _ F _ (Same.refl F) (List.prefix_append _ _) R' (.ref p) ⟨p, ?_, rfl⟩
    rw [← R.len]; simp
  · exact P.elim
def dTup (as : Sl → Cells → Out (List W)) : Den := fun sl c => (as sl c).bind fun ws c1 => (frzAll ws c1).bind mkT
def dLst (as : Sl → Cells → Out (List W)) : Den := fun sl c => (as sl c).bind fun ws c1 => (frzAll ws c1).bind mkL
theorem Post.frz {α : Type} {K : PySem.W.Frag} {E : Value → Option Addr → Hp → Prop} {Q : α → List Addr → Hp → Hp → Prop} {c : Cells} {ad : List Addr} {F H : Hp} {ws : List W} {vs : List V} {f : List D → Cells → Out α} (P : Post K fa E ad F Q ((frzAll ws c).bind f)) (R : Rel K fa c ad F H) (r : RWs K fa ad F vs ws) :
    ∃ ds c1 F1, Same F F1 ∧ Rel K fa c1 ad F1 H ∧ RpA K fa F1 vs ds ∧ Post K fa E ad F1 Q (f ds c1) := by
  cases h : frzAll ws c with
  | ok ds c1 =>
    rw [h, Out.bind_ok] at P
    obtain ⟨F1, s1, R1, q1⟩ := R.frz r h
    exact ⟨ds, c1, F1, s1, R1, q1, P.weak s1 (List.prefix_refl _)⟩
  | exc _ _ _ => exact absurd h frz_exc
  | bad => rw [h] at P; exact P.elim
theorem Post.fz {α : Type} {K : PySem.W.Frag} {E : Value → Option Addr → Hp → Prop} {Q : α → List Addr → Hp → Hp → Prop} {c : Cells} {ad : List Addr} {F H : Hp} {w : W} {v : V} {ad0 : List Addr} {f : D → Cells → Out α} (P : Post K fa E ad0 F Q ((fz w c).bind f)) (R : Rel K fa c ad F H) (r : RW K fa ad F v w) :
    ∃ d c1 F1, Same F F1 ∧ Rel K fa c1 ad F1 H ∧ Rp K fa F1 v d ∧ fz w c = .ok d c1 ∧ Post K fa E ad0 F1 Q (f d c1) := by
  cases h : Pm.fz w c with
  | ok d c1 =>
    rw [h, Out.bind_ok] at P
    obtain ⟨F1, s1, R1, q1⟩ := R.fz r h
    exact ⟨d, c1, F1, s1, R1, q1, rfl, P.weak s1 (List.prefix_refl _)⟩
  | exc _ _ _ => exact absurd h fz_exc
  | bad => rw [h] at P; exact P.elim
theorem se_tup {k1 : Nat} (h : SA X fa Wx es as) : SE X fa Wx (.Tuple es k1 pos) (dTup as) := PE.imp (pe_tup h) fun σ H Q q => by
  obtain ⟨sl, c, ad, F, ok, R, P⟩ := q
  refine ⟨sl, c, ad, F, ok, R, P.bind fun ws c1 H1 F1 ad1 s p R1 P1 vs rv => ?_⟩
  obtain ⟨ds, c2, F2, s2, R2, q2, P2⟩ := P1.frz R1 rv
  exact mkT_ok P2 R2 q2
theorem se_lst (h : SA X fa Wx es as) : SE X fa Wx (.List es pos) (dLst as) := PE.imp (pe_lst h) fun σ H Q q => by
  obtain ⟨sl, c, ad, F, ok, R, P⟩ := q
  refine ⟨sl, c, ad, F, ok, R, P.bind fun ws c1 H1 F1 ad1 s p R1 P1 vs rv => ?_⟩
  obtain ⟨ds, c2, F2, s2, R2, q2, P2⟩ := P1.frz R1 rv
  exact mkL_ok P2 R2 q2
end
end Pm

/-! Pm4: statements, loops, comprehensions. -/
namespace Pm
open PySem L2 PyProof.Rows
section
variable {X : Cx} {fa : Fa} {Wx : WX} {pos : Pos}
theorem ss_nil : SSs X fa Wx [] OS.nx := PSs.imp pss_nil fun D σ H q => by
  obtain ⟨sl, c, ad, F, ok, R, P⟩ := q
  exact P H F ad σ (Same.refl F) (List.prefix_refl _) R ok
def sCons (f g : SDen) : SDen := fun sl c => (f sl c).andThen g
theorem ss_cons {s : Stmt} {rest : List Stmt} {f g : SDen} (h : SS X fa Wx s f) (r : SSs X fa Wx rest g) : SSs X fa Wx (s :: rest) (sCons f g) := PSs.imp (pss_cons h r) fun D σ H q => by
  obtain ⟨sl, c, ad, F, ok, R, P⟩ := q
  exact ⟨sl, c, ad, F, ok, R, PostS.andThen P fun sl1 c1 σ1 H1 F1 ad1 s p ok1 R1 P1 => ⟨sl1, c1, ad1, F1, ok1, R1, P1⟩⟩
theorem ss_one {s : Stmt} {f : SDen} (h : SS X fa Wx s f) : SSs X fa Wx [s] f := pss_one h
def sSet (i : Nat) (f : Den) : SDen := fun sl c => (f sl c).st sl fun w c1 => .nx (sl.set i (some w)) c1
theorem tAsg_of {K : PySem.W.Frag} {i : Nat} {f : Den} {D : Ends} {σ : L2.St} {H : Hp} (q : tSt K fa Wx (sSet i f) D σ H) : tAsg (tE K fa Wx f) (gName i) D σ H := by
  obtain ⟨sl, c, ad, F, ok, R, P⟩ := q
  exact ⟨sl, c, ad, F, ok, R, Post.st ok P fun w c1 H1 F1 ad1 s p R1 P1 v rv => P1 H1 F1 ad1 _ (Same.refl _) (List.prefix_refl _) R1 ((ok.mono s p).set rv)⟩
theorem ss_set (i : Nat) {x : Str} {e : Expr} {f : Den} {pos' : Pos} (hN : X.N.Nodup) (he : SE X fa Wx e f) (hi : X.N[i]? = some x := by rfl) (hx : Loc X.env.scope x := by first | exact .inl rfl | exact .inr rfl) (hs : swapsWith e (some (.Name x pos')) pos.line X.env = pure false := by rfl)
    (hf : X.fn x = true ∨ X.env.scope.names.lookup x = some .local := by first | exact .inl rfl | exact .inr rfl) : SS X fa Wx (.Assign [.Name x pos'] e pos) (sSet i f) := PS.imp (ps_set hN hi hx he hs hf) fun D σ H q => tAsg_of q
def sRet (f : Den) : SDen := fun sl c => (f sl c).st sl fun w c1 => .ret w c1
theorem ss_ret {e : Expr} {f : Den} (he : SE X fa Wx e f) : SS X fa Wx (.Return (some e) pos) (sRet f) := PS.imp (ps_ret he) fun D σ H q => by
  obtain ⟨sl, c, ad, F, ok, R, P⟩ := q
  exact ⟨sl, c, ad, F, ok, R, Post.st ok P fun w c1 H1 F1 ad1 s p R1 P1 v rv => P1 H1 F1 ad1 v (Same.refl _) (List.prefix_refl _) R1 rv⟩
theorem ss_retN : SS X fa Wx (.Return none pos) (fun _ c => .ret (.d .non) c) := PS.imp ps_retN fun D σ H q => by
  obtain ⟨sl, c, ad, F, ok, R, P⟩ := q
  exact P H F ad .non (Same.refl _) (List.prefix_refl _) R .non
def sExp (f : Den) : SDen := fun sl c => (f sl c).st sl fun _ c1 => .nx sl c1
theorem ss_exp {e : Expr} {f : Den} (he : SE X fa Wx e f) (hs : swapsWith e none pos.line X.env = pure false := by rfl) : SS X fa Wx (.Expr e pos) (sExp f) := PS.imp (ps_expr he hs) fun D σ H q => by
  obtain ⟨sl, c, ad, F, ok, R, P⟩ := q
  exact ⟨sl, c, ad, F, ok, R, Post.st ok P fun w c1 H1 F1 ad1 s p R1 P1 v rv => P1 H1 F1 ad1 σ (Same.refl _) (List.prefix_refl _) R1 (ok.mono s p)⟩
theorem ss_pass : SS X fa Wx (.Pass pos) OS.nx := PS.imp ps_pass fun D σ H q => by
  obtain ⟨sl, c, ad, F, ok, R, P⟩ := q
  exact P H F ad σ (Same.refl F) (List.prefix_refl _) R ok
theorem ss_brk : SS X fa Wx (.Break pos) OS.brk := PS.imp ps_break fun D σ H q => by
  obtain ⟨sl, c, ad, F, ok, R, P⟩ := q
  exact P H F ad σ (Same.refl F) (List.prefix_refl _) R ok
theorem ss_cnt : SS X fa Wx (.Continue pos) OS.cnt := PS.imp ps_continue fun D σ H q => by
  obtain ⟨sl, c, ad, F, ok, R, P⟩ := q
  exact P H F ad σ (Same.refl F) (List.prefix_refl _) R ok
def sIf (t : Sl → Cells → Out Bool) (f g : SDen) : SDen := fun sl c => (t sl c).st sl fun b c1 => if b = true then f sl c1 else g sl c1
theorem ss_if {t : Expr} {a b : List Stmt} {ft : Sl → Cells → Out Bool} {f g : SDen} (ht : STt X fa Wx t ft) (ha : SSs X fa Wx a f) (hb : SSs X fa Wx b g) : SS X fa Wx (.If t a b pos) (sIf ft f g) := PS.imp (ps_if ht ha hb) fun D σ H q => by
  obtain ⟨sl, c, ad, F, ok, R, P⟩ := q
  refine ⟨sl, c, ad, F, ok, R, Post.st ok P fun b c1 H1 F1 ad1 s p R1 P1 => ?_⟩
  cases b with
  | true => rw [if_pos rfl]; exact ⟨sl, c1, ad1, F1, ok.mono s p, R1, P1⟩
  | false => rw [if_neg Bool.false_ne_true]; exact ⟨sl, c1, ad1, F1, ok.mono s p, R1, P1⟩
/-- name op= e -/
def sAug (i : Nat) (o : W → W → Cells → Out W) (f : Den) : SDen := fun sl c => match sl[i]? with
  | some (some w0) => (f sl c).st sl fun w c1 => (o w0 w c1).st sl fun w2 c2 => .nx (sl.set i (some w2)) c2
  | _ => .bad
theorem ss_aug (i : Nat) {x : Str} {e : Expr} {op : Operator} {r : R2} {o : W → W → Cells → Out W} {f : Den} {pos' : Pos} (hN : X.N.Nodup) (ho : PIp X op r) (hl : OpL X.K fa r o) (he : SE X fa Wx e f) (hi : X.N[i]? = some x := by rfl) (hx : Loc X.env.scope x := by first | exact .inl rfl | exact .inr rfl)
    (hf : X.fn x = true ∨ X.env.scope.names.lookup x = some .local := by first | exact .inl rfl | exact .inr rfl) : SS X fa Wx (.AugAssign (.Name x pos') op e pos) (sAug i o f) := PS.imp (ps_aug hN hi hx he ho hf) fun D σ H q => by
  obtain ⟨sl, c, ad, F, ok, R, P⟩ := q
  unfold sAug at P
  split at P
  · rename_i w0 hw
    obtain ⟨v0, h1, h2⟩ := ok.2 i w0 hw
    refine ⟨v0, h1, sl, c, ad, F, ok, R, Post.st ok P fun w c1 H1 F1 ad1 s p R1 P1 v rv => ?_⟩
    have ok1 := ok.mono s p
    refine hl c1 ad1 F1 H1 v0 v w0 w _ _ R1 (h2.mono s p) rv (Post.st ok1 P1 fun w2 c2 H2 F2 ad2 s2 p2 R2 P2 v2 rv2 => ?_)
    exact P2 H2 F2 ad2 _ (Same.refl _) (List.prefix_refl _) R2 ((ok1.mono s2 p2).set rv2)
  · exact P.elim

/-! ### targets -/
theorem gt_name (i : Nat) {x : Str} (hN : X.N.Nodup) (hi : X.N[i]? = some x := by rfl) (hx : Loc X.env.scope x := by first | exact .inl rfl | exact .inr rfl)
    (hf : X.fn x = true ∨ X.env.scope.names.lookup x = some .local := by first | exact .inl rfl | exact .inr rfl) : PG X (.Name x pos) (tGt X.K fa Wx fun w sl c => .nx (sl.set i (some w)) c) := PG.imp (pg_name hN hi hx hf) fun v σ H Q q => by
  obtain ⟨w, sl, c, ad, F, r, ok, R, P⟩ := q
  exact P H F ad _ (Same.refl _) (List.prefix_refl _) R (ok.set r)
/-- several targets, the parts of a tuple -/
def gtNil : List D → SDen := fun ds sl c => match ds with
  | [] => .nx sl c
  | _ => .bad
def gtCons (g : W → SDen) (h : List D → SDen) : List D → SDen := fun ds sl c => match ds with
  | d :: ds => (g (.d d) sl c).andThen (h ds)
  | [] => .bad
def tGts (K : PySem.W.Frag) (fa : Fa) (Wx : WX) (h : List D → SDen) : TGs := fun vs σ H Q => ∃ ds sl c ad F, RpA K fa F vs ds ∧ SlOk K fa ad F σ sl ∧ Rel K fa c ad F H ∧ PostS K fa Wx ad F { nx := Q, rt := fun _ _ => False } (h ds sl c)
theorem gts_nil : PGs X [] (tGts X.K fa Wx gtNil) := PGs.imp pgs_nil fun vs σ H Q q => by
  obtain ⟨ds, sl, c, ad, F, r, ok, R, P⟩ := q
  cases r with
  | nil => exact ⟨rfl, P H F ad σ (Same.refl _) (List.prefix_refl _) R ok⟩
  | cons _ _ => exact P.elim
theorem gts_cons {e : Expr} {es : List Expr} {g : W → SDen} {h : List D → SDen} (h1 : PG X e (tGt X.K fa Wx g)) (h2 : PGs X es (tGts X.K fa Wx h)) (hs : (assignEach (e :: es) X.env).map (·.2) = assign e X.env :: (assignEach es X.env).map (·.2) := by rfl) :
    PGs X (e :: es) (tGts X.K fa Wx (gtCons g h)) := PGs.imp (pgs_cons h1 h2 hs) fun vs σ H Q q => by
  obtain ⟨ds, sl, c, ad, F, r, ok, R, P⟩ := q
  cases r with
  | nil => exact P.elim
  | @cons v vs d ds r rs =>
    refine ⟨v, vs, rfl, .d d, sl, c, ad, F, r, ok, R, PostS.andThen (N := _) P fun sl1 c1 σ1 H1 F1 ad1 s p ok1 R1 P1 => ?_⟩
    exact ⟨ds, sl1, c1, ad1, F1, rs.mono s, ok1, R1, P1⟩
def gtTup (n : Nat) (h : List D → SDen) : W → SDen := fun w sl c => match rd c w with
  | some (.tup ds) => if ds.length = n then h ds sl c else .bad
  | _ => .bad
theorem gt_tup {es : List Expr} {k n : Nat} {h : List D → SDen} (hc : X.calm = true) (hg : PGs X es (tGts X.K fa Wx h)) (hn : (assignEach es X.env).length = n := by rfl) (hst : (assignEach es X.env).findIdx? (·.1) = none := by rfl) :
    PG X (.Tuple es k pos) (tGt X.K fa Wx (gtTup n h)) := PG.imp (pg_tup hc hg hn hst) fun v σ H Q q => by
  obtain ⟨w, sl, c, ad, F, r, ok, R, P⟩ := q
  unfold gtTup at P
  split at P
  · rename_i ds e
    obtain ⟨a, vs, h1, h2, h3⟩ := R.tup r e
    split at P
    · rename_i hl
      exact ⟨a, vs, h1, h2, by rw [h3.length]; exact hl, ds, sl, c, ad, F, h3, ok, R, P⟩
    · exact P.elim
  · exact P.elim
/-- o[i] = .. -/
def gtSub (o i : Den) (st : W → W → W → Cells → Out Unit) : W → SDen := fun w sl c => (o sl c).st sl fun wo c1 => (i sl c1).st sl fun wi c2 => (st wo wi w c2).st sl fun _ c3 => .nx sl c3
def SetL (K : PySem.W.Frag) (fa : Fa) (t : TSet) (st : W → W → W → Cells → Out Unit) : Prop :=
  ∀ (c : Cells) (ad : List Addr) (F H : Hp) (vo vi v : V) (wo wi w : W) (Q : Hp → Prop) (E : Value → Option Addr → Hp → Prop), Rel K fa c ad F H → RW K fa ad F vo wo → RW K fa ad F vi wi → RW K fa ad F v w →
    Post K fa E ad F (fun _ ad' F' H' => Q H') (st wo wi w c) → t vo vi v H Q
theorem gt_sub {o i : Expr} {fo fi : Den} {t : TSet} {st : W → W → W → Cells → Out Unit} (ho : SE X fa Wx o fo) (hi : SE X fa Wx i fi) (hs : PSet X t) (hl : SetL X.K fa t st)
    (ha : ∀ v, assign (.Subscript o i pos) X.env v = (do
      let ov ← holding [v] (eval o X.env)
      let iv ← holding [v, ov] (eval i X.env)
      standAt pos
      holding [v, ov, iv] (setItem ov iv v)
      release [v, ov, iv] []) := by intro _; rfl) : PG X (.Subscript o i pos) (tGt X.K fa Wx (gtSub fo fi st)) := PG.imp (pg_sub ho hi hs ha) fun v σ H Q q => by
  obtain ⟨w, sl, c, ad, F, r, ok, R, P⟩ := q
  refine ⟨sl, c, ad, F, ok, R, Post.st ok P fun wo c1 H1 F1 ad1 s p R1 P1 vo ro => ?_⟩
  have ok1 := ok.mono s p
  refine ⟨sl, c1, ad1, F1, ok1, R1, Post.st ok1 P1 fun wi c2 H2 F2 ad2 s2 p2 R2 P2 vi ri => ?_⟩
  have ok2 := ok1.mono s2 p2
  refine hl c2 ad2 F2 H2 vo vi v wo wi w _ _ R2 (ro.mono s2 p2) ri ((r.mono s p).mono s2 p2) (Post.st ok2 P2 fun _ c3 H3 F3 ad3 s3 p3 R3 P3 => ?_)
  exact P3 H3 F3 ad3 σ (Same.refl _) (List.prefix_refl _) R3 (ok2.mono s3 p3)
/-- what a target leaves: no way out -/
def OS.only (o : OS) : OS := match o with
  | .nx sl c => .nx sl c
  | .exc sl x pl c => .exc sl x pl c
  | _ => .bad
@[simp] theorem OS.only_nx (sl : Sl) (c : Cells) : (OS.nx sl c).only = .nx sl c := rfl
@[simp] theorem OS.only_exc (sl : Sl) (x : Str) (pl : List (Str × D)) (c : Cells) : (OS.exc sl x pl c).only = .exc sl x pl c := rfl
@[simp] theorem OS.only_bad : OS.bad.only = .bad := rfl
theorem PostS.only {K : PySem.W.Frag} {ad : List Addr} {F : Hp} {D : Ends} {o : OS} (h : PostS K fa Wx ad F D o.only) : PostS K fa Wx ad F { nx := D.nx, rt := fun _ _ => False } o := by
  cases o <;> first | exact h | exact h.elim
def sAsg (f : Den) (g : W → SDen) : SDen := fun sl c => (f sl c).st sl fun w c1 => (g w sl c1).only
theorem ss_asg {tg e : Expr} {f : Den} {g : W → SDen} (he : SE X fa Wx e f) (hg : PG X tg (tGt X.K fa Wx g)) (hs : swapsWithSole [tg] e pos.line X.env = pure false := by rfl) (hw : swappedStores [tg] e X.env = pure none := by rfl)
    (h1 : (assignEach [tg] X.env).map (·.2) = [assign tg X.env] := by rfl) : SS X fa Wx (.Assign [tg] e pos) (sAsg f g) := PS.imp (ps_asg he hg hs hw h1) fun D σ H q => by
  obtain ⟨sl, c, ad, F, ok, R, P⟩ := q
  refine ⟨sl, c, ad, F, ok, R, Post.st ok P fun w c1 H1 F1 ad1 s p R1 P1 v rv => ?_⟩
  exact ⟨w, sl, c1, ad1, F1, rv, ok.mono s p, R1, P1.only⟩
/-- a, b = x, y with plain local names -/
def sPar (i j : Nat) (as : Sl → Cells → Out (List W)) : SDen := fun sl c => (as sl c).st sl fun ws c1 => match ws with
  | [a, b] => .nx ((sl.set i (some a)).set j (some b)) c1
  | _ => .bad
theorem ss_par {i j : Nat} {x y : Str} {a b : Expr} {as : Sl → Cells → Out (List W)} {px py pt : Pos} {kt k2 : Nat} {pt2 : Pos} (hc : X.calm = true) (hN : X.N.Nodup) (ha : SA X fa Wx [a, b] as) (hi : X.N[i]? = some x := by rfl) (hj : X.N[j]? = some y := by rfl) (hij : i ≠ j := by decide)
    (hx : X.env.scope.names.lookup x = some .local := by rfl) (hy : X.env.scope.names.lookup y = some .local := by rfl)
    (hw : swappedStores [.Tuple [.Name x px, .Name y py] kt pt] (.Tuple [a, b] k2 pt2) X.env = pure (some [x, y]) := by rfl)
    (hs : swapsWithSole [.Tuple [.Name x px, .Name y py] kt pt] (.Tuple [a, b] k2 pt2) pos.line X.env = pure false := by rfl) :
    SS X fa Wx (.Assign [.Tuple [.Name x px, .Name y py] kt pt] (.Tuple [a, b] k2 pt2) pos) (sPar i j as) := PS.imp (ps_par hc hN hi hj hij hx hy ha hw hs) fun D σ H q => by
  obtain ⟨sl, c, ad, F, ok, R, P⟩ := q
  refine ⟨sl, c, ad, F, ok, R, Post.st ok P fun ws c1 H1 F1 ad1 s p R1 P1 vs rv => ?_⟩
  match ws, rv, P1 with
  | [a, b], .cons r1 (.cons r2 .nil), P1 => exact ⟨_, _, rfl, P1 H1 F1 ad1 _ (Same.refl _) (List.prefix_refl _) R1 (((ok.mono s p).set r1).set r2)⟩
  | [], _, P1 => exact P1.elim
  | [_], _, P1 => exact P1.elim
  | _ :: _ :: _ :: _, _, P1 => exact P1.elim

/-! ### loops -/
def bigN : Nat := 1000000000
def loopW (t : Sl → Cells → Out Bool) (b : SDen) : Nat → SDen
  | 0 => fun _ _ => .bad
  | m + 1 => fun sl c => (t sl c).st sl fun v c1 => if v = true then (match b sl c1 with
      | .nx sl2 c2 => loopW t b m sl2 c2
      | .cnt sl2 c2 => loopW t b m sl2 c2
      | .brk sl2 c2 => .nx sl2 c2
      | .ret w c2 => .ret w c2
      | .exc sl2 x pl c2 => .exc sl2 x pl c2
      | .bad => .bad) else .nx sl c1
def sWhile (t : Sl → Cells → Out Bool) (b : SDen) : SDen := loopW t b bigN
theorem ss_while {t : Expr} {body : List Stmt} {ft : Sl → Cells → Out Bool} {fb : SDen} (hp : PassesOwn (model X.prog X.w) X.A X.env X.xe) (ht : STt X fa Wx t ft) (hb : SSs X fa Wx body fb) : SS X fa Wx (.While t body [] pos) (sWhile ft fb) := PS.imp (ps_while hp ht hb) fun D σ H q => by
  obtain ⟨sl, c, ad, F, ok, R, P⟩ := q
  refine ⟨fun m σ H => ∃ sl c ad F, SlOk X.K fa ad F σ sl ∧ Rel X.K fa c ad F H ∧ PostS X.K fa Wx ad F D (loopW ft fb m sl c), ⟨bigN, sl, c, ad, F, ok, R, P⟩, ?_⟩
  rintro m σ H ⟨sl, c, ad, F, ok, R, P⟩
  cases m with
  | zero => exact P.elim
  | succ m =>
    refine ⟨sl, c, ad, F, ok, R, Post.st ok P fun v c1 H1 F1 ad1 s p R1 P1 => ?_⟩
    cases v with
    | false => rw [if_neg Bool.false_ne_true] at P1 ⊢; exact P1 H1 F1 ad1 σ (Same.refl _) (List.prefix_refl _) R1 (ok.mono s p)
    | true =>
      rw [if_pos rfl] at P1 ⊢
      refine ⟨fun σ' H' => ∃ sl c ad F, SlOk X.K fa ad F σ' sl ∧ Rel X.K fa c ad F H' ∧ PostS X.K fa Wx ad F D (loopW ft fb m sl c), fun σ' H' h => ⟨m, Nat.lt_succ_self m, h⟩, sl, c1, ad1, F1, ok.mono s p, R1, ?_⟩
      revert P1
      cases fb sl c1 with
      | nx sl2 c2 => exact fun P1 H2 F2 ad2 σ2 s2 p2 R2 ok2 => ⟨sl2, c2, ad2, F2, ok2, R2, PostS.weak (o := loopW ft fb m sl2 c2) P1 s2 p2⟩
      | cnt sl2 c2 => exact fun P1 H2 F2 ad2 σ2 s2 p2 R2 ok2 => ⟨sl2, c2, ad2, F2, ok2, R2, PostS.weak (o := loopW ft fb m sl2 c2) P1 s2 p2⟩
      | brk sl2 c2 => exact fun P1 => P1
      | ret w c2 => exact fun P1 => P1
      | exc sl2 x pl c2 => exact fun P1 => P1
      | bad => exact fun P1 => P1.elim
/-- what a loop walks: at turn i -/
abbrev Items := Nat → Cells → Option (Option D)
def loopF (item : Items) (g : W → SDen) (b : SDen) : Nat → Nat → SDen
  | 0, _ => fun _ _ => .bad
  | m + 1, i => fun sl c => match item i c with
    | none => .bad
    | some none => .nx sl c
    | some (some d) => (g (.d d) sl c).only.andThen fun sl1 c1 => match b sl1 c1 with
      | .nx sl2 c2 => loopF item g b m (i + 1) sl2 c2
      | .cnt sl2 c2 => loopF item g b m (i + 1) sl2 c2
      | .brk sl2 c2 => .nx sl2 c2
      | .ret w c2 => .ret w c2
      | .exc sl2 x pl c2 => .exc sl2 x pl c2
      | .bad => .bad
/-- the walk J yields the items -/
def ItL (K : PySem.W.Frag) (fa : Fa) (ad : List Addr) (F : Hp) (J : It) (item : Items) : Prop :=
  ∀ i c ad' F' H, Same F F' → ad <+: ad' → Rel K fa c ad' F' H → match item i c with
    | none => True
    | some none => J.stop i H
    | some (some d) => J.go i H ∧ ∀ x H', J.yld i H x H' → ∃ F'', Same F' F'' ∧ Rel K fa c ad' F'' H' ∧ Rp K fa F'' x d
theorem ItL.mono {K : PySem.W.Frag} {ad ad1 : List Addr} {F F1 : Hp} {J : It} {item : Items} (h : ItL K fa ad F J item) (s : Same F F1) (p : ad <+: ad1) : ItL K fa ad1 F1 J item := fun i c ad' F' H s' p' R => h i c ad' F' H (s.trans s') (p.trans p') R
/-- a walked thing's reading -/
def tI (K : PySem.W.Frag) (fa : Fa) (Wx : WX) (f : Sl → Cells → Out Items) : TI := fun σ H R => ∃ sl c ad F, SlOk K fa ad F σ sl ∧ Rel K fa c ad F H ∧
  Post K fa (fun cls d H' => Wx cls d σ H') ad F (fun item ad' F' H' => ∀ J, ItL K fa ad' F' J item → R J H') (f sl c)
abbrev SI (X : Cx) (fa : Fa) (Wx : WX) (tg e : Expr) (f : Sl → Cells → Out Items) : Prop := PI X tg e (tI X.K fa Wx f)
def sFor (f : Sl → Cells → Out Items) (g : W → SDen) (b : SDen) : SDen := fun sl c => (f sl c).st sl fun item c1 => loopF item g b bigN 0 sl c1
theorem ss_for {tg iter : Expr} {body : List Stmt} {f : Sl → Cells → Out Items} {g : W → SDen} {fb : SDen} (hp : PassesOwn (model X.prog X.w) X.A X.env X.xe) (hc : X.calm = true) (hi : SI X fa Wx tg iter f) (hg : PG X tg (tGt X.K fa Wx g)) (hb : SSs X fa Wx body fb)
    (hs : ∀ x, foldedSetIterable iter X.env x = pure x := by intro _; rfl) : SS X fa Wx (.For tg iter body [] pos) (sFor f g fb) := PS.imp (ps_for hp hc hi hg hb hs) fun D σ H q => by
  obtain ⟨sl, c, ad, F, ok, R, P⟩ := q
  refine ⟨sl, c, ad, F, ok, R, Post.st ok P fun item c1 H1 F1 ad1 s p R1 P1 J hJ => ?_⟩
  refine ⟨fun i m σ H => ∃ sl c ad F, SlOk X.K fa ad F σ sl ∧ Rel X.K fa c ad F H ∧ ItL X.K fa ad F J item ∧ PostS X.K fa Wx ad F D (loopF item g fb m i sl c), ⟨bigN, sl, c1, ad1, F1, ok.mono s p, R1, hJ, P1⟩, ?_⟩
  rintro i m σ H ⟨sl, c, ad, F, ok, R, hJ, P⟩
  cases m with
  | zero => exact P.elim
  | succ m =>
    have hj := hJ i c ad F H (Same.refl _) (List.prefix_refl _) R
    unfold loopF at P
    revert hj P
    cases item i c with
    | none => exact fun _ P => P.elim
    | some o =>
      cases o with
      | none => exact fun hj P => .inl ⟨hj, P H F ad σ (Same.refl _) (List.prefix_refl _) R ok⟩
      | some d =>
        intro hj P
        refine .inr ⟨hj.1, fun σ' H' => ∃ sl c ad F, SlOk X.K fa ad F σ' sl ∧ Rel X.K fa c ad F H' ∧ ItL X.K fa ad F J item ∧ PostS X.K fa Wx ad F D (loopF item g fb m (i + 1) sl c), fun σ' H' h => ⟨m, Nat.lt_succ_self m, h⟩, fun x H' hy => ?_⟩
        obtain ⟨F2, s2, R2, r2⟩ := hj.2 x H' hy
        have P2 := PostS.weak (o := _) P s2 (List.prefix_refl _)
        refine ⟨.d d, sl, c, ad, F2, r2, ok.mono s2 (List.prefix_refl _), R2, ?_⟩
        refine PostS.only (D := { nx := _, rt := D.rt, bk := D.bk, ct := D.ct }) (PostS.andThen P2 fun sl1 c1 σ1 H1 F3 ad3 s3 p3 ok3 R3 P3 => ?_)
        refine ⟨sl1, c1, ad3, F3, ok3, R3, ?_⟩
        have hJ3 := (hJ.mono s2 (List.prefix_refl _)).mono s3 p3
        revert P3
        cases fb sl1 c1 with
        | nx sl2 c2 => exact fun P3 H4 F4 ad4 σ4 s4 p4 R4 ok4 => ⟨sl2, c2, ad4, F4, ok4, R4, hJ3.mono s4 p4, PostS.weak (o := loopF item g fb m (i + 1) sl2 c2) P3 s4 p4⟩
        | cnt sl2 c2 => exact fun P3 H4 F4 ad4 σ4 s4 p4 R4 ok4 => ⟨sl2, c2, ad4, F4, ok4, R4, hJ3.mono s4 p4, PostS.weak (o := loopF item g fb m (i + 1) sl2 c2) P3 s4 p4⟩
        | brk sl2 c2 => exact fun P3 => P3
        | ret w c2 => exact fun P3 => P3
        | exc sl2 x pl c2 => exact fun P3 => P3
        | bad => exact fun P3 => P3.elim
/-- over a list or a tuple -/
def seqItems (w : W) : Items := fun i c => match rd c w with
  | some (.lst ds) => some ds[i]?
  | some (.tup ds) => some ds[i]?
  | _ => none
def lstItems (w : W) : Items := fun i c => match rd c w with
  | some (.lst ds) => some ds[i]?
  | _ => none
def tupItems (w : W) : Items := fun i c => match rd c w with
  | some (.tup ds) => some ds[i]?
  | _ => none
def iLst (f : Den) : Sl → Cells → Out Items := fun sl c => (f sl c).bind fun w c1 => match rd c1 w with
  | some (.lst _) => .ok (lstItems w) c1
  | _ => .bad
def iTupD (f : Den) : Sl → Cells → Out Items := fun sl c => (f sl c).bind fun w c1 => match rd c1 w with
  | some (.tup _) => .ok (tupItems w) c1
  | _ => .bad
theorem si_lst {tg e : Expr} {f : Den} (h : SE X fa Wx e f) : SI X fa Wx tg e (iLst f) := PI.imp (pi_list h) fun σ H R0 q => by
  obtain ⟨sl, c, ad, F, ok, R, P⟩ := q
  refine ⟨sl, c, ad, F, ok, R, P.bind fun w c1 H1 F1 ad1 s p R1 P1 v rv => ?_⟩
  split at P1
  · rename_i ds e
    obtain ⟨a, vs, h1, h2, h3⟩ := R1.lst rv e
    subst h1
    refine ⟨a, rfl, ⟨vs, .inl h2⟩, P1.now R1 _ fun i c2 ad2 F2 H2 s2 p2 R2 => ?_⟩
    have rv2 := rv.mono s2 p2
    unfold lstItems
    split
    · trivial
    · rename_i e2
      split at e2
      · rename_i ds2 e3
        obtain ⟨a2, vs2, g1, g2, g3⟩ := R2.lst rv2 e3
        cases g1
        injection e2 with e2
        exact ⟨vs2, .inl g2, by rw [g3.length]; exact List.getElem?_eq_none_iff.mp e2⟩
      · cases e2
    · rename_i d e2
      split at e2
      · rename_i ds2 e3
        obtain ⟨a2, vs2, g1, g2, g3⟩ := R2.lst rv2 e3
        cases g1
        injection e2 with e2
        obtain ⟨x, hx, rx⟩ := g3.get e2
        refine ⟨⟨vs2, x, .inl g2, hx⟩, fun y H' hy => ?_⟩
        obtain ⟨rfl, hy⟩ := hy
        have := hy vs2 (.inl g2)
        rw [hx] at this
        cases this
        exact ⟨F2, Same.refl _, R2, rx⟩
      · cases e2
  · exact P1.elim
theorem si_tup {tg e : Expr} {f : Den} (h : SE X fa Wx e f) : SI X fa Wx tg e (iTupD f) := PI.imp (pi_tup h) fun σ H R0 q => by
  obtain ⟨sl, c, ad, F, ok, R, P⟩ := q
  refine ⟨sl, c, ad, F, ok, R, P.bind fun w c1 H1 F1 ad1 s p R1 P1 v rv => ?_⟩
  split at P1
  · rename_i ds e
    obtain ⟨a, vs, h1, h2, h3⟩ := R1.tup rv e
    subst h1
    refine ⟨a, rfl, ⟨vs, h2⟩, P1.now R1 _ fun i c2 ad2 F2 H2 s2 p2 R2 => ?_⟩
    have rv2 := rv.mono s2 p2
    unfold tupItems
    split
    · trivial
    · rename_i e2
      split at e2
      · rename_i ds2 e3
        obtain ⟨a2, vs2, g1, g2, g3⟩ := R2.tup rv2 e3
        cases g1
        injection e2 with e2
        exact ⟨vs2, g2, by rw [g3.length]; exact List.getElem?_eq_none_iff.mp e2⟩
      · cases e2
    · rename_i d e2
      split at e2
      · rename_i ds2 e3
        obtain ⟨a2, vs2, g1, g2, g3⟩ := R2.tup rv2 e3
        cases g1
        injection e2 with e2
        obtain ⟨x, hx, rx⟩ := g3.get e2
        refine ⟨⟨vs2, x, g2, hx⟩, fun y H' hy => ?_⟩
        obtain ⟨rfl, hy⟩ := hy
        have := hy vs2 g2
        rw [hx] at this
        cases this
        exact ⟨F2, Same.refl _, R2, rx⟩
      · cases e2
  · exact P1.elim
def rngItems (lo : Int) (n : Nat) : Items := fun i _ => some (if i < n then some (.int (lo + i)) else none)
def iRng1D (as : Sl → Cells → Out (List W)) : Sl → Cells → Out Items := fun sl c => (as sl c).bind fun ws c1 => match ws with
  | [.d (.int j)] => if -(2 ^ 62) ≤ j ∧ j < 2 ^ 62 then .ok (rngItems 0 j.toNat) c1 else .bad
  | _ => .bad
theorem rng_ok {K : PySem.W.Frag} {ad : List Addr} {F : Hp} (lo : Int) (n : Nat) : ItL K fa ad F (Itr lo n) (rngItems lo n) := fun i c ad' F' H s p R => by
  unfold rngItems
  by_cases h : i < n
  · simp only [if_pos h]
    refine ⟨h, fun x H' hy => ?_⟩
    obtain ⟨rfl, rfl⟩ := hy
    exact ⟨F', Same.refl _, R, .int _⟩
  · simp only [if_neg h]
    exact Nat.le_of_not_lt h
theorem si_rng1 {tg a : Expr} {as : Sl → Cells → Out (List W)} {p pos : Pos} (hm : X.mg "range" = none) (ha : SA X fa Wx [a] as) (hg : Gl X "range" := by rfl) (hs : starEach [a] X.env = [(false, eval a X.env)] := by rfl) : SI X fa Wx tg (.Call (.Name "range" p) [a] [] pos) (iRng1D as) := PI.imp (pi_range1 hg hm ha hs) fun σ H R0 q => by
  obtain ⟨sl, c, ad, F, ok, R, P⟩ := q
  refine ⟨sl, c, ad, F, ok, R, P.bind fun ws c1 H1 F1 ad1 s p R1 P1 vs rv => ?_⟩
  match ws, rv, P1 with
  | [.d (.int j)], .cons r .nil, P1 =>
    dsimp only at P1
    split at P1
    · rename_i h
      cases r
      exact ⟨j, rfl, h.1, h.2, P1.now R1 _ (rng_ok 0 j.toNat)⟩
    · exact P1.elim
end
end Pm

/-! Pm5: operators, subscripts, built-ins, methods. -/
namespace Pm
open PySem L2 PyProof.Rows
abbrev dstr (s : Str) : W := .d (.str s)
abbrev dint (i : Int) : W := .d (.int i)
abbrev dbl (b : Bool) : W := .d (.bl b)
@[simp] theorem rd_d (c : Cells) (x : D) : rd c (.d x) = some x := rfl
theorem rd_c (c : Cells) (k : Nat) : rd c (.c k) = (c[k]?).map O.val := rfl
section
variable {K : PySem.W.Frag} {fa : Fa} {c : Cells} {ad : List Addr} {F H : Hp} {v : V} {w : W}
theorem RW.intD {i : Int} (r : RW K fa ad F v (.d (.int i))) : v = .int i := by cases r; rfl
theorem RW.blD {i : Bool} (r : RW K fa ad F v (.d (.bl i))) : v = .bl i := by cases r; rfl
theorem RW.strD {i : Str} (r : RW K fa ad F v (.d (.str i))) : v = .str i := by cases r; rfl
/-! ### whole numbers -/
def oI (C : Int → Int → Bool) (g : Int → Int → D) : W → W → Cells → Out W := fun w1 w2 c => match w1, w2 with
  | .d (.int i), .d (.int j) => if C i j = true then .ok (.d (g i j)) c else .bad
  | _, _ => .bad
/-- a data value that stands for a value without the heap -/
def flD : D → V
  | .non => .non
  | .bl b => .bl b
  | .int i => .int i
  | .str s => .str s
  | _ => .non
theorem oI_ok {C : Int → Int → Prop} {Cb : Int → Int → Bool} {g : Int → Int → D} {gv : Int → Int → V} (hC : ∀ i j, Cb i j = true → C i j) (hg : ∀ i j F, Rp K fa F (gv i j) (g i j)) : OpL K fa (rI C gv) (oI Cb g) := fun c ad F H v1 v2 w1 w2 Q E R r1 r2 P => by
  unfold oI at P
  split at P
  · rename_i i j
    rw [r1.intD, r2.intD]
    split at P
    · rename_i h
      exact ⟨i, j, rfl, rfl, hC i j h, P.now R _ (hg i j F)⟩
    · exact P.elim
  · exact P.elim
theorem oI0_ok {g : Int → Int → D} {gv : Int → Int → V} (hg : ∀ i j F, Rp K fa F (gv i j) (g i j)) : OpL K fa (rI0 gv) (oI (fun _ _ => true) g) := fun c ad F H v1 v2 w1 w2 Q E R r1 r2 P => by
  unfold oI at P
  split at P
  · rename_i i j
    rw [r1.intD, r2.intD]
    rw [if_pos rfl] at P
    exact ⟨i, j, rfl, rfl, P.now R _ (hg i j F)⟩
  · exact P.elim
def oSub : W → W → Cells → Out W := oI (fun _ _ => true) fun i j => .int (i - j)
def oMul : W → W → Cells → Out W := oI (fun i j => decide (i.natAbs.log2 + j.natAbs.log2 < 1000000)) fun i j => .int (i * j)
def oMod : W → W → Cells → Out W := oI (fun _ j => decide (0 < j)) fun i j => .int (i % j)
def oFdiv : W → W → Cells → Out W := oI (fun _ j => decide (0 < j ∧ j.natAbs.log2 < 9000)) fun i j => .int (i / j)
def oPow : W → W → Cells → Out W := oI (fun i j => decide (0 ≤ j ∧ j ≤ 1000000 ∧ i.natAbs < 2 ^ 64)) fun i j => .int (i ^ j.toNat)
def oLt : W → W → Cells → Out W := oI (fun _ _ => true) fun i j => .bl (decide (i < j))
def oLe : W → W → Cells → Out W := oI (fun _ _ => true) fun i j => .bl (decide (i ≤ j))
def oGt : W → W → Cells → Out W := oI (fun _ _ => true) fun i j => .bl (decide (j < i))
def oGe : W → W → Cells → Out W := oI (fun _ _ => true) fun i j => .bl (decide (j ≤ i))
theorem l_sub : OpL K fa (rI0 fun i j => .int (i - j)) oSub := oI0_ok fun _ _ _ => .int _
theorem l_mul : OpL K fa (rI CMulW fun i j => .int (i * j)) oMul := oI_ok (fun i j h => (of_decide_eq_true h : i.natAbs.log2 + j.natAbs.log2 < 1000000)) fun _ _ _ => .int _
theorem l_mod : OpL K fa (rI (fun _ j => 0 < j) fun i j => .int (i % j)) oMod := oI_ok (fun i j h => of_decide_eq_true h) fun _ _ _ => .int _
theorem l_fdiv : OpL K fa (rI CDivW fun i j => .int (i / j)) oFdiv := oI_ok (fun i j h => (of_decide_eq_true h : 0 < j ∧ j.natAbs.log2 < 9000)) fun _ _ _ => .int _
theorem l_pow : OpL K fa (rI CPow fun i j => .int (i ^ j.toNat)) oPow := oI_ok (fun i j h => (of_decide_eq_true h : 0 ≤ j ∧ j ≤ 1000000 ∧ i.natAbs < 2 ^ 64)) fun _ _ _ => .int _
theorem l_lt : OpL K fa (rI0 fun i j => .bl (decide (i < j))) oLt := oI0_ok fun _ _ _ => .bl _
theorem l_le : OpL K fa (rI0 fun i j => .bl (decide (i ≤ j))) oLe := oI0_ok fun _ _ _ => .bl _
theorem l_gt : OpL K fa (rI0 fun i j => .bl (decide (j < i))) oGt := oI0_ok fun _ _ _ => .bl _
theorem l_ge : OpL K fa (rI0 fun i j => .bl (decide (j ≤ i))) oGe := oI0_ok fun _ _ _ => .bl _
end
/-! ### + -/
def smL (n : Nat) : Bool := decide (n ≤ 1000000)
def oAdd : W → W → Cells → Out W := fun w1 w2 c => match rd c w1, rd c w2 with
  | some (.int i), some (.int j) => .ok (.d (.int (i + j))) c
  | some (.str a), some (.str b) => if smL (a.length + b.length) = true then .ok (.d (.str (a ++ b))) c else .bad
  | some (.lst xs), some (.lst ys) => mkL (xs ++ ys) c
  | some (.tup xs), some (.tup ys) => mkT (xs ++ ys) c
  | _, _ => .bad
section
variable {X : Cx}
def rCatR : R2 := fun x y H Q => ∃ l b xs zs, x = .ref l ∧ y = .ref b ∧ Rd H l (.lst xs) ∧ Rd H b (.lst zs) ∧ xs.length + zs.length ≤ sizeLine ∧ ∀ p, H p = none → Q (.ref p) (upd H p (.lst (xs ++ zs)))
theorem rd_list {pins : List (Addr × Obj)} {σ : L2.St} {H : Hp} {s : Shared} (I : Inv X pins σ H s) {l : Addr} {xs : List V} (h : Rd H l (.lst xs)) : xs.length ≤ sizeLine ∧ ∃ (its : List Value) (n : Nat), Vals xs its ∧ xs.length = its.length ∧ s.heap.get? l = some { cls := .type "list", data := .seq its.toArray n } := by
  obtain ⟨z, its, n, r, e⟩ := h.ok I.hok
  exact ⟨z, its, n, r, r.length, e⟩
theorem op_catR : OpR X (binaryOp .Add) rCatR := by
  intro pins s σ H x y v u Q I rx ry h
  obtain ⟨l, b, xs, zs, rfl, rfl, hH, hB, hz, q⟩ := h
  cases rx
  cases ry
  obtain ⟨z, its, n, r, hl, e⟩ := rd_list I hH
  obtain ⟨z2, its2, n2, r2, hl2, e2⟩ := rd_list I hB
  refine PySem.P.add_list e e2 ?_ (by rw [List.size_toArray, List.size_toArray]; omega)
  have ea : its.toArray ++ its2.toArray = (its ++ its2).toArray := by simp
  rw [ea]
  exact ⟨.ref _, _, I.lnew (t' := s.toks) (r.append r2) (by rw [List.length_append]; omega), rfl, q _ I.fresh⟩
def rAddA (K : PySem.W.Frag) : R2 := fun x y H Q => rI0 (fun i j => .int (i + j)) x y H Q ∨ (∃ i j, x = .str i ∧ y = .str j ∧ i.length + j.length ≤ sizeLine ∧ Q (.str (i ++ j)) H) ∨ rCatR x y H Q ∨ rCatA K x y H Q
theorem op_addA : OpR X (binaryOp .Add) (rAddA X.K) := op_add.or (op_add_str.or (op_catR.or op_catA))
def rIaddA : R2 := fun x y H Q => rI0 (fun i j => .int (i + j)) x y H Q ∨ (∃ i j, x = .str i ∧ y = .str j ∧ i.length + j.length ≤ sizeLine ∧ Q (.str (i ++ j)) H)
theorem iop_addA : OpR X (inplaceOp .Add) rIaddA := iop_add.or iop_add_str
theorem l_add {K : PySem.W.Frag} {fa : Fa} : OpL K fa (rAddA K) oAdd := fun c ad F H v1 v2 w1 w2 Q E R r1 r2 P => by
  unfold oAdd at P
  split at P
  · rename_i i j e1 e2
    rw [R.int r1 e1, R.int r2 e2]
    exact .inl ⟨i, j, rfl, rfl, P.now R _ (.int _)⟩
  · rename_i a b e1 e2
    rw [R.str r1 e1, R.str r2 e2]
    split at P
    · rename_i h
      exact .inr (.inl ⟨a, b, rfl, rfl, small (of_decide_eq_true h), P.now R _ (.str _)⟩)
    · exact P.elim
  · rename_i xs ys e1 e2
    obtain ⟨a, vs, h1, h2, h3⟩ := R.lst r1 e1
    obtain ⟨b, ws, g1, g2, g3⟩ := R.lst r2 e2
    obtain ⟨hz, hq⟩ := mkL_ok P R (h3.append g3)
    exact .inr (.inr (.inl ⟨a, b, vs, ws, h1, g1, h2, g2, by simpa using hz, hq⟩))
  · rename_i xs ys e1 e2
    obtain ⟨a, vs, h1, h2, h3⟩ := R.tup r1 e1
    obtain ⟨b, ws, g1, g2, g3⟩ := R.tup r2 e2
    have ok := mkT_ok P R (h3.append g3)
    have now : ∀ {x : Addr} {us : List V}, SqT K H x us → us = vs ++ ws → (∀ a', SqT K F a' us → Q (.ref a') H) → True := fun _ _ _ => trivial
    unfold mkT at P
    split at P
    · rename_i hl
      refine .inr (.inr (.inr ⟨a, b, vs, ws, h1, g1, h2, g2, by simpa using ok.1, fun e => ?_, fun _ e => ?_, fun _ _ => ok.2⟩))
      · subst e
        cases h3
        exact P.now R _ (by rw [← g1]; exact (by
          have := r2
          cases w2 with
          | d x => cases e2; simpa using this
          | c k =>
            obtain ⟨a2, q1, q2⟩ := this
            have e2' : (c[k]?).map O.val = some (.tup ys) := e2
            cases q : c[k]? with
            | none => rw [q] at e2'; cases e2'
            | some o =>
              rw [q] at e2'
              have ok2 := R.cell k o a2 q q1
              cases o with
              | lst _ => cases e2'
              | dic _ => cases e2'
              | frz d =>
                simp [O.val] at e2'
                subst e2'
                rw [q2]
                exact ok2
          | x _ _ => exact (nomatch e2) : RW K fa ad F v2 (.d (.tup ys))))
      · subst e
        cases g3
        rw [List.append_nil] at P
        exact P.now R _ (by rw [← h1]; exact (by
          have := r1
          cases w1 with
          | d x => cases e1; simpa using this
          | c k =>
            obtain ⟨a2, q1, q2⟩ := this
            have e2' : (c[k]?).map O.val = some (.tup xs) := e1
            cases q : c[k]? with
            | none => rw [q] at e2'; cases e2'
            | some o =>
              rw [q] at e2'
              have ok2 := R.cell k o a2 q q1
              cases o with
              | lst _ => cases e2'
              | dic _ => cases e2'
              | frz d =>
                simp [O.val] at e2'
                subst e2'
                rw [q2]
                exact ok2
          | x _ _ => exact (nomatch e1) : RW K fa ad F v1 (.d (.tup xs))))
    · exact P.elim
  · exact P.elim
def oIadd : W → W → Cells → Out W := fun w1 w2 c => match w1, w2 with
  | .d (.int i), .d (.int j) => .ok (.d (.int (i + j))) c
  | .d (.str a), .d (.str b) => if smL (a.length + b.length) = true then .ok (.d (.str (a ++ b))) c else .bad
  | _, _ => .bad
theorem l_iadd {K : PySem.W.Frag} {fa : Fa} : OpL K fa rIaddA oIadd := fun c ad F H v1 v2 w1 w2 Q E R r1 r2 P => by
  unfold oIadd at P
  split at P
  · rename_i i j
    rw [r1.intD, r2.intD]
    exact .inl ⟨i, j, rfl, rfl, P.now R _ (.int _)⟩
  · rename_i a b
    rw [r1.strD, r2.strD]
    split at P
    · rename_i h
      exact .inr ⟨a, b, rfl, rfl, small (of_decide_eq_true h), P.now R _ (.str _)⟩
    · exact P.elim
  · exact P.elim
theorem ip_of {op : Operator} {r : R2} (h : OpR X (inplaceOp op) r) : PIp X op r := h
end
end Pm

/-! Pm6: comparisons of data, membership, subscripts, slices, built-ins. -/
namespace Pm
open PySem L2 PyProof.Rows
/-! ### == -/
mutual
def toPy : D → Option PyData
  | .non => some .none
  | .bl b => some (.bool b)
  | .int i => some (.int i)
  | .str s => some (.str s)
  | .lst xs => (toPyA xs).map .list
  | .tup xs => (toPyA xs).map .tuple
  | _ => none
def toPyA : List D → Option (List PyData)
  | [] => some []
  | x :: xs => match toPy x, toPyA xs with
    | some y, some ys => some (y :: ys)
    | _, _ => none
end
section
variable {K : PySem.W.Frag} {fa : Fa}
mutual
theorem Rp.dp {F H : Hp} (e : Same F H) : ∀ {d : D} {v : V} {p : PyData}, Rp K fa F v d → toPy d = some p → Dp K H v p
  | .non, _, _, .non, h => by cases h; exact .non
  | .bl b, _, _, .bl _, h => by cases h; exact .bl b
  | .int i, _, _, .int _, h => by cases h; exact .int i
  | .str s, _, _, .str _, h => by cases h; exact .str s
  | .lst xs, _, p, .lst s r, h => by
    simp only [toPy] at h
    cases q : toPyA xs with
    | none => rw [q] at h; cases h
    | some ps => rw [q] at h; cases h; exact .lst (.inl (rd_mono e s)) (RpA.dp e r q)
  | .tup xs, _, p, .tup s r, h => by
    simp only [toPy] at h
    cases q : toPyA xs with
    | none => rw [q] at h; cases h
    | some ps => rw [q] at h; cases h; exact .tup (sqT_mono e s) (RpA.dp e r q)
  | .fn _, _, _, _, h => by simp [toPy] at h
  | .ty _, _, _, _, h => by simp [toPy] at h
  | .dic _, _, _, _, h => by simp [toPy] at h
theorem RpA.dp {F H : Hp} (e : Same F H) : ∀ {ds : List D} {vs : List V} {ps : List PyData}, RpA K fa F vs ds → toPyA ds = some ps → DpAll K H vs ps
  | [], _, _, .nil, h => by cases h; exact .nil
  | d :: ds, _, ps, .cons r rs, h => by
    simp only [toPyA] at h
    cases q : toPy d with
    | none => rw [q] at h; cases h
    | some y =>
      cases q2 : toPyA ds with
      | none => rw [q, q2] at h; cases h
      | some ys => rw [q, q2] at h; cases h; exact .cons (Rp.dp e r q) (RpA.dp e rs q2)
end
theorem Rel.dp {c : Cells} {ad : List Addr} {F H : Hp} {v : V} {w : W} {d : D} {p : PyData} (R : Rel K fa c ad F H) (r : RW K fa ad F v w) (e : Pm.rd c w = some d) (h : toPy d = some p) : Dp K H v p := by
  rcases R.rd r e with ⟨a, ds, vs, rfl, rfl, h3, h4⟩ | ⟨a, ds, vs, rfl, rfl, h3, h4⟩ | q
  · simp only [toPy] at h
    cases q : toPyA ds with
    | none => rw [q] at h; cases h
    | some ps => rw [q] at h; cases h; exact .lst (.inl h3) (RpA.dp R.le h4 q)
  · simp [toPy] at h
  · exact Rp.dp R.le q h
end
/-- == of two values that are data; texts, numbers, truths straight -/
def eqD : D → D → Option Bool
  | .str a, .str b => some (decide (a = b))
  | .int a, .int b => some (decide (a = b))
  | .bl a, .bl b => some (decide (a = b))
  | d, e => match toPy d, toPy e with
    | some p, some q => if (SeqAt.shaped p && SeqAt.shaped q) = true then some (PyData.eqv p q) else none
    | _, _ => none
def oEq : W → W → Cells → Out W := fun w1 w2 c => match rd c w1, rd c w2 with
  | some d, some e => match eqD d e with
    | some b => .ok (.d (.bl b)) c
    | none => .bad
  | _, _ => .bad
def oNe : W → W → Cells → Out W := fun w1 w2 c => match rd c w1, rd c w2 with
  | some d, some e => match eqD d e with
    | some b => .ok (.d (.bl (!b))) c
    | none => .bad
  | _, _ => .bad
section
variable {X : Cx} {K : PySem.W.Frag} {fa : Fa}
def rEqA (K : PySem.W.Frag) : R2 := fun x y H Q => rEq x y H Q ∨ rEqD K x y H Q
def rNeA (K : PySem.W.Frag) : R2 := fun x y H Q => rNe x y H Q ∨ rNeD K x y H Q
theorem op_eqA (hu : X.A.units + 64 < cLine) : OpR X (compareOp .Eq) (rEqA X.K) := op_eq.or (op_eqD hu)
theorem op_neA (hu : X.A.units + 64 < cLine) : OpR X (compareOp .NotEq) (rNeA X.K) := op_ne.or (op_neD hu)
theorem eqD_ok {c : Cells} {ad : List Addr} {F H : Hp} {v1 v2 : V} {w1 w2 : W} {d e : D} {b : Bool} (R : Rel K fa c ad F H) (r1 : RW K fa ad F v1 w1) (r2 : RW K fa ad F v2 w2) (h1 : rd c w1 = some d) (h2 : rd c w2 = some e) (h : eqD d e = some b) :
    (scal v1 v2 = true ∧ decide (v1 = v2) = b) ∨ ∃ p q, Dp K H v1 p ∧ Dp K H v2 q ∧ SeqAt.shaped p = true ∧ SeqAt.shaped q = true ∧ PyData.eqv p q = b := by
  unfold eqD at h
  split at h
  · rename_i a b'
    rw [R.str r1 h1, R.str r2 h2]
    injection h with h
    subst h
    exact .inl ⟨rfl, by simp⟩
  · rename_i a b'
    rw [R.int r1 h1, R.int r2 h2]
    injection h with h
    subst h
    exact .inl ⟨rfl, by simp⟩
  · rename_i a b'
    rw [R.bl r1 h1, R.bl r2 h2]
    injection h with h
    subst h
    exact .inl ⟨rfl, by simp⟩
  · split at h
    · rename_i p q e1 e2
      split at h
      · rename_i hs
        injection h with h
        rw [Bool.and_eq_true] at hs
        exact .inr ⟨p, q, R.dp r1 h1 e1, R.dp r2 h2 e2, hs.1, hs.2, h⟩
      · cases h
    · cases h
theorem l_eq : OpL K fa (rEqA K) oEq := fun c ad F H v1 v2 w1 w2 Q E R r1 r2 P => by
  unfold oEq at P
  split at P
  · rename_i d e h1 h2
    split at P
    · rename_i b hb
      have q := P.now R _ (.bl b)
      rcases eqD_ok R r1 r2 h1 h2 hb with ⟨s1, s2⟩ | ⟨p, q', a1, a2, a3, a4, a5⟩
      · exact .inl ⟨s1, by rw [s2]; exact q⟩
      · exact .inr ⟨p, q', a1, a2, a3, a4, by rw [a5]; exact q⟩
    · exact P.elim
  · exact P.elim
theorem l_ne : OpL K fa (rNeA K) oNe := fun c ad F H v1 v2 w1 w2 Q E R r1 r2 P => by
  unfold oNe at P
  split at P
  · rename_i d e h1 h2
    split at P
    · rename_i b hb
      have q := P.now R _ (.bl (!b))
      rcases eqD_ok R r1 r2 h1 h2 hb with ⟨s1, s2⟩ | ⟨p, q', a1, a2, a3, a4, a5⟩
      · exact .inl ⟨s1, by rw [s2]; exact q⟩
      · exact .inr ⟨p, q', a1, a2, a3, a4, by rw [a5]; exact q⟩
    · exact P.elim
  · exact P.elim
/-! ### in -/
def flatD : D → Bool
  | .non => true
  | .bl _ => true
  | .int _ => true
  | .str _ => true
  | _ => false
def eqF : D → D → Bool
  | .non, .non => true
  | .bl a, .bl b => a == b
  | .bl a, .int b => (if a then 1 else 0) == b
  | .int a, .bl b => a == (if b then 1 else 0)
  | .int a, .int b => a == b
  | .str a, .str b => a == b
  | _, _ => false
theorem flat_ok {F : Hp} {v : V} {d : D} (r : Rp K fa F v d) (h : flatD d = true) : flatV v = true := by
  cases r <;> first | rfl | cases h
theorem eqF_ok {F : Hp} {v u : V} {d e : D} (r : Rp K fa F v d) (r2 : Rp K fa F u e) (h : flatD d = true) (h2 : flatD e = true) : eqV v u = eqF d e := by
  cases r <;> first | cases h | skip
  all_goals cases r2 <;> first | cases h2 | skip
  all_goals rfl
theorem inV_ok {F : Hp} {v : V} {d : D} (r : Rp K fa F v d) (h : flatD d = true) : ∀ {vs : List V} {ds : List D}, RpA K fa F vs ds → ds.all flatD = true → vs.all flatV = true ∧ inV v vs = ds.any fun y => eqF y d
  | _, _, .nil, _ => ⟨rfl, rfl⟩
  | _, _, .cons q qs, ha => by
    rw [List.all_cons, Bool.and_eq_true] at ha
    obtain ⟨i1, i2⟩ := inV_ok r h qs ha.2
    refine ⟨by rw [List.all_cons, flat_ok q ha.1, i1]; rfl, ?_⟩
    unfold inV at i2 ⊢
    rw [List.any_cons, List.any_cons, i2, eqF_ok q r ha.1 h]
def oIn (neg : Bool) : W → W → Cells → Out W := fun w1 w2 c => match rd c w1, rd c w2 with
  | some (.str y), some (.str z) => .ok (.d (.bl (let k := !(Builtin.Str.occurrences z y 0 z.length 1).isEmpty; if neg then !k else k))) c
  | some d, some (.lst ds) => if (flatD d && ds.all flatD) = true then .ok (.d (.bl (let k := ds.any fun y => eqF y d; if neg then !k else k))) c else .bad
  | some d, some (.tup ds) => if (flatD d && ds.all flatD) = true then .ok (.d (.bl (let k := ds.any fun y => eqF y d; if neg then !k else k))) c else .bad
  | _, _ => .bad
def rInA (K : PySem.W.Frag) (neg : Bool) : R2 := fun x y H Q => (∃ i j, x = .str i ∧ y = .str j ∧ Q (.bl (if neg then !(!(Builtin.Str.occurrences j i 0 j.length 1).isEmpty) else !(Builtin.Str.occurrences j i 0 j.length 1).isEmpty)) H) ∨ rIn K neg x y H Q
theorem op_inA : OpR X (compareOp .In) (rInA X.K false) := op_in_str.or op_in_seq
theorem op_ninA : OpR X (compareOp .NotIn) (rInA X.K true) := op_notin_str.or op_notIn_seq
theorem Rel.flat {c : Cells} {ad : List Addr} {F H : Hp} {v : V} {w : W} {d : D} (R : Rel K fa c ad F H) (r : RW K fa ad F v w) (e : Pm.rd c w = some d) (h : flatD d = true) : Rp K fa F v d := by
  rcases R.rd r e with ⟨a, ds, vs, rfl, rfl, h3, h4⟩ | ⟨a, ds, vs, rfl, rfl, h3, h4⟩ | q
  · cases h
  · cases h
  · exact q
theorem l_in (neg : Bool) : OpL K fa (rInA K neg) (oIn neg) := fun c ad F H v1 v2 w1 w2 Q E R r1 r2 P => by
  unfold oIn at P
  split at P
  · rename_i y z h1 h2
    exact .inl ⟨y, z, R.str r1 h1, R.str r2 h2, P.now R _ (.bl _)⟩
  · rename_i d ds h1 h2
    obtain ⟨a, vs, e1, e2, e3⟩ := R.lst r2 h2
    split at P
    · rename_i hf
      rw [Bool.and_eq_true] at hf
      have rp := R.flat r1 h1 hf.1
      obtain ⟨i1, i2⟩ := inV_ok rp hf.1 e3 hf.2
      refine .inr ⟨a, vs, e1, .inl (.inl e2), flat_ok rp hf.1, i1, ?_⟩
      rw [i2]
      exact P.now R _ (.bl _)
    · exact P.elim
  · rename_i d ds h1 h2
    obtain ⟨a, vs, e1, e2, e3⟩ := R.tup r2 h2
    split at P
    · rename_i hf
      rw [Bool.and_eq_true] at hf
      have rp := R.flat r1 h1 hf.1
      obtain ⟨i1, i2⟩ := inV_ok rp hf.1 e3 hf.2
      refine .inr ⟨a, vs, e1, .inr e2, flat_ok rp hf.1, i1, ?_⟩
      rw [i2]
      exact P.now R _ (.bl _)
    · exact P.elim
  · exact P.elim
/-! ### a[i] -/
def oIx : W → W → Cells → Out W := fun w1 w2 c => match rd c w1, w2 with
  | some (.lst ds), .d (.int i) => match atI ds i with
    | some d => .ok (.d d) c
    | none => .bad
  | some (.tup ds), .d (.int i) => match atI ds i with
    | some d => .ok (.d d) c
    | none => .bad
  | some (.str z), .d (.int i) => if smL z.length = true then match atI z.cps.toList i with
    | some x => .ok (.d (.str ⟨#[x]⟩)) c
    | none => .bad else .bad
  | some (.arr xs), .d (.int i) => match atI xs i with
    | some x => .ok (.d (.int x)) c
    | none => .bad
  | _, _ => .bad
theorem Rel.arr {c : Cells} {ad : List Addr} {F H : Hp} {v : V} {w : W} {xs : List Int} (R : Rel K fa c ad F H) (r : RW K fa ad F v w) (e : Pm.rd c w = some (.arr xs)) : ∃ a, v = .ref a ∧ SqL K H a (xs.map V.int) := by
  rcases R.rd r e with ⟨a, ds', vs, h1, _⟩ | ⟨a, ds', vs, h1, _⟩ | h
  · cases h1
  · cases h1
  · cases h with
    | arr s => exact ⟨_, rfl, sqL_mono R.le s⟩
theorem at_map {xs : List Int} {i : Int} {x : Int} (h : atI xs i = some x) : atI (xs.map V.int) i = some (.int x) := by
  unfold atI at h ⊢
  rw [List.length_map]
  cases q : ixN xs.length i with
  | none => rw [q] at h; cases h
  | some j =>
    rw [q] at h
    show (xs.map V.int)[j]? = _
    rw [List.getElem?_map, (show xs[j]? = some x from h)]
    rfl
theorem at_ok {F : Hp} {vs : List V} {ds : List D} {i : Int} {d : D} (r : RpA K fa F vs ds) (h : atI ds i = some d) : ∃ v, atI vs i = some v ∧ Rp K fa F v d := by
  unfold atI at h ⊢
  rw [r.length]
  cases q : ixN ds.length i with
  | none => rw [q] at h; cases h
  | some j => rw [q] at h; exact r.get h
theorem l_ix : OpL K fa (rIx K) oIx := fun c ad F H v1 v2 w1 w2 Q E R r1 r2 P => by
  unfold oIx at P
  split at P
  · rename_i ds i h1
    obtain ⟨a, vs, e1, e2, e3⟩ := R.lst r1 h1
    split at P
    · rename_i d hd
      obtain ⟨v, g1, g2⟩ := at_ok e3 hd
      exact .inl ⟨a, vs, i, v, e1, r2.intD, .inl e2, g1, P.now R v g2⟩
    · exact P.elim
  · rename_i ds i h1
    obtain ⟨a, vs, e1, e2, e3⟩ := R.tup r1 h1
    split at P
    · rename_i d hd
      obtain ⟨v, g1, g2⟩ := at_ok e3 hd
      exact .inr (.inl ⟨a, vs, i, v, e1, r2.intD, e2, g1, P.now R v g2⟩)
    · exact P.elim
  · rename_i z i h1
    split at P
    · rename_i hz
      split at P
      · rename_i x hx
        exact .inr (.inr ⟨z, i, x, R.str r1 h1, r2.intD, small (of_decide_eq_true hz), hx, P.now R _ (.str _)⟩)
      · exact P.elim
    · exact P.elim
  · rename_i xs i h1
    obtain ⟨a, e1, e2⟩ := R.arr r1 h1
    split at P
    · rename_i x hx
      exact .inl ⟨a, _, i, .int x, e1, r2.intD, e2, at_map hx, P.now R _ (.int _)⟩
    · exact P.elim
  · exact P.elim
end
/-! ### slices -/
section
variable {X : Cx} {fa : Fa} {Wx : WX} {pos p2 : Pos}
def tOp1 (K : PySem.W.Frag) (fa : Fa) (Wx : WX) (f : Sl → Cells → Out (Option Int)) : TO := fun σ H Q => ∃ sl c ad F, SlOk K fa ad F σ sl ∧ Rel K fa c ad F H ∧
  Post K fa (fun cls d H' => Wx cls d σ H') ad F (fun o ad' F' H' => Q o H') (f sl c)
def pNone : Sl → Cells → Out (Option Int) := fun _ c => .ok none c
def pSome (f : Den) : Sl → Cells → Out (Option Int) := fun sl c => (f sl c).bind fun w c1 => match w with
  | .d (.int i) => .ok (some i) c1
  | _ => .bad
theorem PO.imp {e : Option Expr} {t t' : TO} (h : PO X e t) (i : ∀ σ H Q, t' σ H Q → t σ H Q) : PO X e t' := ⟨fun pins s σ H Q I q => h.run pins s σ H Q I (i σ H Q q)⟩
theorem so_none : PO X none (tOp1 X.K fa Wx pNone) := PO.imp po_none fun σ H Q q => by
  obtain ⟨sl, c, ad, F, ok, R, P⟩ := q
  exact P.now R
theorem so_some {e : Expr} {f : Den} (h : SE X fa Wx e f) : PO X (some e) (tOp1 X.K fa Wx (pSome f)) := PO.imp (po_some h) fun σ H Q q => by
  obtain ⟨sl, c, ad, F, ok, R, P⟩ := q
  refine ⟨sl, c, ad, F, ok, R, P.bind fun w c1 H1 F1 ad1 s p R1 P1 v rv => ?_⟩
  split at P1
  · rename_i i
    exact ⟨i, rv.intD, P1.now R1⟩
  · exact P1.elim
def cutD (ds : List D) (lo hi : Option Int) : List D := (ds.drop (HT.sIx ds.length 0 lo)).take (HT.sIx ds.length ds.length hi - HT.sIx ds.length 0 lo)
def oSl : W → Option Int → Option Int → Cells → Out W := fun w lo hi c => match rd c w with
  | some (.lst ds) => mkL (cutD ds lo hi) c
  | some (.tup ds) => mkT (cutD ds lo hi) c
  | some (.str z) => if smL z.length = true then .ok (.d (.str (cutS z lo hi))) c else .bad
  | _ => .bad
def rSlAll (K : PySem.W.Frag) : V → Option Int → Option Int → Hp → VK → Prop := fun x lo hi H Q => rSlL K x lo hi H Q ∨ rSlA K x lo hi H Q ∨ rSlS x lo hi H Q
theorem sl_all : SlR X (rSlAll X.K) := sl_list.or (sl_tupA.or sl_str)
theorem cut_ok {K : PySem.W.Frag} {F : Hp} {vs : List V} {ds : List D} (r : RpA K fa F vs ds) (lo hi : Option Int) : RpA K fa F (cutV vs lo hi) (cutD ds lo hi) := by
  unfold cutV cutD
  rw [r.length]
  exact (r.drop _).take _
def dSl (f : Den) (l h : Sl → Cells → Out (Option Int)) : Den := fun sl c => (f sl c).bind fun w c1 => (l sl c1).bind fun lo c2 => (h sl c2).bind fun hi c3 => oSl w lo hi c3
theorem tupW {K : PySem.W.Frag} {c : Cells} {ad : List Addr} {F H : Hp} {v : V} {w : W} {ds : List D} (R : Rel K fa c ad F H) (r : RW K fa ad F v w) (e : rd c w = some (.tup ds)) : Rp K fa F v (.tup ds) := by
  rcases R.rd r e with ⟨a, ds', vs, h1, _⟩ | ⟨a, ds', vs, h1, _⟩ | q
  · cases h1
  · cases h1
  · exact q
theorem se_sl {e : Expr} {lo hi : Option Expr} {f : Den} {l h : Sl → Cells → Out (Option Int)} (he : SE X fa Wx e f) (hl : PO X lo (tOp1 X.K fa Wx l)) (hh : PO X hi (tOp1 X.K fa Wx h)) : SE X fa Wx (.Subscript e (.Slice lo hi none p2) pos) (dSl f l h) := PE.imp (pe_slice sl_all he hl hh) fun σ H Q q => by
  obtain ⟨sl, c, ad, F, ok, R, P⟩ := q
  refine ⟨sl, c, ad, F, ok, R, P.bind fun w c1 H1 F1 ad1 s p R1 P1 v rv => ?_⟩
  refine ⟨sl, c1, ad1, F1, ok.mono s p, R1, P1.bind fun lo c2 H2 F2 ad2 s2 p2 R2 P2 => ?_⟩
  refine ⟨sl, c2, ad2, F2, (ok.mono s p).mono s2 p2, R2, P2.bind fun hi c3 H3 F3 ad3 s3 p3 R3 P3 => ?_⟩
  have rv3 := (rv.mono s2 p2).mono s3 p3
  unfold oSl at P3
  split at P3
  · rename_i ds e
    obtain ⟨a, vs, e1, e2, e3⟩ := R3.lst rv3 e
    exact .inl ⟨a, vs, e1, .inl e2, (mkL_ok P3 R3 (cut_ok e3 lo hi)).2⟩
  · rename_i ds e
    obtain ⟨a, vs, e1, e2, e3⟩ := R3.tup rv3 e
    refine .inr (.inl ⟨a, vs, e1, e2, fun hw => ?_, fun _ => (mkT_ok P3 R3 (cut_ok e3 lo hi)).2⟩)
    have rp := tupW R3 rv3 e
    have ec : cutD ds lo hi = ds := by
      rw [e3.length] at hw
      unfold cutD
      rw [hw.1, hw.2]
      simp
    rw [ec] at P3
    unfold mkT at P3
    split at P3
    · exact P3.now R3 _ (by rw [← e1]; exact rp)
    · exact P3.elim
  · rename_i z e
    split at P3
    · rename_i hz
      exact .inr (.inr ⟨z, R3.str rv3 e, small (of_decide_eq_true hz), P3.now R3 _ (.str _)⟩)
    · exact P3.elim
  · exact P3.elim
end
/-! ### built-ins -/
section
variable {X : Cx} {K : PySem.W.Frag} {fa : Fa}
theorem CallR.or {f : Value} {r r' : List V → Hp → VK → Prop} (h : CallR X f r) (h' : CallR X f r') : CallR X f (fun xs H Q => r xs H Q ∨ r' xs H Q) := by
  intro pins s σ H xs us Q I rv q
  rcases q with q | q
  · exact h pins s σ H xs us Q I rv q
  · exact h' pins s σ H xs us Q I rv q
def oLen : List W → Cells → Out W := fun ws c => match ws with
  | [w] => match rd c w with
    | some (.lst ds) => .ok (.d (.int ds.length)) c
    | some (.tup ds) => .ok (.d (.int ds.length)) c
    | some (.dic ds) => .ok (.d (.int ds.length)) c
    | some (.str z) => if smL z.length = true then .ok (.d (.int z.length)) c else .bad
    | some (.arr xs) => .ok (.d (.int xs.length)) c
    | _ => .bad
  | _ => .bad
def rLenA (K : PySem.W.Frag) : List V → Hp → VK → Prop := fun xs H Q => (∃ x n, xs = [x] ∧ LenV K x H n ∧ Q (.int (n : Nat)) H) ∨ ∃ a kvs, xs = [.ref a] ∧ H a = some (.dK kvs) ∧ Q (.int kvs.length) H
theorem cl_len : CallR X (.builtin "len") (rLenA X.K) := by
  refine CallR.or call_len ?_
  intro pins s σ H xs us Q I rv q
  obtain ⟨a, kvs, e, h, q⟩ := q
  refine call_lenD (X := X) pins s σ H xs us Q I rv ?_
  exact ⟨a, kvs, e, h, q⟩
theorem RpK.length {F : Hp} : ∀ {vs : List (Key × V)} {ds : List (Key × D)}, RpK K fa F vs ds → vs.length = ds.length
  | _, _, .nil => rfl
  | _, _, .cons _ r => by simp [RpK.length r]
theorem Rel.dic {c : Cells} {ad : List Addr} {F H : Hp} {v : V} {w : W} {ds : List (Key × D)} (R : Rel K fa c ad F H) (r : RW K fa ad F v w) (e : Pm.rd c w = some (.dic ds)) : ∃ a vs, v = .ref a ∧ H a = some (.dK vs) ∧ RpK K fa F vs ds := by
  rcases R.rd r e with ⟨a, ds', vs, h1, _⟩ | ⟨a, ds', vs, h1, h2, h3, h4⟩ | h
  · cases h1
  · cases h1; exact ⟨a, vs, h2, h3, h4⟩
  · cases h with
    | dic s q => exact ⟨_, _, rfl, R.le _ _ s, q⟩
theorem ll_len : CalL K fa (rLenA K) oLen := fun c ad F H vs ws Q E R r P => by
  unfold oLen at P
  split at P
  · rename_i w
    match vs, r with
    | [v], .cons r .nil =>
      split at P
      · rename_i ds e
        obtain ⟨a, us, e1, e2, e3⟩ := R.lst r e
        refine .inl ⟨v, us.length, rfl, ?_, ?_⟩
        · rw [e1]; exact .inl ⟨us, .inl e2, rfl⟩
        · rw [e3.length]; exact P.now R _ (.int _)
      · rename_i ds e
        obtain ⟨a, us, e1, e2, e3⟩ := R.tup r e
        refine .inl ⟨v, us.length, rfl, ?_, ?_⟩
        · rw [e1]; exact .inr ⟨us, e2, rfl⟩
        · rw [e3.length]; exact P.now R _ (.int _)
      · rename_i ds e
        obtain ⟨a, us, e1, e2, e3⟩ := R.dic r e
        refine .inr ⟨a, us, by rw [e1], e2, ?_⟩
        rw [e3.length]; exact P.now R _ (.int _)
      · rename_i z e
        split at P
        · rename_i hz
          refine .inl ⟨v, z.length, rfl, ?_, P.now R _ (.int _)⟩
          rw [R.str r e]
          exact ⟨small (of_decide_eq_true hz), rfl⟩
        · exact P.elim
      · rename_i xs e
        obtain ⟨a, e1, e2⟩ := R.arr r e
        refine .inl ⟨v, xs.length, rfl, ?_, P.now R _ (.int _)⟩
        rw [e1]; exact .inl ⟨_, e2, by simp⟩
      · exact P.elim
  · exact P.elim
/-- functions of one whole number, of two -/
def o1I (C : Int → Bool) (g : Int → D) : List W → Cells → Out W := fun ws c => match ws with
  | [.d (.int i)] => if C i = true then .ok (.d (g i)) c else .bad
  | _ => .bad
def o2I (C : Int → Int → Bool) (g : Int → Int → D) : List W → Cells → Out W := fun ws c => match ws with
  | [.d (.int i), .d (.int j)] => if C i j = true then .ok (.d (g i j)) c else .bad
  | _ => .bad
theorem two_ints {ad : List Addr} {F : Hp} {vs : List V} {i j : Int} (r : RWs K fa ad F vs [.d (.int i), .d (.int j)]) : vs = [.int i, .int j] := by
  match vs, r with
  | [_, _], .cons r1 (.cons r2 .nil) => rw [r1.intD, r2.intD]
theorem one_int {ad : List Addr} {F : Hp} {vs : List V} {i : Int} (r : RWs K fa ad F vs [.d (.int i)]) : vs = [.int i] := by
  match vs, r with
  | [_], .cons r1 .nil => rw [r1.intD]
def oAbs : List W → Cells → Out W := o1I (fun _ => true) fun i => .int (if i < 0 then -i else i)
theorem ll_abs : CalL K fa (fun xs H Q => ∃ i, xs = [.int i] ∧ Q (.int (if i < 0 then -i else i)) H) oAbs := fun c ad F H vs ws Q E R r P => by
  unfold oAbs o1I at P
  split at P
  · rename_i i
    exact ⟨i, one_int r, P.now R _ (.int _)⟩
  · exact P.elim
def oMax2 : List W → Cells → Out W := o2I (fun _ _ => true) fun i j => .int (if j > i then j else i)
theorem ll_max2 : CalL K fa (fun xs H Q => ∃ i j, xs = [.int i, .int j] ∧ Q (.int (if j > i then j else i)) H) oMax2 := fun c ad F H vs ws Q E R r P => by
  unfold oMax2 o2I at P
  split at P
  · rename_i i j
    exact ⟨i, j, two_ints r, P.now R _ (.int _)⟩
  · exact P.elim
def oDivmod : List W → Cells → Out W := o2I (fun i j => decide (0 < j ∧ Builtin.divisionGoesByPylong i j = false)) fun i j => .tup [.int (i / j), .int (i % j)]
theorem ll_divmod : CalL K fa (fun xs H Q => ∃ i j, xs = [.int i, .int j] ∧ CDivP i j ∧ ∀ p, H p = none → Q (.ref p) (upd H p (.tup [.int (i / j), .int (i % j)]))) oDivmod := fun c ad F H vs ws Q E R r P => by
  unfold oDivmod o2I at P
  split at P
  · rename_i i j
    split at P
    · rename_i h
      refine ⟨i, j, two_ints r, (of_decide_eq_true h : 0 < j ∧ Builtin.divisionGoesByPylong i j = false), ?_⟩
      have P2 : Post K fa E ad F (fun w ad' F' H' => ∀ v, RW K fa ad' F' v w → Q v H') (mkT [.int (i / j), .int (i % j)] c) := by
        unfold mkT; rw [if_pos (by show 2 ≤ 1000000; decide)]; exact P
      exact (mkT_ok P2 R (.cons (.int _) (.cons (.int _) .nil))).2
    · exact P.elim
  · exact P.elim
/-- int of an int, of a text -/
def oInt : List W → Cells → Out W := fun ws c => match ws with
  | [.d (.int i)] => .ok (.d (.int i)) c
  | [.d (.str a)] => match PySem.intText? a with
    | some n => if a.length ≤ 640 then .ok (.d (.int n)) c else .bad
    | none => .bad
  | _ => .bad
def rIntA : List V → Hp → VK → Prop := fun xs H Q => ((∃ i, xs = [.int i] ∧ Q (.int i) H) ∨ ∃ k, xs = [.bl k] ∧ Q (.int (if k then 1 else 0)) H) ∨ ∃ a n, xs = [.str a] ∧ PySem.intText? a = some n ∧ a.length ≤ 640 ∧ Q (.int n) H
theorem cl_int : CallR X (.type "int") rIntA := CallR.or call_int1 call_int_str
theorem ll_int : CalL K fa rIntA oInt := fun c ad F H vs ws Q E R r P => by
  unfold oInt at P
  split at P
  · rename_i i
    exact .inl (.inl ⟨i, one_int r, P.now R _ (.int _)⟩)
  · rename_i a
    split at P
    · rename_i n e
      split at P
      · rename_i hl
        match vs, r with
        | [_], .cons r1 .nil => exact .inr ⟨a, n, by rw [r1.strD], e, hl, P.now R _ (.int _)⟩
      · exact P.elim
    · exact P.elim
  · exact P.elim
/-- all of a list of truths -/
def blsD : List D → Option (List Bool)
  | [] => some []
  | .bl b :: ds => (blsD ds).map (b :: ·)
  | _ => none
theorem bls_ok {F : Hp} : ∀ {ds : List D} {vs : List V} {bs : List Bool}, RpA K fa F vs ds → blsD ds = some bs → vs = bs.map V.bl
  | [], _, _, .nil, h => by cases h; rfl
  | .bl b :: ds, _, bs, .cons (.bl _) rs, h => by
    unfold blsD at h
    cases q : blsD ds with
    | none => rw [q] at h; cases h
    | some bs' =>
      rw [q] at h
      cases h
      rw [bls_ok rs q]
      rfl
  | .non :: _, _, _, .cons _ _, h => by cases h
  | .int _ :: _, _, _, .cons _ _, h => by cases h
  | .str _ :: _, _, _, .cons _ _, h => by cases h
  | .fn _ :: _, _, _, .cons _ _, h => by cases h
  | .ty _ :: _, _, _, .cons _ _, h => by cases h
  | .lst _ :: _, _, _, .cons _ _, h => by cases h
  | .tup _ :: _, _, _, .cons _ _, h => by cases h
  | .dic _ :: _, _, _, .cons _ _, h => by cases h
  | .arr _ :: _, _, _, .cons _ _, h => by cases h
def oAll : List W → Cells → Out W := fun ws c => match ws with
  | [w] => match rd c w with
    | some (.lst ds) => match blsD ds with
      | some bs => .ok (.d (.bl (bs.all id))) c
      | none => .bad
    | _ => .bad
  | _ => .bad
theorem ll_all : CalL K fa (rAll K) oAll := fun c ad F H vs ws Q E R r P => by
  unfold oAll at P
  split at P
  · rename_i w
    split at P
    · rename_i ds e
      split at P
      · rename_i bs hb
        match vs, r with
        | [v], .cons r .nil =>
          obtain ⟨a, us, e1, e2, e3⟩ := R.lst r e
          have := bls_ok e3 hb
          subst this
          exact ⟨a, bs, by rw [e1], .inl e2, P.now R _ (.bl _)⟩
      · exact P.elim
    · exact P.elim
  · exact P.elim
/-- isinstance with a built-in class -/
def tyD : D → Option String
  | .non => some "NoneType"
  | .bl _ => some "bool"
  | .int _ => some "int"
  | .str _ => some "str"
  | .lst _ => some "list"
  | .tup _ => some "tuple"
  | .dic _ => some "dict"
  | _ => none
def isiT (a b : String) : Option Bool := kitB a b
def oIsi : List W → Cells → Out W := fun ws c => match ws with
  | [w, .d (.ty n)] => match rd c w with
    | some d => match tyD d with
      | some t => match kitB t n with
        | some b => .ok (.d (.bl b)) c
        | none => .bad
      | none => .bad
    | none => .bad
  | _ => .bad
theorem tyX_ok {c : Cells} {ad : List Addr} {F H : Hp} {v : V} {w : W} {d : D} {t : String} (R : Rel K fa c ad F H) (r : RW K fa ad F v w) (e : rd c w = some d) (h : tyD d = some t) : TyX K H v (.type t) := by
  cases d with
  | non => cases h; rw [R.non r e]; exact .base .non
  | bl b => cases h; rw [R.bl r e]; exact .base (.bl _)
  | int i => cases h; rw [R.int r e]; exact .base (.int _)
  | str s => cases h; rw [R.str r e]; exact .base (.str _)
  | fn _ => cases h
  | ty _ => cases h
  | lst ds =>
    cases h
    obtain ⟨a, us, e1, e2, e3⟩ := R.lst r e
    rw [e1]
    rcases e2 with e2 | ⟨o, e2⟩
    · exact .base (.lst e2)
    · exact .base (.frz e2)
  | tup ds =>
    cases h
    obtain ⟨a, us, e1, e2, e3⟩ := R.tup r e
    rw [e1]
    rcases e2 with (e2 | ⟨o, e2⟩) | ⟨o, its, n, e2, e4, _⟩
    · exact .base (.tup e2)
    · exact .fTuple e2
    · exact .kTuple e2 e4
  | dic ds =>
    cases h
    obtain ⟨a, us, e1, e2, e3⟩ := R.dic r e
    rw [e1]
    exact .base (.dK e2)
  | arr _ => cases h
theorem ll_isi : CalL K fa (rIsi K) oIsi := fun c ad F H vs ws Q E R r P => by
  unfold oIsi at P
  split at P
  · rename_i w n
    split at P
    · rename_i d e
      split at P
      · rename_i t ht
        split at P
        · rename_i b hb
          match vs, r with
          | [v, _], .cons r (.cons (.ty _) .nil) => exact ⟨v, .ty n, .type t, .type n, b, rfl, .ty n, tyX_ok R r e ht, kit_ty hb, P.now R _ (.bl b)⟩
        · exact P.elim
      · exact P.elim
    · exact P.elim
  · exact P.elim
theorem se_ty {fa : Fa} {Wx : WX} {x : Str} {n : String} {pos : Pos} (hm : X.mg x = none) (hv : bootBuiltins x = some (.type n)) (hg : Gl X x := by rfl) (hn : x ≠ "__name__" := by decide) (hd : (x == ("__debug__" : Str)) = false := by decide) : SE X fa Wx (.Name x pos) (dC (.ty n)) :=
  se_of_c (v := .ty n) (pe_bltn hg hm hv rfl hn hd) fun _ => .ty n
end
end Pm

/-! Pm7: list comprehensions, methods of texts and lists, stores into lists. -/
namespace Pm
open PySem L2 PyProof.Rows
/-! ### list comprehensions -/
def Out.ne {α : Type} : Out α → Out α
  | .ok a c => .ok a c
  | _ => .bad
@[simp] theorem Out.ne_ok {α : Type} (a : α) (c : Cells) : (Out.ok a c).ne = .ok a c := rfl
@[simp] theorem Out.ne_exc {α : Type} (x : Str) (pl : List (Str × D)) (c : Cells) : (Out.exc x pl c : Out α).ne = .bad := rfl
@[simp] theorem Out.ne_bad {α : Type} : (Out.bad : Out α).ne = .bad := rfl
abbrev WF : WX := fun _ _ _ _ => False
theorem takesF {X : Cx} : Takes X WF := fun _ _ ⟨_, _, _, _, _, _, _, _, _, _, _, _, _, _, _, _, w⟩ => w.elim
def wipeS (sl : Sl) : List Nat → Sl
  | [] => sl
  | v :: vs => (wipeS sl vs).set v none
/-- what the target takes -/
def setNs : List Nat → List D → Sl → Option Sl
  | [], [], sl => some sl
  | i :: is, d :: ds, sl => setNs is ds (sl.set i (some (.d d)))
  | _, _, _ => none
def storeC (one : Bool) (is : List Nat) (d : D) (sl : Sl) : Option Sl := if one then setNs is [d] sl else match d with
  | .tup ds => setNs is ds sl
  | _ => none
def loopC (item : Items) (one : Bool) (is vs : List Nat) (t : Sl → Cells → Out Bool) (f : Den) (sl : Sl) (n0 : Nat) : Nat → Nat → Cells → Out W
  | 0, _, _ => .bad
  | m + 1, i, c => match item i c with
    | none => .bad
    | some none => .ok (.c n0) (c.take (n0 + 1))
    | some (some d) => match storeC one is d (wipeS sl vs) with
      | none => .bad
      | some sl1 => (t sl1 c).ne.bind fun b c1 => if b = true then
          (f sl1 c1).ne.bind fun w c2 => (fz w c2).bind fun y c3 => match c3[n0]? with
            | some (.lst acc) => if acc.length < 1000000 then loopC item one is vs t f sl n0 m (i + 1) ((c3.set n0 (.lst (acc ++ [y]))).take (n0 + 1)) else .bad
            | _ => .bad
        else loopC item one is vs t f sl n0 m (i + 1) (c1.take (n0 + 1))
def dLc (it : Sl → Cells → Out Items) (one : Bool) (is vs : List Nat) (t : Sl → Cells → Out Bool) (f : Den) : Den := fun sl c => (it sl c).bind fun item c1 => loopC item one is vs t f sl c1.length bigN 0 (c1 ++ [.lst []])
def gNs : List Nat → TGs
  | [] => gNil
  | i :: is => gCons (gName i) (gNs is)
def gC (K : PySem.W.Frag) (one : Bool) (is : List Nat) : TG := if one then (match is with
  | [i] => gName i
  | _ => fun _ _ _ _ => False) else gTup K is.length (gNs is)
section
variable {K : PySem.W.Frag} {fa : Fa} {ad : List Addr} {F H : Hp}
theorem SlOk.wipe {σ : L2.St} {sl : Sl} (ok : SlOk K fa ad F σ sl) : ∀ vs : List Nat, SlOk K fa ad F (L2.wipe σ vs) (wipeS sl vs)
  | [] => ok
  | v :: vs => (SlOk.wipe ok vs).unset none
theorem wipe_set {σ : L2.St} {i : Nat} {x : Option V} : ∀ {vs : List Nat}, i ∈ vs → wipe (σ.set i x) vs = wipe σ vs
  | v :: vs, h => by
    unfold wipe
    by_cases e : i ∈ vs
    · rw [wipe_set e]
    · have hv : i = v := by
        rcases List.mem_cons.mp h with q | q
        · exact q
        · exact absurd q e
      subst hv
      have out : ∀ vs : List Nat, i ∉ vs → wipe (σ.set i x) vs = (wipe σ vs).set i x := by
        intro vs
        induction vs with
        | nil => intro _; rfl
        | cons u us ih =>
          intro hn
          simp only [List.mem_cons, not_or] at hn
          show (wipe (σ.set i x) us).set u none = ((wipe σ us).set u none).set i x
          rw [ih hn.2, List.set_comm _ _ (fun z => hn.1 z)]
      rw [out vs e, List.set_set]
theorem wipe_wipe {σ : L2.St} : ∀ (vs us : List Nat), (∀ i ∈ vs, i ∈ us) → wipe (wipe σ vs) us = wipe σ us
  | [], _, _ => rfl
  | v :: vs, us, h => by
    show wipe ((wipe σ vs).set v none) us = _
    rw [wipe_set (h v List.mem_cons_self), wipe_wipe vs us fun i hi => h i (List.mem_cons_of_mem _ hi)]
theorem setNs_ok {us : List Nat} {Q : L2.St → Hp → Prop} {sl' : Sl} : ∀ (is : List Nat) {ds : List D} {vs : List V} {σ : L2.St} {sl : Sl}, (∀ i ∈ is, i ∈ us) → RpA K fa F vs ds → SlOk K fa ad F σ sl → setNs is ds sl = some sl' →
    (∀ σ2, wipe σ2 us = wipe σ us → SlOk K fa ad F σ2 sl' → Q σ2 H) → gNs is vs σ H Q
  | [], [], [], σ, sl, _, .nil, ok, e, k => by
    injection e with e
    subst e
    exact ⟨rfl, k σ rfl ok⟩
  | i :: is, d :: ds, v :: vs, σ, sl, hi, .cons r rs, ok, e, k => by
    refine ⟨v, vs, rfl, ?_⟩
    refine setNs_ok is (fun j hj => hi j (List.mem_cons_of_mem _ hj)) rs (ok.set (w := .d d) r) e fun σ2 h2 o2 => k σ2 ?_ o2
    rw [h2, wipe_set (hi i List.mem_cons_self)]
  | [], _ :: _, _, _, _, _, _, _, e, _ => by cases e
  | _ :: _, [], _, _, _, _, _, _, e, _ => by cases e
theorem storeC_ok {one : Bool} {is us : List Nat} {d : D} {v : V} {σ : L2.St} {sl sl' : Sl} {c : Cells} {Q : L2.St → Hp → Prop} (hi : ∀ i ∈ is, i ∈ us) (R : Rel K fa c ad F H) (r : Rp K fa F v d) (ok : SlOk K fa ad F σ sl) (e : storeC one is d sl = some sl')
    (k : ∀ σ2, wipe σ2 us = wipe σ us → SlOk K fa ad F σ2 sl' → Q σ2 H) : gC K one is v σ H Q := by
  unfold storeC at e
  unfold gC
  cases one with
  | true =>
    rw [if_pos rfl] at e ⊢
    match is, e with
    | [i], e =>
      obtain ⟨v2, r2, h1, _, h3⟩ := setNs_ok (us := us) (Q := Q) (H := H) [i] hi (.cons r .nil) ok e k
      cases h1
      exact h3
    | [], e => cases e
    | _ :: _ :: _, e => cases e
  | false =>
    rw [if_neg Bool.false_ne_true] at e ⊢
    split at e
    · rename_i ds
      cases r with
      | @tup a vs _ s q =>
        have hl : ∀ {is : List Nat} {ds : List D} {sl : Sl}, setNs is ds sl = some sl' → is.length = ds.length := by
          intro is
          induction is with
          | nil => intro ds sl e; cases ds with
            | nil => rfl
            | cons _ _ => cases e
          | cons i is ih => intro ds sl e; cases ds with
            | nil => cases e
            | cons d ds => rw [List.length_cons, List.length_cons, ih e]
        exact ⟨a, vs, rfl, sqT_mono R.le s, by rw [q.length, hl e], setNs_ok is hi q ok e k⟩
    · cases e
end
section
variable {X : Cx} {fa : Fa} {Wx : WX} {pos : Pos}
theorem Post.ne {α : Type} {K : PySem.W.Frag} {E E' : Value → Option Addr → Hp → Prop} {ad : List Addr} {F : Hp} {Q : α → List Addr → Hp → Hp → Prop} {β : Type} {o : Out α} {f : α → Cells → Out β} {Q' : β → List Addr → Hp → Hp → Prop} {ad0 : List Addr} (P : Post K fa E ad0 F Q' (o.ne.bind f))
    (k : ∀ a c1 H1 F1 ad1, Same F F1 → ad <+: ad1 → Rel K fa c1 ad1 F1 H1 → Post K fa E ad0 F1 Q' (f a c1) → Q a ad1 F1 H1) : Post K fa E' ad F Q o := by
  cases o with
  | ok a c => exact fun H1 F1 ad1 s p R => k a c H1 F1 ad1 s p R (Post.weak (o := f a c) P s (List.prefix_refl _))
  | exc x pl c => exact P.elim
  | bad => exact P.elim
theorem lc_of {tgK : PySem.W.Frag} {it : Sl → Cells → Out Items} {one : Bool} {is vs : List Nat} {t : Sl → Cells → Out Bool} {f : Den} {σ : L2.St} {H : Hp} {Q : VK} (hi : ∀ i ∈ is, i ∈ vs) (q : tE tgK fa Wx (dLc it one is vs t f) σ H Q) :
    tLc (tI tgK fa Wx it) (gC tgK one is) (tT tgK fa WF t) (tE tgK fa WF f) vs σ H Q := by
  obtain ⟨sl, c, ad, F, ok, R, P⟩ := q
  refine ⟨sl, c, ad, F, ok, R, P.bind fun item c1 H1 F1 ad1 s p R1 P1 J hJ D hD => ?_⟩
  have ok1 := ok.mono s p
  have hn0 : ad1.length = c1.length := R1.len
  have RC := R1.newC (o := .lst []) (x := .lst []) hD fun nF => ⟨nF, [], upd_same, .nil⟩
  have p1 : ad1 <+: ad1 ++ [D] := List.prefix_append _ _
  refine ⟨fun i m H' => ∃ c2 ad2 F2, Same F1 F2 ∧ ad1 ++ [D] = ad2 ∧ Rel tgK fa c2 ad2 F2 H' ∧ Post tgK fa (fun cls d H' => Wx cls d σ H') ad2 F2 (fun w ad' F' H' => ∀ v, RW tgK fa ad' F' v w → Q v H') (loopC item one is vs t f sl c1.length m i c2),
    ⟨bigN, _, _, F1, Same.refl _, rfl, RC, Post.weak P1 (Same.refl _) p1⟩, ?_⟩
  rintro i m H2 ⟨c2, ad2, F2, s2, rfl, R2, P2⟩
  cases m with
  | zero => exact P2.elim
  | succ m =>
    have hj := hJ i c2 _ F2 H2 s2 p1 R2
    have hD2 : (ad1 ++ [D])[c1.length]? = some D := by rw [← hn0]; simp
    have cutR : ∀ {c3 : Cells} {ad3 : List Addr} {F3 H3 : Hp}, (ad1 ++ [D]) <+: ad3 → Rel tgK fa c3 ad3 F3 H3 → Rel tgK fa (c3.take (c1.length + 1)) (ad1 ++ [D]) F3 H3 := fun {c3 ad3 F3 H3} p3 R3 => by
      have := R3.take (c1.length + 1)
      rwa [take_pre p3 (by simp [hn0])] at this
    unfold loopC at P2
    revert hj P2
    cases item i c2 with
    | none => exact fun _ P2 => P2.elim
    | some o =>
      cases o with
      | none =>
        intro hj P2
        exact .inl ⟨hj, P2 H2 F2 _ (Same.refl _) (List.prefix_refl _) (cutR (List.prefix_refl _) R2) (.ref D) ⟨D, hD2, rfl⟩⟩
      | some d =>
        intro hj P2
        dsimp only at hj P2
        refine .inr ⟨hj.1, fun H' => ∃ c2 F3, Same F1 F3 ∧ Rel tgK fa c2 (ad1 ++ [D]) F3 H' ∧ Post tgK fa (fun cls d H' => Wx cls d σ H') (ad1 ++ [D]) F3 (fun w ad' F' H' => ∀ v, RW tgK fa ad' F' v w → Q v H') (loopC item one is vs t f sl c1.length m (i + 1) c2),
          fun H' ⟨c3, F3, h1, h2, h3⟩ => ⟨m, Nat.lt_succ_self m, c3, _, F3, h1, rfl, h2, h3⟩, fun x H' hy => ?_⟩
        obtain ⟨F3, s3, R3, r3⟩ := hj.2 x H' hy
        have P3 := Post.weak (o := _) P2 s3 (List.prefix_refl _)
        revert P3
        cases hs : storeC one is d (wipeS sl vs) with
        | none => exact fun P3 => P3.elim
        | some sl1 =>
          intro P3
          have ok3 := ((ok1.mono s2 p1).mono s3 (List.prefix_refl _)).wipe vs
          refine storeC_ok (us := vs) hi R3 r3 ok3 hs fun σ2 hw ok4 => ⟨by rw [hw, wipe_wipe vs vs fun _ h => h], sl1, c2, _, F3, ok4, R3, ?_⟩
          refine Post.ne P3 fun b c4 H4 F4 ad4 s4 p4 R4 P4 => ?_
          cases b with
          | false =>
            rw [if_neg Bool.false_ne_true] at P4 ⊢
            have P5 : Post tgK fa (fun cls d H' => Wx cls d σ H') (ad1 ++ [D]) F4 (fun w ad' F' H' => ∀ v, RW tgK fa ad' F' v w → Q v H') (loopC item one is vs t f sl c1.length m (i + 1) (c4.take (c1.length + 1))) := P4
            exact ⟨_, F4, (s2.trans s3).trans s4, cutR p4 R4, P5⟩
          | true =>
            rw [if_pos rfl] at P4 ⊢
            refine ⟨sl1, c4, ad4, F4, ok4.mono s4 p4, R4, Post.ne P4 fun w c5 H5 F5 ad5 s5 p5 R5 P5 v rv => ?_⟩
            obtain ⟨y, c6, F6, s6, R6, r6, _, P6⟩ := P5.fz R5 rv
            have pA := p4.trans p5
            split at P6
            · rename_i acc hacc
              obtain ⟨a6, h6, nF6, us, hus, rus⟩ := R6.cell_at hacc
              have ea : a6 = D := by
                have := pre_get pA hD2
                rw [this] at h6
                exact (Option.some.inj h6).symm
              subst ea
              split at P6
              · rename_i hlen
                refine ⟨us, hus, by rw [rus.length]; exact Nat.lt_of_lt_of_le hlen (by decide), ?_⟩
                have RW6 := R6.write (o := .lst (us ++ [v])) (x := .lst (acc ++ [y])) h6 nF6 ⟨nF6, _, upd_same, rus.append (.cons r6 .nil)⟩
                exact ⟨_, F6, (((s2.trans s3).trans s4).trans s5).trans s6, cutR pA RW6, P6⟩
              · exact P6.elim
            · exact P6.elim
abbrev Blk (X : Cx) (scope : Scope) (Φ : Cx → Prop) : Prop := ∀ (s : Shared) (H : Hp) (C : Addr) (cl : List (Str × Addr)) (fp : List Addr), Φ (X.blk s H scope (compEnvC scope cl C X.env) fp)
theorem se_lc {elt tg iter : Expr} {ifs : List Expr} {scope : Scope} {own : List (Str × Nat)} {it : Sl → Cells → Out Items} {one : Bool} {is : List Nat} {t : Sl → Cells → Out Bool} {f : Den} (hc : X.calm = true) (hN : X.N.Nodup) (hi : SI X fa Wx tg iter it) (ok : BlkOk X.N X.env.scope scope own)
    (his : ∀ i ∈ is, i ∈ own.map (·.2)) (hg : Blk X scope fun Y => PG Y tg (gC X.K one is)) (ht : Blk X scope fun Y => PTs Y ifs (tT X.K fa WF t)) (he : Blk X scope fun Y => PE Y elt (tE X.K fa WF f)) (hs : ∀ x, foldedSetIterable iter X.env x = pure x := by intro _; rfl) :
    SE X fa Wx (.ListComp elt [⟨tg, iter, ifs, 0⟩] scope pos) (dLc it one is (own.map (·.2)) t f) := PE.imp (pe_lc hc hN hi ok hg ht he hs) fun σ H Q q => lc_of his q
theorem ss_setLc (i : Nat) {y : Str} {py spos : Pos} {elt tg iter : Expr} {ifs : List Expr} {scope : Scope} {own : List (Str × Nat)} {it : Sl → Cells → Out Items} {one : Bool} {is : List Nat} {t : Sl → Cells → Out Bool} {f : Den} (hc : X.calm = true) (hN : X.N.Nodup) (hi : SI X fa Wx tg iter it) (ok : BlkOk X.N X.env.scope scope own)
    (his : ∀ i ∈ is, i ∈ own.map (·.2)) (hg : Blk X scope fun Y => PG Y tg (gC X.K one is)) (ht : Blk X scope fun Y => PTs Y ifs (tT X.K fa WF t)) (he : Blk X scope fun Y => PE Y elt (tE X.K fa WF f))
    (hsw : swapsWith (.ListComp elt [⟨tg, iter, ifs, 0⟩] scope pos) (some (.Name y py)) spos.line X.env = pure true) (hy : X.N[i]? = some y := by rfl) (hyl : X.env.scope.names.lookup y = some .local := by rfl) (hs : ∀ x, foldedSetIterable iter X.env x = pure x := by intro _; rfl) :
    SS X fa Wx (.Assign [.Name y py] (.ListComp elt [⟨tg, iter, ifs, 0⟩] scope pos) spos) (sSet i (dLc it one is (own.map (·.2)) t f)) := PS.imp (ps_setLc hc hN hy hyl hsw hi ok hg ht he hs) fun D σ H q => by
  obtain ⟨sl, c, ad, F, ok, R, P⟩ := q
  refine lc_of (Wx := Wx) (fa := fa) (Q := fun v H1 => gName i v σ H1 D.nx) his ⟨sl, c, ad, F, ok, R, Post.st ok P fun w c1 H1 F1 ad1 s p R1 P1 v rv => P1 H1 F1 ad1 _ (Same.refl _) (List.prefix_refl _) R1 ((ok.mono s p).set rv)⟩
def tYesD : Sl → Cells → Out Bool := fun _ c => .ok true c
theorem sts_nil : PTs X [] (tT X.K fa Wx tYesD) := ⟨fun pins s σ H Q I q => pts_nil.run pins s σ H Q I (by
  obtain ⟨sl, c, ad, F, ok, R, P⟩ := q
  exact P.now R)⟩
theorem sts_one {e : Expr} {t : Sl → Cells → Out Bool} (h : STt X fa Wx e t) : PTs X [e] (tT X.K fa Wx t) := pts_one h
/-- the targets of a comprehension -/
theorem gc_name (i : Nat) {x : Str} (hN : X.N.Nodup) (hi : X.N[i]? = some x := by rfl) (hx : Loc X.env.scope x := by first | exact .inl rfl | exact .inr rfl)
    (hf : X.fn x = true ∨ X.env.scope.names.lookup x = some .local := by first | exact .inl rfl | exact .inr rfl) : PG X (.Name x pos) (gC X.K true [i]) := pg_name hN hi hx hf
theorem gns_nil : PGs X [] (gNs []) := pgs_nil
theorem gns_cons (i : Nat) {x : Str} {es : List Expr} {is : List Nat} (hN : X.N.Nodup) (r : PGs X es (gNs is)) (hi : X.N[i]? = some x := by rfl) (hx : Loc X.env.scope x := by first | exact .inl rfl | exact .inr rfl)
    (hf : X.fn x = true ∨ X.env.scope.names.lookup x = some .local := by first | exact .inl rfl | exact .inr rfl) (hs : (assignEach (.Name x pos :: es) X.env).map (·.2) = assign (.Name x pos) X.env :: (assignEach es X.env).map (·.2) := by rfl) : PGs X (.Name x pos :: es) (gNs (i :: is)) :=
  pgs_cons (pg_name hN hi hx hf) r hs
theorem gc_tup {es : List Expr} {k : Nat} {is : List Nat} (hc : X.calm = true) (h : PGs X es (gNs is)) (hn : (assignEach es X.env).length = is.length := by rfl) (hst : (assignEach es X.env).findIdx? (·.1) = none := by rfl) : PG X (.Tuple es k pos) (gC X.K false is) := pg_tup hc h hn hst
end
/-! ### methods of texts -/
section
variable {X : Cx} {K : PySem.W.Frag} {fa : Fa}
def oS0 (g : Str → D) : W → List W → Cells → Out W := fun w ws c => match rd c w, ws with
  | some (.str a), [] => .ok (.d (g a)) c
  | _, _ => .bad
theorem m_s0 {g : Str → D} {gv : Str → V} (hg : ∀ a F, Rp K fa F (gv a) (g a)) : MtL K fa (fun x xs H Q => ∃ a, x = .str a ∧ xs = [] ∧ True ∧ Q (gv a) H) (oS0 g) := fun c ad F H v w vs ws Q E R r rs P => by
  unfold oS0 at P
  split at P
  · rename_i a e
    cases rs
    exact ⟨a, R.str r e, rfl, trivial, P.now R _ (hg a F)⟩
  · exact P.elim
def oSI (g : Str → Str → Int → D) : W → List W → Cells → Out W := fun w ws c => match rd c w, ws with
  | some (.str a), [.d (.str b), .d (.int i)] => .ok (.d (g a b i)) c
  | _, _ => .bad
theorem m_sI {g : Str → Str → Int → D} {gv : Str → Str → Int → V} (hg : ∀ a b i F, Rp K fa F (gv a b i) (g a b i)) : MtL K fa (fun x xs H Q => ∃ (a b : Str) (i : Int), x = .str a ∧ xs = [.str b, .int i] ∧ Q (gv a b i) H) (oSI g) := fun c ad F H v w vs ws Q E R r rs P => by
  unfold oSI at P
  split at P
  · rename_i a b i e
    match vs, rs with
    | [_, _], .cons r1 (.cons r2 .nil) => exact ⟨a, b, i, R.str r e, by rw [r1.strD, r2.intD], P.now R _ (hg a b i F)⟩
  · exact P.elim
def oSplit : W → List W → Cells → Out W := fun w ws c => match rd c w, ws with
  | some (.str a), [.d (.str b)] => if (decide (b.length ≠ 0) && smL (a.length + 2)) = true then mkL ((Txt.split a b).map D.str) c else .bad
  | _, _ => .bad
theorem m_split : MtL K fa (fun x xs H Q => ∃ a b, x = .str a ∧ xs = [.str b] ∧ (b.length == 0) = false ∧ a.length + 2 ≤ sizeLine ∧ rNewStrs (Txt.split a b) H Q) oSplit := fun c ad F H v w vs ws Q E R r rs P => by
  unfold oSplit at P
  split at P
  · rename_i a b e
    split at P
    · rename_i h
      rw [Bool.and_eq_true] at h
      match vs, rs with
      | [_], .cons r1 .nil => exact ⟨a, b, R.str r e, by rw [r1.strD], by simpa using of_decide_eq_true h.1, small (of_decide_eq_true h.2), (mkL_ok P R (RpA.strs _)).2⟩
    · exact P.elim
  · exact P.elim
/-! ### lists that change -/
def oAppend : W → List W → Cells → Out W := fun w ws c => match w, ws with
  | .c k, [x] => (fz x c).bind fun d c1 => match c1[k]? with
    | some (.lst ds) => if ds.length < 1000000 then .ok (.d .non) (c1.set k (.lst (ds ++ [d]))) else .bad
    | _ => .bad
  | _, _ => .bad
theorem m_append : MtL K fa rAppend oAppend := fun c ad F H v w vs ws Q E R r rs P => by
  unfold oAppend at P
  split at P
  · rename_i k x
    match vs, rs with
    | [u], .cons r1 .nil =>
      obtain ⟨a, h1, h2⟩ := r
      obtain ⟨d, c1, F1, s1, R1, q1, _, P1⟩ := P.fz R r1
      split at P1
      · rename_i ds hd
        obtain ⟨nF, xs, hx, rx⟩ := R1.cell k _ a hd h1
        split at P1
        · rename_i hl
          refine ⟨a, xs, u, h2, rfl, hx, by rw [rx.length]; exact Nat.lt_of_lt_of_le hl (by decide), ?_⟩
          exact P1 _ F1 ad (Same.refl _) (List.prefix_refl _) (R1.write h1 nF ⟨nF, _, upd_same, rx.append (.cons q1 .nil)⟩) .non .non
        · exact P1.elim
      · exact P1.elim
  · exact P.elim
def stL : W → W → W → Cells → Out Unit := fun wo wi w c => match wo, wi with
  | .c k, .d (.int i) => (fz w c).bind fun d c1 => match c1[k]? with
    | some (.lst ds) => match ixN ds.length i with
      | some j => .ok () (c1.set k (.lst (ds.set j d)))
      | none => .bad
    | _ => .bad
  | _, _ => .bad
theorem l_stL : SetL K fa rSetL stL := fun c ad F H vo vi v wo wi w Q E R ro ri r P => by
  unfold stL at P
  split at P
  · rename_i k i
    obtain ⟨a, h1, h2⟩ := ro
    obtain ⟨d, c1, F1, s1, R1, q1, _, P1⟩ := P.fz R r
    split at P1
    · rename_i ds hd
      obtain ⟨nF, xs, hx, rx⟩ := R1.cell k _ a hd h1
      split at P1
      · rename_i j hj
        refine ⟨a, xs, i, j, h2, ri.intD, hx, by rw [rx.length]; exact hj, ?_⟩
        exact P1 _ F1 ad (Same.refl _) (List.prefix_refl _) (R1.write h1 nF ⟨nF, _, upd_same, rx.set q1 j⟩)
      · exact P1.elim
    · exact P1.elim
  · exact P.elim
end
end Pm

/-! Pm8: repr, errors. -/
namespace Pm
open PySem L2 PyProof.Rows
/-! ### repr -/
mutual
theorem py_noDict : ∀ {d : D} {p : PyData}, toPy d = some p → p.hasDict = false
  | .non, _, h => by cases h; rfl
  | .bl _, _, h => by cases h; rfl
  | .int _, _, h => by cases h; rfl
  | .str _, _, h => by cases h; rfl
  | .lst xs, p, h => by
    simp only [toPy] at h
    cases q : toPyA xs with
    | none => rw [q] at h; cases h
    | some ps => rw [q] at h; cases h; simpa [PyData.hasDict] using pyA_noDict q
  | .tup xs, p, h => by
    simp only [toPy] at h
    cases q : toPyA xs with
    | none => rw [q] at h; cases h
    | some ps => rw [q] at h; cases h; simpa [PyData.hasDict] using pyA_noDict q
  | .fn _, _, h => by simp [toPy] at h
  | .ty _, _, h => by simp [toPy] at h
  | .dic _, _, h => by simp [toPy] at h
  | .arr _, _, h => by simp [toPy] at h
theorem pyA_noDict : ∀ {ds : List D} {ps : List PyData}, toPyA ds = some ps → PyData.hasDictAll ps = false
  | [], _, h => by cases h; rfl
  | d :: ds, ps, h => by
    simp only [toPyA] at h
    cases q : toPy d with
    | none => rw [q] at h; cases h
    | some y =>
      cases q2 : toPyA ds with
      | none => rw [q, q2] at h; cases h
      | some ys => rw [q, q2] at h; cases h; simp [PyData.hasDictAll, py_noDict q, pyA_noDict q2]
end
def shOk (p : PyData) : Bool := p.showable && decide (p.depth ≤ 60) && decide (p.shown.length ≤ 16000000)
def reprD (d : D) : Option Str := match d with
  | .dic [] => some "{}"
  | _ => match toPy d with
    | some p => if shOk p = true then some p.shown else none
    | none => none
def oRepr : List W → Cells → Out W := fun ws c => match ws with
  | [w] => match rd c w with
    | some d => match reprD d with
      | some s => .ok (.d (.str s)) c
      | none => .bad
    | none => .bad
  | _ => .bad
def rRepr (K : PySem.W.Frag) : List V → Hp → VK → Prop := fun xs H Q => (∃ x p, xs = [x] ∧ Dp K H x p ∧ p.hasDict = false ∧ shOk p = true ∧ Q (.str p.shown) H) ∨ ∃ a, xs = [.ref a] ∧ H a = some (.dK []) ∧ Q (.str "{}") H
theorem cl_repr {X : Cx} (un : X.A.units + 200 < cLine) (hgd : X.A.guards = some []) : CallR X (.builtin "repr") (rRepr X.K) := by
  intro pins s σ H xs us Q I rv h

  rcases h with ⟨x, p, rfl, dp, nd, ok, q⟩ | ⟨a, rfl, hd, q⟩
  · obtain ⟨u, rfl, rx⟩ := vals1 rv
    unfold shOk at ok
    simp only [Bool.and_eq_true, decide_eq_true_eq] at ok
    obtain ⟨⟨o1, o2⟩, o3⟩ := ok
    have big : p.shown.length ≤ sizeLine := Nat.le_trans o3 (by decide)
    obtain ⟨as, rds⟩ := Dp.reads I p x u dp rx
    have ref : ∀ {a : Addr}, Reads s.heap (.ref a) p as → wpAny (model X.prog X.w) X.A (call (.builtin "repr") [.ref a]) (EP X pins σ Q) X.xe s := fun {a} r =>
      repr_of_reads' r o1 (PyData.noDict_hsm nd) hgd (by omega) (fun _ _ e => e) (fun h' t tk hk => ⟨.str p.shown, H, I.kept hk, ⟨t, rfl⟩, q⟩) big
    cases dp with
    | non => cases rx; exact PySem.P.repr_of_none ⟨.str _, H, I.tok _, ⟨_, rfl⟩, q⟩
    | bl b => cases rx; exact PySem.P.repr_of_bool ⟨.str _, H, I.tok _, ⟨_, rfl⟩, q⟩
    | int i =>
      obtain ⟨t, rfl⟩ := rx
      exact PySem.P.repr_of_int (by simpa [PyData.showable] using o1) ⟨.str _, H, I.tok _, ⟨_, rfl⟩, q⟩
    | str z =>
      obtain ⟨t, rfl⟩ := rx
      exact PySem.P.repr_of_str ⟨.str _, H, I.tok _, ⟨_, rfl⟩, q⟩ big
    | lst _ _ => cases rx; exact ref rds
    | tup _ _ => cases rx; exact ref rds
  · obtain ⟨u, rfl, rx⟩ := vals1 rv
    cases rx
    obtain ⟨_, hsm, vs, kv, o, es, ep, e1, e2, e3, _, e4, e5⟩ := I.hok a _ hd
    cases kv
    have e4' : es.toList = [] := by
      cases q : es.toList with
      | nil => rfl
      | cons x xs => rw [q] at e4; cases e4
    have hes : es = #[] := by simpa using e4'
    have es2 : (PyData.dict []).shown = Str.ofString "{}" := by decide +kernel
    have r : Reads s.heap (.ref a) (.dict []) ([a] ++ []) := Reads.dict (as := []) (bs := []) e1 e2.1 e3 (by rw [hes]; exact .nil) (by rw [hes]; exact .nil)
    refine repr_of_reads' r (by rfl) (fun _ hm => ?_) hgd (by show X.A.units + (_ + 1) < cLine; simp [PyData.depth, PyData.depthKv]; omega) (fun _ _ e => e) (fun h' t tk hk => ⟨.str "{}", H, I.kept hk, ⟨t, ?_⟩, q⟩) (by decide +kernel)
    · simp at hm
      rw [hm] at hsm
      simp at hsm
    · show Value.str (PyData.dict []).shown t = _
      rw [es2]
theorem ll_repr {K : PySem.W.Frag} {fa : Fa} : CalL K fa (rRepr K) oRepr := fun c ad F H vs ws Q E R r P => by
  unfold oRepr at P
  split at P
  · rename_i w
    split at P
    · rename_i d e
      split at P
      · rename_i s hs
        match vs, r with
        | [v], .cons r .nil =>
          have q := P.now R _ (.str s)
          unfold reprD at hs
          split at hs
          · obtain ⟨a, us, e1, e2, e3⟩ := R.dic r e
            cases e3
            cases hs
            exact .inr ⟨a, by rw [e1], e2, q⟩
          · split at hs
            · rename_i p hp
              split at hs
              · rename_i ok
                cases hs
                exact .inl ⟨v, p, rfl, R.dp r e hp, py_noDict hp, ok, q⟩
              · cases hs
            · cases hs
      · exact P.elim
    · exact P.elim
  · exact P.elim
end Pm

set_option maxHeartbeats 2000000
/-! Pm9: errors: raised, caught, asked. -/
namespace PmX
open PySem PySem.W PySem.Calls PyProof.Rows
section
variable {prog : Program} {w : World} {A : Around} {E : Value → Shared → Prop} {s : Shared} {K : Frag} {x D : Addr} {ox : Obj} {od : Option Obj}
theorem found_data {C : Addr} {name : Str} {a g : Value} (hc : (clsIn K C).isSome = true) (ha : findIn K (.ref C) name = some (some a)) (hg : specialIn K a "__get__" = some (some g)) (ht : takesIn K a = some true) : findObj K C od name = some (.bind g a) := by
  obtain ⟨cd, hc⟩ := Option.isSome_iff_exists.mp hc
  show ((clsIn K C).bind _) = _
  rw [hc, Option.bind_some, ha, Option.bind_some]
  simp [hg, ht]
/-- e.__class__ of an exception that may have a dict of its own -/
theorem class_of {Q : Option Value → Shared → Prop} (T : L2.ExcC K D) (X : K.In s.heap) (I : InstAt s.heap x ox D od) (h : Q (some (.ref D)) { s with toks := s.toks + 1 }) : wpAny (model prog w) A (getAttr? (.ref x) "__class__") Q E s := by
  have isC : (clsIn K D).isSome = true := by obtain ⟨cd, hc, _⟩ := any_some T.hd; rw [hc]; rfl
  have hf : findObj K D od "__class__" = some (.bind (.builtin "getset_descriptor.__get__") (.builtin "object.__class__")) := found_data isC T.ha T.hn T.ht
  obtain ⟨hp, g, d, t, os⟩ := s
  have LT := I.type (M := model prog w)
  have LG := looks_findIn (M := model prog w) X T.hg
  have LK := looks_findIn (M := model prog w) X T.hk
  have LF := looks_find (M := model prog w) X I hf
  have sub : Looks (model prog w) hp (isInstance (.ref x) (.type "BaseException")) true := LT.andThen (looks_subIn X T.hs)
  have n0 : (false && onTheHeap (Value.builtin "BaseException.__getattribute__")) = false := rfl
  have n1 : (Value.builtin "BaseException.__getattribute__" == Value.builtin "object.__getattribute__") = false := by decide +kernel
  have n2 : (onTheHeap (Value.ref D) && Value.builtin "BaseException.__getattribute__" == Value.builtin "object.__getattribute__") = false := by rw [n1]; rfl
  unfold getAttr? getAttrBy? getAttrBy
  refine wpAny_bind (wpAny_mkText (wpAny_bind (wpAny_attempt (wpAny_holding (wpAny_bind (LT.at (wpAny_bind (LG.at ?_))))))))
  show wpAny _ _ (if (onTheHeap (Value.ref D) && Value.builtin "BaseException.__getattribute__" == Value.builtin "object.__getattribute__") = true then _ else _) _ _ _
  rw [n2, if_neg Bool.false_ne_true]
  unfold getAttrByItsOwn hookBefore
  refine wpAny_bind ?_
  rw [if_pos (show onTheHeap (Value.ref D) = true from rfl)]
  refine LK.at (wpAny_bind (wpAny_attempt (wpAny_holding ?_)))
  unfold callGetattribute
  rw [n0, if_neg Bool.false_ne_true]
  unfold boundAndCalled
  rw [PySem.F.excAttr_ValueError.ga.bind (.ref x)]
  refine wpAny_bind (wpAny_pure ?_)
  show wpAny _ _ (call (.builtin "BaseException.__getattribute__") [.ref x, .str "__class__" t]) _ _ _
  refine wpAny_call (codeAny_call_builtin PySem.F.excAttr_ValueError.ga.plain PySem.F.entry_bexc_ga ?_)
  refine @check_slot (model prog w) _ _ ⟨hp, g, d, t + 1, os⟩ "BaseException.__getattribute__" "BaseException" "__getattribute__" (.ref x) [.str "__class__" t] [] _ (by decide +kernel) (by decide +kernel) sub (PySem.F.args_bexc_ga (.ref x) (.str "__class__" t)) ?_
  unfold Builtin.«object.__getattribute__»
  refine wpAny_bind (wpAny_of_eq (a := ((Value.ref x : Value), [Value.str "__class__" t])) (by first | rfl | (simp only [slotArgs]; rfl)) ?_)
  refine wpAny_bind (wpAny_pure (wpAny_bind (LT.at (wpAny_bind (LF.at ?_)))))
  show wpAny _ _ (holding [Value.builtin "object.__class__"] (call (.builtin "getset_descriptor.__get__") [.builtin "object.__class__", .ref x, .ref D]) >>= ret) _ _ _
  refine wpAny_bind (wpAny_holding (wpAny_call (class_get (s := ⟨hp, g, d, t + 1, os⟩) X I T.hm ?_)))
  refine wpAny_pure ?_
  show wpAny _ _ (handedOut (.ref D)) _ _ _
  rw [handedOut_of (v := .ref D) rfl]
  first
    | exact wpAny_pure (wpAny_pure h)
    | exact wpAny_pure h
    | exact wpAny_pure (wpAny_bind (wpAny_pure (wpAny_pure h)))
theorem kit_exc (T : L2.ExcC K D) : KitX K (.ref x) (.ref D) (fun h => ∃ ox od, InstAt h x ox D od) where
  ty := fun _ _ _ ⟨_, _, I⟩ => I.type
  it := fun M h X _ => by
    obtain ⟨cd, hc, _⟩ := any_some T.hd
    unfold clsIn at hc
    split at hc
    · rename_i o
      intro A' Q' E' s' k q
      unfold isType loadHead
      exact wpAny_bind (wpAny_loadPart (k _ _ (X _ _ o)) (wpAny_pure q))
    · cases hc
  ne := fun h tp dd its n sl X htp => by
    obtain ⟨cd, hc, _⟩ := any_some T.hd
    cases q : (Value.ref D == Value.ref tp) with
    | false => rfl
    | true =>
      have e : D = tp := Value.ref.inj (beq_iff_eq.mp q)
      unfold clsIn at hc
      split at hc
      · rename_i o
        rw [e] at o
        have := (X _ _ o).symm.trans htp
        cases this
      · cases hc
  ca := fun X ⟨_, _, I⟩ k => class_of T X I k
end
end PmX

namespace Pm
open PySem L2 PyProof.Rows
/-! ### raise -/
/-- what the written part says of an own error class with fields ps (in order), C its class, made by __init__ -/
structure Err (P : Program) (w : World) (K : PySem.W.Frag) (mg : Str → Option Value) (base : Heap) (x : Str) (ps : List Str) : Prop where
  ex : ∃ C fI fd, mg x = some (.ref C) ∧ OexC K C ∧ PySem.W.findIn K (.ref C) "__init__" = some (some (.ref fI)) ∧ PySem.W.typeIn K (.ref fI) = some (.type "function") ∧ Binds K fd ("self" :: ps) [] ∧
    FnOk P w K mg base CX0 1 fI fd ("self" :: ps) (fun vs H Q _ => vs.length = ps.length + 1 ∧ ∃ a us, vs = .ref a :: us ∧ H a = some (exo a C none) ∧ ∀ d fs, H d = none → d ≠ a → (∀ (i : Nat) (f : Str) (v : V), ps[i]? = some f → us[i]? = some v → fs.lookup f = some v) → Q .non (upd (upd H d (exd d fs)) a (exo a C (some d))))
def sRaise (x : Str) (ps : List Str) (as : Sl → Cells → Out (List W)) : SDen := fun sl c => (as sl c).st sl fun ws c1 => (frzAll ws c1).st sl fun ds c2 => if ds.length = ps.length ∧ ps.Nodup ∧ ps.length ≤ 900 then .exc sl x (ps.zip ds) c2 else .bad
section
variable {X : Cx} {fa : Fa} {Wx : WX} {pos p : Pos} {x : Str} {ps : List Str}
theorem zip_lookup {ps : List Str} : ∀ {ds : List D} {f : Str} {d : D}, (ps.zip ds).lookup f = some d → ∃ i : Nat, ps[i]? = some f ∧ ds[i]? = some d := by
  induction ps with
  | nil => intro ds f d h; simp at h
  | cons q ps ih =>
    intro ds f d h
    cases ds with
    | nil => simp at h
    | cons e ds =>
      rw [List.zip_cons_cons, List.lookup_cons] at h
      split at h
      · rename_i hq
        have : f = q := by simpa using hq
        subst this
        injection h with h
        subst h
        exact ⟨0, rfl, rfl⟩
      · obtain ⟨i, h1, h2⟩ := ih h
        exact ⟨i + 1, by simpa using h1, by simpa using h2⟩
theorem PostS.frz {K : PySem.W.Frag} {De : Ends} {c : Cells} {ad : List Addr} {F H : Hp} {ws : List W} {vs : List V} {sl : Sl} {f : List D → Cells → OS} (P : PostS K fa Wx ad F De ((frzAll ws c).st sl f)) (R : Rel K fa c ad F H) (r : RWs K fa ad F vs ws) :
    ∃ ds c1 F1, Same F F1 ∧ Rel K fa c1 ad F1 H ∧ RpA K fa F1 vs ds ∧ PostS K fa Wx ad F1 De (f ds c1) := by
  cases h : frzAll ws c with
  | ok ds c1 =>
    rw [h, Out.st_ok] at P
    obtain ⟨F1, s1, R1, q1⟩ := R.frz r h
    exact ⟨ds, c1, F1, s1, R1, q1, P.weak s1 (List.prefix_refl _)⟩
  | exc _ _ _ => exact absurd h frz_exc
  | bad => rw [h] at P; exact P.elim
theorem ss_raise {e : Expr} {es : List Expr} {as : Sl → Cells → Out (List W)} {k : Nat} (T : Err X.prog X.w X.K X.mg X.base x ps) (hr : Room (k + 2) X.A) (hc : X.calm = true) (tk : Takes X Wx) (ha : SA X (faOf X.mg) Wx (e :: es) as) (hg : Gl X x := by rfl)
    (hdb : (x == ("__debug__" : Str)) = false := by decide) (he : starEach (e :: es) X.env = (false, eval e X.env) :: starEach es X.env := by rfl) (hpl : (backTo pos (starEach es X.env)).any (·.1) = false := by rfl) {rpos : Pos} :
    SS X (faOf X.mg) Wx (.Raise (some (.Call (.Name x p) (e :: es) [] pos)) none rpos) (sRaise x ps as) := by
  obtain ⟨C, fI, fd, hm, T1, iC, tI, hb, F1⟩ := T.ex
  refine PS.imp (ps_raise hc tk (pmk_oex T1 iC tI F1 (hr.mono (by omega)) hb .nil pass0 hg hm ha hdb he hpl)) fun D σ H q => ?_
  obtain ⟨sl, c, ad, F, ok, R, P⟩ := q
  refine ⟨sl, c, ad, F, ok, R, Post.st ok P fun ws c1 H1 F1' ad1 s p R1 P1 vs rv => ?_⟩
  obtain ⟨ds, c2, F2, s2, R2, r2, P2⟩ := P1.frz R1 rv
  split at P2
  · rename_i hl
    obtain ⟨h1, h2, h3⟩ := hl
    have lv : vs.length = ps.length := by rw [r2.length, h1]
    refine ⟨by rw [lv]; omega, fun a ha' => ⟨by simp [lv], a, vs, by simp, upd_same, fun d fs hd hda hfs => ⟨rfl, d, fs, upd_same, by rw [upd_ne hda, upd_same], ?_, ?_⟩⟩⟩
    · rwa [upd_ne hda] at hd
    · have hd1 : H1 d = none := by rwa [upd_ne hda] at hd
      have eH : upd (del (upd (upd (upd H1 a (exo a C none)) d (exd d fs)) a (exo a C (some d))) a) d (.xd fs) = upd H1 d (.xd fs) := by
        funext b
        by_cases b1 : b = d
        · rw [b1, upd_same, upd_same]
        · rw [upd_ne b1, upd_ne b1]
          by_cases b2 : b = a
          · rw [b2, del_same, ha']
          · rw [del_ne b2, upd_ne b2, upd_ne b1, upd_ne b2]
      rw [eH]
      have RJ := R2.newJ (o := .xd fs) hd1
      refine P2 _ F2 ad1 σ C d fs (Same.refl _) (List.prefix_refl _) RJ ((ok.mono s p).mono s2 (List.prefix_refl _)) (faOf_of hm) upd_same ?_
      intro f dd hf
      obtain ⟨i, i1, i2⟩ := zip_lookup hf
      obtain ⟨v, v1, v2⟩ := r2.get i2
      exact ⟨v, hfs i f v i1 v1, v2⟩
  · exact P2.elim

/-! ### try .. except A as a: .. except B as b: .. -/
def wMA (K : PySem.W.Frag) (Wout : WX) (D : Ends) : List (Value × Nat × (Addr → Value → Option Addr → TS)) → WX
  | [] => Wout
  | (c, i, ts) :: r => fun cls d σ H => ∃ b, PySem.W.exmOne K cls c = some b ∧ (b = true → ∀ a, H a = none → ts a cls d { nx := fun σ' H' => D.nx (σ'.set i none) H', rt := D.rt, bk := fun σ' H' => D.bk (σ'.set i none) H', ct := fun σ' H' => D.ct (σ'.set i none) H' } (σ.set i (some (.ref a))) H) ∧
      (b = false → wMA K Wout D r cls d σ H)
inductive HdA (X : Cx) : List ExceptHandler → List (Value × Nat × (Addr → Value → Option Addr → TS)) → Prop
  | nil : HdA X [] []
  | cons {x n : Str} {i : Nat} {c : Value} {ts : Addr → Value → Option Addr → TS} {b₀ : Stmt} {suite : List Stmt} {np pos' : Pos} {hds : List ExceptHandler} {l : List (Value × Nat × (Addr → Value → Option Addr → TS))} (hc : Names X x c) (hi : X.N[i]? = some n) (hln : X.env.kindOf n = some .local)
      (hsu : ∀ (a : Addr) (oe : Obj) (cls : Value) (d : Option Addr) (pn : List (Addr × Obj)), Zc cls d oe → (∃ vs, oe.data = .fields vs) → PSs (X.suite a ((a, oe) :: pn)) (b₀ :: suite) (ts a cls d)) (r : HdA X hds l) :
      HdA X (.ExceptHandler (some (.Name x np)) (some n) (b₀ :: suite) pos' :: hds) ((c, i, ts) :: l)
theorem ps_try_ma {body : List Stmt} {h₀ : ExceptHandler} {hds : List ExceptHandler} {l : List (Value × Nat × (Addr → Value → Option Addr → TS))} {tb : WX → TS} {Wout : WX} (hs : X.stack = X.env :: X.outer) (hf : X.env.frame = some X.env.locals) (hN : X.N.Nodup) (tk : Takes X Wout)
    (hb : ∀ (W : WX) (pn : List (Addr × Obj)) (xe : Value → Shared → Prop), Takes (X.tr pn xe) W → PassesOwn (model X.prog X.w) X.A X.env xe → PSs (X.tr pn xe) body (tb W)) (hh : HdA X (h₀ :: hds) l) : PS X (.Try body (h₀ :: hds) [] [] pos) (fun D σ H => tb (wMA X.K Wout D l) D σ H) := by
  refine ⟨fun pins s σ H D I h => ?_⟩
  have ok := I.ok
  have hfr : X.A.frames = some (X.env :: X.outer) := by rw [ok.frames, hs]
  have back : ∀ {fl : Flow} {s1 : Shared}, SP (X.tr (X.pn ++ pins) (fun e s₁ => wpAny (model X.prog X.w) X.A (noteFrame e X.env) (fun _ s₂ => wpAny (model X.prog X.w) X.A (setFlight e none) (fun _ s₃ => wpAny (model X.prog X.w) X.A (handleBy e X.env (h₀ :: hds)) (SP X pins D) X.xe s₃) X.xe s₂) X.xe s₁)) [] D fl s1 → SP X pins D fl s1 := by
    intro fl s1 q
    match fl, q with
    | .next, ⟨σ', H', J, q⟩ => exact ⟨σ', H', J.ofTry ok, q⟩
    | .brk, ⟨σ', H', J, q⟩ => exact ⟨σ', H', J.ofTry ok, q⟩
    | .cont, ⟨σ', H', J, q⟩ => exact ⟨σ', H', J.ofTry ok, q⟩
    | .ret u, ⟨v, σ', H', J, r, q⟩ => exact ⟨v, σ', H', J.ofTry ok, r, q⟩
  refine wpAny_Try_except (wpAny_mono ((hb (wMA X.K Wout D l) (X.pn ++ pins) _ (fun u s' xx => ?_) PassesOwn.looking).run [] s σ H D (I.toTry _) h) (fun f s1 hsp => ?_) fun e s1 he => he)
  · obtain ⟨a, B, sI, pins', σ', H', cls, d, rfl, J', nb, up, sky, na, os, ag, w⟩ := xx
    have J : Inv X pins σ' H' sI := J'.ofTry ok
    have sky' : Sky B (X.env :: X.outer) a (Zc cls d) X.env.locals s'.heap := by rw [← hs]; exact sky
    show wpAny (model X.prog X.w) X.A (noteFrame (.ref a) X.env) _ _ _
    refine Sky.land Zc.steady hfr hf sky' fun h3 fl3 up3 => ?_
    have J3 : Inv X pins σ' H' { s' with heap := h3 } := J.landed nb fl3.1 (up.trans up3) os ag
    obtain ⟨oe3, vs3, he3, hz3, hd3⟩ := fl3.there
    have nfr : a ∉ frs (X.env :: X.outer) := fun hm => by
      obtain ⟨_, o', e', hnf⟩ := fl3.2.2.1.mem hm
      rw [he3] at e'; cases e'
      exact hnf _ hd3
    have nL : a ≠ X.env.locals := fun z => nfr (List.mem_filterMap.mpr ⟨X.env, List.mem_cons_self, by rw [hf, z]⟩)
    have nF : a ∉ X.fs := fun hm => by
      obtain ⟨e, he, q⟩ := List.mem_filterMap.mp hm
      exact nfr (List.mem_filterMap.mpr ⟨e, List.mem_cons_of_mem _ he, q⟩)
    have S3 := J3.suite he3 hd3 na nL nF
    have go : ∀ {hds' : List ExceptHandler} {l' : List (Value × Nat × (Addr → Value → Option Addr → TS))}, HdA X hds' l' → wMA X.K Wout D l' cls d σ' H' →
        wpAny (model X.prog X.w) X.A (handleBy (.ref a) X.env hds') (SP X pins D) X.xe { s' with heap := h3 } := by
      intro hds' l' hk
      induction hk with
      | nil =>
        intro w
        refine wpAny_handleBy_nil ?_
        obtain ⟨k1, k2, k3, oe, vs, T, oT, ts', he, hz, hd, h1, hr⟩ := id fl3
        unfold PySem.passOn
        refine wpAny_bind (wpAny_field he hd h1 ?_)
        rw [if_neg (show ¬ ((Value.ref T == Value.none) = true) from by simp)]
        have out : wpAny (model X.prog X.w) X.A (setFlight (.ref a) X.env.frame) (fun _ s4 => wpAny (model X.prog X.w) X.A (throw (.ref a) : Sem Flow) (SP X pins D) X.xe s4) X.xe { s' with heap := h3 } := by
          rw [hf]
          refine HandSPX.setFlight_upZ fl3 fun h4 hh4 up4 => wpAny_throw (tk _ _ ?_)
          exact ⟨a, B, sI, pins, σ', H', cls, d, rfl, J, nb, (up.trans up3).trans up4, .inr (.inr (by rw [hs]; exact hh4)), na, os, ag, w⟩
        first
          | exact wpAny_bind (wpAny_pure (wpAny_bind out))
          | exact wpAny_bind out
      | @cons x n i c ts b₀ suite np pos' hds2 l2 hc hi hln hsu r ih =>
        intro w
        obtain ⟨b, hb1, hyes, hno⟩ := w
        refine wpAny_handleBy_cons (codeAny_handlers_test ?_) (by intro q; cases q)
        have LT : PySem.W.Looks (model X.prog X.w) h3 (typeOf (.ref a)) cls := fun A Q E s k q => wpAny_typeOf_ref (k _ _ he3) (by rw [hz3.1]; exact q)
        have LM := PySem.W.exm_one (M := model X.prog X.w) (J3.kIn) LT hb1
        have test : ∀ {Q : Value → Shared → Prop} {E : Value → Shared → Prop}, Q c { s' with heap := h3 } → wpAny (model X.prog X.w) (X.A.mark (some (.ref a))) (eval (.Name x np) X.env) Q E { s' with heap := h3 } := fun {Q E} q => by
          obtain ⟨hg, hdbg, hm | ⟨hm, hv, hnn⟩⟩ := hc
          · exact ld_glob (X := X.suite a ((a, oe3) :: (X.pn ++ pins))) S3 hg hm q hdbg
          · exact ld_blt (X := X.suite a ((a, oe3) :: (X.pn ++ pins))) S3 hg hm hv q hnn hdbg
        refine test (LM.here ?_)
        cases b with
        | true =>
          refine codeAny_handlers_suite_as ?_
          refine HandSPX.lands_againZ fl3 fun h4 fl4 up4 => ?_
          have J4 : Inv X pins σ' H' { s' with heap := h4 } := J.landed nb fl4.1 ((up.trans up3).trans up4) os ag
          obtain ⟨oe4, vs4, he4, hz4, hd4⟩ := fl4.there
          have S4 := J4.suite he4 hd4 na nL nF
          refine store_ok (X := X.suite a ((a, oe4) :: (X.pn ++ pins))) (v := .ref a) S4 hN hi (.inl hln) rfl (fun s5 S5 => ?_) (.inr hln)
          refine wpAny_mono ((hsu a oe4 cls d (X.pn ++ pins) hz4 ⟨_, hd4⟩).run [] s5 _ H' _ S5 (hyes rfl a na)) (fun f s6 hsp => ?_) (fun _ _ z => False.elim z)
          have done : ∀ {σ6 : L2.St} {H6 : Hp} {Q : Shared → Prop}, Inv (X.suite a ((a, oe4) :: (X.pn ++ pins))) [] σ6 H6 s6 → (∀ s7, Inv X pins (σ6.set i none) H6 s7 → Q s7) →
              wpAny (model X.prog X.w) X.A (do bindName X.env n .none; unbindBehindTheSuite X.env n pos') (fun _ s7 => Q s7) X.xe s6 := fun {σ6 H6 Q} S6 hq => gone_ok (S6.unsuite ok) hN hi hln hq
          match f, hsp with
          | .next, ⟨σ6, H6, S6, q6⟩ => exact done S6 fun s7 J7 => ⟨_, _, J7, q6⟩
          | .brk, ⟨σ6, H6, S6, q6⟩ => exact done S6 fun s7 J7 => ⟨_, _, J7, q6⟩
          | .cont, ⟨σ6, H6, S6, q6⟩ => exact done S6 fun s7 J7 => ⟨_, _, J7, q6⟩
          | .ret u, ⟨v6, σ6, H6, S6, r6, q6⟩ => exact done S6 fun s7 J7 => ⟨_, _, _, J7, r6, q6⟩
        | false => exact ih (hno rfl)
    exact go hh w
  · have q := back hsp
    match f, q with
    | .next, ⟨σ', H', J, q⟩ => exact wpAny_execs_nil ⟨σ', H', J, q⟩
    | .brk, q => exact q
    | .cont, q => exact q
    | .ret u, q => exact q
end
end Pm

set_option maxHeartbeats 1000000
/-! Pm10: an error's making; try; the suite's expressions. -/
namespace Pm
open PySem L2 PyProof.Rows
/-- __init__ with one field: self.f = f -/
theorem err_init1 {P : Program} {w : World} {K : PySem.W.Frag} {mg : Str → Option Value} {base : Heap} {q f : Str} {st : Stmt} {fI C : Addr} {fd : FuncData} {p1 p2 p3 p4 : Pos} (Fn : Fun K "__init__" q st fI fd) (S : FnScope ["self", f] ["self", f] (defScope st)) (T : OexC K C) (hno : PySem.W.findIn K (.ref C) f = some none)
    (hb : defBody st = [.Assign [.Attribute (.Name "self" p1) f p2] (.Name f p3) p4]) (v0 : Vis (defScope st) "self") (v1 : Vis (defScope st) f) (d1 : (f == ("__debug__" : Str)) = false) (d2 : (f == ("__classdict__" : Str)) = false) :
    FnOk P w K mg base CX0 1 fI fd ["self", f] (fun vs H Q _ => vs.length = 2 ∧ ∃ a us, vs = .ref a :: us ∧ H a = some (exo a C none) ∧ ∀ d fs, H d = none → d ≠ a → (∀ (i : Nat) (g : Str) (v : V), [f][i]? = some g → us[i]? = some v → fs.lookup g = some v) → Q .non (upd (upd H d (exd d fs)) a (exo a C (some d)))) := by
  refine Fn.ok S (fun vs H Q E h => h.1) (fun cdv A outer s H vs Q E hr h => ?_)
  obtain ⟨hl, a, us, rfl, ha, k⟩ := h
  match us, hl with
  | [v], _ =>
    rw [hb]
    refine ⟨_, pss_one (ps_ost (f := f) (pe_var (i := 0) (by rfl) v0) (pe_var (i := 1) (by rfl) v1 d1 d2) (by rfl)), ?_⟩
    refine ⟨v, rfl, .ref a, rfl, a, C, rfl, T, hno, .inl ⟨ha, fun dx hd hda => k dx _ hd hda fun i g y h1 h2 => ?_⟩⟩
    match i, h1 with
    | 0, h1 =>
      simp at h1 h2
      subst h1 h2
      simp [List.lookup]
/-! ### the suite -/
abbrev fx (fa : Fa) (a dd C : Addr) : Fa := ⟨fa.f, some (a, dd, C)⟩
section
variable {K : PySem.W.Frag} {fa : Fa} {c : Cells} {ad : List Addr} {F H : Hp} {σ : L2.St} {sl : Sl} {v : V} {w : W}
def noXs (sl : Sl) : Bool := sl.all fun o => match o with
  | some w => noX w
  | none => true
theorem SlOk.sw {fb : Fa} (e : fa.f = fb.f) (n : noXs sl = true) (h : SlOk K fa ad F σ sl) : SlOk K fb ad F σ sl := ⟨h.1, fun i w q => by
  obtain ⟨v, h1, h2⟩ := h.2 i w q
  have hn := List.all_eq_true.mp n _ (List.mem_of_getElem? q)
  exact ⟨v, h1, h2.sw e hn⟩⟩
theorem RW.up {fb : Fa} (e : fa.f = fb.f) (n : fa.rg = none) (h : RW K fa ad F v w) : RW K fb ad F v w := by
  cases w with
  | d x => exact Rp.sw e h
  | c k => exact h
  | x _ _ => obtain ⟨a, dd, C, fs, _, h2, _⟩ := h; rw [n] at h2; cases h2
theorem SlOk.up {fb : Fa} (e : fa.f = fb.f) (n : fa.rg = none) (h : SlOk K fa ad F σ sl) : SlOk K fb ad F σ sl := ⟨h.1, fun i w q => let ⟨v, h1, h2⟩ := h.2 i w q; ⟨v, h1, h2.up e n⟩⟩
/-- a tracked error's dict, frozen -/
theorem Rel.frzX (R : Rel K fa c ad F H) {p : Addr} {fs : List (Str × V)} (h : H p = some (.xd fs)) : ∃ F', Same F F' ∧ Rel K fa c ad F' H ∧ F' p = some (.xd fs) := by
  cases q : F p with
  | some u =>
    have := R.le p u q
    rw [h] at this
    cases this
    exact ⟨F, Same.refl F, R, q⟩
  | none =>
    have sF : Same F (upd F p (.xd fs)) := fun b x e => by rw [upd_ne (ne_of_none e q)]; exact e
    refine ⟨upd F p (.xd fs), sF, ⟨fun b x e => ?_, R.len, R.nd, R.there, fun k o a h1 h2 => ?_⟩, upd_same⟩
    · by_cases z : b = p
      · subst z; rw [upd_same] at e; cases e; exact h
      · rw [upd_ne z] at e; exact R.le b x e
    · have ok := R.cell k o a h1 h2
      cases o with
      | lst ds =>
        obtain ⟨h3, vs, h4, h5⟩ := ok
        exact ⟨by rw [upd_ne (ne_of h4 h (by intro z; cases z))]; exact h3, vs, h4, h5.mono sF⟩
      | dic ds =>
        obtain ⟨h3, vs, h4, h5⟩ := ok
        exact ⟨by rw [upd_ne (ne_of h4 h (by intro z; cases z))]; exact h3, vs, h4, h5.mono sF⟩
      | frz d => exact Rp.mono sF ok
end
def OS.unset (i : Nat) : OS → OS
  | .nx sl c => if noXs (sl.set i none) = true then .nx (sl.set i none) c else .bad
  | .brk sl c => if noXs (sl.set i none) = true then .brk (sl.set i none) c else .bad
  | .cnt sl c => if noXs (sl.set i none) = true then .cnt (sl.set i none) c else .bad
  | .ret w c => if noX w = true then .ret w c else .bad
  | _ => .bad
/-- the clauses: class, slot, suite -/
def handle (sub : Str → Str → Option Bool) (x : Str) (pl : List (Str × D)) (sl : Sl) (c : Cells) : List (Str × Nat × SDen) → OS
  | [] => .exc sl x pl c
  | (h, i, g) :: r => match sub x h with
    | some true => (g (sl.set i (some (.x x pl))) c).unset i
    | some false => handle sub x pl sl c r
    | none => .bad
def sTry (sub : Str → Str → Option Bool) (body : SDen) (hds : List (Str × Nat × SDen)) : SDen := fun sl c => match body sl c with
  | .exc sl1 x pl c1 => handle sub x pl sl1 c1 hds
  | o => o
/-- which error class is which -/
def SubOk (K : PySem.W.Frag) (fa : Fa) (sub : Str → Str → Option Bool) : Prop := ∀ x h b, sub x h = some b → ∀ C D, fa.f x = some C → fa.f h = some D → PySem.W.exmOne K (.ref C) (.ref D) = some b ∧ PySem.W.kitOne K (.ref C) (.ref D) = some b
section
variable {X : Cx} {fa : Fa} {Wx : WX} {pos : Pos}
/-- a suite for whatever error is caught -/
def Suite (X : Cx) (fa : Fa) (suite : List Stmt) (g : SDen) : Prop := ∀ (a : Addr) (oe : Obj) (C dd : Addr) (pn : List (Addr × Obj)), Zc (.ref C) (some dd) oe → (∃ vs, oe.data = .fields vs) → SSs (X.suite a ((a, oe) :: pn)) (fx fa a dd C) WF suite g
inductive HdD (X : Cx) (fa : Fa) : List ExceptHandler → List (Str × Nat × SDen) → Prop
  | nil : HdD X fa [] []
  | cons {x n : Str} {i : Nat} {C : Addr} {b₀ : Stmt} {suite : List Stmt} {np pos' : Pos} {hds : List ExceptHandler} {l : List (Str × Nat × SDen)} {g : SDen} (hm : X.mg x = some (.ref C)) (hC : fa.f x = some C) (hsu : Suite X fa (b₀ :: suite) g) (r : HdD X fa hds l)
      (hg : Gl X x := by rfl) (hi : X.N[i]? = some n := by rfl) (hln : X.env.kindOf n = some .local := by rfl) (hdb : (x == ("__debug__" : Str)) = false := by decide) : HdD X fa (.ExceptHandler (some (.Name x np)) (some n) (b₀ :: suite) pos' :: hds) ((x, i, g) :: l)
theorem PostS.unset {K : PySem.W.Frag} {a dd C : Addr} {ad : List Addr} {F : Hp} {De : Ends} {o : OS} {i : Nat} (P : PostS K fa Wx ad F De (o.unset i)) :
    PostS K (fx fa a dd C) WF ad F { nx := fun σ' H' => De.nx (σ'.set i none) H', rt := De.rt, bk := fun σ' H' => De.bk (σ'.set i none) H', ct := fun σ' H' => De.ct (σ'.set i none) H' } o := by
  cases o with
  | nx sl c =>
    unfold OS.unset at P
    dsimp only at P
    split at P
    · rename_i n
      exact fun H F' ad' σ' s p R ok => P H F' ad' _ s p (Rel.sw (fa := fx fa a dd C) (fb := fa) rfl R) (SlOk.sw (fa := fx fa a dd C) (fb := fa) rfl n (ok.unset (i := i) none))
    · exact P.elim
  | brk sl c =>
    unfold OS.unset at P
    dsimp only at P
    split at P
    · rename_i n
      exact fun H F' ad' σ' s p R ok => P H F' ad' _ s p (Rel.sw (fa := fx fa a dd C) (fb := fa) rfl R) (SlOk.sw (fa := fx fa a dd C) (fb := fa) rfl n (ok.unset (i := i) none))
    · exact P.elim
  | cnt sl c =>
    unfold OS.unset at P
    dsimp only at P
    split at P
    · rename_i n
      exact fun H F' ad' σ' s p R ok => P H F' ad' _ s p (Rel.sw (fa := fx fa a dd C) (fb := fa) rfl R) (SlOk.sw (fa := fx fa a dd C) (fb := fa) rfl n (ok.unset (i := i) none))
    · exact P.elim
  | ret w c =>
    unfold OS.unset at P
    dsimp only at P
    split at P
    · rename_i n
      exact fun H F' ad' v s p R r => P H F' ad' v s p (Rel.sw (fa := fx fa a dd C) (fb := fa) rfl R) (RW.sw (fa := fx fa a dd C) (fb := fa) rfl n r)
    · exact P.elim
  | exc _ _ _ _ => exact P.elim
  | bad => exact P.elim
theorem ss_try {sub : Str → Str → Option Bool} {body : List Stmt} {h₀ : ExceptHandler} {hds : List ExceptHandler} {l : List (Str × Nat × SDen)} {fb : SDen} (hn : fa.rg = none) (hsub : SubOk X.K fa sub) (hs : X.stack = X.env :: X.outer) (hf : X.env.frame = some X.env.locals) (hN : X.N.Nodup) (tk : Takes X Wx)
    (hb : ∀ (W : WX) (pn : List (Addr × Obj)) (xe : Value → Shared → Prop), Takes (X.tr pn xe) W → PassesOwn (model X.prog X.w) X.A X.env xe → SSs (X.tr pn xe) fa W body fb) (hh : HdD X fa (h₀ :: hds) l) : SS X fa Wx (.Try body (h₀ :: hds) [] [] pos) (sTry sub fb l) := by
  have tr : ∀ {hds' : List ExceptHandler} {l' : List (Str × Nat × SDen)}, HdD X fa hds' l' → ∃ l2 : List (Value × Nat × (Addr → Value → Option Addr → TS)), HdA X hds' l2 ∧
      ∀ (De : Ends) (x : Str) (pl : List (Str × D)) (sl1 : Sl) (c1 : Cells) (σ : L2.St) (H : Hp) (ad : List Addr) (F : Hp) (C d : Addr) (fs : List (Str × V)), PostS X.K fa Wx ad F De (handle sub x pl sl1 c1 l') → Rel X.K fa c1 ad F H → SlOk X.K fa ad F σ sl1 → fa.f x = some C → H d = some (.xd fs) → Flds X.K fa F fs pl →
        wMA X.K Wx De l2 (.ref C) (some d) σ H := by
    intro hds' l' h
    induction h with
    | nil => exact ⟨[], .nil, fun De x pl sl1 c1 σ H ad F C d fs P R ok hC hd hfl => P H F ad σ C d fs (Same.refl _) (List.prefix_refl _) R ok hC hd hfl⟩
    | @cons x0 n i C0 b₀ suite np pos' hds l g hm hC0 hsu r hg hi hln hdb ih =>
      obtain ⟨l2, hA, k⟩ := ih
      refine ⟨(.ref C0, i, fun a cls d De σ H => ∃ C dd, cls = .ref C ∧ d = some dd ∧ tSt X.K (fx fa a dd C) WF g De σ H) :: l2, .cons ⟨hg, hdb, .inl hm⟩ hi hln (fun a oe cls d pn hz hfi => ?_) hA, fun De x pl sl1 c1 σ H ad F C d fs P R ok hC hd hfl => ?_⟩
      · refine ⟨fun pins s σ H De I q => ?_⟩
        obtain ⟨C, dd, rfl, rfl, q⟩ := q
        exact (hsu a oe C dd pn hz hfi).run pins s σ H De I q
      · unfold handle at P
        split at P
        · rename_i e
          refine ⟨true, (hsub x x0 true e C C0 hC hC0).1, fun _ a ha => ⟨C, d, rfl, rfl, ?_⟩, fun z => by cases z⟩
          obtain ⟨F1, s1, R1, hx⟩ := R.frzX hd
          have fl1 : Flds X.K (fx fa a d C) F1 fs pl := fun y dd' q => let ⟨v, q1, q2⟩ := hfl y dd' q; ⟨v, q1, Rp.sw (fa := fa) (fb := fx fa a d C) rfl (q2.mono s1)⟩
          have ok1 : SlOk X.K (fx fa a d C) ad F1 σ sl1 := SlOk.up (fa := fa) (fb := fx fa a d C) rfl hn (ok.mono s1 (List.prefix_refl _))
          exact ⟨sl1.set i (some (.x x pl)), c1, ad, F1, ok1.set (w := .x x pl) ⟨a, d, C, fs, rfl, rfl, hC, hx, fl1⟩, Rel.sw (fa := fa) (fb := fx fa a d C) rfl R1, PostS.unset (PostS.weak P s1 (List.prefix_refl _))⟩
        · rename_i e
          exact ⟨false, (hsub x x0 false e C C0 hC hC0).1, fun (z : false = true) => absurd z (by decide), fun _ => k De x pl sl1 c1 σ H ad F C d fs P R ok hC hd hfl⟩
        · exact P.elim
  obtain ⟨l2, hA, k⟩ := tr hh
  refine PS.imp (ps_try_ma (tb := fun W => tSt X.K fa W fb) hs hf hN tk hb hA) fun De σ H q => ?_
  obtain ⟨sl, c, ad, F, ok, R, P⟩ := q
  refine ⟨sl, c, ad, F, ok, R, ?_⟩
  unfold sTry at P
  revert P
  cases fb sl c with
  | exc sl1 x pl c1 => exact fun P H1 F1 ad1 σ1 C d fs s p R1 ok1 hC hd hfl => k De x pl sl1 c1 σ1 H1 ad1 F1 C d fs (PostS.weak (o := handle sub x pl sl1 c1 l) P s p) R1 ok1 hC hd hfl
  | nx _ _ => exact id
  | ret _ _ => exact id
  | brk _ _ => exact id
  | cnt _ _ => exact id
  | bad => exact id
/-! ### within the suite -/
section
variable {a dd C : Addr} {oe : Obj} {pn : List (Addr × Obj)}
/-- which fields of which errors may be asked -/
def FldOk (K : PySem.W.Frag) (fa : Fa) (xs fs : List Str) : Prop := ∀ x ∈ xs, ∀ C, fa.f x = some C → XfC K C ∧ ∀ f ∈ fs, PySem.W.findIn K (.ref C) f = some none
def dXf (xs fs : List Str) (n : Str) (f : Den) : Den := fun sl c => (f sl c).bind fun w c1 => match w with
  | .x x pl => if (xs.contains x && fs.contains n) = true then match pl.lookup n with
    | some d => .ok (.d d) c1
    | none => .bad else .bad
  | _ => .bad
theorem se_xf {e : Expr} {f : Den} {xs fs : List Str} {n : Str} (hF : FldOk X.K fa xs fs) (hz : Zc (.ref C) (some dd) oe) (hf : ∃ vs, oe.data = .fields vs) (he : SE (X.suite a ((a, oe) :: pn)) (fx fa a dd C) WF e f) (hb : attributeBase e n X.env (eval e X.env) = eval e X.env := by rfl) :
    SE (X.suite a ((a, oe) :: pn)) (fx fa a dd C) WF (.Attribute e n pos) (dXf xs fs n f) := by
  refine ⟨fun pins s σ H Q I q => ?_⟩
  by_cases T : XfC X.K C ∧ PySem.W.findIn X.K (.ref C) n = some none
  · refine (pe_xf (cls := .ref C) (d := some dd) T.1 T.2 hz hf he hb).run pins s σ H Q I ?_
    obtain ⟨sl, c, ad, F, ok, R, P⟩ := q
    refine ⟨sl, c, ad, F, ok, R, P.bind fun w c1 H1 F1 ad1 s p R1 P1 v rv => ?_⟩
    split at P1
    · rename_i x pl
      obtain ⟨a', dd', C', fs', h1, h2, h3, h4, h5⟩ := rv
      cases h2
      split at P1
      · split at P1
        · rename_i d hd
          obtain ⟨y, y1, y2⟩ := h5 n d hd
          exact ⟨h1, rfl, dd, fs', y, rfl, R1.le _ _ h4, y1, P1.now R1 y y2⟩
        · exact P1.elim
      · exact P1.elim
    · exact P1.elim
  · refine wpAny_mono (M := model X.prog X.w) (attr_of hb (thn (he.run pins s σ H (fun _ _ => False) I ?_) fun u s1 ⟨_, _, _, _, z⟩ => z.elim)) (fun _ _ z => z) fun _ _ z => z
    obtain ⟨sl, c, ad, F, ok, R, P⟩ := q
    refine ⟨sl, c, ad, F, ok, R, P.bind fun w c1 H1 F1 ad1 s p R1 P1 v rv => ?_⟩
    split at P1
    · rename_i x pl
      obtain ⟨a', dd', C', fs', h1, h2, h3, h4, h5⟩ := rv
      cases h2
      split at P1
      · rename_i hc
        rw [Bool.and_eq_true] at hc
        obtain ⟨t1, t2⟩ := hF x (by simpa using hc.1) C h3
        exact T ⟨t1, t2 n (by simpa using hc.2)⟩
      · exact P1.elim
    · exact P1.elim
end
end
end Pm

set_option maxHeartbeats 1000000
/-! Pm11: isinstance of the caught error; the script; the law's end. -/
namespace Pm
open PySem L2 PyProof.Rows
section
variable {X : Cx} {fa : Fa} {pos p : Pos} {a dd C : Addr} {oe : Obj} {pn : List (Addr × Obj)}
/-- isinstance(e, D) of the error that the suite holds -/
def rIsX (K : PySem.W.Frag) (C a dd : Addr) : List V → Hp → VK → Prop := fun vs H Q => ∃ (D : Addr) (b : Bool) (fs : List (Str × V)), vs = [.ref a, .ref D] ∧ H dd = some (.xd fs) ∧ PySem.W.kitOne K (.ref C) (.ref D) = some b ∧ Q (.bl b) H
theorem cl_isx (T : ExcC X.K C) (hz : Zc (.ref C) (some dd) oe) (hf : ∃ vs, oe.data = .fields vs) : CallR (X.suite a ((a, oe) :: pn)) (.builtin "isinstance") (rIsX X.K C a dd) := by
  intro pins s σ H xs us Q I r h
  obtain ⟨D, b, fs, rfl, hd, hk, q⟩ := h
  obtain ⟨u1, u2, rfl, r1, r2⟩ := vals2 r
  cases r1
  cases r2
  obtain ⟨hget, _⟩ := I.pin (a, oe) (List.mem_append_left _ List.mem_cons_self)
  obtain ⟨vs, hv⟩ := hf
  obtain ⟨mA, ⟨od, es, ep, ho, _⟩, _⟩ := I.hok dd _ hd
  have J : PySem.W.InstAt s.heap a oe C (some od) := ⟨hget, hz.1, by unfold PySem.W.notCls; rw [hv] <;> rfl, by rw [hz.2]; exact ho⟩
  exact PySem.W.kia_one (PmX.kit_exc T) I.kIn ⟨oe, some od, J⟩ hk (fun z => nomatch z) fun tk => ⟨.bl b, H, I.kept (t' := tk) fun _ _ z => z, rfl, q⟩
def oIsx (sub : Str → Str → Option Bool) : List W → Cells → Out W := fun ws c => match ws with
  | [.x x _, .d (.fn h)] => match sub x h with
    | some b => .ok (.d (.bl b)) c
    | none => .bad
  | _ => .bad
theorem ll_isx {K : PySem.W.Frag} {sub : Str → Str → Option Bool} (hs : SubOk K fa sub) : CalL K (fx fa a dd C) (rIsX K C a dd) (oIsx sub) := fun c ad F H vs ws Q E R r P => by
  unfold oIsx at P
  split at P
  · rename_i x pl h
    match vs, r with
    | [v1, v2], .cons r1 (.cons r2 .nil) =>
      split at P
      · rename_i b hb
        obtain ⟨a', dd', C', fs', h1, h2, h3, h4, h5⟩ := r1
        cases h2
        cases r2 with
        | @fn _ D hD => exact ⟨D, b, fs', by rw [h1], R.le _ _ h4, (hs x h b hb C D h3 hD).2, P.now R _ (.bl b)⟩
      · exact P.elim
  · exact P.elim
/-- .. whatever the error is: what must be said of those that come -/
theorem se_isx {sub : Str → Str → Option Bool} {xs : List Str} {as : Sl → Cells → Out (List W)} {e : Expr} {es : List Expr} (hT : ∀ x ∈ xs, ∀ C, fa.f x = some C → ExcC X.K C) (hs : SubOk X.K fa sub) (hz : Zc (.ref C) (some dd) oe) (hf : ∃ vs, oe.data = .fields vs) (hm : X.mg "isinstance" = none) (ha : SA (X.suite a ((a, oe) :: pn)) (fx fa a dd C) WF (e :: es) as) (hg : Gl X "isinstance" := by rfl)
    (he : starEach (e :: es) X.env = (false, eval e X.env) :: starEach es X.env := by rfl) (hpl : (backTo pos (starEach es X.env)).any (·.1) = false := by rfl) :
    SE (X.suite a ((a, oe) :: pn)) (fx fa a dd C) WF (.Call (.Name "isinstance" p) (e :: es) [] pos) (dCall (fun ws c => match ws with | [.x x pl, w] => if xs.contains x = true then oIsx sub [.x x pl, w] c else .bad | _ => .bad) as) := by
  refine ⟨fun pins s σ H Q I q => ?_⟩
  by_cases T : ExcC X.K C
  · refine (se_callB (X := X.suite a ((a, oe) :: pn)) (Wx := WF) (fa := fx fa a dd C) (cl_isx T hz hf) (fun c ad F H vs ws Q E R r P => ?_) hm (by decide +kernel) ha hg (by decide) (by decide) he hpl).run pins s σ H Q I q
    split at P
    · split at P
      · exact ll_isx hs c ad F H vs _ Q E R r P
      · exact P.elim
    · exact P.elim
  · refine wpAny_Call_Name_kw (ld_blt (X := X.suite a ((a, oe) :: pn)) I hg hm (by decide +kernel : bootBuiltins "isinstance" = some (.builtin "isinstance")) ?_)
    refine PyProof.Rows.callWith_builtin1 (thn (ha.run pos pins s σ H (fun _ _ => False) I ?_) fun us s1 ⟨_, _, _, _, z⟩ => z.elim) he hpl
    obtain ⟨sl, c, ad, F, ok, R, P⟩ := q
    refine ⟨sl, c, ad, F, ok, R, P.bind fun ws c1 H1 F1 ad1 s p R1 P1 vs rv => ?_⟩
    split at P1
    · rename_i x pl w
      split at P1
      · rename_i hc
        cases rv with
        | cons r1 _ =>
          obtain ⟨a', dd', C', fs', h1, h2, h3, h4, h5⟩ := r1
          cases h2
          exact T (hT x (by simpa using hc) C h3)
      · exact P1.elim
    · exact P1.elim
end
/-! ### the law's end -/
/-- what the law's def keeps: from the script to True -/
theorem law_g {P : Program} {w : World} {K : PySem.W.Frag} {mg mb : Str → Option Value} {k : Nat} {fl a : Addr} {fd : FuncData} {x : Str} {sp : Sp} {s₁ : Shared} {vs : List Value} {ns : List Int}
    (KX : K.In s₁.heap) (hns : s₁.heap.Ns mainGlobals mg) (hb : s₁.heap.Ns builtinsNs mb) (hbb : ∀ x : Str, x ≠ "__name__" → mb x = bootBuiltins x) (hlim : s₁.heap.NoLimit) (hg : s₁.gens = #[])
    (ha : s₁.heap.get? a = some { cls := .type "list", data := .seq vs.toArray }) (hi : IntsAre vs ns) (hl : ns.length ≤ sizeLine) (hr : Room k callerA)
    (F : ∀ base : Heap, K.In base → base.Ns mainGlobals mg → FnG P w K mg base k fl fd [x] sp) (hbind : ∀ (s : Shared) (u : Value), BindsTo s fd ⟨[u], []⟩ [(x, u)])
    (hsp : ∀ H : Hp, Only H → SqL K H a (ns.map V.int) → sp [.ref a] H (fun v _ => v = .bl true) fun _ _ _ => False) :
    codeAny (model P w) callerA (.call (.ref fl) ⟨[.ref a], []⟩) (fun r s' => r = .ok (.ret (.bool true)) ∧ OldK s₁.heap s'.heap ∧ s'.os = s₁.os ∧ AllBare s'.gens) s₁ := by
  have rv := vals_ints hi
  -- H: at most the script is tracked
  have run : ∀ H : Hp, Only H → SqL K H a (ns.map V.int) → HOk P w H s₁.heap → (∀ b, H b ≠ none → b = a ∧ K.lookup a = none) →
      codeAny (model P w) callerA (.call (.ref fl) ⟨[.ref a], []⟩) (fun r s' => r = .ok (.ret (.bool true)) ∧ OldK s₁.heap s'.heap ∧ s'.os = s₁.os ∧ AllBare s'.gens) s₁ := by
    intro H hO hS hok hA
    have free : ∀ {b : Addr} {o : Obj}, s₁.heap.get? b = some o → (∀ ws n, o.data ≠ .seq ws n) → H b = none := fun {b o} e d => by
      cases q : H b with
      | none => rfl
      | some u =>
        obtain ⟨z, _⟩ := hA b (by rw [q]; simp)
        rw [z, ha] at e
        cases e
        exact absurd rfl (d vs.toArray 0)
    have ns' : ∀ {b : Addr} {m : Str → Option Value}, s₁.heap.Ns b m → (hidT s₁.heap H).Ns b m := fun ⟨o, es, ep, e, d, r⟩ => ⟨o, es, ep, hidT_get e (free e fun _ _ z => by rw [d] at z; cases z), d, r⟩
    have kin : K.In (hidT s₁.heap H) := fun b o e => hidT_get (KX b o e) (by
      cases q : H b with
      | none => rfl
      | some u =>
        obtain ⟨z, n⟩ := hA b (by rw [q]; simp)
        rw [z, n] at e
        cases e)
    have md : Mod K mg (hidT s₁.heap H) := ⟨kin, ns' hns, ⟨mb, ns' hb, hbb⟩, let ⟨mc, h1, h2⟩ := hlim; ⟨mc, ns' h1, h2⟩⟩
    have env : Env0 P w K mg (hidT s₁.heap H) callerA [] s₁ H := ⟨rfl, md, fun b o e => of_hidT e, Nat.le_of_eq (hidT_size _ _), trivial, fun b hb => (nomatch hb), hok, .of_eq hg⟩
    refine codeAny_mono ((F _ kin (ns' hns)).run callerA [] s₁ H ⟨[.ref a], []⟩ [.ref a] [.ref a] _ _ hr rfl env (hbind s₁ (.ref a)) (.cons rfl .nil) (hsp H hO hS)) fun r s' h => ?_
    match r, h with
    | .error e, h => obtain ⟨_, _, _, _, _, _, _, _, _, _, _, _, z⟩ := h; exact z.elim
    | .ok .next, h => exact False.elim h
    | .ok .brk, h => exact False.elim h
    | .ok .cont, h => exact False.elim h
    | .ok (.ret u), h =>
      obtain ⟨v, H', os, bare, un, hok', r', q⟩ := h
      cases (show v = .bl true from q)
      cases (show u = Value.bool true from r')
      refine ⟨rfl, OldK.of_keep fun b o e => ?_, os, bare⟩
      cases qb : H b with
      | none => exact un.keep b o e qb (by intro z; cases z) (by intro z; cases z)
      | some u =>
        rcases hO b with z | ⟨ob, xs, z⟩
        · rw [qb] at z; cases z
        · have e1 := (hok b _ z).1
          have e2 := (hok' b _ (un.frzs b ob _ z)).1
          rw [e] at e1; cases e1
          exact e2
  have lenV : vs.length = ns.length := hi.length
  cases hk : K.lookup a with
  | some o =>
    have e := KX a o hk
    rw [ha] at e
    cases e
    exact run (fun _ => none) (fun _ => .inl rfl) (.inr ⟨_, vs.toArray, _, hk, rfl, rfl, rfl, by rw [List.size_toArray, lenV]; exact hl, by simpa using rv⟩) (fun b u z => by cases z) fun b z => absurd rfl z
  | none =>
    let so : Obj := { cls := .type "list", data := .seq vs.toArray }
    let H : Hp := fun b => if b = a then some (.frz so (.lst (ns.map V.int))) else none
    have at_ : H a = some (.frz so (.lst (ns.map V.int))) := if_pos rfl
    have off : ∀ {b : Addr}, b ≠ a → H b = none := fun h => if_neg h
    refine run H (fun b => ?_) (.inl (.inr ⟨so, at_⟩)) (fun b u z => ?_) fun b z => ⟨?_, hk⟩
    · by_cases hb : b = a
      · subst hb; exact .inr ⟨_, _, at_⟩
      · exact .inl (off hb)
    · by_cases hb : b = a
      · subst hb
        rw [at_] at z
        cases z
        exact ⟨ha, by rw [List.length_map]; exact hl, vs, 0, rv, ha⟩
      · rw [off hb] at z; cases z
    · by_cases hb : b = a
      · exact hb
      · exact absurd (off hb) z
theorem walk_g {l : PySem.W.OpenLaw} {n k : Nat} {q : Program} {loose : List Str} {XP : (Str → Option Value) → Heap → Prop} {YP : World → Heap → Prop} {d : DefRec} {K : Params → PySem.W.Frag} {sp : PySem.W.Frag → (Str → Option Value) → Sp} {x : Str}
    (hn : l.most = some n) (hn2 : n ≤ sizeLine) (hdf : d.params.defaults = []) (hr : Room k callerA) (hY : ∀ (w : World) (h : Heap), YP w h → (K w.params).In h)
    (F : ∀ (w : World) (mg : Str → Option Value) (fl : Addr) (h : Heap), (K w.params).In h → h.Ns mainGlobals mg → mg d.name = some (.ref fl) →
      ∃ fd : FuncData, (∀ (s : Shared) (u : Value), BindsTo s fd ⟨[u], []⟩ [(x, u)]) ∧ ∀ base : Heap, (K w.params).In base → base.Ns mainGlobals mg → FnG l.prog w (K w.params) mg base k fl fd [x] (sp (K w.params) mg))
    (hsp : ∀ (K : PySem.W.Frag) (mg : Str → Option Value) (H : Hp) (a : Addr) (ns : List Int), ns.length ≤ n → Only H → SqL K H a (ns.map V.int) → sp K mg [.ref a] H (fun v _ => v = .bl true) fun _ _ _ => False) :
    PySem.W.WalkO q loose XP YP l.row.toRowW d [] (fun f vs => PySem.call f vs) := by
  refine Att.attach_call hn hdf fun w s₀ s₁ mg mb fl o pm cd doc a vs ns G Y ho hd hcd hmg hobj hints hlen hg => ?_
  have KX := hY w _ Y
  obtain ⟨fd, hb, hF⟩ := F w mg fl _ KX G.T.g hmg
  exact law_g KX G.T.g G.T.b G.T.builtins G.T.nolimit hg hobj hints (Nat.le_trans hlen hn2) hr hF hb fun H hO hS => hsp _ mg H a ns hlen hO hS
end Pm

/-! Pm12: a module's constants, {}, walks over texts. -/
namespace Pm
open PySem L2 PyProof.Rows
section
variable {K : PySem.W.Frag} {mg : Str → Option Value} {x : Str}
structure Cn (K : PySem.W.Frag) (mg : Str → Option Value) (x : Str) (d : D) : Prop where
  ex : ∃ u v, mg x = some u ∧ RelV v u ∧ ∀ fa F, Rp K fa F v d
theorem Cn.int {i : Int} {t : Tok} (h : mg x = some (.int i t)) : Cn K mg x (.int i) := ⟨_, .int i, h, ⟨t, rfl⟩, fun _ _ => .int i⟩
theorem Cn.str {i : Str} {t : Tok} (h : mg x = some (.str i t)) : Cn K mg x (.str i) := ⟨_, .str i, h, ⟨t, rfl⟩, fun _ _ => .str i⟩
theorem vals_strs : ∀ {xs : List Str} {us : List Value}, us.map absV = xs.map (fun y => some (V.str y)) → Vals (xs.map V.str) us
  | [], [], _ => .nil
  | [], _ :: _, h => by cases h
  | _ :: _, [], h => by cases h
  | x :: xs, u :: us, h => by
    simp only [List.map_cons, List.cons.injEq] at h
    refine .cons ?_ (vals_strs h.2)
    have h1 := h.1
    unfold absV at h1
    split at h1 <;> cases h1
    exact ⟨_, rfl⟩
theorem Cn.strs {a : Addr} {od : Option Addr} {its : Array Value} {n : Nat} {sl : Array (Option Value)} {xs : List Str} (h : mg x = some (.ref a)) (l : K.lookup a = some ⟨.type "tuple", od, .seq its n, sl⟩) (e : its.toList.map absV = xs.map fun y => some (V.str y)) (hl : xs.length ≤ 1000000) : Cn K mg x (.tup (xs.map D.str)) :=
  ⟨_, .ref a, h, rfl, fun fa F => .tup (.inr ⟨_, its, n, l, rfl, rfl, (by
    have q := congrArg List.length e
    rw [List.length_map, List.length_map, Array.length_toList] at q
    rw [q]; exact small hl), vals_strs e⟩) (RpA.strs xs)⟩
end
section
variable {X : Cx} {fa : Fa} {Wx : WX} {pos : Pos} {x : Str}
theorem se_cn {d : D} (C : Cn X.K X.mg x d) (hg : Gl X x := by rfl) (hd : (x == ("__debug__" : Str)) = false := by decide) : SE X fa Wx (.Name x pos) (dC d) := by
  obtain ⟨u, v, hm, r, rp⟩ := C.ex
  exact se_glob hg hm r (rp fa) hd
theorem se_fn {C : Addr} (hm : X.mg x = some (.ref C)) (hC : fa.f x = some C) (hg : Gl X x := by rfl) (hd : (x == ("__debug__" : Str)) = false := by decide) : SE X fa Wx (.Name x pos) (dC (.fn x)) :=
  se_glob (v := .ref C) hg hm rfl (fun _ => .fn hC) hd
def dDic : Den := fun _ c => .ok (.c c.length) (c ++ [.dic []])
theorem se_dic : SE X fa Wx (.Dict [] [] pos) dDic := PE.imp pe_dnewK fun σ H Q q p n => by
  obtain ⟨sl, c, ad, F, ok, R, P⟩ := q
  have R' := R.newC (o := .dK []) (x := .dic []) n fun nF => ⟨nF, [], upd_same, .nil⟩
  refine P _ F _ (Same.refl F) (List.prefix_append _ _) R' (.ref p) ⟨p, ?_, rfl⟩
  rw [← R.len]; simp
def strItems (z : Str) : Items := fun i _ => some ((z.cps[i]?).map fun x => .str ⟨#[x]⟩)
def iStrD (f : Den) : Sl → Cells → Out Items := fun sl c => (f sl c).bind fun w c1 => match rd c1 w with
  | some (.str z) => .ok (strItems z) c1
  | _ => .bad
theorem str_items {K : PySem.W.Frag} {ad : List Addr} {F : Hp} (z : Str) : ItL K fa ad F (Its z) (strItems z) := fun i c ad' F' H s p R => by
  unfold strItems
  cases q : z.cps[i]? with
  | none => exact Array.getElem?_eq_none_iff.mp q
  | some x =>
    refine ⟨(Array.getElem?_eq_some_iff.mp q).1, fun y H' hy => ?_⟩
    obtain ⟨rfl, c2, h1, rfl⟩ := hy
    rw [q] at h1
    cases h1
    exact ⟨F', Same.refl _, R, .str _⟩
theorem si_str {tg e : Expr} {f : Den} (h : SE X fa Wx e f) : SI X fa Wx tg e (iStrD f) := PI.imp (pi_str h) fun σ H R0 q => by
  obtain ⟨sl, c, ad, F, ok, R, P⟩ := q
  refine ⟨sl, c, ad, F, ok, R, P.bind fun w c1 H1 F1 ad1 s p R1 P1 v rv => ?_⟩
  split at P1
  · rename_i z e
    exact ⟨z, R1.str rv e, P1.now R1 _ (str_items z)⟩
  · exact P1.elim
end
/-! ### small change -/
theorem un64 {k : Nat} {A : Around} (r : Room k A) : A.units + 64 < cLine := by have := r.un; omega
theorem unR {k : Nat} {A : Around} (r : Room k A) : A.units + 200 < cLine := by have := r.un; omega
theorem unRS {k : Nat} {A : Around} {v : Option Value} (r : Room k A) : (A.mark v).units + 200 < cLine := by have := r.un; show A.units + 200 < cLine; omega
theorem un64S {k : Nat} {A : Around} {v : Option Value} (r : Room k A) : (A.mark v).units + 64 < cLine := by have := r.un; show A.units + 64 < cLine; omega
theorem roomLe {j k : Nat} {A : Around} (r : Room k A) (h : j ≤ k) : Room j A := r.mono h
section
variable {X : Cx} {fa : Fa} {Wx : WX} {pos : Pos}
def dNeg (f : Den) : Den := fun sl c => (f sl c).bind fun w c1 => match w with
  | .d (.int i) => .ok (.d (.int (-i))) c1
  | _ => .bad
theorem se_neg {a : Expr} {f : Den} (h : SE X fa Wx a f) : SE X fa Wx (.UnaryOp .USub a pos) (dNeg f) := PE.imp (pe_un un_neg h) fun σ H Q q => by
  obtain ⟨sl, c, ad, F, ok, R, P⟩ := q
  refine ⟨sl, c, ad, F, ok, R, P.bind fun w c1 H1 F1 ad1 s p R1 P1 v rv => ?_⟩
  split at P1
  · rename_i i
    exact ⟨i, rv.intD, P1.now R1 _ (.int _)⟩
  · exact P1.elim
def gtName (i : Nat) : W → SDen := fun w sl c => .nx (sl.set i (some w)) c
def dCallK (n : Nat) (is : List Nat) (g : List W → Cells → Out W) (as : Sl → Cells → Out (List W)) : Den := fun sl c => (as sl c).bind fun ws c1 => if (perm is ws).length = n then g (perm is ws) c1 else .bad
end
def subOf (l : List ((Str × Str) × Bool)) (x h : Str) : Option Bool := l.lookup (x, h)
theorem lookup_in {α β : Type} [BEq α] [LawfulBEq α] {a : α} {b : β} : ∀ {l : List (α × β)}, l.lookup a = some b → (a, b) ∈ l
  | [], h => by cases h
  | (y, z) :: l, h => by
    rw [List.lookup_cons] at h
    split at h
    · rename_i e
      injection h with h
      rw [eq_of_beq e, h]
      exact List.mem_cons_self
    · exact List.mem_cons_of_mem _ (lookup_in h)
def SubC (K : PySem.W.Frag) (fa : Fa) (q : (Str × Str) × Bool) : Prop := ∀ C D, fa.f q.1.1 = some C → fa.f q.1.2 = some D → PySem.W.exmOne K (.ref C) (.ref D) = some q.2 ∧ PySem.W.kitOne K (.ref C) (.ref D) = some q.2
inductive AllL {α : Type} (p : α → Prop) : List α → Prop
  | nil : AllL p []
  | cons {a : α} {l : List α} : p a → AllL p l → AllL p (a :: l)
theorem AllL.mem {α : Type} {p : α → Prop} {a : α} : ∀ {l : List α}, AllL p l → a ∈ l → p a
  | _, .cons h r, m => by
    rcases List.mem_cons.mp m with e | e
    · rw [e]; exact h
    · exact r.mem e
theorem subOk_of {K : PySem.W.Frag} {fa : Fa} {l : List ((Str × Str) × Bool)} (h : AllL (SubC K fa) l) : SubOk K fa (subOf l) := fun x y b e C D h1 h2 => h.mem (lookup_in e) C D h1 h2
theorem subC_of {K : PySem.W.Frag} {fa : Fa} {x h : Str} {C D : Addr} {b : Bool} (m1 : fa.f x = some C) (m2 : fa.f h = some D) (e : PySem.W.exmOne K (.ref C) (.ref D) = some b) (k : PySem.W.kitOne K (.ref C) (.ref D) = some b) : SubC K fa ((x, h), b) := fun C' D' h1 h2 => by
  rw [m1] at h1; rw [m2] at h2
  cases h1; cases h2
  exact ⟨e, k⟩
section
variable {X : Cx} {fa : Fa} {pos p : Pos} {a dd C : Addr} {oe : Obj} {pn : List (Addr × Obj)}
def oIsxA (sub : Str → Str → Option Bool) (xs : List Str) : List W → Cells → Out W := fun ws c => match ws with
  | [.x x pl, w] => if xs.contains x = true then oIsx sub [.x x pl, w] c else .bad
  | _ => .bad
theorem se_isxA {sub : Str → Str → Option Bool} {xs : List Str} {as : Sl → Cells → Out (List W)} {e : Expr} {es : List Expr} (hT : ∀ x ∈ xs, ∀ C, fa.f x = some C → ExcC X.K C) (hs : SubOk X.K fa sub) (hz : Zc (.ref C) (some dd) oe) (hf : ∃ vs, oe.data = .fields vs) (hm : X.mg "isinstance" = none) (ha : SA (X.suite a ((a, oe) :: pn)) (fx fa a dd C) WF (e :: es) as) (hg : Gl X "isinstance" := by rfl)
    (he : starEach (e :: es) X.env = (false, eval e X.env) :: starEach es X.env := by rfl) (hpl : (backTo pos (starEach es X.env)).any (·.1) = false := by rfl) :
    SE (X.suite a ((a, oe) :: pn)) (fx fa a dd C) WF (.Call (.Name "isinstance" p) (e :: es) [] pos) (dCall (oIsxA sub xs) as) := se_isx hT hs hz hf hm ha hg he hpl
end
/-- one keyword for the one parameter -/
theorem kwp_one {K : PySem.W.Frag} {mg : Str → Option Value} {x y : Str} {st0 : Stmt} {f0 : Addr} {fd0 : FuncData} (F0 : Fun K x x st0 f0 fd0) (hm : mg x = some (.ref f0))
    (h : ∀ (kV doc pm : Value) (an : Option Addr) (cdv ct : Value) (u : Value), bindArgs (PySem.W.fnOf x x (defArgs st0) (defBody st0) (defScope st0) .none kV doc pm an cdv ct) ⟨[], [(y, u)]⟩ = pure [(y, u)]) : KwP K mg x [y] [y] [0] := ⟨fun f fd st hm2 Fn => by
  have e : f = f0 := by rw [hm] at hm2; cases hm2; rfl
  subst e
  obtain ⟨oc, od, kV, doc, pm, an, cdv, ct, osl, rfl, lk, hcd⟩ := F0.ex
  obtain ⟨oc', od', kV', doc', pm', an', cdv', ct', osl', rfl, lk', hcd'⟩ := Fn.ex
  rw [lk] at lk'
  injection lk' with lk'
  injection lk' with _ _ lk' _
  injection lk' with lk'
  refine ⟨fun us ws => match us with | [] => ws.take 1 | _ => [], fun us ws => match us with | [] => ws.take 1 | _ => [], ⟨fun s us ws hK hl => ?_, fun {vs us zs ws} r rz => ?_⟩, fun zs => ?_⟩
  · match us, ws, hl with
    | [], u :: _, _ => rw [← lk']; exact .of_eq (h kV doc pm an cdv ct u)
    | [], [], hl => cases hl
    | _ :: _, _, hl => cases hl
  · cases r with
    | nil => cases rz with
      | nil => exact .nil
      | cons r rs => exact .cons r .nil
    | cons _ _ => exact .nil
  · cases zs with
    | nil => rfl
    | cons z zs => rfl⟩
section
variable {X : Cx} {fa : Fa} {Wx : WX} {pos p : Pos} {x : Str} {st : Stmt} {k n : Nat} {ps : List Str} {g : List W → Cells → Out W}
theorem se_callN {e : Expr} {es : List Expr} {as : Sl → Cells → Out (List W)} (G : Fd X.prog X.w X.K X.mg X.base x st k ps g) (hr : Room k X.A) (hgd : X.A.guards = some []) (tk : Takes X Wx) (ha : SA X (faOf X.mg) Wx (e :: es) as) (hn : ps.length = n := by rfl) (hg : Gl X x := by rfl)
    (hdb : (x == ("__debug__" : Str)) = false := by decide) (he : starEach (e :: es) X.env = (false, eval e X.env) :: starEach es X.env := by rfl) (hpl : (backTo pos (starEach es X.env)).any (·.1) = false := by rfl) :
    SE X (faOf X.mg) Wx (.Call (.Name x p) (e :: es) [] pos) (dCallN n g as) := by
  subst hn
  exact se_call G hr hgd tk ha hg hdb he hpl
theorem se_callK {kw : Keyword} {kws : List Keyword} {as : Sl → Cells → Out (List W)} {ks : List Str} {is : List Nat} (G : Fd X.prog X.w X.K X.mg X.base x st k ps g) (KP : KwP X.K X.mg x ps ks is) (hr : Room k X.A) (hgd : X.A.guards = some []) (tk : Takes X Wx) (ha : PK X (kw :: kws) (tAs X.K (faOf X.mg) Wx as)) (hn : ps.length = n := by rfl) (hg : Gl X x := by rfl)
    (hall : (backToKw pos (keywordEach (kw :: kws) X.env)).all (·.1.isSome) = true := by rfl) (hks : (backToKw pos (keywordEach (kw :: kws) X.env)).filterMap (·.1) = ks := by rfl)
    (hdb : (x == ("__debug__" : Str)) = false := by decide) (hpl : ((backTo pos (starEach [] X.env)).any (·.1) || (backToKw pos (keywordEach (kw :: kws) X.env)).any (·.1.isNone)) = false := by rfl) :
    SE X (faOf X.mg) Wx (.Call (.Name x p) [] (kw :: kws) pos) (dCallK n is g as) := by
  subst hn
  exact se_callK0 G KP hr hgd tk ha hg hall hks hdb hpl
end
end Pm

/-! Pm13: how denotations are reckoned. -/
namespace Pm
open PySem L2 PyProof.Rows SX
def finR (n : Nat) : OS → Out W
  | .nx _ c' => .ok (.d .non) (c'.take n)
  | .ret w c' => fin n w c'
  | .exc _ x pl c' => .exc x pl (c'.take n)
  | _ => .bad
theorem runB_of {N : Nat} {b : SDen} {ws : List W} {c : Cells} (sl : Sl) (h : ws.map some ++ List.replicate (N - ws.length) none = sl) : runB N b ws c = finR c.length (b sl c) := by
  unfold runB finR
  rw [h]
  all_goals (cases b sl c <;> rfl)
theorem finR_nx (n : Nat) (sl : Sl) (c : Cells) : finR n (.nx sl c) = .ok (.d .non) (c.take n) := rfl
theorem finR_ret (n : Nat) (d : D) (c : Cells) : finR n (.ret (.d d) c) = .ok (.d d) (c.take n) := id rfl
theorem finR_exc (n : Nat) (sl : Sl) (x : Str) (pl : List (Str × D)) (c : Cells) : finR n (.exc sl x pl c) = .exc x pl (c.take n) := rfl
theorem finR_cell (c : Cells) (o : O) (r : Cells) (h : ∀ d, o ≠ .frz d) : finR c.length (.ret (.c c.length) (c ++ o :: r)) = .ok (.c c.length) (c ++ [o]) := by
  unfold finR fin
  dsimp only
  rw [if_neg (by omega), List.getElem?_append_right (Nat.le_refl _), Nat.sub_self, List.take_left' rfl]
  cases o <;> first | rfl | exact absurd rfl (h _)
theorem bT_ok (b : Bool) (c : Cells) : bT (.ok (.d (.bl b)) c) = .ok b c := id rfl
theorem bT_exc (x : Str) (pl : List (Str × D)) (c : Cells) : bT (.exc x pl c) = .exc x pl c := rfl
section
variable (sl : Sl) (c : Cells)
theorem e_var (i : Nat) (w : W) (h : sl[i]? = some (some w)) : dVar i sl c = .ok w c := by unfold dVar; rw [h]
theorem e_c (d : D) : dC d sl c = .ok (.d d) c := rfl
theorem e_nil : dNil sl c = .ok [] c := rfl
theorem e_cons (f : Den) (g : Sl → Cells → Out (List W)) : dCons f g sl c = (f sl c).bind fun w c1 => (g sl c1).bind fun ws c2 => .ok (w :: ws) c2 := rfl
theorem e_bin (o : W → W → Cells → Out W) (f g : Den) : dBin o f g sl c = (f sl c).bind fun w1 c1 => (g sl c1).bind fun w2 c2 => o w1 w2 c2 := id rfl
theorem e_call (g : List W → Cells → Out W) (as : Sl → Cells → Out (List W)) : dCall g as sl c = (as sl c).bind g := rfl
theorem e_callN (n : Nat) (g : List W → Cells → Out W) (as : Sl → Cells → Out (List W)) : dCallN n g as sl c = (as sl c).bind fun ws c1 => if ws.length = n then g ws c1 else .bad := rfl
theorem e_test (f : Den) : dTest f sl c = bT (f sl c) := id rfl
theorem e_not (f : Sl → Cells → Out Bool) : dNot f sl c = (f sl c).bind fun b c1 => .ok (!b) c1 := rfl
theorem e_and (f g : Sl → Cells → Out Bool) : dAnd f g sl c = (f sl c).bind fun b c1 => if b = true then g sl c1 else .ok false c1 := id rfl
theorem e_or (f g : Sl → Cells → Out Bool) : dOr f g sl c = (f sl c).bind fun b c1 => if b = true then .ok true c1 else g sl c1 := id rfl
theorem e_andV (f g : Den) : dAndV f g sl c = (bT (f sl c)).bind fun b c1 => if b = true then g sl c1 else .ok (.d (.bl false)) c1 := rfl
theorem e_orV (f g : Den) : dOrV f g sl c = (bT (f sl c)).bind fun b c1 => if b = true then .ok (.d (.bl true)) c1 else g sl c1 := rfl
theorem e_if (t : Sl → Cells → Out Bool) (f g : Den) : dIf t f g sl c = (t sl c).bind fun b c1 => if b = true then f sl c1 else g sl c1 := id rfl
theorem e_isN (f : Den) : dIsN f sl c = (f sl c).bind fun w c1 => .ok (.d (.bl (isN w))) c1 := rfl
theorem e_meth (T : String) (o : W → List W → Cells → Out W) (f : Den) (as : Sl → Cells → Out (List W)) : dMeth T o f as sl c = (f sl c).bind fun w c1 => if tyOk T c1 w = true then (as sl c1).bind fun ws c2 => o w ws c2 else .bad := rfl
theorem e_tup (as : Sl → Cells → Out (List W)) : dTup as sl c = (as sl c).bind fun ws c1 => (frzAll ws c1).bind mkT := rfl
theorem e_lst (as : Sl → Cells → Out (List W)) : dLst as sl c = (as sl c).bind fun ws c1 => (frzAll ws c1).bind mkL := rfl
theorem e_sl (f : Den) (l h : Sl → Cells → Out (Option Int)) : dSl f l h sl c = (f sl c).bind fun w c1 => (l sl c1).bind fun lo c2 => (h sl c2).bind fun hi c3 => oSl w lo hi c3 := rfl
theorem e_some (f : Den) : pSome f sl c = (f sl c).bind fun w c1 => match w with
  | .d (.int i) => .ok (some i) c1
  | _ => .bad := rfl
theorem e_none : pNone sl c = .ok none c := rfl
theorem e_scons (f g : SDen) : sCons f g sl c = (f sl c).andThen g := rfl
theorem e_set (i : Nat) (f : Den) : sSet i f sl c = (f sl c).st sl fun w c1 => .nx (sl.set i (some w)) c1 := rfl
theorem e_ret (f : Den) : sRet f sl c = (f sl c).st sl fun w c1 => .ret w c1 := id rfl
theorem e_exp (f : Den) : sExp f sl c = (f sl c).st sl fun _ c1 => .nx sl c1 := rfl
theorem e_sif (t : Sl → Cells → Out Bool) (f g : SDen) : sIf t f g sl c = (t sl c).st sl fun b c1 => if b = true then f sl c1 else g sl c1 := id rfl
theorem e_aug (i : Nat) (o : W → W → Cells → Out W) (f : Den) (w0 : W) (h : sl[i]? = some (some w0)) : sAug i o f sl c = (f sl c).st sl fun w c1 => (o w0 w c1).st sl fun w2 c2 => .nx (sl.set i (some w2)) c2 := by unfold sAug; rw [h]
theorem e_asg (f : Den) (g : W → SDen) : sAsg f g sl c = (f sl c).st sl fun w c1 => (g w sl c1).only := rfl
theorem e_raise (x : Str) (ps : List Str) (as : Sl → Cells → Out (List W)) : sRaise x ps as sl c = (as sl c).st sl fun ws c1 => (frzAll ws c1).st sl fun ds c2 => if ds.length = ps.length ∧ ps.Nodup ∧ ps.length ≤ 900 then .exc sl x (ps.zip ds) c2 else .bad := rfl
theorem e_par (i j : Nat) (as : Sl → Cells → Out (List W)) : sPar i j as sl c = (as sl c).st sl fun ws c1 => match ws with
  | [a, b] => .nx ((sl.set i (some a)).set j (some b)) c1
  | _ => .bad := rfl
end
/-! ### operations -/
section
variable (c : Cells) (i j : Int) (a b : Str) (t u : List Nat)
theorem o_lt : oLt (.d (.int i)) (.d (.int j)) c = .ok (.d (.bl (decide (i < j)))) c := id rfl
theorem o_le : oLe (.d (.int i)) (.d (.int j)) c = .ok (.d (.bl (decide (i ≤ j)))) c := id rfl
theorem o_gt : oGt (.d (.int i)) (.d (.int j)) c = .ok (.d (.bl (decide (j < i)))) c := id rfl
theorem o_ge : oGe (.d (.int i)) (.d (.int j)) c = .ok (.d (.bl (decide (j ≤ i)))) c := id rfl
theorem o_sub : oSub (.d (.int i)) (.d (.int j)) c = .ok (.d (.int (i - j))) c := id rfl
theorem o_addI : oAdd (.d (.int i)) (.d (.int j)) c = .ok (.d (.int (i + j))) c := id rfl
theorem o_iaddI : oIadd (.d (.int i)) (.d (.int j)) c = .ok (.d (.int (i + j))) c := id rfl
theorem o_mod (h : 0 < j) : oMod (.d (.int i)) (.d (.int j)) c = .ok (.d (.int (i % j))) c := by show (if decide (0 < j) = true then _ else _) = _; rw [if_pos (decide_eq_true h)]
theorem o_eqS : oEq (.d (.str a)) (.d (.str b)) c = .ok (.d (.bl (decide (a = b)))) c := id rfl
theorem o_neS : oNe (.d (.str a)) (.d (.str b)) c = .ok (.d (.bl (!decide (a = b)))) c := id rfl
theorem o_eqI : oEq (.d (.int i)) (.d (.int j)) c = .ok (.d (.bl (decide (i = j)))) c := id rfl
theorem o_isi : oIsi [.d (.str a), .d (.ty "str")] c = .ok (.d (.bl true)) c := rfl
theorem o_s0 (g : Str → D) : oS0 g (.d (.str a)) [] c = .ok (.d (g a)) c := rfl
theorem o_sI (g : Str → Str → Int → D) : oSI g (.d (.str a)) [.d (.str b), .d (.int i)] c = .ok (.d (g a b i)) c := rfl
theorem tyS : tyOk "str" c (.d (.str a)) = true := rfl
theorem smL_of {n : Nat} (h : n ≤ 1000000) : smL n = true := decide_eq_true h
theorem o_len (h : t.length ≤ 1000000) : oLen [.d (.str (S t))] c = .ok (.d (.int t.length)) c := by
  show (if smL (S t).length = true then _ else _) = _
  rw [S_len, if_pos (smL_of h)]
theorem o_addS (h : t.length + u.length ≤ 1000000) : oAdd (.d (.str (S t))) (.d (.str (S u))) c = .ok (.d (.str (S (t ++ u)))) c := by
  show (if smL ((S t).length + (S u).length) = true then _ else _) = _
  rw [S_len, S_len, if_pos (smL_of h), S_cat]
theorem o_ix {n x : Nat} (h : t.length ≤ 1000000) (hx : t[n]? = some x) : oIx (.d (.str (S t))) (.d (.int n)) c = .ok (.d (.str (S [x]))) c := by
  show (if smL (S t).length = true then (match atI t n with | some x => _ | none => _) else _) = _
  rw [S_len, if_pos (smL_of h)]
  have hl := (List.getElem?_eq_some_iff.mp hx).1
  have : atI t (n : Int) = some x := by
    unfold atI ixN
    rw [if_pos (by omega), if_pos (by omega)]
    simpa using hx
  rw [this]
theorem cut_S (p q : Nat) : cutS (S t) (some p) (some q) = S ((t.drop p).take (q - p)) := by
  unfold cutS
  have hl : (S t).length = t.length := S_len t
  have e : (S t).cps.toList = t := rfl
  rw [HT.sIx_nat, HT.sIx_nat, e, hl]
  refine congrArg S ?_
  by_cases h1 : p ≤ t.length
  · rw [Nat.min_eq_left h1]
    by_cases h2 : q ≤ t.length
    · rw [Nat.min_eq_left h2]
    · rw [Nat.min_eq_right (by omega), List.take_of_length_le (by rw [List.length_drop]; omega), List.take_of_length_le (by rw [List.length_drop]; omega)]
  · rw [Nat.min_eq_right (show t.length ≤ p by omega), List.drop_eq_nil_of_le (Nat.le_refl _), List.drop_eq_nil_of_le (show t.length ≤ p by omega)]
    simp
theorem o_sl {p q : Nat} (h : t.length ≤ 1000000) : oSl (.d (.str (S t))) (some p) (some q) c = .ok (.d (.str (S ((t.drop p).take (q - p))))) c := by
  show (if smL (S t).length = true then _ else _) = _
  rw [S_len, if_pos (smL_of h), cut_S]
end
section
variable (a0 a1 a2 a3 a4 a5 a6 a7 a8 a9 : Option W) (w : W) (r : Sl) (c : Cells)
theorem e_v0 : dVar 0 (some w :: r) c = .ok w c := rfl
theorem e_g0 (o : W → W → Cells → Out W) (f : Den) : sAug 0 o f (some w :: r) c = (f (some w :: r) c).st (some w :: r) fun w1 c1 => (o w w1 c1).st (some w :: r) fun w2 c2 => .nx (some w2 :: r) c2 := rfl
theorem e_s0 (x : Option W) : (a0 :: r).set 0 x = x :: r := rfl
theorem e_v1 : dVar 1 (a0 :: some w :: r) c = .ok w c := rfl
theorem e_g1 (o : W → W → Cells → Out W) (f : Den) : sAug 1 o f (a0 :: some w :: r) c = (f (a0 :: some w :: r) c).st (a0 :: some w :: r) fun w1 c1 => (o w w1 c1).st (a0 :: some w :: r) fun w2 c2 => .nx (a0 :: some w2 :: r) c2 := rfl
theorem e_s1 (x : Option W) : (a0 :: a1 :: r).set 1 x = a0 :: x :: r := rfl
theorem e_v2 : dVar 2 (a0 :: a1 :: some w :: r) c = .ok w c := rfl
theorem e_g2 (o : W → W → Cells → Out W) (f : Den) : sAug 2 o f (a0 :: a1 :: some w :: r) c = (f (a0 :: a1 :: some w :: r) c).st (a0 :: a1 :: some w :: r) fun w1 c1 => (o w w1 c1).st (a0 :: a1 :: some w :: r) fun w2 c2 => .nx (a0 :: a1 :: some w2 :: r) c2 := rfl
theorem e_s2 (x : Option W) : (a0 :: a1 :: a2 :: r).set 2 x = a0 :: a1 :: x :: r := rfl
theorem e_v3 : dVar 3 (a0 :: a1 :: a2 :: some w :: r) c = .ok w c := rfl
theorem e_g3 (o : W → W → Cells → Out W) (f : Den) : sAug 3 o f (a0 :: a1 :: a2 :: some w :: r) c = (f (a0 :: a1 :: a2 :: some w :: r) c).st (a0 :: a1 :: a2 :: some w :: r) fun w1 c1 => (o w w1 c1).st (a0 :: a1 :: a2 :: some w :: r) fun w2 c2 => .nx (a0 :: a1 :: a2 :: some w2 :: r) c2 := rfl
theorem e_s3 (x : Option W) : (a0 :: a1 :: a2 :: a3 :: r).set 3 x = a0 :: a1 :: a2 :: x :: r := rfl
theorem e_v4 : dVar 4 (a0 :: a1 :: a2 :: a3 :: some w :: r) c = .ok w c := rfl
theorem e_g4 (o : W → W → Cells → Out W) (f : Den) : sAug 4 o f (a0 :: a1 :: a2 :: a3 :: some w :: r) c = (f (a0 :: a1 :: a2 :: a3 :: some w :: r) c).st (a0 :: a1 :: a2 :: a3 :: some w :: r) fun w1 c1 => (o w w1 c1).st (a0 :: a1 :: a2 :: a3 :: some w :: r) fun w2 c2 => .nx (a0 :: a1 :: a2 :: a3 :: some w2 :: r) c2 := rfl
theorem e_s4 (x : Option W) : (a0 :: a1 :: a2 :: a3 :: a4 :: r).set 4 x = a0 :: a1 :: a2 :: a3 :: x :: r := rfl
theorem e_v5 : dVar 5 (a0 :: a1 :: a2 :: a3 :: a4 :: some w :: r) c = .ok w c := rfl
theorem e_g5 (o : W → W → Cells → Out W) (f : Den) : sAug 5 o f (a0 :: a1 :: a2 :: a3 :: a4 :: some w :: r) c = (f (a0 :: a1 :: a2 :: a3 :: a4 :: some w :: r) c).st (a0 :: a1 :: a2 :: a3 :: a4 :: some w :: r) fun w1 c1 => (o w w1 c1).st (a0 :: a1 :: a2 :: a3 :: a4 :: some w :: r) fun w2 c2 => .nx (a0 :: a1 :: a2 :: a3 :: a4 :: some w2 :: r) c2 := rfl
theorem e_s5 (x : Option W) : (a0 :: a1 :: a2 :: a3 :: a4 :: a5 :: r).set 5 x = a0 :: a1 :: a2 :: a3 :: a4 :: x :: r := rfl
theorem e_v6 : dVar 6 (a0 :: a1 :: a2 :: a3 :: a4 :: a5 :: some w :: r) c = .ok w c := rfl
theorem e_g6 (o : W → W → Cells → Out W) (f : Den) : sAug 6 o f (a0 :: a1 :: a2 :: a3 :: a4 :: a5 :: some w :: r) c = (f (a0 :: a1 :: a2 :: a3 :: a4 :: a5 :: some w :: r) c).st (a0 :: a1 :: a2 :: a3 :: a4 :: a5 :: some w :: r) fun w1 c1 => (o w w1 c1).st (a0 :: a1 :: a2 :: a3 :: a4 :: a5 :: some w :: r) fun w2 c2 => .nx (a0 :: a1 :: a2 :: a3 :: a4 :: a5 :: some w2 :: r) c2 := rfl
theorem e_s6 (x : Option W) : (a0 :: a1 :: a2 :: a3 :: a4 :: a5 :: a6 :: r).set 6 x = a0 :: a1 :: a2 :: a3 :: a4 :: a5 :: x :: r := rfl
theorem e_v7 : dVar 7 (a0 :: a1 :: a2 :: a3 :: a4 :: a5 :: a6 :: some w :: r) c = .ok w c := rfl
theorem e_g7 (o : W → W → Cells → Out W) (f : Den) : sAug 7 o f (a0 :: a1 :: a2 :: a3 :: a4 :: a5 :: a6 :: some w :: r) c = (f (a0 :: a1 :: a2 :: a3 :: a4 :: a5 :: a6 :: some w :: r) c).st (a0 :: a1 :: a2 :: a3 :: a4 :: a5 :: a6 :: some w :: r) fun w1 c1 => (o w w1 c1).st (a0 :: a1 :: a2 :: a3 :: a4 :: a5 :: a6 :: some w :: r) fun w2 c2 => .nx (a0 :: a1 :: a2 :: a3 :: a4 :: a5 :: a6 :: some w2 :: r) c2 := rfl
theorem e_s7 (x : Option W) : (a0 :: a1 :: a2 :: a3 :: a4 :: a5 :: a6 :: a7 :: r).set 7 x = a0 :: a1 :: a2 :: a3 :: a4 :: a5 :: a6 :: x :: r := rfl
theorem e_v8 : dVar 8 (a0 :: a1 :: a2 :: a3 :: a4 :: a5 :: a6 :: a7 :: some w :: r) c = .ok w c := rfl
theorem e_g8 (o : W → W → Cells → Out W) (f : Den) : sAug 8 o f (a0 :: a1 :: a2 :: a3 :: a4 :: a5 :: a6 :: a7 :: some w :: r) c = (f (a0 :: a1 :: a2 :: a3 :: a4 :: a5 :: a6 :: a7 :: some w :: r) c).st (a0 :: a1 :: a2 :: a3 :: a4 :: a5 :: a6 :: a7 :: some w :: r) fun w1 c1 => (o w w1 c1).st (a0 :: a1 :: a2 :: a3 :: a4 :: a5 :: a6 :: a7 :: some w :: r) fun w2 c2 => .nx (a0 :: a1 :: a2 :: a3 :: a4 :: a5 :: a6 :: a7 :: some w2 :: r) c2 := rfl
theorem e_s8 (x : Option W) : (a0 :: a1 :: a2 :: a3 :: a4 :: a5 :: a6 :: a7 :: a8 :: r).set 8 x = a0 :: a1 :: a2 :: a3 :: a4 :: a5 :: a6 :: a7 :: x :: r := rfl
theorem e_v9 : dVar 9 (a0 :: a1 :: a2 :: a3 :: a4 :: a5 :: a6 :: a7 :: a8 :: some w :: r) c = .ok w c := rfl
theorem e_g9 (o : W → W → Cells → Out W) (f : Den) : sAug 9 o f (a0 :: a1 :: a2 :: a3 :: a4 :: a5 :: a6 :: a7 :: a8 :: some w :: r) c = (f (a0 :: a1 :: a2 :: a3 :: a4 :: a5 :: a6 :: a7 :: a8 :: some w :: r) c).st (a0 :: a1 :: a2 :: a3 :: a4 :: a5 :: a6 :: a7 :: a8 :: some w :: r) fun w1 c1 => (o w w1 c1).st (a0 :: a1 :: a2 :: a3 :: a4 :: a5 :: a6 :: a7 :: a8 :: some w :: r) fun w2 c2 => .nx (a0 :: a1 :: a2 :: a3 :: a4 :: a5 :: a6 :: a7 :: a8 :: some w2 :: r) c2 := rfl
theorem e_s9 (x : Option W) : (a0 :: a1 :: a2 :: a3 :: a4 :: a5 :: a6 :: a7 :: a8 :: a9 :: r).set 9 x = a0 :: a1 :: a2 :: a3 :: a4 :: a5 :: a6 :: a7 :: a8 :: x :: r := rfl
end
end Pm
namespace Pm
open PySem L2 PyProof.Rows SX
/-- a loop over fixed items -/
def forL (g : W → SDen) (b : SDen) : List D → SDen
  | [], sl, c => .nx sl c
  | d :: ds, sl, c => (g (.d d) sl c).only.andThen fun sl1 c1 => match b sl1 c1 with
      | .nx sl2 c2 => forL g b ds sl2 c2
      | .cnt sl2 c2 => forL g b ds sl2 c2
      | .brk sl2 c2 => .nx sl2 c2
      | .ret w c2 => .ret w c2
      | .exc sl2 x pl c2 => .exc sl2 x pl c2
      | .bad => .bad
theorem loopF_fix {item : Items} {ds : List D} (hi : ∀ i c, item i c = some ds[i]?) (g : W → SDen) (b : SDen) : ∀ (es : List D) (m i : Nat) (sl : Sl) (c : Cells), ds.drop i = es → es.length < m → loopF item g b m i sl c = forL g b es sl c
  | [], m, i, sl, c, e, h => by
    obtain ⟨m, rfl⟩ : ∃ k, m = k + 1 := ⟨m - 1, by omega⟩
    have : ds[i]? = none := List.getElem?_eq_none (List.drop_eq_nil_iff.mp e)
    unfold loopF forL
    rw [hi, this]
  | d :: es, m, i, sl, c, e, h => by
    obtain ⟨m, rfl⟩ : ∃ k, m = k + 1 := ⟨m - 1, by omega⟩
    have hlt : i < ds.length := by
      rcases Nat.lt_or_ge i ds.length with h2 | h2
      · exact h2
      · rw [List.drop_eq_nil_of_le h2] at e; cases e
    have e2 := List.drop_eq_getElem_cons hlt
    rw [e] at e2
    injection e2 with e3 e4
    have : ds[i]? = some d := by rw [e3]; simp [hlt]
    unfold loopF forL
    rw [hi, this]
    dsimp only
    refine congrArg (fun k => ((g (.d d) sl c).only).andThen k) ?_
    funext sl1 c1
    have ih := fun sl2 c2 => loopF_fix hi g b es m (i + 1) sl2 c2 e4.symm (by simp at h; omega)
    cases b sl1 c1 with
    | nx sl2 c2 => exact ih sl2 c2
    | cnt sl2 c2 => exact ih sl2 c2
    | _ => rfl
theorem e_forT (sl : Sl) (c : Cells) (ds : List D) (g : W → SDen) (b : SDen) (h : ds.length < 1000000000) : sFor (iTupD (dC (.tup ds))) g b sl c = forL g b ds sl c := by
  unfold sFor iTupD
  simp only [e_c, Out.bind_ok, rd_d, Out.st_ok]
  have h2 : ds.length < bigN := by unfold bigN; exact h
  generalize bigN = m at h2 ⊢
  exact loopF_fix (item := tupItems (.d (.tup ds))) (fun i c => rfl) g b ds m 0 sl c rfl h2
section
variable (c : Cells) (a b d : D)
theorem fr0 : frzAll [] c = .ok [] c := rfl
theorem fr1 : frzAll [.d a] c = .ok [a] c := rfl
theorem fr2 : frzAll [.d a, .d b] c = .ok [a, b] c := rfl
theorem fr3 : frzAll [.d a, .d b, .d d] c = .ok [a, b, d] c := rfl
theorem mk0 : mkL [] c = .ok (.c c.length) (c ++ [.lst []]) := rfl
theorem mkT_of {ds : List D} (h : ds.length ≤ 1000000) : mkT ds c = .ok (.d (.tup ds)) c := if_pos h
theorem mkL_of {ds : List D} (h : ds.length ≤ 1000000) : mkL ds c = .ok (.c c.length) (c ++ [.lst ds]) := if_pos h
theorem mkT1 : mkT [a] c = .ok (.d (.tup [a])) c := mkT_of c (by simp)
theorem mkT2 : mkT [a, b] c = .ok (.d (.tup [a, b])) c := mkT_of c (by simp)
theorem mkT3 : mkT [a, b, d] c = .ok (.d (.tup [a, b, d])) c := mkT_of c (by simp)
theorem o_isN : isN (.d d) = (match d with | .non => true | _ => false) := by cases d <;> rfl
theorem rz1 (x f : Str) (as : Sl → Cells → Out (List W)) (sl : Sl) (c1 : Cells) (h : as sl c = .ok [.d d] c1) : sRaise x [f] as sl c = .exc sl x [(f, d)] c1 := by
  unfold sRaise
  rw [h]
  simp only [Out.st_ok, fr1]
  rw [if_pos ⟨rfl, by simp, by simp⟩]
  rfl
end
theorem sw_S (t u : List Nat) (n : Nat) (h : u ≠ []) : Txt.startswith3 (S t) (S u) (n : Int) = decide ((t.drop n).take u.length = u) := by
  unfold Txt.startswith3
  have e2 : PySem.fromIndex (S t).length (n : Int) = n := by
    unfold PySem.fromIndex
    rw [if_neg (by omega)]
    omega
  rw [e2]
  unfold Builtin.Str.subAt
  rw [S_len, S_len]
  have e3 : ((S t).cps.extract n (n + u.length) == (S u).cps) = decide ((t.drop n).take u.length = u) := by
    have : (S t).cps.extract n (n + u.length) = ((t.drop n).take u.length).toArray := by
      simp [S, List.extract_toArray, List.extract_eq_take_drop]
    rw [this]
    by_cases h : (t.drop n).take u.length = u
    · rw [h]; simp
    · simp [h]
  rw [e3]
  by_cases h2 : (t.drop n).take u.length = u
  · have : 0 < u.length := List.length_pos_iff.mpr h
    have hl := congrArg List.length h2
    rw [List.length_take, List.length_drop] at hl
    rw [decide_eq_true (by omega : n + u.length ≤ t.length)]
    simp
  · simp [h2]
end Pm
namespace Pm
open PySem L2 PyProof.Rows SX
theorem e_gt (i : Nat) (w : W) (sl : Sl) (c : Cells) : gtName i w sl c = .nx (sl.set i (some w)) c := rfl
theorem e_gtT (n : Nat) (h : List D → SDen) (ds : List D) (sl : Sl) (c : Cells) : gtTup n h (.d (.tup ds)) sl c = if ds.length = n then h ds sl c else .bad := rfl
theorem e_gtC (g : W → SDen) (h : List D → SDen) (d : D) (ds : List D) (sl : Sl) (c : Cells) : gtCons g h (d :: ds) sl c = (g (.d d) sl c).andThen (h ds) := rfl
theorem e_gtN (sl : Sl) (c : Cells) : gtNil [] sl c = .nx sl c := rfl
theorem forL_cons (g : W → SDen) (b : SDen) (d : D) (ds : List D) (sl : Sl) (c : Cells) : forL g b (d :: ds) sl c = (g (.d d) sl c).only.andThen fun sl1 c1 => match b sl1 c1 with
      | .nx sl2 c2 => forL g b ds sl2 c2
      | .cnt sl2 c2 => forL g b ds sl2 c2
      | .brk sl2 c2 => .nx sl2 c2
      | .ret w c2 => .ret w c2
      | .exc sl2 x pl c2 => .exc sl2 x pl c2
      | .bad => .bad := rfl
theorem loopW_succ (t : Sl → Cells → Out Bool) (b : SDen) (m : Nat) (sl : Sl) (c : Cells) : loopW t b (m + 1) sl c = (t sl c).st sl fun v c1 => if v = true then (match b sl c1 with
      | .nx sl2 c2 => loopW t b m sl2 c2
      | .cnt sl2 c2 => loopW t b m sl2 c2
      | .brk sl2 c2 => .nx sl2 c2
      | .ret w c2 => .ret w c2
      | .exc sl2 x pl c2 => .exc sl2 x pl c2
      | .bad => .bad) else .nx sl c1 := rfl
/-! ### the newest cell -/
section
variable (c : Cells) (o o' : O) (acc : List D) (d : D)
theorem ca_get : (c ++ [o])[c.length]? = some o := by simp
theorem ca_set : (c ++ [o]).set c.length o' = c ++ [o'] := by simp
theorem ca_take : (c ++ [o]).take c.length = c := by simp
theorem ca_rd : rd (c ++ [.lst acc]) (.c c.length) = some (.lst acc) := by
  show ((c ++ [O.lst acc])[c.length]?).map O.val = _
  rw [ca_get]; rfl
theorem ca_ty : tyOk "list" (c ++ [.lst acc]) (.c c.length) = true := by unfold tyOk; rw [ca_rd]; rfl
theorem o_app (h : acc.length < 1000000) : oAppend (.c c.length) [.d d] (c ++ [.lst acc]) = .ok (.d .non) (c ++ [.lst (acc ++ [d])]) := by
  unfold oAppend
  dsimp only
  rw [show fz (.d d) (c ++ [O.lst acc]) = .ok d (c ++ [O.lst acc]) from rfl, Out.bind_ok, ca_get]
  dsimp only
  rw [if_pos h, ca_set]
theorem fin_cell : finR c.length (.ret (.c c.length) (c ++ [.lst acc])) = .ok (.c c.length) (c ++ [.lst acc]) := finR_cell c (.lst acc) [] (fun d h => by cases h)
theorem fz_cell : fz (.c c.length) (c ++ [.lst acc]) = .ok (.lst acc) (c ++ [.frz (.lst acc)]) := by
  unfold fz
  dsimp only
  rw [ca_get]
  dsimp only
  rw [ca_set]
  rfl
end
end Pm
namespace Pm
open PySem L2 PyProof.Rows SX
theorem ca_take1 (c : Cells) (o : O) : (c ++ [o]).take (c.length + 1) = c ++ [o] := List.take_of_length_le (by simp)
theorem fz_d (d : D) (c : Cells) : fz (.d d) c = .ok d c := rfl
theorem loopC_map {item : Items} {ds : List D} {one : Bool} {is vs : List Nat} {f : Den} {sl : Sl} {c0 : Cells} (hi : ∀ i c, item i c = some ds[i]?) (h : D → D) (hs : ∀ d ∈ ds, ∃ sl1, storeC one is d (wipeS sl vs) = some sl1 ∧ ∀ c, f sl1 c = .ok (.d (h d)) c) :
    ∀ (es : List D) (m i : Nat) (acc : List D), ds.drop i = es → es.length < m → acc.length + es.length ≤ 1000000 → loopC item one is vs tYesD f sl c0.length m i (c0 ++ [.lst acc]) = .ok (.c c0.length) (c0 ++ [.lst (acc ++ es.map h)])
  | [], m, i, acc, e, hm, hl => by
    obtain ⟨m, rfl⟩ : ∃ k, m = k + 1 := ⟨m - 1, by omega⟩
    have : ds[i]? = none := List.getElem?_eq_none (List.drop_eq_nil_iff.mp e)
    unfold loopC
    rw [hi, this]
    dsimp only
    rw [ca_take1, List.map_nil, List.append_nil]
  | d :: es, m, i, acc, e, hm, hl => by
    obtain ⟨m, rfl⟩ : ∃ k, m = k + 1 := ⟨m - 1, by omega⟩
    have hlt : i < ds.length := by
      rcases Nat.lt_or_ge i ds.length with h2 | h2
      · exact h2
      · rw [List.drop_eq_nil_of_le h2] at e; cases e
    have e2 := List.drop_eq_getElem_cons hlt
    rw [e] at e2
    injection e2 with e3 e4
    have e5 : ds[i]? = some d := by rw [e3]; simp [hlt]
    obtain ⟨sl1, s1, s2⟩ := hs d (List.mem_of_getElem? e5)
    unfold loopC
    rw [hi, e5]
    dsimp only
    rw [s1]
    dsimp only
    simp only [tYesD, Out.ne_ok, Out.bind_ok, if_true, s2, fz_d, ca_get]
    rw [if_pos (by simp at hl; omega), ca_set, ca_take1]
    have ih := loopC_map (c0 := c0) hi h hs es m (i + 1) (acc ++ [h d]) e4.symm (by simp at hm; omega) (by simp at hl ⊢; omega)
    rw [List.map_cons, show acc ++ h d :: es.map h = (acc ++ [h d]) ++ es.map h by simp]
    exact ih
theorem e_lcS {t : List Nat} {i : Nat} {f : Den} {sl : Sl} {c : Cells} {g : Den} (h : Nat → D) (hg : g sl c = .ok (.d (.str (S t))) c) (hl : t.length ≤ 1000) (hf : ∀ x ∈ t, ∀ c, f ((wipeS sl [i]).set i (some (.d (.str (S [x]))))) c = .ok (.d (h x)) c) :
    dLc (iStrD g) true [i] [i] tYesD f sl c = .ok (.c c.length) (c ++ [.lst (t.map h)]) := by
  unfold dLc iStrD
  rw [hg]
  simp only [Out.bind_ok, rd_d]
  have key := loopC_map (item := strItems (S t)) (ds := t.map fun x => .str (S [x])) (one := true) (is := [i]) (vs := [i]) (f := f) (sl := sl) (c0 := c)
    (fun j c => by
      unfold strItems
      rw [List.getElem?_map, ← Array.getElem?_toList])
    (fun d => match d with | .str z => h (z.cps.toList.headD 0) | d => d)
    (fun d hd => by
      obtain ⟨x, hx, rfl⟩ := List.mem_map.mp hd
      exact ⟨_, rfl, fun c => hf x hx c⟩)
    (t.map fun x => .str (S [x])) bigN 0 [] rfl (by rw [List.length_map]; unfold bigN; omega) (by simp; omega)
  rw [key, List.map_map, List.nil_append]
  rfl
theorem bls_map (t : List Nat) (p : Nat → Bool) : blsD (t.map fun x => .bl (p x)) = some (t.map p) := by
  induction t with
  | nil => rfl
  | cons x t ih => rw [List.map_cons]; unfold blsD; rw [ih]; rfl
theorem o_all (c : Cells) (t : List Nat) (p : Nat → Bool) : oAll [.c c.length] (c ++ [.lst (t.map fun x => .bl (p x))]) = .ok (.d (.bl (t.all p))) (c ++ [.lst (t.map fun x => .bl (p x))]) := by
  unfold oAll
  dsimp only
  rw [ca_rd]
  dsimp only
  rw [bls_map]
  dsimp only
  rw [List.all_map]
  rfl
theorem fin_new {c d : Cells} (acc : List D) (h : d.take c.length = c) (h2 : c.length ≤ d.length) : finR c.length (.ret (.c d.length) (d ++ [.lst acc])) = .ok (.c c.length) (c ++ [.lst acc]) := by
  unfold finR fin
  dsimp only
  rw [if_neg (by omega), ca_get]
  dsimp only
  rw [List.take_append_of_le_length h2, h]
end Pm
namespace Pm
open PySem L2 PyProof.Rows SX
theorem fr_c (c : Cells) (acc : List D) (d : D) : frzAll [.c c.length, .d d] (c ++ [.lst acc]) = .ok [.lst acc, d] (c ++ [.frz (.lst acc)]) := by
  show (fz (.c c.length) (c ++ [.lst acc])).bind _ = _
  rw [fz_cell]
  rfl
theorem o_ixT1 (c : Cells) (a b d : D) : oIx (.d (.tup [a, b, d])) (.d (.int 1)) c = .ok (.d b) c := rfl
theorem isN_non : isN (.d .non) = true := rfl
theorem isN_tup (ds : List D) : isN (.d (.tup ds)) = false := rfl
theorem e_neg (f : Den) (sl : Sl) (c : Cells) (i : Int) (h : f sl c = .ok (.d (.int i)) c) : dNeg f sl c = .ok (.d (.int (-i))) c := by unfold dNeg; rw [h]; rfl
end Pm
namespace Pm
open PySem L2 PyProof.Rows
theorem fld_one {K : PySem.W.Frag} {fa : Fa} {x f : Str} {C : Addr} (m : fa.f x = some C) (h : XfC K C) (n : PySem.W.findIn K (.ref C) f = some none) : FldOk K fa [x] [f] := fun y hy D hD => by
  rw [List.mem_singleton] at hy
  subst hy
  rw [m] at hD
  cases hD
  exact ⟨h, fun g hg => by rw [List.mem_singleton] at hg; subst hg; exact n⟩
theorem isi_one {K : PySem.W.Frag} {fa : Fa} {x : Str} {C : Addr} (m : fa.f x = some C) (h : ExcC K C) : ∀ y ∈ [x], ∀ D, fa.f y = some D → ExcC K D := fun y hy D hD => by
  rw [List.mem_singleton] at hy
  subst hy
  rw [m] at hD
  cases hD
  exact h
end Pm

/-! the text: changedsame_k11_tokens_by_own_walk -/
namespace Pm
open PySem L2 PyProof.Rows

def top (i : Nat) : Stmt := PySem.Challenge.pw_changedsame_k11_tokens_by_own_walk.main.body.getD i (.Pass ⟨0, 0, 0, 0⟩)
abbrev s__law_pot : Stmt := top 21
abbrev s_is_run : Stmt := top 4
abbrev s_is_short_big : Stmt := top 6
abbrev s_is_digits : Stmt := top 19
abbrev s_is_short_name : Stmt := top 5
abbrev s_run_end : Stmt := top 16
abbrev s_run_token : Stmt := top 18
abbrev s_token_at : Stmt := top 17
abbrev s_line_end : Stmt := top 15
abbrev s_tokens_of : Stmt := top 14
abbrev s__law_words : Stmt := top 24
abbrev s__law_run_kind : Stmt := top 27
abbrev s__law_is_alnum : Stmt := top 25
abbrev s__law_run : Stmt := top 26
abbrev s__law_token : Stmt := top 28
abbrev s__law_tokens : Stmt := top 29
abbrev s__law_heard : Stmt := top 32
abbrev s__law_draw : Stmt := top 22
abbrev s__law_pick : Stmt := top 23
abbrev s__law_piece : Stmt := top 30
abbrev s__law_text : Stmt := top 31
abbrev s__law_right : Stmt := top 33
abbrev s_law : Stmt := top 34
abbrev si_BadText : Stmt := inClass (top 10) 0
abbrev si_InvalidText : Stmt := inClass (top 9) 0
def c_GREATEST : D := .int 2147483647
def k_KEYWORDS : List Str := (["and", "array", "ask", "at", "bool", "do", "else", "end", "exception", "exn", "false", "fn", "if", "in", "int", "let", "match", "mod", "module", "not", "of", "place", "raise", "rec", "ref", "same", "show", "size", "tell", "then", "true", "try", "type", "unit", "with"] : List String).map Str.ofString
def c_KEYWORDS : D := .tup (k_KEYWORDS.map D.str)
def c_LONGEST_NAME : D := .int 20
def c_LONGEST_NUMBER : D := .int 10
def k_SIGNS : List Str := (["<=", ":=", "->", "(", ")", ",", ";", "|", "'", "!", "+", "-", "*", "/", "=", "<", "_"] : List String).map Str.ofString
def c_SIGNS : D := .tup (k_SIGNS.map D.str)
theorem b_abs : bootBuiltins "abs" = some (.builtin "abs") := by decide +kernel
theorem b_all : bootBuiltins "all" = some (.builtin "all") := by decide +kernel
theorem b_divmod : bootBuiltins "divmod" = some (.builtin "divmod") := by decide +kernel
theorem b_int : bootBuiltins "int" = some (.type "int") := by decide +kernel
theorem b_isinstance : bootBuiltins "isinstance" = some (.builtin "isinstance") := by decide +kernel
theorem b_len : bootBuiltins "len" = some (.builtin "len") := by decide +kernel
theorem b_max : bootBuiltins "max" = some (.builtin "max") := by decide +kernel
theorem b_range : bootBuiltins "range" = some (.type "range") := by decide +kernel
theorem b_repr : bootBuiltins "repr" = some (.builtin "repr") := by decide +kernel
theorem b_str : bootBuiltins "str" = some (.type "str") := by decide +kernel
def subT : List ((Str × Str) × Bool) := [(("BadText", "BadText"), true), (("BadText", "ChangeError"), true), (("BadText", "InvalidText"), false), (("InvalidText", "BadText"), false), (("InvalidText", "ChangeError"), true), (("InvalidText", "InvalidText"), true)]
abbrev sub : Str → Str → Option Bool := subOf subT
def d__law_pot : SDen := (sCons (sSet 2 (dBin oAdd (dBin oMul (dC (.int 113)) (dVar 1)) (dC (.int 53))))
    (sCons (sIf (dTest (dBin oLt (dVar 1) (dCall oLen (dCons (dVar 0) dNil)))) (sSet 2 (dCall oAbs (dCons (dBin oIx (dVar 0) (dVar 1)) dNil))) OS.nx)
    (sRet (dLst (dCons (dCall oMax2 (dCons (dC (.int 0)) (dCons (dBin oSub (dVar 2) (dBin oPow (dC (.int 10)) (dC (.int 18)))) dNil))) (dCons (dBin oAdd (dBin oMod (dBin oMul (dCall oInt (dCons (dBin oAdd (dBin oMod (dCall oInt (dCons (dVar 2) dNil)) (dC (.int 2147483549))) (dC (.int 53))) dNil)) (dBin oPow (dBin oAdd (dBin oMul (dC (.int 2)) (dVar 1)) (dC (.int 3))) (dC (.int 3)))) (dC (.int 2147483477))) (dC (.int 1))) dNil))))))
def g__law_pot : List W → Cells → Out W := runB 3 d__law_pot
def d_is_run : SDen := (sRet (dAndV (dCall oIsi (dCons (dVar 0) (dCons (dC (.ty "str")) dNil))) (dAndV (dMeth "str" (oS0 fun a => .bl (Txt.isascii a)) (dVar 0) dNil) (dMeth "str" (oS0 fun a => .bl (Txt.isalnum a)) (dVar 0) dNil))))
def g_is_run : List W → Cells → Out W := runB 1 d_is_run
def d_is_short_big : SDen := (sRet (dAndV (dCallN 1 g_is_run (dCons (dVar 0) dNil)) (dAndV (dBin oLe (dCall oLen (dCons (dVar 0) dNil)) (dC c_LONGEST_NAME)) (dMeth "str" (oS0 fun a => .bl (Txt.isupper a)) (dBin oIx (dVar 0) (dC (.int 0))) dNil))))
def g_is_short_big : List W → Cells → Out W := runB 1 d_is_short_big
def d_is_digits : SDen := (sCons (sIf (dOr (dNot (dTest (dMeth "str" (oS0 fun a => .bl (Txt.isdigit a)) (dVar 0) dNil))) (dOr (dTest (dBin oGt (dCall oLen (dCons (dVar 0) dNil)) (dC c_LONGEST_NUMBER))) (dAnd (dTest (dBin oEq (dBin oIx (dVar 0) (dC (.int 0))) (dC (.str "0")))) (dTest (dBin oGt (dCall oLen (dCons (dVar 0) dNil)) (dC (.int 1))))))) (sRet (dC (.bl false))) OS.nx)
    (sRet (dBin oLe (dCall oInt (dCons (dVar 0) dNil)) (dVar 1))))
def g_is_digits : List W → Cells → Out W := runB 2 d_is_digits
def d_is_short_name : SDen := (sRet (dAndV (dCallN 1 g_is_run (dCons (dVar 0) dNil)) (dAndV (dBin oLe (dCall oLen (dCons (dVar 0) dNil)) (dC c_LONGEST_NAME)) (dAndV (dMeth "str" (oS0 fun a => .bl (Txt.islower a)) (dBin oIx (dVar 0) (dC (.int 0))) dNil) (dBin (oIn true) (dVar 0) (dC c_KEYWORDS))))))
def g_is_short_name : List W → Cells → Out W := runB 1 d_is_short_name
def d_run_end : SDen := (sCons (sSet 2 (dVar 1))
    (sCons (sWhile (dAnd (dTest (dBin oLt (dVar 2) (dCall oLen (dCons (dVar 0) dNil)))) (dTest (dCallN 1 g_is_run (dCons (dBin oIx (dVar 0) (dVar 2)) dNil)))) (sAug 2 oIadd (dC (.int 1))))
    (sRet (dVar 2))))
def g_run_end : List W → Cells → Out W := runB 3 d_run_end
def d_run_token : SDen := (sCons (sSet 2 (dCallN 2 g_run_end (dCons (dVar 0) (dCons (dVar 1) dNil))))
    (sCons (sSet 3 (dSl (dVar 0) (pSome (dVar 1)) (pSome (dVar 2))))
    (sCons (sIf (dTest (dCallN 2 g_is_digits (dCons (dVar 3) (dCons (dC c_GREATEST) dNil)))) (sRet (dTup (dCons (dC (.str "number")) (dCons (dVar 2) dNil)))) OS.nx)
    (sCons (sIf (dTest (dBin (oIn false) (dVar 3) (dC c_KEYWORDS))) (sRet (dTup (dCons (dC (.str "word")) (dCons (dVar 2) dNil)))) OS.nx)
    (sCons (sIf (dTest (dCallN 1 g_is_short_name (dCons (dVar 3) dNil))) (sRet (dTup (dCons (dC (.str "name")) (dCons (dVar 2) dNil)))) OS.nx)
    (sCons (sIf (dNot (dTest (dCallN 1 g_is_short_big (dCons (dVar 3) dNil)))) (sRaise "BadText" ["position"] (dCons (dVar 1) dNil)) OS.nx)
    (sCons (sIf (dTest (dMeth "str" (oSI fun a b i => .bl (Txt.startswith3 a b i)) (dVar 0) (dCons (dC (.str ".")) (dCons (dVar 2) dNil)))) (sCons (sSet 4 (dCallN 2 g_run_end (dCons (dVar 0) (dCons (dBin oAdd (dVar 2) (dC (.int 1))) dNil))))
    (sCons (sIf (dTest (dCallN 1 g_is_short_name (dCons (dSl (dVar 0) (pSome (dBin oAdd (dVar 2) (dC (.int 1)))) (pSome (dVar 4))) dNil))) (sRet (dTup (dCons (dC (.str "name")) (dCons (dVar 4) dNil)))) OS.nx)
    (sIf (dTest (dCallN 1 g_is_short_big (dCons (dSl (dVar 0) (pSome (dBin oAdd (dVar 2) (dC (.int 1)))) (pSome (dVar 4))) dNil))) (sRet (dTup (dCons (dC (.str "big")) (dCons (dVar 4) dNil)))) OS.nx))) OS.nx)
    (sRet (dTup (dCons (dC (.str "big")) (dCons (dVar 2) dNil)))))))))))
def g_run_token : List W → Cells → Out W := runB 5 d_run_token
def d_token_at : SDen := (sCons (sIf (dTest (dCallN 1 g_is_run (dCons (dBin oIx (dVar 0) (dVar 1)) dNil))) (sRet (dCallN 2 g_run_token (dCons (dVar 0) (dCons (dVar 1) dNil)))) OS.nx)
    (sCons (sIf (dTest (dBin oEq (dBin oIx (dVar 0) (dVar 1)) (dC (.str "~")))) (sCons (sSet 2 (dCallN 2 g_run_end (dCons (dVar 0) (dCons (dBin oAdd (dVar 1) (dC (.int 1))) dNil))))
    (sCons (sIf (dAnd (dTest (dBin oNe (dSl (dVar 0) (pSome (dBin oAdd (dVar 1) (dC (.int 1)))) (pSome (dVar 2))) (dC (.str "0")))) (dTest (dCallN 2 g_is_digits (dCons (dSl (dVar 0) (pSome (dBin oAdd (dVar 1) (dC (.int 1)))) (pSome (dVar 2))) (dCons (dBin oAdd (dC c_GREATEST) (dC (.int 1))) dNil))))) (sRet (dTup (dCons (dC (.str "number")) (dCons (dVar 2) dNil)))) OS.nx)
    (sRaise "BadText" ["position"] (dCons (dVar 1) dNil)))) OS.nx)
    (sCons (sFor (iTupD (dC c_SIGNS)) (gtName 3) (sIf (dTest (dMeth "str" (oSI fun a b i => .bl (Txt.startswith3 a b i)) (dVar 0) (dCons (dVar 3) (dCons (dVar 1) dNil)))) (sRet (dTup (dCons (dC (.str "sign")) (dCons (dBin oAdd (dVar 1) (dCall oLen (dCons (dVar 3) dNil))) dNil)))) OS.nx))
    (sRaise "BadText" ["position"] (dCons (dVar 1) dNil)))))
def g_token_at : List W → Cells → Out W := runB 4 d_token_at
def d_line_end : SDen := (sCons (sSet 2 (dMeth "str" (oSI fun a b i => .int (Txt.find3 a b i)) (dVar 0) (dCons (dC (.str "\n")) (dCons (dVar 1) dNil))))
    (sRet (dIf (dTest (dBin oLt (dVar 2) (dC (.int 0)))) (dCall oLen (dCons (dVar 0) dNil)) (dVar 2))))
def g_line_end : List W → Cells → Out W := runB 3 d_line_end
def d_tokens_of : SDen := (sCons (sIf (dNot (dTest (dCall oIsi (dCons (dVar 0) (dCons (dC (.ty "str")) dNil))))) (sRaise "InvalidText" ["value"] (dCons (dVar 0) dNil)) OS.nx)
    (sCons (sSet 1 (dLst dNil))
    (sCons (sSet 2 (dC (.int 0)))
    (sCons (sWhile (dTest (dBin oLt (dVar 2) (dCall oLen (dCons (dVar 0) dNil)))) (sIf (dOr (dTest (dBin oEq (dBin oIx (dVar 0) (dVar 2)) (dC (.str " ")))) (dTest (dBin oEq (dBin oIx (dVar 0) (dVar 2)) (dC (.str "\n"))))) (sAug 2 oIadd (dC (.int 1))) (sIf (dTest (dBin oEq (dBin oIx (dVar 0) (dVar 2)) (dC (.str "#")))) (sSet 2 (dCallN 2 g_line_end (dCons (dVar 0) (dCons (dVar 2) dNil)))) (sCons (sAsg (dCallN 2 g_token_at (dCons (dVar 0) (dCons (dVar 2) dNil))) (gtTup 2 (gtCons (gtName 3) (gtCons (gtName 4) gtNil))))
    (sCons (sExp (dMeth "list" oAppend (dVar 1) (dCons (dTup (dCons (dVar 3) (dCons (dSl (dVar 0) (pSome (dVar 2)) (pSome (dVar 4))) (dCons (dVar 2) dNil)))) dNil)))
    (sSet 2 (dVar 4)))))))
    (sRet (dVar 1))))))
def g_tokens_of : List W → Cells → Out W := runB 5 d_tokens_of
def d__law_words : SDen := (sCons (sSet 0 (dC (.str "and array ask at bool do else end exception exn false fn if in int let match mod module")))
    (sCons (sSet 1 (dC (.str "not of place raise rec ref same show size tell then true try type unit with")))
    (sRet (dBin oAdd (dMeth "str" oSplit (dVar 0) (dCons (dC (.str " ")) dNil)) (dMeth "str" oSplit (dVar 1) (dCons (dC (.str " ")) dNil))))))
def g__law_words : List W → Cells → Out W := runB 2 d__law_words
def d__law_run_kind : SDen := (sCons (sIf (dTest (dBin oEq (dVar 0) (dC (.str "")))) (sRet (dC (.str ""))) OS.nx)
    (sCons (sIf (dTest (dBin (oIn false) (dBin oIx (dVar 0) (dC (.int 0))) (dC (.str "0123456789")))) (sCons (sSet 1 (dAndV (dCall oAll (dCons (dLc (iStrD (dVar 0)) true [2] [2] tYesD (dBin (oIn false) (dVar 2) (dC (.str "0123456789")))) dNil)) (dOrV (dBin oEq (dVar 0) (dC (.str "0"))) (dBin oNe (dBin oIx (dVar 0) (dC (.int 0))) (dC (.str "0"))))))
    (sRet (dIf (dAnd (dTest (dVar 1)) (dOr (dTest (dBin oLt (dCall oLen (dCons (dVar 0) dNil)) (dC (.int 10)))) (dAnd (dTest (dBin oEq (dCall oLen (dCons (dVar 0) dNil)) (dC (.int 10)))) (dTest (dBin oLt (dCall oInt (dCons (dVar 0) dNil)) (dC (.int 2147483648))))))) (dC (.str "number")) (dC (.str ""))))) OS.nx)
    (sCons (sIf (dTest (dBin (oIn false) (dVar 0) (dCallN 0 g__law_words dNil))) (sRet (dC (.str "word"))) OS.nx)
    (sCons (sIf (dTest (dBin oGt (dCall oLen (dCons (dVar 0) dNil)) (dC (.int 20)))) (sRet (dC (.str ""))) OS.nx)
    (sRet (dIf (dTest (dBin (oIn false) (dBin oIx (dVar 0) (dC (.int 0))) (dC (.str "abcdefghijklmnopqrstuvwxyz")))) (dC (.str "name")) (dC (.str "big"))))))))
def g__law_run_kind : List W → Cells → Out W := runB 3 d__law_run_kind
def d__law_is_alnum : SDen := (sRet (dAndV (dBin oNe (dVar 0) (dC (.str ""))) (dBin (oIn false) (dVar 0) (dC (.str "abcdefghijklmnopqrstuvwxyzABCDEFGHIJKLMNOPQRSTUVWXYZ0123456789")))))
def g__law_is_alnum : List W → Cells → Out W := runB 1 d__law_is_alnum
def d__law_run : SDen := (sCons (sSet 2 (dVar 1))
    (sCons (sWhile (dTest (dCallN 1 g__law_is_alnum (dCons (dSl (dVar 0) (pSome (dVar 2)) (pSome (dBin oAdd (dVar 2) (dC (.int 1))))) dNil))) (sSet 2 (dBin oAdd (dVar 2) (dC (.int 1)))))
    (sRet (dSl (dVar 0) (pSome (dVar 1)) (pSome (dVar 2))))))
def g__law_run : List W → Cells → Out W := runB 3 d__law_run
def d__law_token : SDen := (sCons (sSet 2 (dCallN 2 g__law_run (dCons (dVar 0) (dCons (dVar 1) dNil))))
    (sCons (sSet 3 (dCallN 1 g__law_run_kind (dCons (dVar 2) dNil)))
    (sCons (sIf (dTest (dBin oNe (dVar 2) (dC (.str "")))) (sCons (sSet 4 (dIf (dAnd (dTest (dBin oEq (dVar 3) (dC (.str "big")))) (dTest (dBin oEq (dSl (dVar 0) (pSome (dBin oAdd (dVar 1) (dCall oLen (dCons (dVar 2) dNil)))) (pSome (dBin oAdd (dBin oAdd (dVar 1) (dCall oLen (dCons (dVar 2) dNil))) (dC (.int 1))))) (dC (.str "."))))) (dCallN 2 g__law_run (dCons (dVar 0) (dCons (dBin oAdd (dBin oAdd (dVar 1) (dCall oLen (dCons (dVar 2) dNil))) (dC (.int 1))) dNil))) (dC (.str ""))))
    (sCons (sIf (dTest (dBin (oIn false) (dCallN 1 g__law_run_kind (dCons (dVar 4) dNil)) (dTup (dCons (dC (.str "name")) (dCons (dC (.str "big")) dNil))))) (sRet (dTup (dCons (dCallN 1 g__law_run_kind (dCons (dVar 4) dNil)) (dCons (dBin oAdd (dBin oAdd (dVar 2) (dC (.str "."))) (dVar 4)) (dCons (dVar 1) dNil))))) OS.nx)
    (sRet (dIf (dTest (dBin oNe (dVar 3) (dC (.str "")))) (dTup (dCons (dVar 3) (dCons (dVar 2) (dCons (dVar 1) dNil)))) (dC .non))))) OS.nx)
    (sCons (sIf (dTest (dBin oEq (dBin oIx (dVar 0) (dVar 1)) (dC (.str "~")))) (sCons (sSet 2 (dCallN 2 g__law_run (dCons (dVar 0) (dCons (dBin oAdd (dVar 1) (dC (.int 1))) dNil))))
    (sCons (sIf (dOr (dTest (dBin oEq (dVar 2) (dC (.str "2147483648")))) (dAnd (dTest (dBin oEq (dCallN 1 g__law_run_kind (dCons (dVar 2) dNil)) (dC (.str "number")))) (dTest (dBin oNe (dVar 2) (dC (.str "0")))))) (sRet (dTup (dCons (dC (.str "number")) (dCons (dBin oAdd (dC (.str "~")) (dVar 2)) (dCons (dVar 1) dNil))))) OS.nx)
    (sRet (dC .non)))) OS.nx)
    (sCons (sIf (dTest (dBin (oIn false) (dSl (dVar 0) (pSome (dVar 1)) (pSome (dBin oAdd (dVar 1) (dC (.int 2))))) (dTup (dCons (dC (.str "<=")) (dCons (dC (.str ":=")) (dCons (dC (.str "->")) dNil)))))) (sRet (dTup (dCons (dC (.str "sign")) (dCons (dSl (dVar 0) (pSome (dVar 1)) (pSome (dBin oAdd (dVar 1) (dC (.int 2))))) (dCons (dVar 1) dNil))))) OS.nx)
    (sRet (dIf (dTest (dBin (oIn false) (dBin oIx (dVar 0) (dVar 1)) (dC (.str "(),;|_'!+-*/=<")))) (dTup (dCons (dC (.str "sign")) (dCons (dBin oIx (dVar 0) (dVar 1)) (dCons (dVar 1) dNil)))) (dC .non))))))))
def g__law_token : List W → Cells → Out W := runB 5 d__law_token
def d__law_tokens : SDen := (sCons (sPar 1 2 (dCons (dLst dNil) (dCons (dC (.int 0)) dNil)))
    (sCons (sWhile (dTest (dBin oLt (dVar 2) (dCall oLen (dCons (dVar 0) dNil)))) (sCons (sIf (dTest (dBin (oIn false) (dBin oIx (dVar 0) (dVar 2)) (dC (.str " \n")))) (sCons (sSet 2 (dBin oAdd (dVar 2) (dC (.int 1))))
    OS.cnt) OS.nx)
    (sCons (sIf (dTest (dBin oEq (dBin oIx (dVar 0) (dVar 2)) (dC (.str "#")))) (sCons (sWhile (dAnd (dTest (dBin oLt (dVar 2) (dCall oLen (dCons (dVar 0) dNil)))) (dTest (dBin oNe (dBin oIx (dVar 0) (dVar 2)) (dC (.str "\n"))))) (sSet 2 (dBin oAdd (dVar 2) (dC (.int 1)))))
    OS.cnt) OS.nx)
    (sCons (sSet 3 (dCallN 2 g__law_token (dCons (dVar 0) (dCons (dVar 2) dNil))))
    (sCons (sIf (dTest (dIsN (dVar 3))) (sRet (dTup (dCons (dVar 1) (dCons (dVar 2) dNil)))) OS.nx)
    (sCons (sExp (dMeth "list" oAppend (dVar 1) (dCons (dVar 3) dNil)))
    (sSet 2 (dBin oAdd (dVar 2) (dCall oLen (dCons (dBin oIx (dVar 3) (dC (.int 1))) dNil))))))))))
    (sRet (dTup (dCons (dVar 1) (dCons (dNeg (dC (.int 1))) dNil))))))
def g__law_tokens : List W → Cells → Out W := runB 4 d__law_tokens
def d__law_heard : SDen := (sCons (sSet 1 (dC .non))
    (sCons (sTry sub (sSet 1 (dCallN 1 g_tokens_of (dCons (dVar 0) dNil))) [("BadText", 2, (sSet 1 (dTup (dCons (dCall oRepr (dCons (dXf ["BadText"] ["position"] "position" (dVar 2)) dNil)) (dCons (dCall (oIsxA sub ["BadText"]) (dCons (dVar 2) (dCons (dC (.fn "ChangeError")) dNil))) dNil))))), ("InvalidText", 2, (sSet 1 (dTup (dCons (dC (.str "text")) (dCons (dCall oRepr (dCons (dXf ["InvalidText"] ["value"] "value" (dVar 2)) dNil)) (dCons (dCall (oIsxA sub ["InvalidText"]) (dCons (dVar 2) (dCons (dC (.fn "ChangeError")) dNil))) dNil))))))])
    (sRet (dVar 1))))
def g__law_heard : List W → Cells → Out W := runB 3 d__law_heard
def d__law_draw : SDen := (sCons (sIf (dTest (dBin oGt (dBin oIx (dVar 0) (dC (.int 0))) (dC (.int 0)))) (sCons (sAsg (dCall oDivmod (dCons (dBin oIx (dVar 0) (dC (.int 0))) (dCons (dVar 1) dNil))) (gtTup 2 (gtCons (gtSub (dVar 0) (dC (.int 0)) stL) (gtCons (gtName 2) gtNil))))
    (sRet (dVar 2))) OS.nx)
    (sCons (sAsg (dBin oMod (dCall oInt (dCons (dBin oAdd (dBin oMul (dBin oIx (dVar 0) (dC (.int 1))) (dC (.int 48271))) (dC (.int 18126))) dNil)) (dC (.int 2147483587))) (gtSub (dVar 0) (dC (.int 1)) stL))
    (sRet (dBin oMod (dCall oInt (dCons (dBin oFdiv (dBin oMod (dCall oInt (dCons (dBin oMul (dBin oIx (dVar 0) (dC (.int 1))) (dBin oIx (dVar 0) (dC (.int 1)))) dNil)) (dC (.int 2147483549))) (dC (.int 71))) dNil)) (dVar 1)))))
def g__law_draw : List W → Cells → Out W := runB 3 d__law_draw
def d__law_pick : SDen := (sRet (dBin oIx (dVar 1) (dCallN 2 g__law_draw (dCons (dVar 0) (dCons (dCall oLen (dCons (dVar 1) dNil)) dNil)))))
def g__law_pick : List W → Cells → Out W := runB 2 d__law_pick
def d__law_piece : SDen := (sCons (sSet 1 (dCallN 2 g__law_draw (dCons (dVar 0) (dCons (dC (.int 6)) dNil))))
    (sCons (sIf (dTest (dBin oEq (dVar 1) (dC (.int 0)))) (sRet (dCallN 2 g__law_pick (dCons (dVar 0) (dCons (dCallN 0 g__law_words dNil) dNil)))) OS.nx)
    (sCons (sIf (dTest (dBin oEq (dVar 1) (dC (.int 1)))) (sRet (dCallN 2 g__law_pick (dCons (dVar 0) (dCons (dLst (dCons (dC (.str "x")) (dCons (dC (.str "f1")) (dCons (dC (.str "aB9")) (dCons (dC (.str "matches")) (dCons (dC (.str "a234567890b234567890")) (dCons (dC (.str "a234567890b234567890c")) (dCons (dC (.str "ends")) (dCons (dC (.str "in1")) dNil))))))))) dNil)))) OS.nx)
    (sCons (sIf (dTest (dBin oEq (dVar 1) (dC (.int 2)))) (sRet (dCallN 2 g__law_pick (dCons (dVar 0) (dCons (dLst (dCons (dC (.str "M")) (dCons (dC (.str "Some")) (dCons (dC (.str "M.x")) (dCons (dC (.str "M.Nil")) (dCons (dC (.str "M.fn")) (dCons (dC (.str "M.")) (dCons (dC (.str "M.1")) (dCons (dC (.str "M .x")) (dCons (dC (.str "A.B.c")) (dCons (dC (.str "Fn")) (dCons (dC (.str "M.a234567890b234567890c")) dNil)))))))))))) dNil)))) OS.nx)
    (sCons (sIf (dTest (dBin oEq (dVar 1) (dC (.int 3)))) (sCons (sSet 2 (dLst (dCons (dC (.str "0")) (dCons (dC (.str "7")) (dCons (dC (.str "2147483647")) (dCons (dC (.str "2147483648")) (dCons (dC (.str "00")) (dCons (dC (.str "012")) (dCons (dC (.str "12ab")) (dCons (dC (.str "1x")) (dCons (dC (.str "9999999999")) (dCons (dC (.str "999999999")) dNil))))))))))))
    (sRet (dCallN 2 g__law_pick (dCons (dVar 0) (dCons (dVar 2) dNil))))) OS.nx)
    (sCons (sIf (dTest (dBin oEq (dVar 1) (dC (.int 4)))) (sRet (dCallN 2 g__law_pick (dCons (dVar 0) (dCons (dLst (dCons (dC (.str "~5")) (dCons (dC (.str "~0")) (dCons (dC (.str "~2147483648")) (dCons (dC (.str "~2147483649")) (dCons (dC (.str "~")) (dCons (dC (.str "~ 5")) (dCons (dC (.str "~x")) (dCons (dC (.str "~01")) (dCons (dC (.str "~7a")) (dCons (dC (.str "~~3")) dNil))))))))))) dNil)))) OS.nx)
    (sRet (dCallN 2 g__law_pick (dCons (dVar 0) (dCons (dLst (dCons (dC (.str "(")) (dCons (dC (.str ")")) (dCons (dC (.str ",")) (dCons (dC (.str ";")) (dCons (dC (.str "|")) (dCons (dC (.str "_")) (dCons (dC (.str "'")) (dCons (dC (.str "!")) (dCons (dC (.str "+")) (dCons (dC (.str "-")) (dCons (dC (.str "*")) (dCons (dC (.str "/")) (dCons (dC (.str "=")) (dCons (dC (.str "<")) (dCons (dC (.str "<=")) (dCons (dC (.str ":=")) (dCons (dC (.str "->")) (dCons (dC (.str ":")) (dCons (dC (.str ">")) (dCons (dC (.str "<=>")) (dCons (dC (.str "=<")) (dCons (dC (.str "--")) (dCons (dC (.str "_x")) (dCons (dC (.str ".")) (dCons (dC (.str "#")) (dCons (dC (.str "# x (\n")) dNil))))))))))))))))))))))))))) dNil))))))))))
def g__law_piece : List W → Cells → Out W := runB 3 d__law_piece
def d__law_text : SDen := (sCons (sSet 1 (dC (.str "")))
    (sCons (sFor (iRng1D (dCons (dBin oAdd (dC (.int 1)) (dCallN 2 g__law_draw (dCons (dVar 0) (dCons (dC (.int 9)) dNil)))) dNil)) (gtName 2) (sSet 1 (dBin oAdd (dBin oAdd (dVar 1) (dCallN 1 g__law_piece (dCons (dVar 0) dNil))) (dCallN 2 g__law_pick (dCons (dVar 0) (dCons (dLst (dCons (dC (.str " ")) (dCons (dC (.str " ")) (dCons (dC (.str " ")) (dCons (dC (.str "\n")) (dCons (dC (.str "")) (dCons (dC (.str "  ")) dNil))))))) dNil))))))
    (sCons (sIf (dTest (dBin oEq (dCallN 2 g__law_draw (dCons (dVar 0) (dCons (dC (.int 3)) dNil))) (dC (.int 0)))) (sCons (sSet 3 (dCallN 2 g__law_draw (dCons (dVar 0) (dCons (dBin oAdd (dCall oLen (dCons (dVar 1) dNil)) (dC (.int 1))) dNil))))
    (sSet 1 (dBin oAdd (dBin oAdd (dSl (dVar 1) pNone (pSome (dVar 3))) (dCallN 2 g__law_pick (dCons (dVar 0) (dCons (dLst (dCons (dC (.str "?")) (dCons (dC (.str "a")) (dCons (dC (.str "0")) (dCons (dC (.str " ")) (dCons (dC (.str "~")) (dCons (dC (.str ".")) (dCons (dC (.str "=")) (dCons (dC (.str "")) (dCons (dC (.str "#")) (dCons (dC (.str "# ")) (dCons (dC (.str "@")) dNil)))))))))))) dNil)))) (dSl (dVar 1) (pSome (dBin oAdd (dVar 3) (dCallN 2 g__law_draw (dCons (dVar 0) (dCons (dC (.int 2)) dNil))))) pNone)))) OS.nx)
    (sRet (dVar 1)))))
def g__law_text : List W → Cells → Out W := runB 4 d__law_text
def d__law_right : SDen := (sCons (sFor (iLst (dLst (dCons (dC .non) (dCons (dC (.int 5)) (dCons (dC (.bl true)) (dCons (dLst dNil) (dCons (dTup (dCons (dC (.str "x")) dNil)) (dCons dDic dNil)))))))) (gtName 1) (sIf (dTest (dBin oNe (dCallN 1 g__law_heard (dCons (dVar 1) dNil)) (dTup (dCons (dC (.str "text")) (dCons (dCall oRepr (dCons (dVar 1) dNil)) (dCons (dC (.bl true)) dNil)))))) (sRet (dC (.bl false))) OS.nx))
    (sCons (sFor (iRng1D (dCons (dC (.int 8)) dNil)) (gtName 2) (sCons (sSet 3 (dCallN 1 g__law_text (dCons (dVar 0) dNil)))
    (sCons (sAsg (dCallN 1 g__law_tokens (dCons (dVar 3) dNil)) (gtTup 2 (gtCons (gtName 4) (gtCons (gtName 5) gtNil))))
    (sCons (sSet 6 (dCallN 1 g__law_heard (dCons (dVar 3) dNil)))
    (sIf (dTest (dBin oGe (dVar 5) (dC (.int 0)))) (sIf (dTest (dBin oNe (dVar 6) (dTup (dCons (dCall oRepr (dCons (dVar 5) dNil)) (dCons (dC (.bl true)) dNil))))) (sRet (dC (.bl false))) OS.nx) (sCons (sIf (dTest (dBin oNe (dCall oRepr (dCons (dVar 6) dNil)) (dCall oRepr (dCons (dVar 4) dNil)))) (sRet (dC (.bl false))) OS.nx)
    (sCons (sExp (dMeth "list" oAppend (dVar 6) (dCons (dC .non) dNil)))
    (sIf (dTest (dBin oNe (dCall oRepr (dCons (dCallK 1 [0] g_tokens_of (dCons (dVar 3) dNil)) dNil)) (dCall oRepr (dCons (dVar 4) dNil)))) (sRet (dC (.bl false))) OS.nx))))))))
    (sRet (dAndV (dBin oEq (dCallN 1 g_tokens_of (dCons (dC (.str "")) dNil)) (dLst dNil)) (dBin oEq (dCallN 1 g_tokens_of (dCons (dC (.str " \n ")) dNil)) (dLst dNil))))))
def g__law_right : List W → Cells → Out W := runB 7 d__law_right
def d_law : SDen := (sRet (dCallN 1 g__law_right (dCons (dCallN 2 g__law_pot (dCons (dVar 0) (dCons (dC (.int 0)) dNil))) dNil)))
def g_law : List W → Cells → Out W := runB 1 d_law
/-- what the module holds -/
structure Tx (P : Program) (w : World) (K : PySem.W.Frag) (mg : Str → Option Value) (base : Heap) (C_BadText C_ChangeError C_InvalidText : Addr) : Prop where
  z_abs : mg "abs" = none
  z_all : mg "all" = none
  z_divmod : mg "divmod" = none
  z_int : mg "int" = none
  z_isinstance : mg "isinstance" = none
  z_len : mg "len" = none
  z_max : mg "max" = none
  z_range : mg "range" = none
  z_repr : mg "repr" = none
  z_str : mg "str" = none
  c_GREATEST : Cn K mg "GREATEST" c_GREATEST
  c_KEYWORDS : Cn K mg "KEYWORDS" c_KEYWORDS
  c_LONGEST_NAME : Cn K mg "LONGEST_NAME" c_LONGEST_NAME
  c_LONGEST_NUMBER : Cn K mg "LONGEST_NUMBER" c_LONGEST_NUMBER
  c_SIGNS : Cn K mg "SIGNS" c_SIGNS
  m_BadText : mg "BadText" = some (.ref C_BadText)
  m_ChangeError : mg "ChangeError" = some (.ref C_ChangeError)
  m_InvalidText : mg "InvalidText" = some (.ref C_InvalidText)
  e_BadText : Err P w K mg base "BadText" ["position"]
  e_InvalidText : Err P w K mg base "InvalidText" ["value"]
  sub : SubOk K (faOf mg) sub
  fld_BadText_position : FldOk K (faOf mg) ["BadText"] ["position"]
  fld_InvalidText_value : FldOk K (faOf mg) ["InvalidText"] ["value"]
  isi_BadText : ∀ x ∈ [("BadText" : Str)], ∀ C, (faOf mg).f x = some C → ExcC K C
  isi_InvalidText : ∀ x ∈ [("InvalidText" : Str)], ∀ C, (faOf mg).f x = some C → ExcC K C
section
variable {P : Program} {w : World} {K : PySem.W.Frag} {mg : Str → Option Value} {base : Heap} {C_BadText C_ChangeError C_InvalidText : Addr}
theorem sc__law_pot : FnScope ["_law_script", "_law_k", "_law_cell"] ["_law_script", "_law_k"] (defScope s__law_pot) := ⟨rfl, rfl, rfl, by decide +kernel, rfl, by decide +kernel, by decide +kernel⟩
theorem ok__law_pot (T : Tx P w K mg base C_BadText C_ChangeError C_InvalidText) {f : Addr} {fd : FuncData} (F : Fun K "_law_pot" "_law_pot" s__law_pot f fd) : FnG P w K mg base 1 f fd ["_law_script", "_law_k"] (spD K (faOf mg) 2 g__law_pot) :=
  fn_ok F sc__law_pot fun cdv A outer s H E hr hgd => (ss_cons (ss_set 2 sc__law_pot.nd (se_bin op_addA l_add (se_bin op_mulW l_mul se_int (se_var 1)) se_int))
    (ss_cons (ss_if (st_cmp op_lt l_lt (se_var 1) (se_callB cl_len ll_len T.z_len b_len (sa_cons (se_var 0) sa_nil)) rfl) (ss_one (ss_set 2 sc__law_pot.nd (se_callB call_abs ll_abs T.z_abs b_abs (sa_cons (se_ix ix_seq l_ix (se_var 0) (se_var 1) (fun _ _ => rfl)) sa_nil)))) ss_nil)
    (ss_one (ss_ret (se_lst (sa_cons (se_callB (call_max2 rfl) ll_max2 T.z_max b_max (sa_cons se_int (sa_cons (se_bin op_sub l_sub (se_var 2) (se_bin op_pow l_pow se_int se_int)) sa_nil))) (sa_cons (se_bin op_addA l_add (se_bin op_mod l_mod (se_bin op_mulW l_mul (se_callTy cl_int ll_int T.z_int b_int (sa_cons (se_bin op_addA l_add (se_bin op_mod l_mod (se_callTy cl_int ll_int T.z_int b_int (sa_cons (se_var 2) sa_nil)) se_int) se_int) sa_nil)) (se_bin op_pow l_pow (se_bin op_addA l_add (se_bin op_mulW l_mul se_int (se_var 1)) se_int) se_int)) se_int) se_int) sa_nil)))))))
theorem sc_is_run : FnScope ["value"] ["value"] (defScope s_is_run) := ⟨rfl, rfl, rfl, by decide +kernel, rfl, by decide +kernel, by decide +kernel⟩
theorem ok_is_run (T : Tx P w K mg base C_BadText C_ChangeError C_InvalidText) {f : Addr} {fd : FuncData} (F : Fun K "is_run" "is_run" s_is_run f fd) : FnG P w K mg base 1 f fd ["value"] (spD K (faOf mg) 1 g_is_run) :=
  fn_ok F sc_is_run fun cdv A outer s H E hr hgd => (ss_one (ss_ret (se_and (se_callB call_isi ll_isi T.z_isinstance b_isinstance (sa_cons (se_var 0) (sa_cons (se_ty T.z_str b_str) sa_nil))) (se_and (se_meth0 PySem.F.plainAttrs_str PySem.F.slot_str_isascii PySem.F.type_str_isascii mt_isascii (m_s0 fun a F => .bl _) (se_var 0)) (se_one (se_meth0 PySem.F.plainAttrs_str PySem.F.slot_str_isalnum PySem.F.type_str_isalnum mt_isalnum (m_s0 fun a F => .bl _) (se_var 0)))))))
theorem sc_is_short_big : FnScope ["value"] ["value"] (defScope s_is_short_big) := ⟨rfl, rfl, rfl, by decide +kernel, rfl, by decide +kernel, by decide +kernel⟩
theorem ok_is_short_big (T : Tx P w K mg base C_BadText C_ChangeError C_InvalidText) (G_is_run : Fd P w K mg base "is_run" s_is_run 1 ["value"] g_is_run) {f : Addr} {fd : FuncData} (F : Fun K "is_short_big" "is_short_big" s_is_short_big f fd) : FnG P w K mg base 2 f fd ["value"] (spD K (faOf mg) 1 g_is_short_big) :=
  fn_ok F sc_is_short_big fun cdv A outer s H E hr hgd => (ss_one (ss_ret (se_and (se_callN G_is_run (roomLe hr (by decide)) hgd (takes_of rfl rfl rfl rfl) (sa_cons (se_var 0) sa_nil)) (se_and (se_cmp op_le l_le (se_callB cl_len ll_len T.z_len b_len (sa_cons (se_var 0) sa_nil)) (se_cn T.c_LONGEST_NAME) rfl) (se_one (se_meth0 PySem.F.plainAttrs_str PySem.F.slot_str_isupper PySem.F.type_str_isupper mt_isupper (m_s0 fun a F => .bl _) (se_ix ix_seq l_ix (se_var 0) se_int (fun _ _ => rfl))))))))
theorem sc_is_digits : FnScope ["run", "most"] ["run", "most"] (defScope s_is_digits) := ⟨rfl, rfl, rfl, by decide +kernel, rfl, by decide +kernel, by decide +kernel⟩
theorem ok_is_digits (T : Tx P w K mg base C_BadText C_ChangeError C_InvalidText) {f : Addr} {fd : FuncData} (F : Fun K "is_digits" "is_digits" s_is_digits f fd) : FnG P w K mg base 1 f fd ["run", "most"] (spD K (faOf mg) 2 g_is_digits) :=
  fn_ok F sc_is_digits fun cdv A outer s H E hr hgd => (ss_cons (ss_if (st_w (sw_or (st_not (st_val (se_meth0 PySem.F.plainAttrs_str PySem.F.slot_str_isdigit PySem.F.type_str_isdigit mt_isdigit (m_s0 fun a F => .bl _) (se_var 0)))) (sw_or (st_cmp op_gt l_gt (se_callB cl_len ll_len T.z_len b_len (sa_cons (se_var 0) sa_nil)) (se_cn T.c_LONGEST_NUMBER) rfl) (sw_or1 (st_w (sw_and (st_cmp (op_eqA (un64 hr)) l_eq (se_ix ix_seq l_ix (se_var 0) se_int (fun _ _ => rfl)) se_str rfl) (sw_and1 (st_cmp op_gt l_gt (se_callB cl_len ll_len T.z_len b_len (sa_cons (se_var 0) sa_nil)) se_int rfl)))))))) (ss_one (ss_ret se_bl)) ss_nil)
    (ss_one (ss_ret (se_cmp op_le l_le (se_callTy cl_int ll_int T.z_int b_int (sa_cons (se_var 0) sa_nil)) (se_var 1) rfl))))
theorem sc_is_short_name : FnScope ["value"] ["value"] (defScope s_is_short_name) := ⟨rfl, rfl, rfl, by decide +kernel, rfl, by decide +kernel, by decide +kernel⟩
theorem ok_is_short_name (T : Tx P w K mg base C_BadText C_ChangeError C_InvalidText) (G_is_run : Fd P w K mg base "is_run" s_is_run 1 ["value"] g_is_run) {f : Addr} {fd : FuncData} (F : Fun K "is_short_name" "is_short_name" s_is_short_name f fd) : FnG P w K mg base 2 f fd ["value"] (spD K (faOf mg) 1 g_is_short_name) :=
  fn_ok F sc_is_short_name fun cdv A outer s H E hr hgd => (ss_one (ss_ret (se_and (se_callN G_is_run (roomLe hr (by decide)) hgd (takes_of rfl rfl rfl rfl) (sa_cons (se_var 0) sa_nil)) (se_and (se_cmp op_le l_le (se_callB cl_len ll_len T.z_len b_len (sa_cons (se_var 0) sa_nil)) (se_cn T.c_LONGEST_NAME) rfl) (se_and (se_meth0 PySem.F.plainAttrs_str PySem.F.slot_str_islower PySem.F.type_str_islower mt_islower (m_s0 fun a F => .bl _) (se_ix ix_seq l_ix (se_var 0) se_int (fun _ _ => rfl))) (se_one (se_cmp op_ninA (l_in true) (se_var 0) (se_cn T.c_KEYWORDS) rfl)))))))
theorem sc_run_end : FnScope ["text", "at", "end"] ["text", "at"] (defScope s_run_end) := ⟨rfl, rfl, rfl, by decide +kernel, rfl, by decide +kernel, by decide +kernel⟩
theorem ok_run_end (T : Tx P w K mg base C_BadText C_ChangeError C_InvalidText) (G_is_run : Fd P w K mg base "is_run" s_is_run 1 ["value"] g_is_run) {f : Addr} {fd : FuncData} (F : Fun K "run_end" "run_end" s_run_end f fd) : FnG P w K mg base 2 f fd ["text", "at"] (spD K (faOf mg) 2 g_run_end) :=
  fn_ok F sc_run_end fun cdv A outer s H E hr hgd => (ss_cons (ss_set 2 sc_run_end.nd (se_var 1))
    (ss_cons (ss_while (passes_of rfl) (st_w (sw_and (st_cmp op_lt l_lt (se_var 2) (se_callB cl_len ll_len T.z_len b_len (sa_cons (se_var 0) sa_nil)) rfl) (sw_and1 (st_val (se_callN G_is_run (roomLe hr (by decide)) hgd (takes_of rfl rfl rfl rfl) (sa_cons (se_ix ix_seq l_ix (se_var 0) (se_var 2) (fun _ _ => rfl)) sa_nil)))))) (ss_one (ss_aug 2 sc_run_end.nd (ip_of iop_addA) l_iadd se_int)))
    (ss_one (ss_ret (se_var 2)))))
theorem sc_run_token : FnScope ["text", "at", "end", "run", "behind"] ["text", "at"] (defScope s_run_token) := ⟨rfl, rfl, rfl, by decide +kernel, rfl, by decide +kernel, by decide +kernel⟩
theorem ok_run_token (T : Tx P w K mg base C_BadText C_ChangeError C_InvalidText) (G_is_digits : Fd P w K mg base "is_digits" s_is_digits 1 ["run", "most"] g_is_digits) (G_is_short_big : Fd P w K mg base "is_short_big" s_is_short_big 2 ["value"] g_is_short_big) (G_is_short_name : Fd P w K mg base "is_short_name" s_is_short_name 2 ["value"] g_is_short_name) (G_run_end : Fd P w K mg base "run_end" s_run_end 2 ["text", "at"] g_run_end) {f : Addr} {fd : FuncData} (F : Fun K "run_token" "run_token" s_run_token f fd) : FnG P w K mg base 3 f fd ["text", "at"] (spD K (faOf mg) 2 g_run_token) :=
  fn_ok F sc_run_token fun cdv A outer s H E hr hgd => (ss_cons (ss_set 2 sc_run_token.nd (se_callN G_run_end (roomLe hr (by decide)) hgd (takes_of rfl rfl rfl rfl) (sa_cons (se_var 0) (sa_cons (se_var 1) sa_nil))))
    (ss_cons (ss_set 3 sc_run_token.nd (se_sl (se_var 0) (so_some (se_var 1)) (so_some (se_var 2))))
    (ss_cons (ss_if (st_val (se_callN G_is_digits (roomLe hr (by decide)) hgd (takes_of rfl rfl rfl rfl) (sa_cons (se_var 3) (sa_cons (se_cn T.c_GREATEST) sa_nil)))) (ss_one (ss_ret (se_tup (sa_cons se_str (sa_cons (se_var 2) sa_nil))))) ss_nil)
    (ss_cons (ss_if (st_cmp op_inA (l_in false) (se_var 3) (se_cn T.c_KEYWORDS) rfl) (ss_one (ss_ret (se_tup (sa_cons se_str (sa_cons (se_var 2) sa_nil))))) ss_nil)
    (ss_cons (ss_if (st_val (se_callN G_is_short_name (roomLe hr (by decide)) hgd (takes_of rfl rfl rfl rfl) (sa_cons (se_var 3) sa_nil))) (ss_one (ss_ret (se_tup (sa_cons se_str (sa_cons (se_var 2) sa_nil))))) ss_nil)
    (ss_cons (ss_if (st_not (st_val (se_callN G_is_short_big (roomLe hr (by decide)) hgd (takes_of rfl rfl rfl rfl) (sa_cons (se_var 3) sa_nil)))) (ss_one (ss_raise (k := 0) T.e_BadText (roomLe hr (by decide)) rfl (takes_of rfl rfl rfl rfl) (sa_cons (se_var 1) sa_nil))) ss_nil)
    (ss_cons (ss_if (st_val (se_meth PySem.F.plainAttrs_str PySem.F.slot_str_startswith PySem.F.type_str_startswith mt_startswith3 (m_sI fun a b i F => .bl _) (se_var 0) (sa_cons se_str (sa_cons (se_var 2) sa_nil)))) (ss_cons (ss_set 4 sc_run_token.nd (se_callN G_run_end (roomLe hr (by decide)) hgd (takes_of rfl rfl rfl rfl) (sa_cons (se_var 0) (sa_cons (se_bin op_addA l_add (se_var 2) se_int) sa_nil))))
    (ss_cons (ss_if (st_val (se_callN G_is_short_name (roomLe hr (by decide)) hgd (takes_of rfl rfl rfl rfl) (sa_cons (se_sl (se_var 0) (so_some (se_bin op_addA l_add (se_var 2) se_int)) (so_some (se_var 4))) sa_nil))) (ss_one (ss_ret (se_tup (sa_cons se_str (sa_cons (se_var 4) sa_nil))))) ss_nil)
    (ss_one (ss_if (st_val (se_callN G_is_short_big (roomLe hr (by decide)) hgd (takes_of rfl rfl rfl rfl) (sa_cons (se_sl (se_var 0) (so_some (se_bin op_addA l_add (se_var 2) se_int)) (so_some (se_var 4))) sa_nil))) (ss_one (ss_ret (se_tup (sa_cons se_str (sa_cons (se_var 4) sa_nil))))) ss_nil)))) ss_nil)
    (ss_one (ss_ret (se_tup (sa_cons se_str (sa_cons (se_var 2) sa_nil))))))))))))
theorem sc_token_at : FnScope ["text", "at", "end", "sign"] ["text", "at"] (defScope s_token_at) := ⟨rfl, rfl, rfl, by decide +kernel, rfl, by decide +kernel, by decide +kernel⟩
theorem ok_token_at (T : Tx P w K mg base C_BadText C_ChangeError C_InvalidText) (G_is_digits : Fd P w K mg base "is_digits" s_is_digits 1 ["run", "most"] g_is_digits) (G_is_run : Fd P w K mg base "is_run" s_is_run 1 ["value"] g_is_run) (G_run_end : Fd P w K mg base "run_end" s_run_end 2 ["text", "at"] g_run_end) (G_run_token : Fd P w K mg base "run_token" s_run_token 3 ["text", "at"] g_run_token) {f : Addr} {fd : FuncData} (F : Fun K "token_at" "token_at" s_token_at f fd) : FnG P w K mg base 4 f fd ["text", "at"] (spD K (faOf mg) 2 g_token_at) :=
  fn_ok F sc_token_at fun cdv A outer s H E hr hgd => (ss_cons (ss_if (st_val (se_callN G_is_run (roomLe hr (by decide)) hgd (takes_of rfl rfl rfl rfl) (sa_cons (se_ix ix_seq l_ix (se_var 0) (se_var 1) (fun _ _ => rfl)) sa_nil))) (ss_one (ss_ret (se_callN G_run_token (roomLe hr (by decide)) hgd (takes_of rfl rfl rfl rfl) (sa_cons (se_var 0) (sa_cons (se_var 1) sa_nil))))) ss_nil)
    (ss_cons (ss_if (st_cmp (op_eqA (un64 hr)) l_eq (se_ix ix_seq l_ix (se_var 0) (se_var 1) (fun _ _ => rfl)) se_str rfl) (ss_cons (ss_set 2 sc_token_at.nd (se_callN G_run_end (roomLe hr (by decide)) hgd (takes_of rfl rfl rfl rfl) (sa_cons (se_var 0) (sa_cons (se_bin op_addA l_add (se_var 1) se_int) sa_nil))))
    (ss_cons (ss_if (st_w (sw_and (st_cmp (op_neA (un64 hr)) l_ne (se_sl (se_var 0) (so_some (se_bin op_addA l_add (se_var 1) se_int)) (so_some (se_var 2))) se_str rfl) (sw_and1 (st_val (se_callN G_is_digits (roomLe hr (by decide)) hgd (takes_of rfl rfl rfl rfl) (sa_cons (se_sl (se_var 0) (so_some (se_bin op_addA l_add (se_var 1) se_int)) (so_some (se_var 2))) (sa_cons (se_bin op_addA l_add (se_cn T.c_GREATEST) se_int) sa_nil))))))) (ss_one (ss_ret (se_tup (sa_cons se_str (sa_cons (se_var 2) sa_nil))))) ss_nil)
    (ss_one (ss_raise (k := 0) T.e_BadText (roomLe hr (by decide)) rfl (takes_of rfl rfl rfl rfl) (sa_cons (se_var 1) sa_nil))))) ss_nil)
    (ss_cons (ss_for (passes_of rfl) rfl (si_tup (se_cn T.c_SIGNS)) (gt_name 3 sc_token_at.nd) (ss_one (ss_if (st_val (se_meth PySem.F.plainAttrs_str PySem.F.slot_str_startswith PySem.F.type_str_startswith mt_startswith3 (m_sI fun a b i F => .bl _) (se_var 0) (sa_cons (se_var 3) (sa_cons (se_var 1) sa_nil)))) (ss_one (ss_ret (se_tup (sa_cons se_str (sa_cons (se_bin op_addA l_add (se_var 1) (se_callB cl_len ll_len T.z_len b_len (sa_cons (se_var 3) sa_nil))) sa_nil))))) ss_nil)))
    (ss_one (ss_raise (k := 0) T.e_BadText (roomLe hr (by decide)) rfl (takes_of rfl rfl rfl rfl) (sa_cons (se_var 1) sa_nil))))))
theorem sc_line_end : FnScope ["text", "at", "end"] ["text", "at"] (defScope s_line_end) := ⟨rfl, rfl, rfl, by decide +kernel, rfl, by decide +kernel, by decide +kernel⟩
theorem ok_line_end (T : Tx P w K mg base C_BadText C_ChangeError C_InvalidText) {f : Addr} {fd : FuncData} (F : Fun K "line_end" "line_end" s_line_end f fd) : FnG P w K mg base 1 f fd ["text", "at"] (spD K (faOf mg) 2 g_line_end) :=
  fn_ok F sc_line_end fun cdv A outer s H E hr hgd => (ss_cons (ss_set 2 sc_line_end.nd (se_meth PySem.F.plainAttrs_str PySem.F.slot_str_find PySem.F.type_str_find mt_find3 (m_sI fun a b i F => .int _) (se_var 0) (sa_cons se_str (sa_cons (se_var 1) sa_nil))))
    (ss_one (ss_ret (se_if (st_cmp op_lt l_lt (se_var 2) se_int rfl) (se_callB cl_len ll_len T.z_len b_len (sa_cons (se_var 0) sa_nil)) (se_var 2)))))
theorem sc_tokens_of : FnScope ["text", "found", "at", "kind", "end"] ["text"] (defScope s_tokens_of) := ⟨rfl, rfl, rfl, by decide +kernel, rfl, by decide +kernel, by decide +kernel⟩
theorem ok_tokens_of (T : Tx P w K mg base C_BadText C_ChangeError C_InvalidText) (G_line_end : Fd P w K mg base "line_end" s_line_end 1 ["text", "at"] g_line_end) (G_token_at : Fd P w K mg base "token_at" s_token_at 4 ["text", "at"] g_token_at) {f : Addr} {fd : FuncData} (F : Fun K "tokens_of" "tokens_of" s_tokens_of f fd) : FnG P w K mg base 5 f fd ["text"] (spD K (faOf mg) 1 g_tokens_of) :=
  fn_ok F sc_tokens_of fun cdv A outer s H E hr hgd => (ss_cons (ss_if (st_not (st_val (se_callB call_isi ll_isi T.z_isinstance b_isinstance (sa_cons (se_var 0) (sa_cons (se_ty T.z_str b_str) sa_nil))))) (ss_one (ss_raise (k := 0) T.e_InvalidText (roomLe hr (by decide)) rfl (takes_of rfl rfl rfl rfl) (sa_cons (se_var 0) sa_nil))) ss_nil)
    (ss_cons (ss_set 1 sc_tokens_of.nd (se_lst sa_nil))
    (ss_cons (ss_set 2 sc_tokens_of.nd se_int)
    (ss_cons (ss_while (passes_of rfl) (st_cmp op_lt l_lt (se_var 2) (se_callB cl_len ll_len T.z_len b_len (sa_cons (se_var 0) sa_nil)) rfl) (ss_one (ss_if (st_w (sw_or (st_cmp (op_eqA (un64 hr)) l_eq (se_ix ix_seq l_ix (se_var 0) (se_var 2) (fun _ _ => rfl)) se_str rfl) (sw_or1 (st_cmp (op_eqA (un64 hr)) l_eq (se_ix ix_seq l_ix (se_var 0) (se_var 2) (fun _ _ => rfl)) se_str rfl)))) (ss_one (ss_aug 2 sc_tokens_of.nd (ip_of iop_addA) l_iadd se_int)) (ss_one (ss_if (st_cmp (op_eqA (un64 hr)) l_eq (se_ix ix_seq l_ix (se_var 0) (se_var 2) (fun _ _ => rfl)) se_str rfl) (ss_one (ss_set 2 sc_tokens_of.nd (se_callN G_line_end (roomLe hr (by decide)) hgd (takes_of rfl rfl rfl rfl) (sa_cons (se_var 0) (sa_cons (se_var 2) sa_nil))))) (ss_cons (ss_asg (se_callN G_token_at (roomLe hr (by decide)) hgd (takes_of rfl rfl rfl rfl) (sa_cons (se_var 0) (sa_cons (se_var 2) sa_nil))) (gt_tup rfl (gts_cons (gt_name 3 sc_tokens_of.nd) (gts_cons (gt_name 4 sc_tokens_of.nd) gts_nil))))
    (ss_cons (ss_exp (se_meth PySem.F.plainAttrs_list PySem.F.slot_list_append PySem.F.type_list_append mt_append m_append (se_var 1) (sa_cons (se_tup (sa_cons (se_var 3) (sa_cons (se_sl (se_var 0) (so_some (se_var 2)) (so_some (se_var 4))) (sa_cons (se_var 2) sa_nil)))) sa_nil)))
    (ss_one (ss_set 2 sc_tokens_of.nd (se_var 4))))))))))
    (ss_one (ss_ret (se_var 1)))))))
theorem sc__law_words : FnScope ["_law_some", "_law_more"] [] (defScope s__law_words) := ⟨rfl, rfl, rfl, by decide +kernel, rfl, by decide +kernel, by decide +kernel⟩
theorem ok__law_words (T : Tx P w K mg base C_BadText C_ChangeError C_InvalidText) {f : Addr} {fd : FuncData} (F : Fun K "_law_words" "_law_words" s__law_words f fd) : FnG P w K mg base 1 f fd [] (spD K (faOf mg) 0 g__law_words) :=
  fn_ok F sc__law_words fun cdv A outer s H E hr hgd => (ss_cons (ss_set 0 sc__law_words.nd se_str)
    (ss_cons (ss_set 1 sc__law_words.nd se_str)
    (ss_one (ss_ret (se_bin op_addA l_add (se_meth PySem.F.plainAttrs_str PySem.F.slot_str_split PySem.F.type_str_split mt_split m_split (se_var 0) (sa_cons se_str sa_nil)) (se_meth PySem.F.plainAttrs_str PySem.F.slot_str_split PySem.F.type_str_split mt_split m_split (se_var 1) (sa_cons se_str sa_nil)))))))
theorem sc__law_run_kind : FnScope ["_law_run_here", "_law_is_so", "_law_sign"] ["_law_run_here"] (defScope s__law_run_kind) := ⟨rfl, rfl, rfl, by decide +kernel, rfl, by decide +kernel, by decide +kernel⟩
theorem ok__law_run_kind (T : Tx P w K mg base C_BadText C_ChangeError C_InvalidText) (G__law_words : Fd P w K mg base "_law_words" s__law_words 1 [] g__law_words) {f : Addr} {fd : FuncData} (F : Fun K "_law_run_kind" "_law_run_kind" s__law_run_kind f fd) : FnG P w K mg base 2 f fd ["_law_run_here"] (spD K (faOf mg) 1 g__law_run_kind) :=
  fn_ok F sc__law_run_kind fun cdv A outer s H E hr hgd => (ss_cons (ss_if (st_cmp (op_eqA (un64 hr)) l_eq (se_var 0) se_str rfl) (ss_one (ss_ret se_str)) ss_nil)
    (ss_cons (ss_if (st_cmp op_inA (l_in false) (se_ix ix_seq l_ix (se_var 0) se_int (fun _ _ => rfl)) se_str rfl) (ss_cons (ss_set 1 sc__law_run_kind.nd (se_and (se_callB (cr_all rfl) ll_all T.z_all b_all (sa_cons (se_lc rfl sc__law_run_kind.nd (si_str (se_var 0)) (own := [("_law_sign", 2)]) (blkOk_by (by rfl)) (by decide) (fun s H C cl fp => (gc_name 2 sc__law_run_kind.nd)) (fun s H C cl fp => sts_nil) (fun s H C cl fp => (se_cmp op_inA (l_in false) (se_var 2) se_str rfl))) sa_nil)) (se_one (se_or (se_cmp (op_eqA (un64 hr)) l_eq (se_var 0) se_str rfl) (se_one (se_cmp (op_neA (un64 hr)) l_ne (se_ix ix_seq l_ix (se_var 0) se_int (fun _ _ => rfl)) se_str rfl))))))
    (ss_one (ss_ret (se_if (st_w (sw_and (st_val (se_var 1)) (sw_and1 (st_w (sw_or (st_cmp op_lt l_lt (se_callB cl_len ll_len T.z_len b_len (sa_cons (se_var 0) sa_nil)) se_int rfl) (sw_or1 (st_w (sw_and (st_cmp (op_eqA (un64 hr)) l_eq (se_callB cl_len ll_len T.z_len b_len (sa_cons (se_var 0) sa_nil)) se_int rfl) (sw_and1 (st_cmp op_lt l_lt (se_callTy cl_int ll_int T.z_int b_int (sa_cons (se_var 0) sa_nil)) se_int rfl)))))))))) se_str se_str)))) ss_nil)
    (ss_cons (ss_if (st_cmp op_inA (l_in false) (se_var 0) (se_call0 G__law_words (roomLe hr (by decide)) hgd (takes_of rfl rfl rfl rfl)) rfl) (ss_one (ss_ret se_str)) ss_nil)
    (ss_cons (ss_if (st_cmp op_gt l_gt (se_callB cl_len ll_len T.z_len b_len (sa_cons (se_var 0) sa_nil)) se_int rfl) (ss_one (ss_ret se_str)) ss_nil)
    (ss_one (ss_ret (se_if (st_cmp op_inA (l_in false) (se_ix ix_seq l_ix (se_var 0) se_int (fun _ _ => rfl)) se_str rfl) se_str se_str)))))))
theorem sc__law_is_alnum : FnScope ["_law_sign"] ["_law_sign"] (defScope s__law_is_alnum) := ⟨rfl, rfl, rfl, by decide +kernel, rfl, by decide +kernel, by decide +kernel⟩
theorem ok__law_is_alnum (T : Tx P w K mg base C_BadText C_ChangeError C_InvalidText) {f : Addr} {fd : FuncData} (F : Fun K "_law_is_alnum" "_law_is_alnum" s__law_is_alnum f fd) : FnG P w K mg base 1 f fd ["_law_sign"] (spD K (faOf mg) 1 g__law_is_alnum) :=
  fn_ok F sc__law_is_alnum fun cdv A outer s H E hr hgd => (ss_one (ss_ret (se_and (se_cmp (op_neA (un64 hr)) l_ne (se_var 0) se_str rfl) (se_one (se_cmp op_inA (l_in false) (se_var 0) se_str rfl)))))
theorem sc__law_run : FnScope ["_law_text_here", "_law_at", "_law_end"] ["_law_text_here", "_law_at"] (defScope s__law_run) := ⟨rfl, rfl, rfl, by decide +kernel, rfl, by decide +kernel, by decide +kernel⟩
theorem ok__law_run (T : Tx P w K mg base C_BadText C_ChangeError C_InvalidText) (G__law_is_alnum : Fd P w K mg base "_law_is_alnum" s__law_is_alnum 1 ["_law_sign"] g__law_is_alnum) {f : Addr} {fd : FuncData} (F : Fun K "_law_run" "_law_run" s__law_run f fd) : FnG P w K mg base 2 f fd ["_law_text_here", "_law_at"] (spD K (faOf mg) 2 g__law_run) :=
  fn_ok F sc__law_run fun cdv A outer s H E hr hgd => (ss_cons (ss_set 2 sc__law_run.nd (se_var 1))
    (ss_cons (ss_while (passes_of rfl) (st_val (se_callN G__law_is_alnum (roomLe hr (by decide)) hgd (takes_of rfl rfl rfl rfl) (sa_cons (se_sl (se_var 0) (so_some (se_var 2)) (so_some (se_bin op_addA l_add (se_var 2) se_int))) sa_nil))) (ss_one (ss_set 2 sc__law_run.nd (se_bin op_addA l_add (se_var 2) se_int))))
    (ss_one (ss_ret (se_sl (se_var 0) (so_some (se_var 1)) (so_some (se_var 2)))))))
theorem sc__law_token : FnScope ["_law_text_here", "_law_at", "_law_run_here", "_law_kind", "_law_far"] ["_law_text_here", "_law_at"] (defScope s__law_token) := ⟨rfl, rfl, rfl, by decide +kernel, rfl, by decide +kernel, by decide +kernel⟩
theorem ok__law_token (T : Tx P w K mg base C_BadText C_ChangeError C_InvalidText) (G__law_run : Fd P w K mg base "_law_run" s__law_run 2 ["_law_text_here", "_law_at"] g__law_run) (G__law_run_kind : Fd P w K mg base "_law_run_kind" s__law_run_kind 2 ["_law_run_here"] g__law_run_kind) {f : Addr} {fd : FuncData} (F : Fun K "_law_token" "_law_token" s__law_token f fd) : FnG P w K mg base 3 f fd ["_law_text_here", "_law_at"] (spD K (faOf mg) 2 g__law_token) :=
  fn_ok F sc__law_token fun cdv A outer s H E hr hgd => (ss_cons (ss_set 2 sc__law_token.nd (se_callN G__law_run (roomLe hr (by decide)) hgd (takes_of rfl rfl rfl rfl) (sa_cons (se_var 0) (sa_cons (se_var 1) sa_nil))))
    (ss_cons (ss_set 3 sc__law_token.nd (se_callN G__law_run_kind (roomLe hr (by decide)) hgd (takes_of rfl rfl rfl rfl) (sa_cons (se_var 2) sa_nil)))
    (ss_cons (ss_if (st_cmp (op_neA (un64 hr)) l_ne (se_var 2) se_str rfl) (ss_cons (ss_set 4 sc__law_token.nd (se_if (st_w (sw_and (st_cmp (op_eqA (un64 hr)) l_eq (se_var 3) se_str rfl) (sw_and1 (st_cmp (op_eqA (un64 hr)) l_eq (se_sl (se_var 0) (so_some (se_bin op_addA l_add (se_var 1) (se_callB cl_len ll_len T.z_len b_len (sa_cons (se_var 2) sa_nil)))) (so_some (se_bin op_addA l_add (se_bin op_addA l_add (se_var 1) (se_callB cl_len ll_len T.z_len b_len (sa_cons (se_var 2) sa_nil))) se_int))) se_str rfl)))) (se_callN G__law_run (roomLe hr (by decide)) hgd (takes_of rfl rfl rfl rfl) (sa_cons (se_var 0) (sa_cons (se_bin op_addA l_add (se_bin op_addA l_add (se_var 1) (se_callB cl_len ll_len T.z_len b_len (sa_cons (se_var 2) sa_nil))) se_int) sa_nil))) se_str))
    (ss_cons (ss_if (st_cmp op_inA (l_in false) (se_callN G__law_run_kind (roomLe hr (by decide)) hgd (takes_of rfl rfl rfl rfl) (sa_cons (se_var 4) sa_nil)) (se_tup (sa_cons se_str (sa_cons se_str sa_nil))) rfl) (ss_one (ss_ret (se_tup (sa_cons (se_callN G__law_run_kind (roomLe hr (by decide)) hgd (takes_of rfl rfl rfl rfl) (sa_cons (se_var 4) sa_nil)) (sa_cons (se_bin op_addA l_add (se_bin op_addA l_add (se_var 2) se_str) (se_var 4)) (sa_cons (se_var 1) sa_nil)))))) ss_nil)
    (ss_one (ss_ret (se_if (st_cmp (op_neA (un64 hr)) l_ne (se_var 3) se_str rfl) (se_tup (sa_cons (se_var 3) (sa_cons (se_var 2) (sa_cons (se_var 1) sa_nil)))) se_non))))) ss_nil)
    (ss_cons (ss_if (st_cmp (op_eqA (un64 hr)) l_eq (se_ix ix_seq l_ix (se_var 0) (se_var 1) (fun _ _ => rfl)) se_str rfl) (ss_cons (ss_set 2 sc__law_token.nd (se_callN G__law_run (roomLe hr (by decide)) hgd (takes_of rfl rfl rfl rfl) (sa_cons (se_var 0) (sa_cons (se_bin op_addA l_add (se_var 1) se_int) sa_nil))))
    (ss_cons (ss_if (st_w (sw_or (st_cmp (op_eqA (un64 hr)) l_eq (se_var 2) se_str rfl) (sw_or1 (st_w (sw_and (st_cmp (op_eqA (un64 hr)) l_eq (se_callN G__law_run_kind (roomLe hr (by decide)) hgd (takes_of rfl rfl rfl rfl) (sa_cons (se_var 2) sa_nil)) se_str rfl) (sw_and1 (st_cmp (op_neA (un64 hr)) l_ne (se_var 2) se_str rfl))))))) (ss_one (ss_ret (se_tup (sa_cons se_str (sa_cons (se_bin op_addA l_add se_str (se_var 2)) (sa_cons (se_var 1) sa_nil)))))) ss_nil)
    (ss_one (ss_ret se_non)))) ss_nil)
    (ss_cons (ss_if (st_cmp op_inA (l_in false) (se_sl (se_var 0) (so_some (se_var 1)) (so_some (se_bin op_addA l_add (se_var 1) se_int))) (se_tup (sa_cons se_str (sa_cons se_str (sa_cons se_str sa_nil)))) rfl) (ss_one (ss_ret (se_tup (sa_cons se_str (sa_cons (se_sl (se_var 0) (so_some (se_var 1)) (so_some (se_bin op_addA l_add (se_var 1) se_int))) (sa_cons (se_var 1) sa_nil)))))) ss_nil)
    (ss_one (ss_ret (se_if (st_cmp op_inA (l_in false) (se_ix ix_seq l_ix (se_var 0) (se_var 1) (fun _ _ => rfl)) se_str rfl) (se_tup (sa_cons se_str (sa_cons (se_ix ix_seq l_ix (se_var 0) (se_var 1) (fun _ _ => rfl)) (sa_cons (se_var 1) sa_nil)))) se_non))))))))
theorem sc__law_tokens : FnScope ["_law_text_here", "_law_found", "_law_at", "_law_one"] ["_law_text_here"] (defScope s__law_tokens) := ⟨rfl, rfl, rfl, by decide +kernel, rfl, by decide +kernel, by decide +kernel⟩
theorem ok__law_tokens (T : Tx P w K mg base C_BadText C_ChangeError C_InvalidText) (G__law_token : Fd P w K mg base "_law_token" s__law_token 3 ["_law_text_here", "_law_at"] g__law_token) {f : Addr} {fd : FuncData} (F : Fun K "_law_tokens" "_law_tokens" s__law_tokens f fd) : FnG P w K mg base 4 f fd ["_law_text_here"] (spD K (faOf mg) 1 g__law_tokens) :=
  fn_ok F sc__law_tokens fun cdv A outer s H E hr hgd => (ss_cons (ss_par (i := 1) (j := 2) rfl sc__law_tokens.nd (sa_cons (se_lst sa_nil) (sa_cons se_int sa_nil)))
    (ss_cons (ss_while (passes_of rfl) (st_cmp op_lt l_lt (se_var 2) (se_callB cl_len ll_len T.z_len b_len (sa_cons (se_var 0) sa_nil)) rfl) (ss_cons (ss_if (st_cmp op_inA (l_in false) (se_ix ix_seq l_ix (se_var 0) (se_var 2) (fun _ _ => rfl)) se_str rfl) (ss_cons (ss_set 2 sc__law_tokens.nd (se_bin op_addA l_add (se_var 2) se_int))
    (ss_one ss_cnt)) ss_nil)
    (ss_cons (ss_if (st_cmp (op_eqA (un64 hr)) l_eq (se_ix ix_seq l_ix (se_var 0) (se_var 2) (fun _ _ => rfl)) se_str rfl) (ss_cons (ss_while (passes_of rfl) (st_w (sw_and (st_cmp op_lt l_lt (se_var 2) (se_callB cl_len ll_len T.z_len b_len (sa_cons (se_var 0) sa_nil)) rfl) (sw_and1 (st_cmp (op_neA (un64 hr)) l_ne (se_ix ix_seq l_ix (se_var 0) (se_var 2) (fun _ _ => rfl)) se_str rfl)))) (ss_one (ss_set 2 sc__law_tokens.nd (se_bin op_addA l_add (se_var 2) se_int))))
    (ss_one ss_cnt)) ss_nil)
    (ss_cons (ss_set 3 sc__law_tokens.nd (se_callN G__law_token (roomLe hr (by decide)) hgd (takes_of rfl rfl rfl rfl) (sa_cons (se_var 0) (sa_cons (se_var 2) sa_nil))))
    (ss_cons (ss_if (st_isN (se_var 3)) (ss_one (ss_ret (se_tup (sa_cons (se_var 1) (sa_cons (se_var 2) sa_nil))))) ss_nil)
    (ss_cons (ss_exp (se_meth PySem.F.plainAttrs_list PySem.F.slot_list_append PySem.F.type_list_append mt_append m_append (se_var 1) (sa_cons (se_var 3) sa_nil)))
    (ss_one (ss_set 2 sc__law_tokens.nd (se_bin op_addA l_add (se_var 2) (se_callB cl_len ll_len T.z_len b_len (sa_cons (se_ix ix_seq l_ix (se_var 3) se_int (fun _ _ => rfl)) sa_nil)))))))))))
    (ss_one (ss_ret (se_tup (sa_cons (se_var 1) (sa_cons (se_neg se_int) sa_nil)))))))
theorem sc__law_heard : FnScope ["_law_text_here", "_law_heard_here", "e"] ["_law_text_here"] (defScope s__law_heard) := ⟨rfl, rfl, rfl, by decide +kernel, rfl, by decide +kernel, by decide +kernel⟩
theorem ok__law_heard (T : Tx P w K mg base C_BadText C_ChangeError C_InvalidText) (G_tokens_of : Fd P w K mg base "tokens_of" s_tokens_of 5 ["text"] g_tokens_of) {f : Addr} {fd : FuncData} (F : Fun K "_law_heard" "_law_heard" s__law_heard f fd) : FnG P w K mg base 6 f fd ["_law_text_here"] (spD K (faOf mg) 1 g__law_heard) :=
  fn_ok F sc__law_heard fun cdv A outer s H E hr hgd => (ss_cons (ss_set 1 sc__law_heard.nd se_non)
    (ss_cons (ss_try rfl T.sub rfl rfl sc__law_heard.nd (takes_of rfl rfl rfl rfl) (fun W pn xe tkT poT => (ss_one (ss_set 1 sc__law_heard.nd (se_callN G_tokens_of (roomLe hr (by decide)) hgd tkT (sa_cons (se_var 0) sa_nil))))) (.cons T.m_BadText (faOf_of T.m_BadText) (fun a oe C dd pn hz hf => (ss_one (ss_set 1 sc__law_heard.nd (se_tup (sa_cons (se_callB (cl_repr (unRS hr) hgd) ll_repr T.z_repr b_repr (sa_cons (se_xf (T.fld_BadText_position) hz hf (se_var 2)) sa_nil)) (sa_cons (se_isxA (T.isi_BadText) T.sub hz hf T.z_isinstance (sa_cons (se_var 2) (sa_cons (se_fn T.m_ChangeError (faOf_of T.m_ChangeError)) sa_nil))) sa_nil)))))) (.cons T.m_InvalidText (faOf_of T.m_InvalidText) (fun a oe C dd pn hz hf => (ss_one (ss_set 1 sc__law_heard.nd (se_tup (sa_cons se_str (sa_cons (se_callB (cl_repr (unRS hr) hgd) ll_repr T.z_repr b_repr (sa_cons (se_xf (T.fld_InvalidText_value) hz hf (se_var 2)) sa_nil)) (sa_cons (se_isxA (T.isi_InvalidText) T.sub hz hf T.z_isinstance (sa_cons (se_var 2) (sa_cons (se_fn T.m_ChangeError (faOf_of T.m_ChangeError)) sa_nil))) sa_nil))))))) .nil)))
    (ss_one (ss_ret (se_var 1)))))
theorem sc__law_draw : FnScope ["_law_pot_here", "_law_room", "_law_digit"] ["_law_pot_here", "_law_room"] (defScope s__law_draw) := ⟨rfl, rfl, rfl, by decide +kernel, rfl, by decide +kernel, by decide +kernel⟩
theorem ok__law_draw (T : Tx P w K mg base C_BadText C_ChangeError C_InvalidText) {f : Addr} {fd : FuncData} (F : Fun K "_law_draw" "_law_draw" s__law_draw f fd) : FnG P w K mg base 1 f fd ["_law_pot_here", "_law_room"] (spD K (faOf mg) 2 g__law_draw) :=
  fn_ok F sc__law_draw fun cdv A outer s H E hr hgd => (ss_cons (ss_if (st_cmp op_gt l_gt (se_ix ix_seq l_ix (se_var 0) se_int (fun _ _ => rfl)) se_int rfl) (ss_cons (ss_asg (se_callB call_divmodW ll_divmod T.z_divmod b_divmod (sa_cons (se_ix ix_seq l_ix (se_var 0) se_int (fun _ _ => rfl)) (sa_cons (se_var 1) sa_nil))) (gt_tup rfl (gts_cons (gt_sub (se_var 0) se_int set_list l_stL) (gts_cons (gt_name 2 sc__law_draw.nd) gts_nil))))
    (ss_one (ss_ret (se_var 2)))) ss_nil)
    (ss_cons (ss_asg (se_bin op_mod l_mod (se_callTy cl_int ll_int T.z_int b_int (sa_cons (se_bin op_addA l_add (se_bin op_mulW l_mul (se_ix ix_seq l_ix (se_var 0) se_int (fun _ _ => rfl)) se_int) se_int) sa_nil)) se_int) (gt_sub (se_var 0) se_int set_list l_stL))
    (ss_one (ss_ret (se_bin op_mod l_mod (se_callTy cl_int ll_int T.z_int b_int (sa_cons (se_bin op_fdivW l_fdiv (se_bin op_mod l_mod (se_callTy cl_int ll_int T.z_int b_int (sa_cons (se_bin op_mulW l_mul (se_ix ix_seq l_ix (se_var 0) se_int (fun _ _ => rfl)) (se_ix ix_seq l_ix (se_var 0) se_int (fun _ _ => rfl))) sa_nil)) se_int) se_int) sa_nil)) (se_var 1))))))
theorem sc__law_pick : FnScope ["_law_pot_here", "_law_some"] ["_law_pot_here", "_law_some"] (defScope s__law_pick) := ⟨rfl, rfl, rfl, by decide +kernel, rfl, by decide +kernel, by decide +kernel⟩
theorem ok__law_pick (T : Tx P w K mg base C_BadText C_ChangeError C_InvalidText) (G__law_draw : Fd P w K mg base "_law_draw" s__law_draw 1 ["_law_pot_here", "_law_room"] g__law_draw) {f : Addr} {fd : FuncData} (F : Fun K "_law_pick" "_law_pick" s__law_pick f fd) : FnG P w K mg base 2 f fd ["_law_pot_here", "_law_some"] (spD K (faOf mg) 2 g__law_pick) :=
  fn_ok F sc__law_pick fun cdv A outer s H E hr hgd => (ss_one (ss_ret (se_ix ix_seq l_ix (se_var 1) (se_callN G__law_draw (roomLe hr (by decide)) hgd (takes_of rfl rfl rfl rfl) (sa_cons (se_var 0) (sa_cons (se_callB cl_len ll_len T.z_len b_len (sa_cons (se_var 1) sa_nil)) sa_nil))) (fun _ _ => rfl))))
theorem sc__law_piece : FnScope ["_law_pot_here", "_law_way", "_law_some"] ["_law_pot_here"] (defScope s__law_piece) := ⟨rfl, rfl, rfl, by decide +kernel, rfl, by decide +kernel, by decide +kernel⟩
theorem ok__law_piece (T : Tx P w K mg base C_BadText C_ChangeError C_InvalidText) (G__law_draw : Fd P w K mg base "_law_draw" s__law_draw 1 ["_law_pot_here", "_law_room"] g__law_draw) (G__law_pick : Fd P w K mg base "_law_pick" s__law_pick 2 ["_law_pot_here", "_law_some"] g__law_pick) (G__law_words : Fd P w K mg base "_law_words" s__law_words 1 [] g__law_words) {f : Addr} {fd : FuncData} (F : Fun K "_law_piece" "_law_piece" s__law_piece f fd) : FnG P w K mg base 3 f fd ["_law_pot_here"] (spD K (faOf mg) 1 g__law_piece) :=
  fn_ok F sc__law_piece fun cdv A outer s H E hr hgd => (ss_cons (ss_set 1 sc__law_piece.nd (se_callN G__law_draw (roomLe hr (by decide)) hgd (takes_of rfl rfl rfl rfl) (sa_cons (se_var 0) (sa_cons se_int sa_nil))))
    (ss_cons (ss_if (st_cmp (op_eqA (un64 hr)) l_eq (se_var 1) se_int rfl) (ss_one (ss_ret (se_callN G__law_pick (roomLe hr (by decide)) hgd (takes_of rfl rfl rfl rfl) (sa_cons (se_var 0) (sa_cons (se_call0 G__law_words (roomLe hr (by decide)) hgd (takes_of rfl rfl rfl rfl)) sa_nil))))) ss_nil)
    (ss_cons (ss_if (st_cmp (op_eqA (un64 hr)) l_eq (se_var 1) se_int rfl) (ss_one (ss_ret (se_callN G__law_pick (roomLe hr (by decide)) hgd (takes_of rfl rfl rfl rfl) (sa_cons (se_var 0) (sa_cons (se_lst (sa_cons se_str (sa_cons se_str (sa_cons se_str (sa_cons se_str (sa_cons se_str (sa_cons se_str (sa_cons se_str (sa_cons se_str sa_nil))))))))) sa_nil))))) ss_nil)
    (ss_cons (ss_if (st_cmp (op_eqA (un64 hr)) l_eq (se_var 1) se_int rfl) (ss_one (ss_ret (se_callN G__law_pick (roomLe hr (by decide)) hgd (takes_of rfl rfl rfl rfl) (sa_cons (se_var 0) (sa_cons (se_lst (sa_cons se_str (sa_cons se_str (sa_cons se_str (sa_cons se_str (sa_cons se_str (sa_cons se_str (sa_cons se_str (sa_cons se_str (sa_cons se_str (sa_cons se_str (sa_cons se_str sa_nil)))))))))))) sa_nil))))) ss_nil)
    (ss_cons (ss_if (st_cmp (op_eqA (un64 hr)) l_eq (se_var 1) se_int rfl) (ss_cons (ss_set 2 sc__law_piece.nd (se_lst (sa_cons se_str (sa_cons se_str (sa_cons se_str (sa_cons se_str (sa_cons se_str (sa_cons se_str (sa_cons se_str (sa_cons se_str (sa_cons se_str (sa_cons se_str sa_nil))))))))))))
    (ss_one (ss_ret (se_callN G__law_pick (roomLe hr (by decide)) hgd (takes_of rfl rfl rfl rfl) (sa_cons (se_var 0) (sa_cons (se_var 2) sa_nil)))))) ss_nil)
    (ss_cons (ss_if (st_cmp (op_eqA (un64 hr)) l_eq (se_var 1) se_int rfl) (ss_one (ss_ret (se_callN G__law_pick (roomLe hr (by decide)) hgd (takes_of rfl rfl rfl rfl) (sa_cons (se_var 0) (sa_cons (se_lst (sa_cons se_str (sa_cons se_str (sa_cons se_str (sa_cons se_str (sa_cons se_str (sa_cons se_str (sa_cons se_str (sa_cons se_str (sa_cons se_str (sa_cons se_str sa_nil))))))))))) sa_nil))))) ss_nil)
    (ss_one (ss_ret (se_callN G__law_pick (roomLe hr (by decide)) hgd (takes_of rfl rfl rfl rfl) (sa_cons (se_var 0) (sa_cons (se_lst (sa_cons se_str (sa_cons se_str (sa_cons se_str (sa_cons se_str (sa_cons se_str (sa_cons se_str (sa_cons se_str (sa_cons se_str (sa_cons se_str (sa_cons se_str (sa_cons se_str (sa_cons se_str (sa_cons se_str (sa_cons se_str (sa_cons se_str (sa_cons se_str (sa_cons se_str (sa_cons se_str (sa_cons se_str (sa_cons se_str (sa_cons se_str (sa_cons se_str (sa_cons se_str (sa_cons se_str (sa_cons se_str (sa_cons se_str sa_nil))))))))))))))))))))))))))) sa_nil)))))))))))
theorem sc__law_text : FnScope ["_law_pot_here", "_law_found", "_law_turn", "_law_at"] ["_law_pot_here"] (defScope s__law_text) := ⟨rfl, rfl, rfl, by decide +kernel, rfl, by decide +kernel, by decide +kernel⟩
theorem ok__law_text (T : Tx P w K mg base C_BadText C_ChangeError C_InvalidText) (G__law_draw : Fd P w K mg base "_law_draw" s__law_draw 1 ["_law_pot_here", "_law_room"] g__law_draw) (G__law_pick : Fd P w K mg base "_law_pick" s__law_pick 2 ["_law_pot_here", "_law_some"] g__law_pick) (G__law_piece : Fd P w K mg base "_law_piece" s__law_piece 3 ["_law_pot_here"] g__law_piece) {f : Addr} {fd : FuncData} (F : Fun K "_law_text" "_law_text" s__law_text f fd) : FnG P w K mg base 4 f fd ["_law_pot_here"] (spD K (faOf mg) 1 g__law_text) :=
  fn_ok F sc__law_text fun cdv A outer s H E hr hgd => (ss_cons (ss_set 1 sc__law_text.nd se_str)
    (ss_cons (ss_for (passes_of rfl) rfl (si_rng1 T.z_range (sa_cons (se_bin op_addA l_add se_int (se_callN G__law_draw (roomLe hr (by decide)) hgd (takes_of rfl rfl rfl rfl) (sa_cons (se_var 0) (sa_cons se_int sa_nil)))) sa_nil)) (gt_name 2 sc__law_text.nd) (ss_one (ss_set 1 sc__law_text.nd (se_bin op_addA l_add (se_bin op_addA l_add (se_var 1) (se_callN G__law_piece (roomLe hr (by decide)) hgd (takes_of rfl rfl rfl rfl) (sa_cons (se_var 0) sa_nil))) (se_callN G__law_pick (roomLe hr (by decide)) hgd (takes_of rfl rfl rfl rfl) (sa_cons (se_var 0) (sa_cons (se_lst (sa_cons se_str (sa_cons se_str (sa_cons se_str (sa_cons se_str (sa_cons se_str (sa_cons se_str sa_nil))))))) sa_nil)))))))
    (ss_cons (ss_if (st_cmp (op_eqA (un64 hr)) l_eq (se_callN G__law_draw (roomLe hr (by decide)) hgd (takes_of rfl rfl rfl rfl) (sa_cons (se_var 0) (sa_cons se_int sa_nil))) se_int rfl) (ss_cons (ss_set 3 sc__law_text.nd (se_callN G__law_draw (roomLe hr (by decide)) hgd (takes_of rfl rfl rfl rfl) (sa_cons (se_var 0) (sa_cons (se_bin op_addA l_add (se_callB cl_len ll_len T.z_len b_len (sa_cons (se_var 1) sa_nil)) se_int) sa_nil))))
    (ss_one (ss_set 1 sc__law_text.nd (se_bin op_addA l_add (se_bin op_addA l_add (se_sl (se_var 1) so_none (so_some (se_var 3))) (se_callN G__law_pick (roomLe hr (by decide)) hgd (takes_of rfl rfl rfl rfl) (sa_cons (se_var 0) (sa_cons (se_lst (sa_cons se_str (sa_cons se_str (sa_cons se_str (sa_cons se_str (sa_cons se_str (sa_cons se_str (sa_cons se_str (sa_cons se_str (sa_cons se_str (sa_cons se_str (sa_cons se_str sa_nil)))))))))))) sa_nil)))) (se_sl (se_var 1) (so_some (se_bin op_addA l_add (se_var 3) (se_callN G__law_draw (roomLe hr (by decide)) hgd (takes_of rfl rfl rfl rfl) (sa_cons (se_var 0) (sa_cons se_int sa_nil))))) so_none))))) ss_nil)
    (ss_one (ss_ret (se_var 1))))))
theorem sc__law_right : FnScope ["_law_pot_here", "_law_odd", "_law_turn", "_law_text_here", "_law_due", "_law_wrong", "_law_heard_here"] ["_law_pot_here"] (defScope s__law_right) := ⟨rfl, rfl, rfl, by decide +kernel, rfl, by decide +kernel, by decide +kernel⟩
theorem ok__law_right (T : Tx P w K mg base C_BadText C_ChangeError C_InvalidText) (G__law_heard : Fd P w K mg base "_law_heard" s__law_heard 6 ["_law_text_here"] g__law_heard) (G__law_text : Fd P w K mg base "_law_text" s__law_text 4 ["_law_pot_here"] g__law_text) (G__law_tokens : Fd P w K mg base "_law_tokens" s__law_tokens 4 ["_law_text_here"] g__law_tokens) (G_tokens_of : Fd P w K mg base "tokens_of" s_tokens_of 5 ["text"] g_tokens_of) (K_tokens_of : KwP K mg "tokens_of" ["text"] ["text"] [0]) {f : Addr} {fd : FuncData} (F : Fun K "_law_right" "_law_right" s__law_right f fd) : FnG P w K mg base 7 f fd ["_law_pot_here"] (spD K (faOf mg) 1 g__law_right) :=
  fn_ok F sc__law_right fun cdv A outer s H E hr hgd => (ss_cons (ss_for (passes_of rfl) rfl (si_lst (se_lst (sa_cons se_non (sa_cons se_int (sa_cons se_bl (sa_cons (se_lst sa_nil) (sa_cons (se_tup (sa_cons se_str sa_nil)) (sa_cons se_dic sa_nil)))))))) (gt_name 1 sc__law_right.nd) (ss_one (ss_if (st_cmp (op_neA (un64 hr)) l_ne (se_callN G__law_heard (roomLe hr (by decide)) hgd (takes_of rfl rfl rfl rfl) (sa_cons (se_var 1) sa_nil)) (se_tup (sa_cons se_str (sa_cons (se_callB (cl_repr (unR hr) hgd) ll_repr T.z_repr b_repr (sa_cons (se_var 1) sa_nil)) (sa_cons se_bl sa_nil)))) rfl) (ss_one (ss_ret se_bl)) ss_nil)))
    (ss_cons (ss_for (passes_of rfl) rfl (si_rng1 T.z_range (sa_cons se_int sa_nil)) (gt_name 2 sc__law_right.nd) (ss_cons (ss_set 3 sc__law_right.nd (se_callN G__law_text (roomLe hr (by decide)) hgd (takes_of rfl rfl rfl rfl) (sa_cons (se_var 0) sa_nil)))
    (ss_cons (ss_asg (se_callN G__law_tokens (roomLe hr (by decide)) hgd (takes_of rfl rfl rfl rfl) (sa_cons (se_var 3) sa_nil)) (gt_tup rfl (gts_cons (gt_name 4 sc__law_right.nd) (gts_cons (gt_name 5 sc__law_right.nd) gts_nil))))
    (ss_cons (ss_set 6 sc__law_right.nd (se_callN G__law_heard (roomLe hr (by decide)) hgd (takes_of rfl rfl rfl rfl) (sa_cons (se_var 3) sa_nil)))
    (ss_one (ss_if (st_cmp op_ge l_ge (se_var 5) se_int rfl) (ss_one (ss_if (st_cmp (op_neA (un64 hr)) l_ne (se_var 6) (se_tup (sa_cons (se_callB (cl_repr (unR hr) hgd) ll_repr T.z_repr b_repr (sa_cons (se_var 5) sa_nil)) (sa_cons se_bl sa_nil))) rfl) (ss_one (ss_ret se_bl)) ss_nil)) (ss_cons (ss_if (st_cmp (op_neA (un64 hr)) l_ne (se_callB (cl_repr (unR hr) hgd) ll_repr T.z_repr b_repr (sa_cons (se_var 6) sa_nil)) (se_callB (cl_repr (unR hr) hgd) ll_repr T.z_repr b_repr (sa_cons (se_var 4) sa_nil)) rfl) (ss_one (ss_ret se_bl)) ss_nil)
    (ss_cons (ss_exp (se_meth PySem.F.plainAttrs_list PySem.F.slot_list_append PySem.F.type_list_append mt_append m_append (se_var 6) (sa_cons se_non sa_nil)))
    (ss_one (ss_if (st_cmp (op_neA (un64 hr)) l_ne (se_callB (cl_repr (unR hr) hgd) ll_repr T.z_repr b_repr (sa_cons (se_callK G_tokens_of K_tokens_of (roomLe hr (by decide)) hgd (takes_of rfl rfl rfl rfl) (sk_cons (se_var 3) sk_nil)) sa_nil)) (se_callB (cl_repr (unR hr) hgd) ll_repr T.z_repr b_repr (sa_cons (se_var 4) sa_nil)) rfl) (ss_one (ss_ret se_bl)) ss_nil))))))))))
    (ss_one (ss_ret (se_and (se_cmp (op_eqA (un64 hr)) l_eq (se_callN G_tokens_of (roomLe hr (by decide)) hgd (takes_of rfl rfl rfl rfl) (sa_cons se_str sa_nil)) (se_lst sa_nil) rfl) (se_one (se_cmp (op_eqA (un64 hr)) l_eq (se_callN G_tokens_of (roomLe hr (by decide)) hgd (takes_of rfl rfl rfl rfl) (sa_cons se_str sa_nil)) (se_lst sa_nil) rfl)))))))
theorem sc_law : FnScope ["_law_script"] ["_law_script"] (defScope s_law) := ⟨rfl, rfl, rfl, by decide +kernel, rfl, by decide +kernel, by decide +kernel⟩
theorem ok_law (T : Tx P w K mg base C_BadText C_ChangeError C_InvalidText) (G__law_pot : Fd P w K mg base "_law_pot" s__law_pot 1 ["_law_script", "_law_k"] g__law_pot) (G__law_right : Fd P w K mg base "_law_right" s__law_right 7 ["_law_pot_here"] g__law_right) {f : Addr} {fd : FuncData} (F : Fun K "law" "law" s_law f fd) : FnG P w K mg base 8 f fd ["_law_script"] (spD K (faOf mg) 1 g_law) :=
  fn_ok F sc_law fun cdv A outer s H E hr hgd => (ss_one (ss_ret (se_callN G__law_right (roomLe hr (by decide)) hgd (takes_of rfl rfl rfl rfl) (sa_cons (se_callN G__law_pot (roomLe hr (by decide)) hgd (takes_of rfl rfl rfl rfl) (sa_cons (se_var 0) (sa_cons se_int sa_nil))) sa_nil))))
end
end Pm

namespace Pm
open PySem L2 PyProof.Rows SX
/-! ### signs -/
def lw (c : Nat) : Bool := decide (97 ≤ c) && decide (c ≤ 122)
def up (c : Nat) : Bool := decide (65 ≤ c) && decide (c ≤ 90)
def dg (c : Nat) : Bool := decide (48 ≤ c) && decide (c ≤ 57)
def al (c : Nat) : Bool := lw c || up c || dg c
def asc (t : List Nat) : Prop := ∀ c ∈ t, c < 128
theorem uni128 : (List.range 128).all (fun c => (Unicode.isAlnum c == al c) && (Unicode.isDigit c == dg c) && (Unicode.isLower c == lw c) && (Unicode.isUpper c == up c) && (Unicode.isTitle c == false)) = true := by decide +kernel
theorem uni (c : Nat) (h : c < 128) : Unicode.isAlnum c = al c ∧ Unicode.isDigit c = dg c ∧ Unicode.isLower c = lw c ∧ Unicode.isUpper c = up c ∧ Unicode.isTitle c = false := by
  have := List.all_eq_true.mp uni128 c (List.mem_range.mpr h)
  simp only [Bool.and_eq_true, beq_iff_eq] at this
  exact ⟨this.1.1.1.1, this.1.1.1.2, this.1.1.2, this.1.2, this.2⟩
theorem asc.drop {t : List Nat} (h : asc t) (n : Nat) : asc (t.drop n) := fun c hc => h c (List.mem_of_mem_drop hc)
theorem asc.take {t : List Nat} (h : asc t) (n : Nat) : asc (t.take n) := fun c hc => h c (List.mem_of_mem_take hc)
theorem asc.tw {t : List Nat} (h : asc t) (p : Nat → Bool) : asc (t.takeWhile p) := fun c hc => h c (List.takeWhile_subset _ hc)
theorem all_arr (r : List Nat) (p : Nat → Bool) : (S r).cps.all p = r.all p := by simp [S]
theorem any_arr (r : List Nat) (p : Nat → Bool) : (S r).cps.any p = r.any p := by simp [S]
theorem all_cg {r : List Nat} {p q : Nat → Bool} (h : ∀ c ∈ r, p c = q c) : r.all p = r.all q := by
  induction r with
  | nil => rfl
  | cons a r ih => rw [List.all_cons, List.all_cons, h a List.mem_cons_self, ih fun c hc => h c (List.mem_cons_of_mem _ hc)]
theorem x_ascii {r : List Nat} (h : asc r) : Txt.isascii (S r) = true := by
  unfold Txt.isascii
  rw [all_arr, List.all_eq_true]
  exact fun c hc => decide_eq_true (h c hc)
theorem ne0 (r : List Nat) : decide ((S r).length > 0) = !r.isEmpty := by
  rw [S_len]
  cases r <;> simp
theorem x_alnum {r : List Nat} (h : asc r) : Txt.isalnum (S r) = (!r.isEmpty && r.all al) := by
  unfold Txt.isalnum
  rw [all_arr, ne0, all_cg fun c hc => (uni c (h c hc)).1]
theorem x_digit {r : List Nat} (h : asc r) : Txt.isdigit (S r) = (!r.isEmpty && r.all dg) := by
  unfold Txt.isdigit
  rw [all_arr, ne0, all_cg fun c hc => (uni c (h c hc)).2.1]
theorem x_lower1 {x : Nat} (h : x < 128) : Txt.islower (S [x]) = lw x := by
  unfold Txt.islower
  rw [any_arr, any_arr]
  obtain ⟨_, _, h1, h2, h3⟩ := uni x h
  simp only [List.any_cons, List.any_nil, h1, h2, h3, Bool.or_false]
  unfold lw up
  cases e1 : decide (97 ≤ x) <;> cases e2 : decide (x ≤ 122) <;> cases e3 : decide (65 ≤ x) <;> cases e4 : decide (x ≤ 90) <;> simp_all <;> omega
theorem x_upper1 {x : Nat} (h : x < 128) : Txt.isupper (S [x]) = up x := by
  unfold Txt.isupper
  rw [any_arr, any_arr]
  obtain ⟨_, _, h1, h2, h3⟩ := uni x h
  simp only [List.any_cons, List.any_nil, h1, h2, h3, Bool.or_false]
  unfold lw up
  cases e1 : decide (97 ≤ x) <;> cases e2 : decide (x ≤ 122) <;> cases e3 : decide (65 ≤ x) <;> cases e4 : decide (x ≤ 90) <;> simp_all <;> omega
theorem S_eq (a b : List Nat) : (S a = S b) = (a = b) := propext ⟨S_inj, fun h => by rw [h]⟩
/-! ### the program's smaller defs -/
theorem t_is_run (z : Str) (c : Cells) : g_is_run [.d (.str z)] c = .ok (.d (.bl (Txt.isascii z && Txt.isalnum z))) c := by
  unfold g_is_run
  rw [runB_of [some (.d (.str z))] rfl]
  unfold d_is_run
  simp only [e_gt, e_gtT, e_gtC, e_gtN, OS.only_nx, OS.only_exc, ca_take, and_self, true_and, and_true, List.nodup_cons, List.nodup_nil, List.not_mem_nil, not_false_eq_true, List.zip_cons_cons, List.zip_nil_right, Nat.reduceAdd, Nat.reduceLeDiff, decide_true, decide_false, Bool.not_true, Bool.not_false, fr0, fr1, fr2, fr3, mk0, mkT1, mkT2, mkT3, e_v0, e_v1, e_v2, e_v3, e_v4, e_v5, e_v6, e_v7, e_v8, e_v9, e_g0, e_g1, e_g2, e_g3, e_g4, e_g5, e_g6, e_g7, e_g8, e_g9, e_s0, e_s1, e_s2, e_s3, e_s4, e_s5, e_s6, e_s7, e_s8, e_s9, e_c, e_nil, e_cons, e_bin, e_call, e_callN, e_test, e_not, e_and, e_or, e_andV, e_orV, e_if, e_isN, e_meth, e_tup, e_lst, e_sl, e_some, e_none, e_scons, e_set, e_ret, e_exp, e_sif, e_asg, e_raise, e_par, o_lt, o_le, o_gt, o_ge, o_sub, o_addI, o_iaddI, o_eqS, o_neS, o_eqI, o_isi, o_s0, o_sI, tyS, bT_ok, bT_exc, Out.bind_ok, Out.bind_exc, Out.bind_bad, Out.st_ok, Out.st_exc, Out.st_bad, OS.andThen_nx, OS.andThen_ret, OS.andThen_brk, OS.andThen_cnt, OS.andThen_exc, OS.andThen_bad, finR_nx, finR_ret, finR_exc, List.getElem?_cons_zero, List.getElem?_cons_succ, List.length_cons, List.length_nil, if_true, if_false, reduceIte, Bool.false_eq_true, List.take_length]
  cases Txt.isascii z <;> simp only [e_gt, e_gtT, e_gtC, e_gtN, OS.only_nx, OS.only_exc, ca_take, and_self, true_and, and_true, List.nodup_cons, List.nodup_nil, List.not_mem_nil, not_false_eq_true, List.zip_cons_cons, List.zip_nil_right, Nat.reduceAdd, Nat.reduceLeDiff, decide_true, decide_false, Bool.not_true, Bool.not_false, fr0, fr1, fr2, fr3, mk0, mkT1, mkT2, mkT3, e_v0, e_v1, e_v2, e_v3, e_v4, e_v5, e_v6, e_v7, e_v8, e_v9, e_g0, e_g1, e_g2, e_g3, e_g4, e_g5, e_g6, e_g7, e_g8, e_g9, e_s0, e_s1, e_s2, e_s3, e_s4, e_s5, e_s6, e_s7, e_s8, e_s9, e_c, e_nil, e_cons, e_bin, e_call, e_callN, e_test, e_not, e_and, e_or, e_andV, e_orV, e_if, e_isN, e_meth, e_tup, e_lst, e_sl, e_some, e_none, e_scons, e_set, e_ret, e_exp, e_sif, e_asg, e_raise, e_par, o_lt, o_le, o_gt, o_ge, o_sub, o_addI, o_iaddI, o_eqS, o_neS, o_eqI, o_isi, o_s0, o_sI, tyS, bT_ok, bT_exc, Out.bind_ok, Out.bind_exc, Out.bind_bad, Out.st_ok, Out.st_exc, Out.st_bad, OS.andThen_nx, OS.andThen_ret, OS.andThen_brk, OS.andThen_cnt, OS.andThen_exc, OS.andThen_bad, finR_nx, finR_ret, finR_exc, List.getElem?_cons_zero, List.getElem?_cons_succ, List.length_cons, List.length_nil, if_true, if_false, reduceIte, Bool.false_eq_true, List.take_length, Bool.true_and, Bool.false_and]
theorem is_runS {r : List Nat} (h : asc r) (c : Cells) : g_is_run [.d (.str (S r))] c = .ok (.d (.bl (!r.isEmpty && r.all al))) c := by
  rw [t_is_run, x_ascii h, x_alnum h, Bool.true_and]
theorem is_run1 {x : Nat} (h : x < 128) (c : Cells) : g_is_run [.d (.str (S [x]))] c = .ok (.d (.bl (al x))) c := by
  rw [is_runS (fun c hc => by simp at hc; omega)]
  simp
/-- a loop along a text while its signs are of a kind -/
theorem drop_cons {t : List Nat} {n : Nat} (h : n < t.length) : ∃ x, t[n]? = some x ∧ t.drop n = x :: t.drop (n + 1) := ⟨t[n], by simp [h], List.drop_eq_getElem_cons h⟩
def twl (p : Nat → Bool) (t : List Nat) (n : Nat) : Nat := ((t.drop n).takeWhile p).length
theorem twl_step {p : Nat → Bool} {t : List Nat} {n x : Nat} (h : t[n]? = some x) : twl p t n = if p x = true then twl p t (n + 1) + 1 else 0 := by
  obtain ⟨y, h1, h2⟩ := drop_cons (List.getElem?_eq_some_iff.mp h).1
  rw [h] at h1; cases h1
  unfold twl
  rw [h2, List.takeWhile_cons]
  split <;> simp
theorem twl_end {p : Nat → Bool} {t : List Nat} {n : Nat} (h : t.length ≤ n) : twl p t n = 0 := by
  unfold twl
  rw [List.drop_eq_nil_of_le h]
  rfl
theorem t_run_end {t : List Nat} (ht : asc t) (hl : t.length ≤ 400) (n : Nat) (c : Cells) : g_run_end [.d (.str (S t)), .d (.int n)] c = .ok (.d (.int ((n + twl al t n : Nat) : Int))) c := by
  unfold g_run_end
  rw [runB_of [some (.d (.str (S t))), some (.d (.int n)), none] rfl]
  unfold d_run_end
  have hl2 : t.length ≤ 1000000 := by omega
  have loop : ∀ (m k j : Nat), t.length - j < k → k ≤ m → ∀ w, loopW (dAnd (dTest (dBin oLt (dVar 2) (dCall oLen (dCons (dVar 0) dNil)))) (dTest (dCallN 1 g_is_run (dCons (dBin oIx (dVar 0) (dVar 2)) dNil)))) (sAug 2 oIadd (dC (.int 1))) m [some (.d (.str (S t))), w, some (.d (.int j))] c
      = .nx [some (.d (.str (S t))), w, some (.d (.int ((j + twl al t j : Nat) : Int)))] c := by
    intro m k
    induction k generalizing m with
    | zero => intro j h; omega
    | succ k ih =>
      intro j h hm w
      obtain ⟨m, rfl⟩ : ∃ m', m = m' + 1 := ⟨m - 1, by omega⟩
      rw [loopW_succ]
      simp only [e_gt, e_gtT, e_gtC, e_gtN, OS.only_nx, OS.only_exc, ca_take, and_self, true_and, and_true, List.nodup_cons, List.nodup_nil, List.not_mem_nil, not_false_eq_true, List.zip_cons_cons, List.zip_nil_right, Nat.reduceAdd, Nat.reduceLeDiff, decide_true, decide_false, Bool.not_true, Bool.not_false, fr0, fr1, fr2, fr3, mk0, mkT1, mkT2, mkT3, e_v0, e_v1, e_v2, e_v3, e_v4, e_v5, e_v6, e_v7, e_v8, e_v9, e_g0, e_g1, e_g2, e_g3, e_g4, e_g5, e_g6, e_g7, e_g8, e_g9, e_s0, e_s1, e_s2, e_s3, e_s4, e_s5, e_s6, e_s7, e_s8, e_s9, e_c, e_nil, e_cons, e_bin, e_call, e_callN, e_test, e_not, e_and, e_or, e_andV, e_orV, e_if, e_isN, e_meth, e_tup, e_lst, e_sl, e_some, e_none, e_scons, e_set, e_ret, e_exp, e_sif, e_asg, e_raise, e_par, o_lt, o_le, o_gt, o_ge, o_sub, o_addI, o_iaddI, o_eqS, o_neS, o_eqI, o_isi, o_s0, o_sI, tyS, bT_ok, bT_exc, Out.bind_ok, Out.bind_exc, Out.bind_bad, Out.st_ok, Out.st_exc, Out.st_bad, OS.andThen_nx, OS.andThen_ret, OS.andThen_brk, OS.andThen_cnt, OS.andThen_exc, OS.andThen_bad, finR_nx, finR_ret, finR_exc, List.getElem?_cons_zero, List.getElem?_cons_succ, List.length_cons, List.length_nil, if_true, if_false, reduceIte, Bool.false_eq_true, List.take_length, o_len c t hl2]
      by_cases hj : j < t.length
      · obtain ⟨x, hx, hd⟩ := drop_cons hj
        have e1 : decide ((j : Int) < (t.length : Int)) = true := decide_eq_true (by omega)
        have hx2 : x < 128 := ht x (List.mem_of_getElem? hx)
        simp only [e1, e_gt, e_gtT, e_gtC, e_gtN, OS.only_nx, OS.only_exc, ca_take, and_self, true_and, and_true, List.nodup_cons, List.nodup_nil, List.not_mem_nil, not_false_eq_true, List.zip_cons_cons, List.zip_nil_right, Nat.reduceAdd, Nat.reduceLeDiff, decide_true, decide_false, Bool.not_true, Bool.not_false, fr0, fr1, fr2, fr3, mk0, mkT1, mkT2, mkT3, e_v0, e_v1, e_v2, e_v3, e_v4, e_v5, e_v6, e_v7, e_v8, e_v9, e_g0, e_g1, e_g2, e_g3, e_g4, e_g5, e_g6, e_g7, e_g8, e_g9, e_s0, e_s1, e_s2, e_s3, e_s4, e_s5, e_s6, e_s7, e_s8, e_s9, e_c, e_nil, e_cons, e_bin, e_call, e_callN, e_test, e_not, e_and, e_or, e_andV, e_orV, e_if, e_isN, e_meth, e_tup, e_lst, e_sl, e_some, e_none, e_scons, e_set, e_ret, e_exp, e_sif, e_asg, e_raise, e_par, o_lt, o_le, o_gt, o_ge, o_sub, o_addI, o_iaddI, o_eqS, o_neS, o_eqI, o_isi, o_s0, o_sI, tyS, bT_ok, bT_exc, Out.bind_ok, Out.bind_exc, Out.bind_bad, Out.st_ok, Out.st_exc, Out.st_bad, OS.andThen_nx, OS.andThen_ret, OS.andThen_brk, OS.andThen_cnt, OS.andThen_exc, OS.andThen_bad, finR_nx, finR_ret, finR_exc, List.getElem?_cons_zero, List.getElem?_cons_succ, List.length_cons, List.length_nil, if_true, if_false, reduceIte, Bool.false_eq_true, List.take_length, o_ix c t hl2 hx, is_run1 hx2]
        rw [twl_step hx]
        cases al x with
        | true =>
          simp only [e_gt, e_gtT, e_gtC, e_gtN, OS.only_nx, OS.only_exc, ca_take, and_self, true_and, and_true, List.nodup_cons, List.nodup_nil, List.not_mem_nil, not_false_eq_true, List.zip_cons_cons, List.zip_nil_right, Nat.reduceAdd, Nat.reduceLeDiff, decide_true, decide_false, Bool.not_true, Bool.not_false, fr0, fr1, fr2, fr3, mk0, mkT1, mkT2, mkT3, e_v0, e_v1, e_v2, e_v3, e_v4, e_v5, e_v6, e_v7, e_v8, e_v9, e_g0, e_g1, e_g2, e_g3, e_g4, e_g5, e_g6, e_g7, e_g8, e_g9, e_s0, e_s1, e_s2, e_s3, e_s4, e_s5, e_s6, e_s7, e_s8, e_s9, e_c, e_nil, e_cons, e_bin, e_call, e_callN, e_test, e_not, e_and, e_or, e_andV, e_orV, e_if, e_isN, e_meth, e_tup, e_lst, e_sl, e_some, e_none, e_scons, e_set, e_ret, e_exp, e_sif, e_asg, e_raise, e_par, o_lt, o_le, o_gt, o_ge, o_sub, o_addI, o_iaddI, o_eqS, o_neS, o_eqI, o_isi, o_s0, o_sI, tyS, bT_ok, bT_exc, Out.bind_ok, Out.bind_exc, Out.bind_bad, Out.st_ok, Out.st_exc, Out.st_bad, OS.andThen_nx, OS.andThen_ret, OS.andThen_brk, OS.andThen_cnt, OS.andThen_exc, OS.andThen_bad, finR_nx, finR_ret, finR_exc, List.getElem?_cons_zero, List.getElem?_cons_succ, List.length_cons, List.length_nil, if_true, if_false, reduceIte, Bool.false_eq_true, List.take_length]
          have := ih m (j + 1) (by omega) (by omega) w
          rw [show ((j : Int) + 1) = ((j + 1 : Nat) : Int) by omega, this]
          simp only [Nat.add_assoc, Nat.add_comm 1]
        | false => simp only [e_gt, e_gtT, e_gtC, e_gtN, OS.only_nx, OS.only_exc, ca_take, and_self, true_and, and_true, List.nodup_cons, List.nodup_nil, List.not_mem_nil, not_false_eq_true, List.zip_cons_cons, List.zip_nil_right, Nat.reduceAdd, Nat.reduceLeDiff, decide_true, decide_false, Bool.not_true, Bool.not_false, fr0, fr1, fr2, fr3, mk0, mkT1, mkT2, mkT3, e_v0, e_v1, e_v2, e_v3, e_v4, e_v5, e_v6, e_v7, e_v8, e_v9, e_g0, e_g1, e_g2, e_g3, e_g4, e_g5, e_g6, e_g7, e_g8, e_g9, e_s0, e_s1, e_s2, e_s3, e_s4, e_s5, e_s6, e_s7, e_s8, e_s9, e_c, e_nil, e_cons, e_bin, e_call, e_callN, e_test, e_not, e_and, e_or, e_andV, e_orV, e_if, e_isN, e_meth, e_tup, e_lst, e_sl, e_some, e_none, e_scons, e_set, e_ret, e_exp, e_sif, e_asg, e_raise, e_par, o_lt, o_le, o_gt, o_ge, o_sub, o_addI, o_iaddI, o_eqS, o_neS, o_eqI, o_isi, o_s0, o_sI, tyS, bT_ok, bT_exc, Out.bind_ok, Out.bind_exc, Out.bind_bad, Out.st_ok, Out.st_exc, Out.st_bad, OS.andThen_nx, OS.andThen_ret, OS.andThen_brk, OS.andThen_cnt, OS.andThen_exc, OS.andThen_bad, finR_nx, finR_ret, finR_exc, List.getElem?_cons_zero, List.getElem?_cons_succ, List.length_cons, List.length_nil, if_true, if_false, reduceIte, Bool.false_eq_true, List.take_length, Nat.add_zero]
      · have e1 : decide ((j : Int) < (t.length : Int)) = false := decide_eq_false (by omega)
        simp only [e1, e_gt, e_gtT, e_gtC, e_gtN, OS.only_nx, OS.only_exc, ca_take, and_self, true_and, and_true, List.nodup_cons, List.nodup_nil, List.not_mem_nil, not_false_eq_true, List.zip_cons_cons, List.zip_nil_right, Nat.reduceAdd, Nat.reduceLeDiff, decide_true, decide_false, Bool.not_true, Bool.not_false, fr0, fr1, fr2, fr3, mk0, mkT1, mkT2, mkT3, e_v0, e_v1, e_v2, e_v3, e_v4, e_v5, e_v6, e_v7, e_v8, e_v9, e_g0, e_g1, e_g2, e_g3, e_g4, e_g5, e_g6, e_g7, e_g8, e_g9, e_s0, e_s1, e_s2, e_s3, e_s4, e_s5, e_s6, e_s7, e_s8, e_s9, e_c, e_nil, e_cons, e_bin, e_call, e_callN, e_test, e_not, e_and, e_or, e_andV, e_orV, e_if, e_isN, e_meth, e_tup, e_lst, e_sl, e_some, e_none, e_scons, e_set, e_ret, e_exp, e_sif, e_asg, e_raise, e_par, o_lt, o_le, o_gt, o_ge, o_sub, o_addI, o_iaddI, o_eqS, o_neS, o_eqI, o_isi, o_s0, o_sI, tyS, bT_ok, bT_exc, Out.bind_ok, Out.bind_exc, Out.bind_bad, Out.st_ok, Out.st_exc, Out.st_bad, OS.andThen_nx, OS.andThen_ret, OS.andThen_brk, OS.andThen_cnt, OS.andThen_exc, OS.andThen_bad, finR_nx, finR_ret, finR_exc, List.getElem?_cons_zero, List.getElem?_cons_succ, List.length_cons, List.length_nil, if_true, if_false, reduceIte, Bool.false_eq_true, List.take_length, twl_end (Nat.le_of_not_lt hj), Nat.add_zero]
  simp only [e_gt, e_gtT, e_gtC, e_gtN, OS.only_nx, OS.only_exc, ca_take, and_self, true_and, and_true, List.nodup_cons, List.nodup_nil, List.not_mem_nil, not_false_eq_true, List.zip_cons_cons, List.zip_nil_right, Nat.reduceAdd, Nat.reduceLeDiff, decide_true, decide_false, Bool.not_true, Bool.not_false, fr0, fr1, fr2, fr3, mk0, mkT1, mkT2, mkT3, e_v0, e_v1, e_v2, e_v3, e_v4, e_v5, e_v6, e_v7, e_v8, e_v9, e_g0, e_g1, e_g2, e_g3, e_g4, e_g5, e_g6, e_g7, e_g8, e_g9, e_s0, e_s1, e_s2, e_s3, e_s4, e_s5, e_s6, e_s7, e_s8, e_s9, e_c, e_nil, e_cons, e_bin, e_call, e_callN, e_test, e_not, e_and, e_or, e_andV, e_orV, e_if, e_isN, e_meth, e_tup, e_lst, e_sl, e_some, e_none, e_scons, e_set, e_ret, e_exp, e_sif, e_asg, e_raise, e_par, o_lt, o_le, o_gt, o_ge, o_sub, o_addI, o_iaddI, o_eqS, o_neS, o_eqI, o_isi, o_s0, o_sI, tyS, bT_ok, bT_exc, Out.bind_ok, Out.bind_exc, Out.bind_bad, Out.st_ok, Out.st_exc, Out.st_bad, OS.andThen_nx, OS.andThen_ret, OS.andThen_brk, OS.andThen_cnt, OS.andThen_exc, OS.andThen_bad, finR_nx, finR_ret, finR_exc, List.getElem?_cons_zero, List.getElem?_cons_succ, List.length_cons, List.length_nil, if_true, if_false, reduceIte, Bool.false_eq_true, List.take_length]
  unfold sWhile
  rw [loop bigN (t.length + 1) n (by omega) (by unfold bigN; omega)]
  simp only [e_gt, e_gtT, e_gtC, e_gtN, OS.only_nx, OS.only_exc, ca_take, and_self, true_and, and_true, List.nodup_cons, List.nodup_nil, List.not_mem_nil, not_false_eq_true, List.zip_cons_cons, List.zip_nil_right, Nat.reduceAdd, Nat.reduceLeDiff, decide_true, decide_false, Bool.not_true, Bool.not_false, fr0, fr1, fr2, fr3, mk0, mkT1, mkT2, mkT3, e_v0, e_v1, e_v2, e_v3, e_v4, e_v5, e_v6, e_v7, e_v8, e_v9, e_g0, e_g1, e_g2, e_g3, e_g4, e_g5, e_g6, e_g7, e_g8, e_g9, e_s0, e_s1, e_s2, e_s3, e_s4, e_s5, e_s6, e_s7, e_s8, e_s9, e_c, e_nil, e_cons, e_bin, e_call, e_callN, e_test, e_not, e_and, e_or, e_andV, e_orV, e_if, e_isN, e_meth, e_tup, e_lst, e_sl, e_some, e_none, e_scons, e_set, e_ret, e_exp, e_sif, e_asg, e_raise, e_par, o_lt, o_le, o_gt, o_ge, o_sub, o_addI, o_iaddI, o_eqS, o_neS, o_eqI, o_isi, o_s0, o_sI, tyS, bT_ok, bT_exc, Out.bind_ok, Out.bind_exc, Out.bind_bad, Out.st_ok, Out.st_exc, Out.st_bad, OS.andThen_nx, OS.andThen_ret, OS.andThen_brk, OS.andThen_cnt, OS.andThen_exc, OS.andThen_bad, finR_nx, finR_ret, finR_exc, List.getElem?_cons_zero, List.getElem?_cons_succ, List.length_cons, List.length_nil, if_true, if_false, reduceIte, Bool.false_eq_true, List.take_length]
end Pm

namespace Pm
open PySem L2 PyProof.Rows SX
theorem any_mem (xs : List Str) (z : Str) : (xs.map D.str).any (fun y => eqF y (.str z)) = decide (z ∈ xs) := by
  induction xs with
  | nil => rfl
  | cons a xs ih =>
    rw [List.map_cons, List.any_cons, ih]
    show ((a == z) || _) = _
    by_cases h : a = z
    · subst h; simp
    · have h2 : ¬ z = a := fun e => h e.symm
      simp [h, h2]
theorem flat_strs (xs : List Str) : (xs.map D.str).all flatD = true := by
  induction xs with
  | nil => rfl
  | cons a xs ih => rw [List.map_cons, List.all_cons, ih]; rfl
theorem o_inT (z : Str) (xs : List Str) (c : Cells) : oIn false (.d (.str z)) (.d (.tup (xs.map D.str))) c = .ok (.d (.bl (decide (z ∈ xs)))) c := by
  show (if (flatD (.str z) && (xs.map D.str).all flatD) = true then Out.ok (W.d (.bl ((xs.map D.str).any fun y => eqF y (.str z)))) c else .bad) = _
  rw [flat_strs, any_mem]
  rfl
theorem o_ninT (z : Str) (xs : List Str) (c : Cells) : oIn true (.d (.str z)) (.d (.tup (xs.map D.str))) c = .ok (.d (.bl (!decide (z ∈ xs)))) c := by
  show (if (flatD (.str z) && (xs.map D.str).all flatD) = true then Out.ok (W.d (.bl (!((xs.map D.str).any fun y => eqF y (.str z))))) c else .bad) = _
  rw [flat_strs, any_mem]
  rfl
theorem o_inS (z : Str) (t : List Nat) (x : Nat) (c : Cells) (h : z = S t) : oIn false (.d (.str (S [x]))) (.d (.str z)) c = .ok (.d (.bl (decide (x ∈ t)))) c := by
  subst h
  show Out.ok (W.d (.bl (!(Builtin.Str.occurrences (S t) (S [x]) 0 (S t).length 1).isEmpty))) c = _
  rw [in_one]
theorem o_int {r : List Nat} (h : r.all dg = true) (hne : r ≠ []) (hl : r.length ≤ 640) (c : Cells) : oInt [.d (.str (S r))] c = .ok (.d (.int (NumText.digitsVal r : Nat))) c := by
  show (match PySem.intText? (S r) with | some n => if (S r).length ≤ 640 then Out.ok (W.d (.int n)) c else .bad | none => .bad) = _
  rw [int_S h hne (by omega)]
  dsimp only
  rw [S_len, if_pos hl]
theorem k_nl : (Str.ofString "\n") = S [10] := by decide +kernel
theorem k_sp : (Str.ofString " ") = S [32] := by decide +kernel
theorem k_hash : (Str.ofString "#") = S [35] := by decide +kernel
theorem k_tilde : (Str.ofString "~") = S [126] := by decide +kernel
theorem k_dot : (Str.ofString ".") = S [46] := by decide +kernel
theorem k_0 : (Str.ofString "0") = S [48] := by decide +kernel
theorem getD_S {t : List Nat} {v : Nat} : (S t).cps.getD v 0 = t.getD v 0 := by simp [S, Array.getD, List.getD]; split <;> simp_all
theorem twl_first {p : Nat → Bool} {t : List Nat} : ∀ (d n k : Nat), k - n = d → n ≤ k → k < t.length → (∀ v, n ≤ v → v < k → p (t.getD v 0) = true) → p (t.getD k 0) = false → n + twl p t n = k
  | 0, n, k, e, h1, h2, _, h4 => by
    have : n = k := by omega
    subst this
    have hx : t[n]? = some (t.getD n 0) := by simp [h2]
    rw [twl_step hx, h4]
    simp
  | d + 1, n, k, e, h1, h2, h3, h4 => by
    have hlt : n < t.length := by omega
    have hx : t[n]? = some (t.getD n 0) := by simp [hlt]
    rw [twl_step hx, h3 n (Nat.le_refl _) (by omega), if_pos rfl]
    have := twl_first d (n + 1) k (by omega) (by omega) h2 (fun v a b => h3 v (by omega) b) h4
    omega
theorem twl_all {p : Nat → Bool} {t : List Nat} : ∀ (d n : Nat), t.length - n = d → n ≤ t.length → (∀ v, n ≤ v → v < t.length → p (t.getD v 0) = true) → n + twl p t n = t.length
  | 0, n, e, h1, _ => by
    have : n = t.length := by omega
    rw [twl_end (by omega)]; omega
  | d + 1, n, e, h1, h3 => by
    have hlt : n < t.length := by omega
    have hx : t[n]? = some (t.getD n 0) := by simp [hlt]
    rw [twl_step hx, h3 n (Nat.le_refl _) hlt, if_pos rfl]
    have := twl_all d (n + 1) (by omega) (by omega) (fun v a b => h3 v (by omega) b)
    omega
theorem t_line_end {t : List Nat} (hl : t.length ≤ 400) (n : Nat) (hn : n ≤ t.length) (c : Cells) : g_line_end [.d (.str (S t)), .d (.int n)] c = .ok (.d (.int ((n + twl (· != 10) t n : Nat) : Int))) c := by
  unfold g_line_end
  rw [runB_of [some (.d (.str (S t))), some (.d (.int n)), none] rfl]
  unfold d_line_end
  have hl2 : t.length ≤ 1000000 := by omega
  simp only [e_gt, e_gtT, e_gtC, e_gtN, OS.only_nx, OS.only_exc, ca_take, and_self, true_and, and_true, List.nodup_cons, List.nodup_nil, List.not_mem_nil, not_false_eq_true, List.zip_cons_cons, List.zip_nil_right, Nat.reduceAdd, Nat.reduceLeDiff, decide_true, decide_false, Bool.not_true, Bool.not_false, fr0, fr1, fr2, fr3, mk0, mkT1, mkT2, mkT3, e_v0, e_v1, e_v2, e_v3, e_v4, e_v5, e_v6, e_v7, e_v8, e_v9, e_g0, e_g1, e_g2, e_g3, e_g4, e_g5, e_g6, e_g7, e_g8, e_g9, e_s0, e_s1, e_s2, e_s3, e_s4, e_s5, e_s6, e_s7, e_s8, e_s9, e_c, e_nil, e_cons, e_bin, e_call, e_callN, e_test, e_not, e_and, e_or, e_andV, e_orV, e_if, e_isN, e_meth, e_tup, e_lst, e_sl, e_some, e_none, e_scons, e_set, e_ret, e_exp, e_sif, e_asg, e_raise, e_par, o_lt, o_le, o_gt, o_ge, o_sub, o_addI, o_iaddI, o_eqS, o_neS, o_eqI, o_isi, o_s0, o_sI, tyS, bT_ok, bT_exc, Out.bind_ok, Out.bind_exc, Out.bind_bad, Out.st_ok, Out.st_exc, Out.st_bad, OS.andThen_nx, OS.andThen_ret, OS.andThen_brk, OS.andThen_cnt, OS.andThen_exc, OS.andThen_bad, finR_nx, finR_ret, finR_exc, List.getElem?_cons_zero, List.getElem?_cons_succ, List.length_cons, List.length_nil, if_true, if_false, reduceIte, Bool.false_eq_true, List.take_length, o_len c t hl2, k_nl]
  have e2 : PySem.fromIndex (S t).length (n : Int) = n := by
    unfold PySem.fromIndex
    rw [if_neg (by omega)]
    omega
  rcases PySem.StrLaws.find3_spec (S t) 10 (n : Int) with ⟨h1, h2⟩ | ⟨k, h1, h2, h3, h4, h5⟩
  · rw [e2] at h2
    have e3 : Txt.find3 (S t) (S [10]) (n : Int) = -1 := h1
    simp only [e3, e_gt, e_gtT, e_gtC, e_gtN, OS.only_nx, OS.only_exc, ca_take, and_self, true_and, and_true, List.nodup_cons, List.nodup_nil, List.not_mem_nil, not_false_eq_true, List.zip_cons_cons, List.zip_nil_right, Nat.reduceAdd, Nat.reduceLeDiff, decide_true, decide_false, Bool.not_true, Bool.not_false, fr0, fr1, fr2, fr3, mk0, mkT1, mkT2, mkT3, e_v0, e_v1, e_v2, e_v3, e_v4, e_v5, e_v6, e_v7, e_v8, e_v9, e_g0, e_g1, e_g2, e_g3, e_g4, e_g5, e_g6, e_g7, e_g8, e_g9, e_s0, e_s1, e_s2, e_s3, e_s4, e_s5, e_s6, e_s7, e_s8, e_s9, e_c, e_nil, e_cons, e_bin, e_call, e_callN, e_test, e_not, e_and, e_or, e_andV, e_orV, e_if, e_isN, e_meth, e_tup, e_lst, e_sl, e_some, e_none, e_scons, e_set, e_ret, e_exp, e_sif, e_asg, e_raise, e_par, o_lt, o_le, o_gt, o_ge, o_sub, o_addI, o_iaddI, o_eqS, o_neS, o_eqI, o_isi, o_s0, o_sI, tyS, bT_ok, bT_exc, Out.bind_ok, Out.bind_exc, Out.bind_bad, Out.st_ok, Out.st_exc, Out.st_bad, OS.andThen_nx, OS.andThen_ret, OS.andThen_brk, OS.andThen_cnt, OS.andThen_exc, OS.andThen_bad, finR_nx, finR_ret, finR_exc, List.getElem?_cons_zero, List.getElem?_cons_succ, List.length_cons, List.length_nil, if_true, if_false, reduceIte, Bool.false_eq_true, List.take_length]
    have := twl_all (p := fun x => x != 10) (t := t) _ n rfl hn (fun v a b => by
      have := h2 v a (by rw [S_len]; exact b)
      rw [getD_S] at this
      simpa using this)
    rw [if_pos (by decide), this]
    simp only [e_gt, e_gtT, e_gtC, e_gtN, OS.only_nx, OS.only_exc, ca_take, and_self, true_and, and_true, List.nodup_cons, List.nodup_nil, List.not_mem_nil, not_false_eq_true, List.zip_cons_cons, List.zip_nil_right, Nat.reduceAdd, Nat.reduceLeDiff, decide_true, decide_false, Bool.not_true, Bool.not_false, fr0, fr1, fr2, fr3, mk0, mkT1, mkT2, mkT3, e_v0, e_v1, e_v2, e_v3, e_v4, e_v5, e_v6, e_v7, e_v8, e_v9, e_g0, e_g1, e_g2, e_g3, e_g4, e_g5, e_g6, e_g7, e_g8, e_g9, e_s0, e_s1, e_s2, e_s3, e_s4, e_s5, e_s6, e_s7, e_s8, e_s9, e_c, e_nil, e_cons, e_bin, e_call, e_callN, e_test, e_not, e_and, e_or, e_andV, e_orV, e_if, e_isN, e_meth, e_tup, e_lst, e_sl, e_some, e_none, e_scons, e_set, e_ret, e_exp, e_sif, e_asg, e_raise, e_par, o_lt, o_le, o_gt, o_ge, o_sub, o_addI, o_iaddI, o_eqS, o_neS, o_eqI, o_isi, o_s0, o_sI, tyS, bT_ok, bT_exc, Out.bind_ok, Out.bind_exc, Out.bind_bad, Out.st_ok, Out.st_exc, Out.st_bad, OS.andThen_nx, OS.andThen_ret, OS.andThen_brk, OS.andThen_cnt, OS.andThen_exc, OS.andThen_bad, finR_nx, finR_ret, finR_exc, List.getElem?_cons_zero, List.getElem?_cons_succ, List.length_cons, List.length_nil, if_true, if_false, reduceIte, Bool.false_eq_true, List.take_length]
  · rw [e2] at h2 h5
    rw [S_len] at h3
    have e3 : Txt.find3 (S t) (S [10]) (n : Int) = k := h1
    have := twl_first (p := fun x => x != 10) (t := t) _ n k rfl h2 h3 (fun v a b => by
      have := h5 v a b
      rw [getD_S] at this
      simpa using this) (by rw [getD_S] at h4; rw [h4]; rfl)
    simp only [e3, e_gt, e_gtT, e_gtC, e_gtN, OS.only_nx, OS.only_exc, ca_take, and_self, true_and, and_true, List.nodup_cons, List.nodup_nil, List.not_mem_nil, not_false_eq_true, List.zip_cons_cons, List.zip_nil_right, Nat.reduceAdd, Nat.reduceLeDiff, decide_true, decide_false, Bool.not_true, Bool.not_false, fr0, fr1, fr2, fr3, mk0, mkT1, mkT2, mkT3, e_v0, e_v1, e_v2, e_v3, e_v4, e_v5, e_v6, e_v7, e_v8, e_v9, e_g0, e_g1, e_g2, e_g3, e_g4, e_g5, e_g6, e_g7, e_g8, e_g9, e_s0, e_s1, e_s2, e_s3, e_s4, e_s5, e_s6, e_s7, e_s8, e_s9, e_c, e_nil, e_cons, e_bin, e_call, e_callN, e_test, e_not, e_and, e_or, e_andV, e_orV, e_if, e_isN, e_meth, e_tup, e_lst, e_sl, e_some, e_none, e_scons, e_set, e_ret, e_exp, e_sif, e_asg, e_raise, e_par, o_lt, o_le, o_gt, o_ge, o_sub, o_addI, o_iaddI, o_eqS, o_neS, o_eqI, o_isi, o_s0, o_sI, tyS, bT_ok, bT_exc, Out.bind_ok, Out.bind_exc, Out.bind_bad, Out.st_ok, Out.st_exc, Out.st_bad, OS.andThen_nx, OS.andThen_ret, OS.andThen_brk, OS.andThen_cnt, OS.andThen_exc, OS.andThen_bad, finR_nx, finR_ret, finR_exc, List.getElem?_cons_zero, List.getElem?_cons_succ, List.length_cons, List.length_nil, if_true, if_false, reduceIte, Bool.false_eq_true, List.take_length]
    rw [if_neg (by simp), this]
    simp only [e_gt, e_gtT, e_gtC, e_gtN, OS.only_nx, OS.only_exc, ca_take, and_self, true_and, and_true, List.nodup_cons, List.nodup_nil, List.not_mem_nil, not_false_eq_true, List.zip_cons_cons, List.zip_nil_right, Nat.reduceAdd, Nat.reduceLeDiff, decide_true, decide_false, Bool.not_true, Bool.not_false, fr0, fr1, fr2, fr3, mk0, mkT1, mkT2, mkT3, e_v0, e_v1, e_v2, e_v3, e_v4, e_v5, e_v6, e_v7, e_v8, e_v9, e_g0, e_g1, e_g2, e_g3, e_g4, e_g5, e_g6, e_g7, e_g8, e_g9, e_s0, e_s1, e_s2, e_s3, e_s4, e_s5, e_s6, e_s7, e_s8, e_s9, e_c, e_nil, e_cons, e_bin, e_call, e_callN, e_test, e_not, e_and, e_or, e_andV, e_orV, e_if, e_isN, e_meth, e_tup, e_lst, e_sl, e_some, e_none, e_scons, e_set, e_ret, e_exp, e_sif, e_asg, e_raise, e_par, o_lt, o_le, o_gt, o_ge, o_sub, o_addI, o_iaddI, o_eqS, o_neS, o_eqI, o_isi, o_s0, o_sI, tyS, bT_ok, bT_exc, Out.bind_ok, Out.bind_exc, Out.bind_bad, Out.st_ok, Out.st_exc, Out.st_bad, OS.andThen_nx, OS.andThen_ret, OS.andThen_brk, OS.andThen_cnt, OS.andThen_exc, OS.andThen_bad, finR_nx, finR_ret, finR_exc, List.getElem?_cons_zero, List.getElem?_cons_succ, List.length_cons, List.length_nil, if_true, if_false, reduceIte, Bool.false_eq_true, List.take_length]
end Pm

namespace Pm
open PySem L2 PyProof.Rows SX
theorem kc_num : c_LONGEST_NUMBER = .int 10 := rfl
theorem kc_name : c_LONGEST_NAME = .int 20 := rfl
theorem kc_great : c_GREATEST = .int 2147483647 := rfl
theorem kc_kw : c_KEYWORDS = .tup (k_KEYWORDS.map D.str) := rfl
theorem kc_sg : c_SIGNS = .tup (k_SIGNS.map D.str) := rfl
theorem o_ix0 {x : Nat} {r : List Nat} (h : (x :: r).length ≤ 1000000) (c : Cells) : oIx (.d (.str (S (x :: r)))) (.d (.int 0)) c = .ok (.d (.str (S [x]))) c := o_ix (n := 0) c (x :: r) h rfl
def isD (r : List Nat) (m : Int) : Bool := !r.isEmpty && r.all dg && decide (r.length ≤ 10) && !(decide (r.head? = some 48) && decide (1 < r.length)) && decide (((NumText.digitsVal r : Nat) : Int) ≤ m)
def shN (r : List Nat) : Bool := !r.isEmpty && r.all al && decide (r.length ≤ 20) && (r.head?.any lw) && !decide (S r ∈ k_KEYWORDS)
def shB (r : List Nat) : Bool := !r.isEmpty && r.all al && decide (r.length ≤ 20) && (r.head?.any up)
theorem t_is_digits {r : List Nat} (h : asc r) (hl : r.length ≤ 400) (m : Int) (c : Cells) : g_is_digits [.d (.str (S r)), .d (.int m)] c = .ok (.d (.bl (isD r m))) c := by
  unfold g_is_digits
  rw [runB_of [some (.d (.str (S r))), some (.d (.int m))] rfl]
  unfold d_is_digits
  have hl2 : r.length ≤ 1000000 := by omega
  simp only [e_gt, e_gtT, e_gtC, e_gtN, OS.only_nx, OS.only_exc, ca_take, and_self, true_and, and_true, List.nodup_cons, List.nodup_nil, List.not_mem_nil, not_false_eq_true, List.zip_cons_cons, List.zip_nil_right, Nat.reduceAdd, Nat.reduceLeDiff, decide_true, decide_false, Bool.not_true, Bool.not_false, fr0, fr1, fr2, fr3, mk0, mkT1, mkT2, mkT3, e_v0, e_v1, e_v2, e_v3, e_v4, e_v5, e_v6, e_v7, e_v8, e_v9, e_g0, e_g1, e_g2, e_g3, e_g4, e_g5, e_g6, e_g7, e_g8, e_g9, e_s0, e_s1, e_s2, e_s3, e_s4, e_s5, e_s6, e_s7, e_s8, e_s9, e_c, e_nil, e_cons, e_bin, e_call, e_callN, e_test, e_not, e_and, e_or, e_andV, e_orV, e_if, e_isN, e_meth, e_tup, e_lst, e_sl, e_some, e_none, e_scons, e_set, e_ret, e_exp, e_sif, e_asg, e_raise, e_par, o_lt, o_le, o_gt, o_ge, o_sub, o_addI, o_iaddI, o_eqS, o_neS, o_eqI, o_isi, o_s0, o_sI, tyS, bT_ok, bT_exc, Out.bind_ok, Out.bind_exc, Out.bind_bad, Out.st_ok, Out.st_exc, Out.st_bad, OS.andThen_nx, OS.andThen_ret, OS.andThen_brk, OS.andThen_cnt, OS.andThen_exc, OS.andThen_bad, finR_nx, finR_ret, finR_exc, List.getElem?_cons_zero, List.getElem?_cons_succ, List.length_cons, List.length_nil, if_true, if_false, reduceIte, Bool.false_eq_true, List.take_length, x_digit h, o_len c r hl2, kc_num]
  cases r with
  | nil => simp only [List.isEmpty_nil, Bool.not_true, Bool.false_and, Bool.not_false, e_gt, e_gtT, e_gtC, e_gtN, OS.only_nx, OS.only_exc, ca_take, and_self, true_and, and_true, List.nodup_cons, List.nodup_nil, List.not_mem_nil, not_false_eq_true, List.zip_cons_cons, List.zip_nil_right, Nat.reduceAdd, Nat.reduceLeDiff, decide_true, decide_false, Bool.not_true, Bool.not_false, fr0, fr1, fr2, fr3, mk0, mkT1, mkT2, mkT3, e_v0, e_v1, e_v2, e_v3, e_v4, e_v5, e_v6, e_v7, e_v8, e_v9, e_g0, e_g1, e_g2, e_g3, e_g4, e_g5, e_g6, e_g7, e_g8, e_g9, e_s0, e_s1, e_s2, e_s3, e_s4, e_s5, e_s6, e_s7, e_s8, e_s9, e_c, e_nil, e_cons, e_bin, e_call, e_callN, e_test, e_not, e_and, e_or, e_andV, e_orV, e_if, e_isN, e_meth, e_tup, e_lst, e_sl, e_some, e_none, e_scons, e_set, e_ret, e_exp, e_sif, e_asg, e_raise, e_par, o_lt, o_le, o_gt, o_ge, o_sub, o_addI, o_iaddI, o_eqS, o_neS, o_eqI, o_isi, o_s0, o_sI, tyS, bT_ok, bT_exc, Out.bind_ok, Out.bind_exc, Out.bind_bad, Out.st_ok, Out.st_exc, Out.st_bad, OS.andThen_nx, OS.andThen_ret, OS.andThen_brk, OS.andThen_cnt, OS.andThen_exc, OS.andThen_bad, finR_nx, finR_ret, finR_exc, List.getElem?_cons_zero, List.getElem?_cons_succ, List.length_cons, List.length_nil, if_true, if_false, reduceIte, Bool.false_eq_true, List.take_length]; rfl
  | cons x r =>
    cases hA : (x :: r).all dg with
    | false =>
      simp only [hA, List.isEmpty_cons, Bool.not_false, Bool.and_false, Bool.true_and, e_gt, e_gtT, e_gtC, e_gtN, OS.only_nx, OS.only_exc, ca_take, and_self, true_and, and_true, List.nodup_cons, List.nodup_nil, List.not_mem_nil, not_false_eq_true, List.zip_cons_cons, List.zip_nil_right, Nat.reduceAdd, Nat.reduceLeDiff, decide_true, decide_false, Bool.not_true, Bool.not_false, fr0, fr1, fr2, fr3, mk0, mkT1, mkT2, mkT3, e_v0, e_v1, e_v2, e_v3, e_v4, e_v5, e_v6, e_v7, e_v8, e_v9, e_g0, e_g1, e_g2, e_g3, e_g4, e_g5, e_g6, e_g7, e_g8, e_g9, e_s0, e_s1, e_s2, e_s3, e_s4, e_s5, e_s6, e_s7, e_s8, e_s9, e_c, e_nil, e_cons, e_bin, e_call, e_callN, e_test, e_not, e_and, e_or, e_andV, e_orV, e_if, e_isN, e_meth, e_tup, e_lst, e_sl, e_some, e_none, e_scons, e_set, e_ret, e_exp, e_sif, e_asg, e_raise, e_par, o_lt, o_le, o_gt, o_ge, o_sub, o_addI, o_iaddI, o_eqS, o_neS, o_eqI, o_isi, o_s0, o_sI, tyS, bT_ok, bT_exc, Out.bind_ok, Out.bind_exc, Out.bind_bad, Out.st_ok, Out.st_exc, Out.st_bad, OS.andThen_nx, OS.andThen_ret, OS.andThen_brk, OS.andThen_cnt, OS.andThen_exc, OS.andThen_bad, finR_nx, finR_ret, finR_exc, List.getElem?_cons_zero, List.getElem?_cons_succ, List.length_cons, List.length_nil, if_true, if_false, reduceIte, Bool.false_eq_true, List.take_length]
      simp [isD, hA]
    | true =>
      simp only [hA, List.isEmpty_cons, Bool.not_false, Bool.not_true, Bool.and_true, Bool.true_and, e_gt, e_gtT, e_gtC, e_gtN, OS.only_nx, OS.only_exc, ca_take, and_self, true_and, and_true, List.nodup_cons, List.nodup_nil, List.not_mem_nil, not_false_eq_true, List.zip_cons_cons, List.zip_nil_right, Nat.reduceAdd, Nat.reduceLeDiff, decide_true, decide_false, Bool.not_true, Bool.not_false, fr0, fr1, fr2, fr3, mk0, mkT1, mkT2, mkT3, e_v0, e_v1, e_v2, e_v3, e_v4, e_v5, e_v6, e_v7, e_v8, e_v9, e_g0, e_g1, e_g2, e_g3, e_g4, e_g5, e_g6, e_g7, e_g8, e_g9, e_s0, e_s1, e_s2, e_s3, e_s4, e_s5, e_s6, e_s7, e_s8, e_s9, e_c, e_nil, e_cons, e_bin, e_call, e_callN, e_test, e_not, e_and, e_or, e_andV, e_orV, e_if, e_isN, e_meth, e_tup, e_lst, e_sl, e_some, e_none, e_scons, e_set, e_ret, e_exp, e_sif, e_asg, e_raise, e_par, o_lt, o_le, o_gt, o_ge, o_sub, o_addI, o_iaddI, o_eqS, o_neS, o_eqI, o_isi, o_s0, o_sI, tyS, bT_ok, bT_exc, Out.bind_ok, Out.bind_exc, Out.bind_bad, Out.st_ok, Out.st_exc, Out.st_bad, OS.andThen_nx, OS.andThen_ret, OS.andThen_brk, OS.andThen_cnt, OS.andThen_exc, OS.andThen_bad, finR_nx, finR_ret, finR_exc, List.getElem?_cons_zero, List.getElem?_cons_succ, List.length_cons, List.length_nil, if_true, if_false, reduceIte, Bool.false_eq_true, List.take_length, o_ix0 hl2, k_0, S_eq]
      by_cases h10 : (x :: r).length ≤ 10
      · have e1 : decide ((10 : Int) < (((x :: r).length : Nat) : Int)) = false := decide_eq_false (by omega)
        simp only [List.length_cons] at e1
        simp only [e1, e_gt, e_gtT, e_gtC, e_gtN, OS.only_nx, OS.only_exc, ca_take, and_self, true_and, and_true, List.nodup_cons, List.nodup_nil, List.not_mem_nil, not_false_eq_true, List.zip_cons_cons, List.zip_nil_right, Nat.reduceAdd, Nat.reduceLeDiff, decide_true, decide_false, Bool.not_true, Bool.not_false, fr0, fr1, fr2, fr3, mk0, mkT1, mkT2, mkT3, e_v0, e_v1, e_v2, e_v3, e_v4, e_v5, e_v6, e_v7, e_v8, e_v9, e_g0, e_g1, e_g2, e_g3, e_g4, e_g5, e_g6, e_g7, e_g8, e_g9, e_s0, e_s1, e_s2, e_s3, e_s4, e_s5, e_s6, e_s7, e_s8, e_s9, e_c, e_nil, e_cons, e_bin, e_call, e_callN, e_test, e_not, e_and, e_or, e_andV, e_orV, e_if, e_isN, e_meth, e_tup, e_lst, e_sl, e_some, e_none, e_scons, e_set, e_ret, e_exp, e_sif, e_asg, e_raise, e_par, o_lt, o_le, o_gt, o_ge, o_sub, o_addI, o_iaddI, o_eqS, o_neS, o_eqI, o_isi, o_s0, o_sI, tyS, bT_ok, bT_exc, Out.bind_ok, Out.bind_exc, Out.bind_bad, Out.st_ok, Out.st_exc, Out.st_bad, OS.andThen_nx, OS.andThen_ret, OS.andThen_brk, OS.andThen_cnt, OS.andThen_exc, OS.andThen_bad, finR_nx, finR_ret, finR_exc, List.getElem?_cons_zero, List.getElem?_cons_succ, List.length_cons, List.length_nil, if_true, if_false, reduceIte, Bool.false_eq_true, List.take_length]
        have e0 : decide ([x] = [48]) = decide (x = 48) := by simp
        have eD : isD (x :: r) m = (!(decide (x = 48) && decide (1 < (x :: r).length)) && decide (((NumText.digitsVal (x :: r) : Nat) : Int) ≤ m)) := by
          unfold isD
          rw [hA, decide_eq_true h10]
          simp
        rw [e0, eD]
        have fin : ∀ b, (Out.ok (W.d (.bl (decide (((NumText.digitsVal (x :: r) : Nat) : Int) ≤ m)))) c : Out W) = b → b = b := fun _ _ => rfl
        by_cases h0 : x = 48
        · by_cases h1 : 1 < (x :: r).length
          · have e2 : decide ((1 : Int) < ((r.length + 1 : Nat) : Int)) = true := decide_eq_true (by rw [List.length_cons] at h1; omega)
            rw [decide_eq_true h0, decide_eq_true h1]
            simp only [o_len c (x :: r) hl2, e2, e_gt, e_gtT, e_gtC, e_gtN, OS.only_nx, OS.only_exc, ca_take, and_self, true_and, and_true, List.nodup_cons, List.nodup_nil, List.not_mem_nil, not_false_eq_true, List.zip_cons_cons, List.zip_nil_right, Nat.reduceAdd, Nat.reduceLeDiff, decide_true, decide_false, Bool.not_true, Bool.not_false, fr0, fr1, fr2, fr3, mk0, mkT1, mkT2, mkT3, e_v0, e_v1, e_v2, e_v3, e_v4, e_v5, e_v6, e_v7, e_v8, e_v9, e_g0, e_g1, e_g2, e_g3, e_g4, e_g5, e_g6, e_g7, e_g8, e_g9, e_s0, e_s1, e_s2, e_s3, e_s4, e_s5, e_s6, e_s7, e_s8, e_s9, e_c, e_nil, e_cons, e_bin, e_call, e_callN, e_test, e_not, e_and, e_or, e_andV, e_orV, e_if, e_isN, e_meth, e_tup, e_lst, e_sl, e_some, e_none, e_scons, e_set, e_ret, e_exp, e_sif, e_asg, e_raise, e_par, o_lt, o_le, o_gt, o_ge, o_sub, o_addI, o_iaddI, o_eqS, o_neS, o_eqI, o_isi, o_s0, o_sI, tyS, bT_ok, bT_exc, Out.bind_ok, Out.bind_exc, Out.bind_bad, Out.st_ok, Out.st_exc, Out.st_bad, OS.andThen_nx, OS.andThen_ret, OS.andThen_brk, OS.andThen_cnt, OS.andThen_exc, OS.andThen_bad, finR_nx, finR_ret, finR_exc, List.getElem?_cons_zero, List.getElem?_cons_succ, List.length_cons, List.length_nil, if_true, if_false, reduceIte, Bool.false_eq_true, List.take_length, Bool.and_true, Bool.not_true, Bool.false_and]
          · have e2 : decide ((1 : Int) < ((r.length + 1 : Nat) : Int)) = false := decide_eq_false (by rw [List.length_cons] at h1; omega)
            rw [decide_eq_true h0, decide_eq_false h1]
            simp only [o_len c (x :: r) hl2, e2, e_gt, e_gtT, e_gtC, e_gtN, OS.only_nx, OS.only_exc, ca_take, and_self, true_and, and_true, List.nodup_cons, List.nodup_nil, List.not_mem_nil, not_false_eq_true, List.zip_cons_cons, List.zip_nil_right, Nat.reduceAdd, Nat.reduceLeDiff, decide_true, decide_false, Bool.not_true, Bool.not_false, fr0, fr1, fr2, fr3, mk0, mkT1, mkT2, mkT3, e_v0, e_v1, e_v2, e_v3, e_v4, e_v5, e_v6, e_v7, e_v8, e_v9, e_g0, e_g1, e_g2, e_g3, e_g4, e_g5, e_g6, e_g7, e_g8, e_g9, e_s0, e_s1, e_s2, e_s3, e_s4, e_s5, e_s6, e_s7, e_s8, e_s9, e_c, e_nil, e_cons, e_bin, e_call, e_callN, e_test, e_not, e_and, e_or, e_andV, e_orV, e_if, e_isN, e_meth, e_tup, e_lst, e_sl, e_some, e_none, e_scons, e_set, e_ret, e_exp, e_sif, e_asg, e_raise, e_par, o_lt, o_le, o_gt, o_ge, o_sub, o_addI, o_iaddI, o_eqS, o_neS, o_eqI, o_isi, o_s0, o_sI, tyS, bT_ok, bT_exc, Out.bind_ok, Out.bind_exc, Out.bind_bad, Out.st_ok, Out.st_exc, Out.st_bad, OS.andThen_nx, OS.andThen_ret, OS.andThen_brk, OS.andThen_cnt, OS.andThen_exc, OS.andThen_bad, finR_nx, finR_ret, finR_exc, List.getElem?_cons_zero, List.getElem?_cons_succ, List.length_cons, List.length_nil, if_true, if_false, reduceIte, Bool.false_eq_true, List.take_length, Bool.and_false, Bool.not_false, Bool.true_and, o_int hA (by simp) (show (x :: r).length ≤ 640 by omega)]
        · simp only [decide_eq_false h0, e_gt, e_gtT, e_gtC, e_gtN, OS.only_nx, OS.only_exc, ca_take, and_self, true_and, and_true, List.nodup_cons, List.nodup_nil, List.not_mem_nil, not_false_eq_true, List.zip_cons_cons, List.zip_nil_right, Nat.reduceAdd, Nat.reduceLeDiff, decide_true, decide_false, Bool.not_true, Bool.not_false, fr0, fr1, fr2, fr3, mk0, mkT1, mkT2, mkT3, e_v0, e_v1, e_v2, e_v3, e_v4, e_v5, e_v6, e_v7, e_v8, e_v9, e_g0, e_g1, e_g2, e_g3, e_g4, e_g5, e_g6, e_g7, e_g8, e_g9, e_s0, e_s1, e_s2, e_s3, e_s4, e_s5, e_s6, e_s7, e_s8, e_s9, e_c, e_nil, e_cons, e_bin, e_call, e_callN, e_test, e_not, e_and, e_or, e_andV, e_orV, e_if, e_isN, e_meth, e_tup, e_lst, e_sl, e_some, e_none, e_scons, e_set, e_ret, e_exp, e_sif, e_asg, e_raise, e_par, o_lt, o_le, o_gt, o_ge, o_sub, o_addI, o_iaddI, o_eqS, o_neS, o_eqI, o_isi, o_s0, o_sI, tyS, bT_ok, bT_exc, Out.bind_ok, Out.bind_exc, Out.bind_bad, Out.st_ok, Out.st_exc, Out.st_bad, OS.andThen_nx, OS.andThen_ret, OS.andThen_brk, OS.andThen_cnt, OS.andThen_exc, OS.andThen_bad, finR_nx, finR_ret, finR_exc, List.getElem?_cons_zero, List.getElem?_cons_succ, List.length_cons, List.length_nil, if_true, if_false, reduceIte, Bool.false_eq_true, List.take_length, Bool.false_and, Bool.not_false, Bool.true_and, o_int hA (by simp) (show (x :: r).length ≤ 640 by omega)]
      · have e1 : decide ((10 : Int) < (((x :: r).length : Nat) : Int)) = true := decide_eq_true (by omega)
        simp only [List.length_cons] at e1
        simp only [e1, e_gt, e_gtT, e_gtC, e_gtN, OS.only_nx, OS.only_exc, ca_take, and_self, true_and, and_true, List.nodup_cons, List.nodup_nil, List.not_mem_nil, not_false_eq_true, List.zip_cons_cons, List.zip_nil_right, Nat.reduceAdd, Nat.reduceLeDiff, decide_true, decide_false, Bool.not_true, Bool.not_false, fr0, fr1, fr2, fr3, mk0, mkT1, mkT2, mkT3, e_v0, e_v1, e_v2, e_v3, e_v4, e_v5, e_v6, e_v7, e_v8, e_v9, e_g0, e_g1, e_g2, e_g3, e_g4, e_g5, e_g6, e_g7, e_g8, e_g9, e_s0, e_s1, e_s2, e_s3, e_s4, e_s5, e_s6, e_s7, e_s8, e_s9, e_c, e_nil, e_cons, e_bin, e_call, e_callN, e_test, e_not, e_and, e_or, e_andV, e_orV, e_if, e_isN, e_meth, e_tup, e_lst, e_sl, e_some, e_none, e_scons, e_set, e_ret, e_exp, e_sif, e_asg, e_raise, e_par, o_lt, o_le, o_gt, o_ge, o_sub, o_addI, o_iaddI, o_eqS, o_neS, o_eqI, o_isi, o_s0, o_sI, tyS, bT_ok, bT_exc, Out.bind_ok, Out.bind_exc, Out.bind_bad, Out.st_ok, Out.st_exc, Out.st_bad, OS.andThen_nx, OS.andThen_ret, OS.andThen_brk, OS.andThen_cnt, OS.andThen_exc, OS.andThen_bad, finR_nx, finR_ret, finR_exc, List.getElem?_cons_zero, List.getElem?_cons_succ, List.length_cons, List.length_nil, if_true, if_false, reduceIte, Bool.false_eq_true, List.take_length]
        simp [isD, h10]
        simp at h10
        omega
theorem t_short_name {r : List Nat} (h : asc r) (hl : r.length ≤ 400) (c : Cells) : g_is_short_name [.d (.str (S r))] c = .ok (.d (.bl (shN r))) c := by
  unfold g_is_short_name
  rw [runB_of [some (.d (.str (S r)))] rfl]
  unfold d_is_short_name
  have hl2 : r.length ≤ 1000000 := by omega
  simp only [e_gt, e_gtT, e_gtC, e_gtN, OS.only_nx, OS.only_exc, ca_take, and_self, true_and, and_true, List.nodup_cons, List.nodup_nil, List.not_mem_nil, not_false_eq_true, List.zip_cons_cons, List.zip_nil_right, Nat.reduceAdd, Nat.reduceLeDiff, decide_true, decide_false, Bool.not_true, Bool.not_false, fr0, fr1, fr2, fr3, mk0, mkT1, mkT2, mkT3, e_v0, e_v1, e_v2, e_v3, e_v4, e_v5, e_v6, e_v7, e_v8, e_v9, e_g0, e_g1, e_g2, e_g3, e_g4, e_g5, e_g6, e_g7, e_g8, e_g9, e_s0, e_s1, e_s2, e_s3, e_s4, e_s5, e_s6, e_s7, e_s8, e_s9, e_c, e_nil, e_cons, e_bin, e_call, e_callN, e_test, e_not, e_and, e_or, e_andV, e_orV, e_if, e_isN, e_meth, e_tup, e_lst, e_sl, e_some, e_none, e_scons, e_set, e_ret, e_exp, e_sif, e_asg, e_raise, e_par, o_lt, o_le, o_gt, o_ge, o_sub, o_addI, o_iaddI, o_eqS, o_neS, o_eqI, o_isi, o_s0, o_sI, tyS, bT_ok, bT_exc, Out.bind_ok, Out.bind_exc, Out.bind_bad, Out.st_ok, Out.st_exc, Out.st_bad, OS.andThen_nx, OS.andThen_ret, OS.andThen_brk, OS.andThen_cnt, OS.andThen_exc, OS.andThen_bad, finR_nx, finR_ret, finR_exc, List.getElem?_cons_zero, List.getElem?_cons_succ, List.length_cons, List.length_nil, if_true, if_false, reduceIte, Bool.false_eq_true, List.take_length, is_runS h, o_len c r hl2, kc_name, kc_kw]
  cases r with
  | nil => simp only [List.isEmpty_nil, Bool.not_true, Bool.false_and, e_gt, e_gtT, e_gtC, e_gtN, OS.only_nx, OS.only_exc, ca_take, and_self, true_and, and_true, List.nodup_cons, List.nodup_nil, List.not_mem_nil, not_false_eq_true, List.zip_cons_cons, List.zip_nil_right, Nat.reduceAdd, Nat.reduceLeDiff, decide_true, decide_false, Bool.not_true, Bool.not_false, fr0, fr1, fr2, fr3, mk0, mkT1, mkT2, mkT3, e_v0, e_v1, e_v2, e_v3, e_v4, e_v5, e_v6, e_v7, e_v8, e_v9, e_g0, e_g1, e_g2, e_g3, e_g4, e_g5, e_g6, e_g7, e_g8, e_g9, e_s0, e_s1, e_s2, e_s3, e_s4, e_s5, e_s6, e_s7, e_s8, e_s9, e_c, e_nil, e_cons, e_bin, e_call, e_callN, e_test, e_not, e_and, e_or, e_andV, e_orV, e_if, e_isN, e_meth, e_tup, e_lst, e_sl, e_some, e_none, e_scons, e_set, e_ret, e_exp, e_sif, e_asg, e_raise, e_par, o_lt, o_le, o_gt, o_ge, o_sub, o_addI, o_iaddI, o_eqS, o_neS, o_eqI, o_isi, o_s0, o_sI, tyS, bT_ok, bT_exc, Out.bind_ok, Out.bind_exc, Out.bind_bad, Out.st_ok, Out.st_exc, Out.st_bad, OS.andThen_nx, OS.andThen_ret, OS.andThen_brk, OS.andThen_cnt, OS.andThen_exc, OS.andThen_bad, finR_nx, finR_ret, finR_exc, List.getElem?_cons_zero, List.getElem?_cons_succ, List.length_cons, List.length_nil, if_true, if_false, reduceIte, Bool.false_eq_true, List.take_length]; rfl
  | cons x r =>
    have hx : x < 128 := h x List.mem_cons_self
    cases hA : (x :: r).all al with
    | false =>
      simp only [hA, List.isEmpty_cons, Bool.not_false, Bool.and_false, Bool.true_and, e_gt, e_gtT, e_gtC, e_gtN, OS.only_nx, OS.only_exc, ca_take, and_self, true_and, and_true, List.nodup_cons, List.nodup_nil, List.not_mem_nil, not_false_eq_true, List.zip_cons_cons, List.zip_nil_right, Nat.reduceAdd, Nat.reduceLeDiff, decide_true, decide_false, Bool.not_true, Bool.not_false, fr0, fr1, fr2, fr3, mk0, mkT1, mkT2, mkT3, e_v0, e_v1, e_v2, e_v3, e_v4, e_v5, e_v6, e_v7, e_v8, e_v9, e_g0, e_g1, e_g2, e_g3, e_g4, e_g5, e_g6, e_g7, e_g8, e_g9, e_s0, e_s1, e_s2, e_s3, e_s4, e_s5, e_s6, e_s7, e_s8, e_s9, e_c, e_nil, e_cons, e_bin, e_call, e_callN, e_test, e_not, e_and, e_or, e_andV, e_orV, e_if, e_isN, e_meth, e_tup, e_lst, e_sl, e_some, e_none, e_scons, e_set, e_ret, e_exp, e_sif, e_asg, e_raise, e_par, o_lt, o_le, o_gt, o_ge, o_sub, o_addI, o_iaddI, o_eqS, o_neS, o_eqI, o_isi, o_s0, o_sI, tyS, bT_ok, bT_exc, Out.bind_ok, Out.bind_exc, Out.bind_bad, Out.st_ok, Out.st_exc, Out.st_bad, OS.andThen_nx, OS.andThen_ret, OS.andThen_brk, OS.andThen_cnt, OS.andThen_exc, OS.andThen_bad, finR_nx, finR_ret, finR_exc, List.getElem?_cons_zero, List.getElem?_cons_succ, List.length_cons, List.length_nil, if_true, if_false, reduceIte, Bool.false_eq_true, List.take_length]
      simp [shN, hA]
    | true =>
      simp only [hA, List.isEmpty_cons, Bool.not_false, Bool.and_true, Bool.true_and, e_gt, e_gtT, e_gtC, e_gtN, OS.only_nx, OS.only_exc, ca_take, and_self, true_and, and_true, List.nodup_cons, List.nodup_nil, List.not_mem_nil, not_false_eq_true, List.zip_cons_cons, List.zip_nil_right, Nat.reduceAdd, Nat.reduceLeDiff, decide_true, decide_false, Bool.not_true, Bool.not_false, fr0, fr1, fr2, fr3, mk0, mkT1, mkT2, mkT3, e_v0, e_v1, e_v2, e_v3, e_v4, e_v5, e_v6, e_v7, e_v8, e_v9, e_g0, e_g1, e_g2, e_g3, e_g4, e_g5, e_g6, e_g7, e_g8, e_g9, e_s0, e_s1, e_s2, e_s3, e_s4, e_s5, e_s6, e_s7, e_s8, e_s9, e_c, e_nil, e_cons, e_bin, e_call, e_callN, e_test, e_not, e_and, e_or, e_andV, e_orV, e_if, e_isN, e_meth, e_tup, e_lst, e_sl, e_some, e_none, e_scons, e_set, e_ret, e_exp, e_sif, e_asg, e_raise, e_par, o_lt, o_le, o_gt, o_ge, o_sub, o_addI, o_iaddI, o_eqS, o_neS, o_eqI, o_isi, o_s0, o_sI, tyS, bT_ok, bT_exc, Out.bind_ok, Out.bind_exc, Out.bind_bad, Out.st_ok, Out.st_exc, Out.st_bad, OS.andThen_nx, OS.andThen_ret, OS.andThen_brk, OS.andThen_cnt, OS.andThen_exc, OS.andThen_bad, finR_nx, finR_ret, finR_exc, List.getElem?_cons_zero, List.getElem?_cons_succ, List.length_cons, List.length_nil, if_true, if_false, reduceIte, Bool.false_eq_true, List.take_length, o_ix0 hl2, x_lower1 hx, o_ninT]
      have eD : shN (x :: r) = (decide ((x :: r).length ≤ 20) && (lw x && !decide (S (x :: r) ∈ k_KEYWORDS))) := by
        unfold shN
        rw [hA]
        simp [Bool.and_assoc]
      rw [eD]
      have e1 : decide (((r.length + 1 : Nat) : Int) ≤ 20) = decide ((x :: r).length ≤ 20) := by
        apply decide_eq_decide.mpr
        simp only [List.length_cons]
        omega
      rw [e1]
      cases decide ((x :: r).length ≤ 20) with
      | false => simp only [e_gt, e_gtT, e_gtC, e_gtN, OS.only_nx, OS.only_exc, ca_take, and_self, true_and, and_true, List.nodup_cons, List.nodup_nil, List.not_mem_nil, not_false_eq_true, List.zip_cons_cons, List.zip_nil_right, Nat.reduceAdd, Nat.reduceLeDiff, decide_true, decide_false, Bool.not_true, Bool.not_false, fr0, fr1, fr2, fr3, mk0, mkT1, mkT2, mkT3, e_v0, e_v1, e_v2, e_v3, e_v4, e_v5, e_v6, e_v7, e_v8, e_v9, e_g0, e_g1, e_g2, e_g3, e_g4, e_g5, e_g6, e_g7, e_g8, e_g9, e_s0, e_s1, e_s2, e_s3, e_s4, e_s5, e_s6, e_s7, e_s8, e_s9, e_c, e_nil, e_cons, e_bin, e_call, e_callN, e_test, e_not, e_and, e_or, e_andV, e_orV, e_if, e_isN, e_meth, e_tup, e_lst, e_sl, e_some, e_none, e_scons, e_set, e_ret, e_exp, e_sif, e_asg, e_raise, e_par, o_lt, o_le, o_gt, o_ge, o_sub, o_addI, o_iaddI, o_eqS, o_neS, o_eqI, o_isi, o_s0, o_sI, tyS, bT_ok, bT_exc, Out.bind_ok, Out.bind_exc, Out.bind_bad, Out.st_ok, Out.st_exc, Out.st_bad, OS.andThen_nx, OS.andThen_ret, OS.andThen_brk, OS.andThen_cnt, OS.andThen_exc, OS.andThen_bad, finR_nx, finR_ret, finR_exc, List.getElem?_cons_zero, List.getElem?_cons_succ, List.length_cons, List.length_nil, if_true, if_false, reduceIte, Bool.false_eq_true, List.take_length, Bool.false_and]
      | true =>
        simp only [e_gt, e_gtT, e_gtC, e_gtN, OS.only_nx, OS.only_exc, ca_take, and_self, true_and, and_true, List.nodup_cons, List.nodup_nil, List.not_mem_nil, not_false_eq_true, List.zip_cons_cons, List.zip_nil_right, Nat.reduceAdd, Nat.reduceLeDiff, decide_true, decide_false, Bool.not_true, Bool.not_false, fr0, fr1, fr2, fr3, mk0, mkT1, mkT2, mkT3, e_v0, e_v1, e_v2, e_v3, e_v4, e_v5, e_v6, e_v7, e_v8, e_v9, e_g0, e_g1, e_g2, e_g3, e_g4, e_g5, e_g6, e_g7, e_g8, e_g9, e_s0, e_s1, e_s2, e_s3, e_s4, e_s5, e_s6, e_s7, e_s8, e_s9, e_c, e_nil, e_cons, e_bin, e_call, e_callN, e_test, e_not, e_and, e_or, e_andV, e_orV, e_if, e_isN, e_meth, e_tup, e_lst, e_sl, e_some, e_none, e_scons, e_set, e_ret, e_exp, e_sif, e_asg, e_raise, e_par, o_lt, o_le, o_gt, o_ge, o_sub, o_addI, o_iaddI, o_eqS, o_neS, o_eqI, o_isi, o_s0, o_sI, tyS, bT_ok, bT_exc, Out.bind_ok, Out.bind_exc, Out.bind_bad, Out.st_ok, Out.st_exc, Out.st_bad, OS.andThen_nx, OS.andThen_ret, OS.andThen_brk, OS.andThen_cnt, OS.andThen_exc, OS.andThen_bad, finR_nx, finR_ret, finR_exc, List.getElem?_cons_zero, List.getElem?_cons_succ, List.length_cons, List.length_nil, if_true, if_false, reduceIte, Bool.false_eq_true, List.take_length, Bool.true_and]
        cases lw x <;> simp only [e_gt, e_gtT, e_gtC, e_gtN, OS.only_nx, OS.only_exc, ca_take, and_self, true_and, and_true, List.nodup_cons, List.nodup_nil, List.not_mem_nil, not_false_eq_true, List.zip_cons_cons, List.zip_nil_right, Nat.reduceAdd, Nat.reduceLeDiff, decide_true, decide_false, Bool.not_true, Bool.not_false, fr0, fr1, fr2, fr3, mk0, mkT1, mkT2, mkT3, e_v0, e_v1, e_v2, e_v3, e_v4, e_v5, e_v6, e_v7, e_v8, e_v9, e_g0, e_g1, e_g2, e_g3, e_g4, e_g5, e_g6, e_g7, e_g8, e_g9, e_s0, e_s1, e_s2, e_s3, e_s4, e_s5, e_s6, e_s7, e_s8, e_s9, e_c, e_nil, e_cons, e_bin, e_call, e_callN, e_test, e_not, e_and, e_or, e_andV, e_orV, e_if, e_isN, e_meth, e_tup, e_lst, e_sl, e_some, e_none, e_scons, e_set, e_ret, e_exp, e_sif, e_asg, e_raise, e_par, o_lt, o_le, o_gt, o_ge, o_sub, o_addI, o_iaddI, o_eqS, o_neS, o_eqI, o_isi, o_s0, o_sI, tyS, bT_ok, bT_exc, Out.bind_ok, Out.bind_exc, Out.bind_bad, Out.st_ok, Out.st_exc, Out.st_bad, OS.andThen_nx, OS.andThen_ret, OS.andThen_brk, OS.andThen_cnt, OS.andThen_exc, OS.andThen_bad, finR_nx, finR_ret, finR_exc, List.getElem?_cons_zero, List.getElem?_cons_succ, List.length_cons, List.length_nil, if_true, if_false, reduceIte, Bool.false_eq_true, List.take_length, Bool.false_and, Bool.true_and]
theorem t_short_big {r : List Nat} (h : asc r) (hl : r.length ≤ 400) (c : Cells) : g_is_short_big [.d (.str (S r))] c = .ok (.d (.bl (shB r))) c := by
  unfold g_is_short_big
  rw [runB_of [some (.d (.str (S r)))] rfl]
  unfold d_is_short_big
  have hl2 : r.length ≤ 1000000 := by omega
  simp only [e_gt, e_gtT, e_gtC, e_gtN, OS.only_nx, OS.only_exc, ca_take, and_self, true_and, and_true, List.nodup_cons, List.nodup_nil, List.not_mem_nil, not_false_eq_true, List.zip_cons_cons, List.zip_nil_right, Nat.reduceAdd, Nat.reduceLeDiff, decide_true, decide_false, Bool.not_true, Bool.not_false, fr0, fr1, fr2, fr3, mk0, mkT1, mkT2, mkT3, e_v0, e_v1, e_v2, e_v3, e_v4, e_v5, e_v6, e_v7, e_v8, e_v9, e_g0, e_g1, e_g2, e_g3, e_g4, e_g5, e_g6, e_g7, e_g8, e_g9, e_s0, e_s1, e_s2, e_s3, e_s4, e_s5, e_s6, e_s7, e_s8, e_s9, e_c, e_nil, e_cons, e_bin, e_call, e_callN, e_test, e_not, e_and, e_or, e_andV, e_orV, e_if, e_isN, e_meth, e_tup, e_lst, e_sl, e_some, e_none, e_scons, e_set, e_ret, e_exp, e_sif, e_asg, e_raise, e_par, o_lt, o_le, o_gt, o_ge, o_sub, o_addI, o_iaddI, o_eqS, o_neS, o_eqI, o_isi, o_s0, o_sI, tyS, bT_ok, bT_exc, Out.bind_ok, Out.bind_exc, Out.bind_bad, Out.st_ok, Out.st_exc, Out.st_bad, OS.andThen_nx, OS.andThen_ret, OS.andThen_brk, OS.andThen_cnt, OS.andThen_exc, OS.andThen_bad, finR_nx, finR_ret, finR_exc, List.getElem?_cons_zero, List.getElem?_cons_succ, List.length_cons, List.length_nil, if_true, if_false, reduceIte, Bool.false_eq_true, List.take_length, is_runS h, o_len c r hl2, kc_name]
  cases r with
  | nil => simp only [List.isEmpty_nil, Bool.not_true, Bool.false_and, e_gt, e_gtT, e_gtC, e_gtN, OS.only_nx, OS.only_exc, ca_take, and_self, true_and, and_true, List.nodup_cons, List.nodup_nil, List.not_mem_nil, not_false_eq_true, List.zip_cons_cons, List.zip_nil_right, Nat.reduceAdd, Nat.reduceLeDiff, decide_true, decide_false, Bool.not_true, Bool.not_false, fr0, fr1, fr2, fr3, mk0, mkT1, mkT2, mkT3, e_v0, e_v1, e_v2, e_v3, e_v4, e_v5, e_v6, e_v7, e_v8, e_v9, e_g0, e_g1, e_g2, e_g3, e_g4, e_g5, e_g6, e_g7, e_g8, e_g9, e_s0, e_s1, e_s2, e_s3, e_s4, e_s5, e_s6, e_s7, e_s8, e_s9, e_c, e_nil, e_cons, e_bin, e_call, e_callN, e_test, e_not, e_and, e_or, e_andV, e_orV, e_if, e_isN, e_meth, e_tup, e_lst, e_sl, e_some, e_none, e_scons, e_set, e_ret, e_exp, e_sif, e_asg, e_raise, e_par, o_lt, o_le, o_gt, o_ge, o_sub, o_addI, o_iaddI, o_eqS, o_neS, o_eqI, o_isi, o_s0, o_sI, tyS, bT_ok, bT_exc, Out.bind_ok, Out.bind_exc, Out.bind_bad, Out.st_ok, Out.st_exc, Out.st_bad, OS.andThen_nx, OS.andThen_ret, OS.andThen_brk, OS.andThen_cnt, OS.andThen_exc, OS.andThen_bad, finR_nx, finR_ret, finR_exc, List.getElem?_cons_zero, List.getElem?_cons_succ, List.length_cons, List.length_nil, if_true, if_false, reduceIte, Bool.false_eq_true, List.take_length]; rfl
  | cons x r =>
    have hx : x < 128 := h x List.mem_cons_self
    cases hA : (x :: r).all al with
    | false =>
      simp only [hA, List.isEmpty_cons, Bool.not_false, Bool.and_false, Bool.true_and, e_gt, e_gtT, e_gtC, e_gtN, OS.only_nx, OS.only_exc, ca_take, and_self, true_and, and_true, List.nodup_cons, List.nodup_nil, List.not_mem_nil, not_false_eq_true, List.zip_cons_cons, List.zip_nil_right, Nat.reduceAdd, Nat.reduceLeDiff, decide_true, decide_false, Bool.not_true, Bool.not_false, fr0, fr1, fr2, fr3, mk0, mkT1, mkT2, mkT3, e_v0, e_v1, e_v2, e_v3, e_v4, e_v5, e_v6, e_v7, e_v8, e_v9, e_g0, e_g1, e_g2, e_g3, e_g4, e_g5, e_g6, e_g7, e_g8, e_g9, e_s0, e_s1, e_s2, e_s3, e_s4, e_s5, e_s6, e_s7, e_s8, e_s9, e_c, e_nil, e_cons, e_bin, e_call, e_callN, e_test, e_not, e_and, e_or, e_andV, e_orV, e_if, e_isN, e_meth, e_tup, e_lst, e_sl, e_some, e_none, e_scons, e_set, e_ret, e_exp, e_sif, e_asg, e_raise, e_par, o_lt, o_le, o_gt, o_ge, o_sub, o_addI, o_iaddI, o_eqS, o_neS, o_eqI, o_isi, o_s0, o_sI, tyS, bT_ok, bT_exc, Out.bind_ok, Out.bind_exc, Out.bind_bad, Out.st_ok, Out.st_exc, Out.st_bad, OS.andThen_nx, OS.andThen_ret, OS.andThen_brk, OS.andThen_cnt, OS.andThen_exc, OS.andThen_bad, finR_nx, finR_ret, finR_exc, List.getElem?_cons_zero, List.getElem?_cons_succ, List.length_cons, List.length_nil, if_true, if_false, reduceIte, Bool.false_eq_true, List.take_length]
      simp [shB, hA]
    | true =>
      simp only [hA, List.isEmpty_cons, Bool.not_false, Bool.and_true, Bool.true_and, e_gt, e_gtT, e_gtC, e_gtN, OS.only_nx, OS.only_exc, ca_take, and_self, true_and, and_true, List.nodup_cons, List.nodup_nil, List.not_mem_nil, not_false_eq_true, List.zip_cons_cons, List.zip_nil_right, Nat.reduceAdd, Nat.reduceLeDiff, decide_true, decide_false, Bool.not_true, Bool.not_false, fr0, fr1, fr2, fr3, mk0, mkT1, mkT2, mkT3, e_v0, e_v1, e_v2, e_v3, e_v4, e_v5, e_v6, e_v7, e_v8, e_v9, e_g0, e_g1, e_g2, e_g3, e_g4, e_g5, e_g6, e_g7, e_g8, e_g9, e_s0, e_s1, e_s2, e_s3, e_s4, e_s5, e_s6, e_s7, e_s8, e_s9, e_c, e_nil, e_cons, e_bin, e_call, e_callN, e_test, e_not, e_and, e_or, e_andV, e_orV, e_if, e_isN, e_meth, e_tup, e_lst, e_sl, e_some, e_none, e_scons, e_set, e_ret, e_exp, e_sif, e_asg, e_raise, e_par, o_lt, o_le, o_gt, o_ge, o_sub, o_addI, o_iaddI, o_eqS, o_neS, o_eqI, o_isi, o_s0, o_sI, tyS, bT_ok, bT_exc, Out.bind_ok, Out.bind_exc, Out.bind_bad, Out.st_ok, Out.st_exc, Out.st_bad, OS.andThen_nx, OS.andThen_ret, OS.andThen_brk, OS.andThen_cnt, OS.andThen_exc, OS.andThen_bad, finR_nx, finR_ret, finR_exc, List.getElem?_cons_zero, List.getElem?_cons_succ, List.length_cons, List.length_nil, if_true, if_false, reduceIte, Bool.false_eq_true, List.take_length, o_ix0 hl2, x_upper1 hx]
      have eD : shB (x :: r) = (decide ((x :: r).length ≤ 20) && up x) := by
        unfold shB
        rw [hA]
        simp
      rw [eD]
      have e1 : decide (((r.length + 1 : Nat) : Int) ≤ 20) = decide ((x :: r).length ≤ 20) := by
        apply decide_eq_decide.mpr
        simp only [List.length_cons]
        omega
      rw [e1]
      cases decide ((x :: r).length ≤ 20) <;> simp only [e_gt, e_gtT, e_gtC, e_gtN, OS.only_nx, OS.only_exc, ca_take, and_self, true_and, and_true, List.nodup_cons, List.nodup_nil, List.not_mem_nil, not_false_eq_true, List.zip_cons_cons, List.zip_nil_right, Nat.reduceAdd, Nat.reduceLeDiff, decide_true, decide_false, Bool.not_true, Bool.not_false, fr0, fr1, fr2, fr3, mk0, mkT1, mkT2, mkT3, e_v0, e_v1, e_v2, e_v3, e_v4, e_v5, e_v6, e_v7, e_v8, e_v9, e_g0, e_g1, e_g2, e_g3, e_g4, e_g5, e_g6, e_g7, e_g8, e_g9, e_s0, e_s1, e_s2, e_s3, e_s4, e_s5, e_s6, e_s7, e_s8, e_s9, e_c, e_nil, e_cons, e_bin, e_call, e_callN, e_test, e_not, e_and, e_or, e_andV, e_orV, e_if, e_isN, e_meth, e_tup, e_lst, e_sl, e_some, e_none, e_scons, e_set, e_ret, e_exp, e_sif, e_asg, e_raise, e_par, o_lt, o_le, o_gt, o_ge, o_sub, o_addI, o_iaddI, o_eqS, o_neS, o_eqI, o_isi, o_s0, o_sI, tyS, bT_ok, bT_exc, Out.bind_ok, Out.bind_exc, Out.bind_bad, Out.st_ok, Out.st_exc, Out.st_bad, OS.andThen_nx, OS.andThen_ret, OS.andThen_brk, OS.andThen_cnt, OS.andThen_exc, OS.andThen_bad, finR_nx, finR_ret, finR_exc, List.getElem?_cons_zero, List.getElem?_cons_succ, List.length_cons, List.length_nil, if_true, if_false, reduceIte, Bool.false_eq_true, List.take_length, Bool.false_and, Bool.true_and]
end Pm

namespace Pm
open PySem L2 PyProof.Rows SX
theorem tw_take (p : Nat → Bool) : ∀ l : List Nat, l.take (l.takeWhile p).length = l.takeWhile p
  | [] => rfl
  | a :: l => by
    rw [List.takeWhile_cons]
    split
    · rw [List.length_cons, List.take_succ_cons, tw_take p l]
    · rfl
def two : List (List Nat) := [[60, 61], [58, 61], [45, 62]]
def ones : List Nat := [40, 41, 44, 59, 124, 39, 33, 43, 45, 42, 47, 61, 60, 95]
theorem k_signs : k_SIGNS = (two ++ ones.map fun x => [x]).map S := by decide +kernel
def run (l : List Nat) : List Nat := l.takeWhile al
def tok (l : List Nat) : Option (Str × Nat) :=
  let r := run l
  if r ≠ [] then
    if isD r 2147483647 = true then some ("number", r.length)
    else if S r ∈ k_KEYWORDS then some ("word", r.length)
    else if shN r = true then some ("name", r.length)
    else if shB r = true then
      (if (l.drop r.length).take 1 = [46] then
        (let q := run (l.drop (r.length + 1))
        if shN q = true then some ("name", r.length + 1 + q.length) else if shB q = true then some ("big", r.length + 1 + q.length) else some ("big", r.length))
      else some ("big", r.length))
    else none
  else if l.take 1 = [126] then
    (let q := run (l.drop 1)
    if q ≠ [48] ∧ isD q 2147483648 = true then some ("number", 1 + q.length) else none)
  else if l.take 2 ∈ two then some ("sign", 2)
  else if (l.head?.any fun x => ones.contains x) = true then some ("sign", 1) else none
theorem run_asc {t : List Nat} (h : asc t) (n : Nat) : asc (run (t.drop n)) := (h.drop n).tw _
theorem run_len (t : List Nat) (n : Nat) : (run (t.drop n)).length ≤ t.length := by
  have h1 : ((t.drop n).takeWhile al).length ≤ (t.drop n).length := (List.takeWhile_prefix al).length_le
  rw [List.length_drop] at h1
  unfold run; omega
theorem twl_run (t : List Nat) (n : Nat) : twl al t n = (run (t.drop n)).length := rfl
theorem cut_run (t : List Nat) (n : Nat) : (t.drop n).take (n + (run (t.drop n)).length - n) = run (t.drop n) := by
  rw [Nat.add_sub_cancel_left]
  exact tw_take al _
/-- what token_at gives -/
def tokR (n : Nat) (c : Cells) : Option (Str × Nat) → Out W
  | some (k, l) => .ok (.d (.tup [.str k, .int ((n + l : Nat) : Int)])) c
  | none => .exc "BadText" [("position", .int n)] c
theorem t_run_token {t : List Nat} (ht : asc t) (hl : t.length ≤ 400) (n : Nat) (c : Cells) (hr : run (t.drop n) ≠ []) : g_run_token [.d (.str (S t)), .d (.int n)] c = tokR n c (tok (t.drop n)) := by
  unfold g_run_token
  rw [runB_of [some (.d (.str (S t))), some (.d (.int n)), none, none, none] rfl]
  unfold d_run_token
  have hl2 : t.length ≤ 1000000 := by omega
  have a1 := run_asc ht n
  have l1 := Nat.le_trans (run_len t n) hl
  simp only [e_gt, e_gtT, e_gtC, e_gtN, OS.only_nx, OS.only_exc, ca_take, and_self, true_and, and_true, List.nodup_cons, List.nodup_nil, List.not_mem_nil, not_false_eq_true, List.zip_cons_cons, List.zip_nil_right, Nat.reduceAdd, Nat.reduceLeDiff, decide_true, decide_false, Bool.not_true, Bool.not_false, fr0, fr1, fr2, fr3, mk0, mkT1, mkT2, mkT3, e_v0, e_v1, e_v2, e_v3, e_v4, e_v5, e_v6, e_v7, e_v8, e_v9, e_g0, e_g1, e_g2, e_g3, e_g4, e_g5, e_g6, e_g7, e_g8, e_g9, e_s0, e_s1, e_s2, e_s3, e_s4, e_s5, e_s6, e_s7, e_s8, e_s9, e_c, e_nil, e_cons, e_bin, e_call, e_callN, e_test, e_not, e_and, e_or, e_andV, e_orV, e_if, e_isN, e_meth, e_tup, e_lst, e_sl, e_some, e_none, e_scons, e_set, e_ret, e_exp, e_sif, e_asg, e_raise, e_par, o_lt, o_le, o_gt, o_ge, o_sub, o_addI, o_iaddI, o_eqS, o_neS, o_eqI, o_isi, o_s0, o_sI, tyS, bT_ok, bT_exc, Out.bind_ok, Out.bind_exc, Out.bind_bad, Out.st_ok, Out.st_exc, Out.st_bad, OS.andThen_nx, OS.andThen_ret, OS.andThen_brk, OS.andThen_cnt, OS.andThen_exc, OS.andThen_bad, finR_nx, finR_ret, finR_exc, List.getElem?_cons_zero, List.getElem?_cons_succ, List.length_cons, List.length_nil, if_true, if_false, reduceIte, Bool.false_eq_true, List.take_length, t_run_end ht hl, twl_run, o_sl c t hl2, cut_run, kc_great, kc_kw, o_inT, t_is_digits a1 l1, t_short_name a1 l1, t_short_big a1 l1]
  unfold tok
  simp only [ne_eq, hr, not_false_eq_true, if_true]
  by_cases h1 : isD (run (t.drop n)) 2147483647 = true
  · simp only [h1, e_gt, e_gtT, e_gtC, e_gtN, OS.only_nx, OS.only_exc, ca_take, and_self, true_and, and_true, List.nodup_cons, List.nodup_nil, List.not_mem_nil, not_false_eq_true, List.zip_cons_cons, List.zip_nil_right, Nat.reduceAdd, Nat.reduceLeDiff, decide_true, decide_false, Bool.not_true, Bool.not_false, fr0, fr1, fr2, fr3, mk0, mkT1, mkT2, mkT3, e_v0, e_v1, e_v2, e_v3, e_v4, e_v5, e_v6, e_v7, e_v8, e_v9, e_g0, e_g1, e_g2, e_g3, e_g4, e_g5, e_g6, e_g7, e_g8, e_g9, e_s0, e_s1, e_s2, e_s3, e_s4, e_s5, e_s6, e_s7, e_s8, e_s9, e_c, e_nil, e_cons, e_bin, e_call, e_callN, e_test, e_not, e_and, e_or, e_andV, e_orV, e_if, e_isN, e_meth, e_tup, e_lst, e_sl, e_some, e_none, e_scons, e_set, e_ret, e_exp, e_sif, e_asg, e_raise, e_par, o_lt, o_le, o_gt, o_ge, o_sub, o_addI, o_iaddI, o_eqS, o_neS, o_eqI, o_isi, o_s0, o_sI, tyS, bT_ok, bT_exc, Out.bind_ok, Out.bind_exc, Out.bind_bad, Out.st_ok, Out.st_exc, Out.st_bad, OS.andThen_nx, OS.andThen_ret, OS.andThen_brk, OS.andThen_cnt, OS.andThen_exc, OS.andThen_bad, finR_nx, finR_ret, finR_exc, List.getElem?_cons_zero, List.getElem?_cons_succ, List.length_cons, List.length_nil, if_true, if_false, reduceIte, Bool.false_eq_true, List.take_length, t_run_end ht hl, twl_run, o_sl c t hl2, cut_run, kc_great, kc_kw, o_inT, t_is_digits a1 l1, t_short_name a1 l1, t_short_big a1 l1, tokR]
  rw [if_neg h1]
  rw [Bool.not_eq_true] at h1
  simp only [h1, e_gt, e_gtT, e_gtC, e_gtN, OS.only_nx, OS.only_exc, ca_take, and_self, true_and, and_true, List.nodup_cons, List.nodup_nil, List.not_mem_nil, not_false_eq_true, List.zip_cons_cons, List.zip_nil_right, Nat.reduceAdd, Nat.reduceLeDiff, decide_true, decide_false, Bool.not_true, Bool.not_false, fr0, fr1, fr2, fr3, mk0, mkT1, mkT2, mkT3, e_v0, e_v1, e_v2, e_v3, e_v4, e_v5, e_v6, e_v7, e_v8, e_v9, e_g0, e_g1, e_g2, e_g3, e_g4, e_g5, e_g6, e_g7, e_g8, e_g9, e_s0, e_s1, e_s2, e_s3, e_s4, e_s5, e_s6, e_s7, e_s8, e_s9, e_c, e_nil, e_cons, e_bin, e_call, e_callN, e_test, e_not, e_and, e_or, e_andV, e_orV, e_if, e_isN, e_meth, e_tup, e_lst, e_sl, e_some, e_none, e_scons, e_set, e_ret, e_exp, e_sif, e_asg, e_raise, e_par, o_lt, o_le, o_gt, o_ge, o_sub, o_addI, o_iaddI, o_eqS, o_neS, o_eqI, o_isi, o_s0, o_sI, tyS, bT_ok, bT_exc, Out.bind_ok, Out.bind_exc, Out.bind_bad, Out.st_ok, Out.st_exc, Out.st_bad, OS.andThen_nx, OS.andThen_ret, OS.andThen_brk, OS.andThen_cnt, OS.andThen_exc, OS.andThen_bad, finR_nx, finR_ret, finR_exc, List.getElem?_cons_zero, List.getElem?_cons_succ, List.length_cons, List.length_nil, if_true, if_false, reduceIte, Bool.false_eq_true, List.take_length, t_run_end ht hl, twl_run, o_sl c t hl2, cut_run, kc_great, kc_kw, o_inT, t_is_digits a1 l1, t_short_name a1 l1, t_short_big a1 l1]
  by_cases h2 : S (run (t.drop n)) ∈ k_KEYWORDS
  · simp only [decide_eq_true h2, h2, e_gt, e_gtT, e_gtC, e_gtN, OS.only_nx, OS.only_exc, ca_take, and_self, true_and, and_true, List.nodup_cons, List.nodup_nil, List.not_mem_nil, not_false_eq_true, List.zip_cons_cons, List.zip_nil_right, Nat.reduceAdd, Nat.reduceLeDiff, decide_true, decide_false, Bool.not_true, Bool.not_false, fr0, fr1, fr2, fr3, mk0, mkT1, mkT2, mkT3, e_v0, e_v1, e_v2, e_v3, e_v4, e_v5, e_v6, e_v7, e_v8, e_v9, e_g0, e_g1, e_g2, e_g3, e_g4, e_g5, e_g6, e_g7, e_g8, e_g9, e_s0, e_s1, e_s2, e_s3, e_s4, e_s5, e_s6, e_s7, e_s8, e_s9, e_c, e_nil, e_cons, e_bin, e_call, e_callN, e_test, e_not, e_and, e_or, e_andV, e_orV, e_if, e_isN, e_meth, e_tup, e_lst, e_sl, e_some, e_none, e_scons, e_set, e_ret, e_exp, e_sif, e_asg, e_raise, e_par, o_lt, o_le, o_gt, o_ge, o_sub, o_addI, o_iaddI, o_eqS, o_neS, o_eqI, o_isi, o_s0, o_sI, tyS, bT_ok, bT_exc, Out.bind_ok, Out.bind_exc, Out.bind_bad, Out.st_ok, Out.st_exc, Out.st_bad, OS.andThen_nx, OS.andThen_ret, OS.andThen_brk, OS.andThen_cnt, OS.andThen_exc, OS.andThen_bad, finR_nx, finR_ret, finR_exc, List.getElem?_cons_zero, List.getElem?_cons_succ, List.length_cons, List.length_nil, if_true, if_false, reduceIte, Bool.false_eq_true, List.take_length, t_run_end ht hl, twl_run, o_sl c t hl2, cut_run, kc_great, kc_kw, o_inT, t_is_digits a1 l1, t_short_name a1 l1, t_short_big a1 l1, tokR]
  simp only [decide_eq_false h2, h2, e_gt, e_gtT, e_gtC, e_gtN, OS.only_nx, OS.only_exc, ca_take, and_self, true_and, and_true, List.nodup_cons, List.nodup_nil, List.not_mem_nil, not_false_eq_true, List.zip_cons_cons, List.zip_nil_right, Nat.reduceAdd, Nat.reduceLeDiff, decide_true, decide_false, Bool.not_true, Bool.not_false, fr0, fr1, fr2, fr3, mk0, mkT1, mkT2, mkT3, e_v0, e_v1, e_v2, e_v3, e_v4, e_v5, e_v6, e_v7, e_v8, e_v9, e_g0, e_g1, e_g2, e_g3, e_g4, e_g5, e_g6, e_g7, e_g8, e_g9, e_s0, e_s1, e_s2, e_s3, e_s4, e_s5, e_s6, e_s7, e_s8, e_s9, e_c, e_nil, e_cons, e_bin, e_call, e_callN, e_test, e_not, e_and, e_or, e_andV, e_orV, e_if, e_isN, e_meth, e_tup, e_lst, e_sl, e_some, e_none, e_scons, e_set, e_ret, e_exp, e_sif, e_asg, e_raise, e_par, o_lt, o_le, o_gt, o_ge, o_sub, o_addI, o_iaddI, o_eqS, o_neS, o_eqI, o_isi, o_s0, o_sI, tyS, bT_ok, bT_exc, Out.bind_ok, Out.bind_exc, Out.bind_bad, Out.st_ok, Out.st_exc, Out.st_bad, OS.andThen_nx, OS.andThen_ret, OS.andThen_brk, OS.andThen_cnt, OS.andThen_exc, OS.andThen_bad, finR_nx, finR_ret, finR_exc, List.getElem?_cons_zero, List.getElem?_cons_succ, List.length_cons, List.length_nil, if_true, if_false, reduceIte, Bool.false_eq_true, List.take_length, t_run_end ht hl, twl_run, o_sl c t hl2, cut_run, kc_great, kc_kw, o_inT, t_is_digits a1 l1, t_short_name a1 l1, t_short_big a1 l1, t_short_name a1 l1]
  by_cases h3 : shN (run (t.drop n)) = true
  · simp only [h3, e_gt, e_gtT, e_gtC, e_gtN, OS.only_nx, OS.only_exc, ca_take, and_self, true_and, and_true, List.nodup_cons, List.nodup_nil, List.not_mem_nil, not_false_eq_true, List.zip_cons_cons, List.zip_nil_right, Nat.reduceAdd, Nat.reduceLeDiff, decide_true, decide_false, Bool.not_true, Bool.not_false, fr0, fr1, fr2, fr3, mk0, mkT1, mkT2, mkT3, e_v0, e_v1, e_v2, e_v3, e_v4, e_v5, e_v6, e_v7, e_v8, e_v9, e_g0, e_g1, e_g2, e_g3, e_g4, e_g5, e_g6, e_g7, e_g8, e_g9, e_s0, e_s1, e_s2, e_s3, e_s4, e_s5, e_s6, e_s7, e_s8, e_s9, e_c, e_nil, e_cons, e_bin, e_call, e_callN, e_test, e_not, e_and, e_or, e_andV, e_orV, e_if, e_isN, e_meth, e_tup, e_lst, e_sl, e_some, e_none, e_scons, e_set, e_ret, e_exp, e_sif, e_asg, e_raise, e_par, o_lt, o_le, o_gt, o_ge, o_sub, o_addI, o_iaddI, o_eqS, o_neS, o_eqI, o_isi, o_s0, o_sI, tyS, bT_ok, bT_exc, Out.bind_ok, Out.bind_exc, Out.bind_bad, Out.st_ok, Out.st_exc, Out.st_bad, OS.andThen_nx, OS.andThen_ret, OS.andThen_brk, OS.andThen_cnt, OS.andThen_exc, OS.andThen_bad, finR_nx, finR_ret, finR_exc, List.getElem?_cons_zero, List.getElem?_cons_succ, List.length_cons, List.length_nil, if_true, if_false, reduceIte, Bool.false_eq_true, List.take_length, t_run_end ht hl, twl_run, o_sl c t hl2, cut_run, kc_great, kc_kw, o_inT, t_is_digits a1 l1, t_short_name a1 l1, t_short_big a1 l1, tokR]
  rw [if_neg h3]
  rw [Bool.not_eq_true] at h3
  simp only [h3, e_gt, e_gtT, e_gtC, e_gtN, OS.only_nx, OS.only_exc, ca_take, and_self, true_and, and_true, List.nodup_cons, List.nodup_nil, List.not_mem_nil, not_false_eq_true, List.zip_cons_cons, List.zip_nil_right, Nat.reduceAdd, Nat.reduceLeDiff, decide_true, decide_false, Bool.not_true, Bool.not_false, fr0, fr1, fr2, fr3, mk0, mkT1, mkT2, mkT3, e_v0, e_v1, e_v2, e_v3, e_v4, e_v5, e_v6, e_v7, e_v8, e_v9, e_g0, e_g1, e_g2, e_g3, e_g4, e_g5, e_g6, e_g7, e_g8, e_g9, e_s0, e_s1, e_s2, e_s3, e_s4, e_s5, e_s6, e_s7, e_s8, e_s9, e_c, e_nil, e_cons, e_bin, e_call, e_callN, e_test, e_not, e_and, e_or, e_andV, e_orV, e_if, e_isN, e_meth, e_tup, e_lst, e_sl, e_some, e_none, e_scons, e_set, e_ret, e_exp, e_sif, e_asg, e_raise, e_par, o_lt, o_le, o_gt, o_ge, o_sub, o_addI, o_iaddI, o_eqS, o_neS, o_eqI, o_isi, o_s0, o_sI, tyS, bT_ok, bT_exc, Out.bind_ok, Out.bind_exc, Out.bind_bad, Out.st_ok, Out.st_exc, Out.st_bad, OS.andThen_nx, OS.andThen_ret, OS.andThen_brk, OS.andThen_cnt, OS.andThen_exc, OS.andThen_bad, finR_nx, finR_ret, finR_exc, List.getElem?_cons_zero, List.getElem?_cons_succ, List.length_cons, List.length_nil, if_true, if_false, reduceIte, Bool.false_eq_true, List.take_length, t_run_end ht hl, twl_run, o_sl c t hl2, cut_run, kc_great, kc_kw, o_inT, t_is_digits a1 l1, t_short_name a1 l1, t_short_big a1 l1, t_short_big a1 l1]
  by_cases h4 : shB (run (t.drop n)) = true
  · have hdot := sw_S t [46] (n + (run (t.drop n)).length) (by simp)
    simp only [h4, e_gt, e_gtT, e_gtC, e_gtN, OS.only_nx, OS.only_exc, ca_take, and_self, true_and, and_true, List.nodup_cons, List.nodup_nil, List.not_mem_nil, not_false_eq_true, List.zip_cons_cons, List.zip_nil_right, Nat.reduceAdd, Nat.reduceLeDiff, decide_true, decide_false, Bool.not_true, Bool.not_false, fr0, fr1, fr2, fr3, mk0, mkT1, mkT2, mkT3, e_v0, e_v1, e_v2, e_v3, e_v4, e_v5, e_v6, e_v7, e_v8, e_v9, e_g0, e_g1, e_g2, e_g3, e_g4, e_g5, e_g6, e_g7, e_g8, e_g9, e_s0, e_s1, e_s2, e_s3, e_s4, e_s5, e_s6, e_s7, e_s8, e_s9, e_c, e_nil, e_cons, e_bin, e_call, e_callN, e_test, e_not, e_and, e_or, e_andV, e_orV, e_if, e_isN, e_meth, e_tup, e_lst, e_sl, e_some, e_none, e_scons, e_set, e_ret, e_exp, e_sif, e_asg, e_raise, e_par, o_lt, o_le, o_gt, o_ge, o_sub, o_addI, o_iaddI, o_eqS, o_neS, o_eqI, o_isi, o_s0, o_sI, tyS, bT_ok, bT_exc, Out.bind_ok, Out.bind_exc, Out.bind_bad, Out.st_ok, Out.st_exc, Out.st_bad, OS.andThen_nx, OS.andThen_ret, OS.andThen_brk, OS.andThen_cnt, OS.andThen_exc, OS.andThen_bad, finR_nx, finR_ret, finR_exc, List.getElem?_cons_zero, List.getElem?_cons_succ, List.length_cons, List.length_nil, if_true, if_false, reduceIte, Bool.false_eq_true, List.take_length, t_run_end ht hl, twl_run, o_sl c t hl2, cut_run, kc_great, kc_kw, o_inT, t_is_digits a1 l1, t_short_name a1 l1, t_short_big a1 l1, Bool.not_true, k_dot, hdot, List.length_singleton, List.drop_drop]
    by_cases h5 : (t.drop (n + (run (t.drop n)).length)).take 1 = [46]
    · have e1 : ((n + (run (t.drop n)).length : Nat) : Int) + 1 = ((n + ((run (t.drop n)).length + 1) : Nat) : Int) := by omega
      have a2 := run_asc ht (n + ((run (t.drop n)).length + 1))
      have l2 := Nat.le_trans (run_len t (n + ((run (t.drop n)).length + 1))) hl
      simp only [h5, decide_true, e_gt, e_gtT, e_gtC, e_gtN, OS.only_nx, OS.only_exc, ca_take, and_self, true_and, and_true, List.nodup_cons, List.nodup_nil, List.not_mem_nil, not_false_eq_true, List.zip_cons_cons, List.zip_nil_right, Nat.reduceAdd, Nat.reduceLeDiff, decide_true, decide_false, Bool.not_true, Bool.not_false, fr0, fr1, fr2, fr3, mk0, mkT1, mkT2, mkT3, e_v0, e_v1, e_v2, e_v3, e_v4, e_v5, e_v6, e_v7, e_v8, e_v9, e_g0, e_g1, e_g2, e_g3, e_g4, e_g5, e_g6, e_g7, e_g8, e_g9, e_s0, e_s1, e_s2, e_s3, e_s4, e_s5, e_s6, e_s7, e_s8, e_s9, e_c, e_nil, e_cons, e_bin, e_call, e_callN, e_test, e_not, e_and, e_or, e_andV, e_orV, e_if, e_isN, e_meth, e_tup, e_lst, e_sl, e_some, e_none, e_scons, e_set, e_ret, e_exp, e_sif, e_asg, e_raise, e_par, o_lt, o_le, o_gt, o_ge, o_sub, o_addI, o_iaddI, o_eqS, o_neS, o_eqI, o_isi, o_s0, o_sI, tyS, bT_ok, bT_exc, Out.bind_ok, Out.bind_exc, Out.bind_bad, Out.st_ok, Out.st_exc, Out.st_bad, OS.andThen_nx, OS.andThen_ret, OS.andThen_brk, OS.andThen_cnt, OS.andThen_exc, OS.andThen_bad, finR_nx, finR_ret, finR_exc, List.getElem?_cons_zero, List.getElem?_cons_succ, List.length_cons, List.length_nil, if_true, if_false, reduceIte, Bool.false_eq_true, List.take_length, t_run_end ht hl, twl_run, o_sl c t hl2, cut_run, kc_great, kc_kw, o_inT, t_is_digits a1 l1, t_short_name a1 l1, t_short_big a1 l1, e1, t_run_end ht hl, twl_run, o_sl c t hl2, cut_run, t_short_name a2 l2, t_short_big a2 l2]
      cases shN (run (t.drop (n + ((run (t.drop n)).length + 1)))) with
      | true => simp only [e_gt, e_gtT, e_gtC, e_gtN, OS.only_nx, OS.only_exc, ca_take, and_self, true_and, and_true, List.nodup_cons, List.nodup_nil, List.not_mem_nil, not_false_eq_true, List.zip_cons_cons, List.zip_nil_right, Nat.reduceAdd, Nat.reduceLeDiff, decide_true, decide_false, Bool.not_true, Bool.not_false, fr0, fr1, fr2, fr3, mk0, mkT1, mkT2, mkT3, e_v0, e_v1, e_v2, e_v3, e_v4, e_v5, e_v6, e_v7, e_v8, e_v9, e_g0, e_g1, e_g2, e_g3, e_g4, e_g5, e_g6, e_g7, e_g8, e_g9, e_s0, e_s1, e_s2, e_s3, e_s4, e_s5, e_s6, e_s7, e_s8, e_s9, e_c, e_nil, e_cons, e_bin, e_call, e_callN, e_test, e_not, e_and, e_or, e_andV, e_orV, e_if, e_isN, e_meth, e_tup, e_lst, e_sl, e_some, e_none, e_scons, e_set, e_ret, e_exp, e_sif, e_asg, e_raise, e_par, o_lt, o_le, o_gt, o_ge, o_sub, o_addI, o_iaddI, o_eqS, o_neS, o_eqI, o_isi, o_s0, o_sI, tyS, bT_ok, bT_exc, Out.bind_ok, Out.bind_exc, Out.bind_bad, Out.st_ok, Out.st_exc, Out.st_bad, OS.andThen_nx, OS.andThen_ret, OS.andThen_brk, OS.andThen_cnt, OS.andThen_exc, OS.andThen_bad, finR_nx, finR_ret, finR_exc, List.getElem?_cons_zero, List.getElem?_cons_succ, List.length_cons, List.length_nil, if_true, if_false, reduceIte, Bool.false_eq_true, List.take_length, tokR, Nat.add_assoc]
      | false =>
        simp only [e_gt, e_gtT, e_gtC, e_gtN, OS.only_nx, OS.only_exc, ca_take, and_self, true_and, and_true, List.nodup_cons, List.nodup_nil, List.not_mem_nil, not_false_eq_true, List.zip_cons_cons, List.zip_nil_right, Nat.reduceAdd, Nat.reduceLeDiff, decide_true, decide_false, Bool.not_true, Bool.not_false, fr0, fr1, fr2, fr3, mk0, mkT1, mkT2, mkT3, e_v0, e_v1, e_v2, e_v3, e_v4, e_v5, e_v6, e_v7, e_v8, e_v9, e_g0, e_g1, e_g2, e_g3, e_g4, e_g5, e_g6, e_g7, e_g8, e_g9, e_s0, e_s1, e_s2, e_s3, e_s4, e_s5, e_s6, e_s7, e_s8, e_s9, e_c, e_nil, e_cons, e_bin, e_call, e_callN, e_test, e_not, e_and, e_or, e_andV, e_orV, e_if, e_isN, e_meth, e_tup, e_lst, e_sl, e_some, e_none, e_scons, e_set, e_ret, e_exp, e_sif, e_asg, e_raise, e_par, o_lt, o_le, o_gt, o_ge, o_sub, o_addI, o_iaddI, o_eqS, o_neS, o_eqI, o_isi, o_s0, o_sI, tyS, bT_ok, bT_exc, Out.bind_ok, Out.bind_exc, Out.bind_bad, Out.st_ok, Out.st_exc, Out.st_bad, OS.andThen_nx, OS.andThen_ret, OS.andThen_brk, OS.andThen_cnt, OS.andThen_exc, OS.andThen_bad, finR_nx, finR_ret, finR_exc, List.getElem?_cons_zero, List.getElem?_cons_succ, List.length_cons, List.length_nil, if_true, if_false, reduceIte, Bool.false_eq_true, List.take_length, o_sl c t hl2, cut_run, t_short_big a2 l2, e1]
        cases shB (run (t.drop (n + ((run (t.drop n)).length + 1)))) <;> simp only [e_gt, e_gtT, e_gtC, e_gtN, OS.only_nx, OS.only_exc, ca_take, and_self, true_and, and_true, List.nodup_cons, List.nodup_nil, List.not_mem_nil, not_false_eq_true, List.zip_cons_cons, List.zip_nil_right, Nat.reduceAdd, Nat.reduceLeDiff, decide_true, decide_false, Bool.not_true, Bool.not_false, fr0, fr1, fr2, fr3, mk0, mkT1, mkT2, mkT3, e_v0, e_v1, e_v2, e_v3, e_v4, e_v5, e_v6, e_v7, e_v8, e_v9, e_g0, e_g1, e_g2, e_g3, e_g4, e_g5, e_g6, e_g7, e_g8, e_g9, e_s0, e_s1, e_s2, e_s3, e_s4, e_s5, e_s6, e_s7, e_s8, e_s9, e_c, e_nil, e_cons, e_bin, e_call, e_callN, e_test, e_not, e_and, e_or, e_andV, e_orV, e_if, e_isN, e_meth, e_tup, e_lst, e_sl, e_some, e_none, e_scons, e_set, e_ret, e_exp, e_sif, e_asg, e_raise, e_par, o_lt, o_le, o_gt, o_ge, o_sub, o_addI, o_iaddI, o_eqS, o_neS, o_eqI, o_isi, o_s0, o_sI, tyS, bT_ok, bT_exc, Out.bind_ok, Out.bind_exc, Out.bind_bad, Out.st_ok, Out.st_exc, Out.st_bad, OS.andThen_nx, OS.andThen_ret, OS.andThen_brk, OS.andThen_cnt, OS.andThen_exc, OS.andThen_bad, finR_nx, finR_ret, finR_exc, List.getElem?_cons_zero, List.getElem?_cons_succ, List.length_cons, List.length_nil, if_true, if_false, reduceIte, Bool.false_eq_true, List.take_length, tokR, Nat.add_assoc]
    · simp only [h5, decide_false, e_gt, e_gtT, e_gtC, e_gtN, OS.only_nx, OS.only_exc, ca_take, and_self, true_and, and_true, List.nodup_cons, List.nodup_nil, List.not_mem_nil, not_false_eq_true, List.zip_cons_cons, List.zip_nil_right, Nat.reduceAdd, Nat.reduceLeDiff, decide_true, decide_false, Bool.not_true, Bool.not_false, fr0, fr1, fr2, fr3, mk0, mkT1, mkT2, mkT3, e_v0, e_v1, e_v2, e_v3, e_v4, e_v5, e_v6, e_v7, e_v8, e_v9, e_g0, e_g1, e_g2, e_g3, e_g4, e_g5, e_g6, e_g7, e_g8, e_g9, e_s0, e_s1, e_s2, e_s3, e_s4, e_s5, e_s6, e_s7, e_s8, e_s9, e_c, e_nil, e_cons, e_bin, e_call, e_callN, e_test, e_not, e_and, e_or, e_andV, e_orV, e_if, e_isN, e_meth, e_tup, e_lst, e_sl, e_some, e_none, e_scons, e_set, e_ret, e_exp, e_sif, e_asg, e_raise, e_par, o_lt, o_le, o_gt, o_ge, o_sub, o_addI, o_iaddI, o_eqS, o_neS, o_eqI, o_isi, o_s0, o_sI, tyS, bT_ok, bT_exc, Out.bind_ok, Out.bind_exc, Out.bind_bad, Out.st_ok, Out.st_exc, Out.st_bad, OS.andThen_nx, OS.andThen_ret, OS.andThen_brk, OS.andThen_cnt, OS.andThen_exc, OS.andThen_bad, finR_nx, finR_ret, finR_exc, List.getElem?_cons_zero, List.getElem?_cons_succ, List.length_cons, List.length_nil, if_true, if_false, reduceIte, Bool.false_eq_true, List.take_length, t_run_end ht hl, twl_run, o_sl c t hl2, cut_run, kc_great, kc_kw, o_inT, t_is_digits a1 l1, t_short_name a1 l1, t_short_big a1 l1, tokR]
  · rw [if_neg h4]
    rw [Bool.not_eq_true] at h4
    simp only [h4, Bool.not_false, e_gt, e_gtT, e_gtC, e_gtN, OS.only_nx, OS.only_exc, ca_take, and_self, true_and, and_true, List.nodup_cons, List.nodup_nil, List.not_mem_nil, not_false_eq_true, List.zip_cons_cons, List.zip_nil_right, Nat.reduceAdd, Nat.reduceLeDiff, decide_true, decide_false, Bool.not_true, Bool.not_false, fr0, fr1, fr2, fr3, mk0, mkT1, mkT2, mkT3, e_v0, e_v1, e_v2, e_v3, e_v4, e_v5, e_v6, e_v7, e_v8, e_v9, e_g0, e_g1, e_g2, e_g3, e_g4, e_g5, e_g6, e_g7, e_g8, e_g9, e_s0, e_s1, e_s2, e_s3, e_s4, e_s5, e_s6, e_s7, e_s8, e_s9, e_c, e_nil, e_cons, e_bin, e_call, e_callN, e_test, e_not, e_and, e_or, e_andV, e_orV, e_if, e_isN, e_meth, e_tup, e_lst, e_sl, e_some, e_none, e_scons, e_set, e_ret, e_exp, e_sif, e_asg, e_raise, e_par, o_lt, o_le, o_gt, o_ge, o_sub, o_addI, o_iaddI, o_eqS, o_neS, o_eqI, o_isi, o_s0, o_sI, tyS, bT_ok, bT_exc, Out.bind_ok, Out.bind_exc, Out.bind_bad, Out.st_ok, Out.st_exc, Out.st_bad, OS.andThen_nx, OS.andThen_ret, OS.andThen_brk, OS.andThen_cnt, OS.andThen_exc, OS.andThen_bad, finR_nx, finR_ret, finR_exc, List.getElem?_cons_zero, List.getElem?_cons_succ, List.length_cons, List.length_nil, if_true, if_false, reduceIte, Bool.false_eq_true, List.take_length, t_run_end ht hl, twl_run, o_sl c t hl2, cut_run, kc_great, kc_kw, o_inT, t_is_digits a1 l1, t_short_name a1 l1, t_short_big a1 l1, tokR]
end Pm

namespace Pm
open PySem L2 PyProof.Rows SX
theorem t_signs {t : List Nat} (hl : t.length ≤ 400) (n : Nat) (c : Cells) (a2 : Option W) : ∀ (us : List (List Nat)), (∀ u ∈ us, u ≠ [] ∧ u.length ≤ 2) → ∀ w : Option W, ∃ w',
    forL (gtName 3) (sIf (dTest (dMeth "str" (oSI fun a b i => .bl (Txt.startswith3 a b i)) (dVar 0) (dCons (dVar 3) (dCons (dVar 1) dNil)))) (sRet (dTup (dCons (dC (.str "sign")) (dCons (dBin oAdd (dVar 1) (dCall oLen (dCons (dVar 3) dNil))) dNil)))) OS.nx)
      ((us.map S).map D.str) [some (.d (.str (S t))), some (.d (.int n)), a2, w] c
      = match us.find? (fun u => decide ((t.drop n).take u.length = u)) with
        | some u => .ret (.d (.tup [.str "sign", .int ((n + u.length : Nat) : Int)])) c
        | none => .nx [some (.d (.str (S t))), some (.d (.int n)), a2, w'] c
  | [], _, w => ⟨w, rfl⟩
  | u :: us, h, w => by
    obtain ⟨w', ih⟩ := t_signs hl n c a2 us (fun v hv => h v (List.mem_cons_of_mem _ hv)) (some (.d (.str (S u))))
    refine ⟨w', ?_⟩
    have hu := h u List.mem_cons_self
    rw [List.map_cons, List.map_cons, forL_cons, List.find?_cons]
    simp only [e_gt, e_gtT, e_gtC, e_gtN, OS.only_nx, OS.only_exc, ca_take, and_self, true_and, and_true, List.nodup_cons, List.nodup_nil, List.not_mem_nil, not_false_eq_true, List.zip_cons_cons, List.zip_nil_right, Nat.reduceAdd, Nat.reduceLeDiff, decide_true, decide_false, Bool.not_true, Bool.not_false, fr0, fr1, fr2, fr3, mk0, mkT1, mkT2, mkT3, e_v0, e_v1, e_v2, e_v3, e_v4, e_v5, e_v6, e_v7, e_v8, e_v9, e_g0, e_g1, e_g2, e_g3, e_g4, e_g5, e_g6, e_g7, e_g8, e_g9, e_s0, e_s1, e_s2, e_s3, e_s4, e_s5, e_s6, e_s7, e_s8, e_s9, e_c, e_nil, e_cons, e_bin, e_call, e_callN, e_test, e_not, e_and, e_or, e_andV, e_orV, e_if, e_isN, e_meth, e_tup, e_lst, e_sl, e_some, e_none, e_scons, e_set, e_ret, e_exp, e_sif, e_asg, e_raise, e_par, o_lt, o_le, o_gt, o_ge, o_sub, o_addI, o_iaddI, o_eqS, o_neS, o_eqI, o_isi, o_s0, o_sI, tyS, bT_ok, bT_exc, Out.bind_ok, Out.bind_exc, Out.bind_bad, Out.st_ok, Out.st_exc, Out.st_bad, OS.andThen_nx, OS.andThen_ret, OS.andThen_brk, OS.andThen_cnt, OS.andThen_exc, OS.andThen_bad, finR_nx, finR_ret, finR_exc, List.getElem?_cons_zero, List.getElem?_cons_succ, List.length_cons, List.length_nil, if_true, if_false, reduceIte, Bool.false_eq_true, List.take_length, sw_S t u n hu.1]
    cases hd : decide ((t.drop n).take u.length = u) with
    | true =>
      simp only [e_gt, e_gtT, e_gtC, e_gtN, OS.only_nx, OS.only_exc, ca_take, and_self, true_and, and_true, List.nodup_cons, List.nodup_nil, List.not_mem_nil, not_false_eq_true, List.zip_cons_cons, List.zip_nil_right, Nat.reduceAdd, Nat.reduceLeDiff, decide_true, decide_false, Bool.not_true, Bool.not_false, fr0, fr1, fr2, fr3, mk0, mkT1, mkT2, mkT3, e_v0, e_v1, e_v2, e_v3, e_v4, e_v5, e_v6, e_v7, e_v8, e_v9, e_g0, e_g1, e_g2, e_g3, e_g4, e_g5, e_g6, e_g7, e_g8, e_g9, e_s0, e_s1, e_s2, e_s3, e_s4, e_s5, e_s6, e_s7, e_s8, e_s9, e_c, e_nil, e_cons, e_bin, e_call, e_callN, e_test, e_not, e_and, e_or, e_andV, e_orV, e_if, e_isN, e_meth, e_tup, e_lst, e_sl, e_some, e_none, e_scons, e_set, e_ret, e_exp, e_sif, e_asg, e_raise, e_par, o_lt, o_le, o_gt, o_ge, o_sub, o_addI, o_iaddI, o_eqS, o_neS, o_eqI, o_isi, o_s0, o_sI, tyS, bT_ok, bT_exc, Out.bind_ok, Out.bind_exc, Out.bind_bad, Out.st_ok, Out.st_exc, Out.st_bad, OS.andThen_nx, OS.andThen_ret, OS.andThen_brk, OS.andThen_cnt, OS.andThen_exc, OS.andThen_bad, finR_nx, finR_ret, finR_exc, List.getElem?_cons_zero, List.getElem?_cons_succ, List.length_cons, List.length_nil, if_true, if_false, reduceIte, Bool.false_eq_true, List.take_length, o_len c u (by omega)]
      rfl
    | false =>
      simp only [e_gt, e_gtT, e_gtC, e_gtN, OS.only_nx, OS.only_exc, ca_take, and_self, true_and, and_true, List.nodup_cons, List.nodup_nil, List.not_mem_nil, not_false_eq_true, List.zip_cons_cons, List.zip_nil_right, Nat.reduceAdd, Nat.reduceLeDiff, decide_true, decide_false, Bool.not_true, Bool.not_false, fr0, fr1, fr2, fr3, mk0, mkT1, mkT2, mkT3, e_v0, e_v1, e_v2, e_v3, e_v4, e_v5, e_v6, e_v7, e_v8, e_v9, e_g0, e_g1, e_g2, e_g3, e_g4, e_g5, e_g6, e_g7, e_g8, e_g9, e_s0, e_s1, e_s2, e_s3, e_s4, e_s5, e_s6, e_s7, e_s8, e_s9, e_c, e_nil, e_cons, e_bin, e_call, e_callN, e_test, e_not, e_and, e_or, e_andV, e_orV, e_if, e_isN, e_meth, e_tup, e_lst, e_sl, e_some, e_none, e_scons, e_set, e_ret, e_exp, e_sif, e_asg, e_raise, e_par, o_lt, o_le, o_gt, o_ge, o_sub, o_addI, o_iaddI, o_eqS, o_neS, o_eqI, o_isi, o_s0, o_sI, tyS, bT_ok, bT_exc, Out.bind_ok, Out.bind_exc, Out.bind_bad, Out.st_ok, Out.st_exc, Out.st_bad, OS.andThen_nx, OS.andThen_ret, OS.andThen_brk, OS.andThen_cnt, OS.andThen_exc, OS.andThen_bad, finR_nx, finR_ret, finR_exc, List.getElem?_cons_zero, List.getElem?_cons_succ, List.length_cons, List.length_nil, if_true, if_false, reduceIte, Bool.false_eq_true, List.take_length]
      exact ih
theorem find_mem {l : List (List Nat)} {v : List Nat} : l.find? (fun u => decide (v = u)) = if v ∈ l then some v else none := by
  induction l with
  | nil => rfl
  | cons a l ih =>
    rw [List.find?_cons, ih]
    by_cases h : v = a
    · subst h; simp
    · simp [h]
theorem find_cg {l : List (List Nat)} {p q : List Nat → Bool} (h : ∀ u ∈ l, p u = q u) : l.find? p = l.find? q := by
  induction l with
  | nil => rfl
  | cons a l ih => rw [List.find?_cons, List.find?_cons, h a List.mem_cons_self, ih fun u hu => h u (List.mem_cons_of_mem _ hu)]
theorem find_sg (x : Nat) (l : List Nat) : (two ++ ones.map fun y => [y]).find? (fun u => decide ((x :: l).take u.length = u)) = if (x :: l).take 2 ∈ two then some ((x :: l).take 2) else if x ∈ ones then some [x] else none := by
  rw [List.find?_append]
  have e1 : two.find? (fun u => decide ((x :: l).take u.length = u)) = two.find? (fun u => decide ((x :: l).take 2 = u)) := find_cg fun u hu => by
    have : u.length = 2 := by
      simp only [two, List.mem_cons, List.not_mem_nil, or_false] at hu
      rcases hu with h | h | h <;> rw [h] <;> rfl
    rw [this]
  have e2 : (ones.map fun y => [y]).find? (fun u => decide ((x :: l).take u.length = u)) = (ones.map fun y => [y]).find? (fun u => decide ([x] = u)) := find_cg fun u hu => by
    obtain ⟨y, _, rfl⟩ := List.mem_map.mp hu
    rfl
  rw [e1, e2, find_mem, find_mem]
  have e3 : ([x] ∈ ones.map fun y => [y]) = (x ∈ ones) := by simp
  simp only [e3]
  split <;> split <;> simp
theorem t_token_at {t : List Nat} (ht : asc t) (hl : t.length ≤ 400) (n : Nat) (hn : n < t.length) (c : Cells) : g_token_at [.d (.str (S t)), .d (.int n)] c = tokR n c (tok (t.drop n)) := by
  unfold g_token_at
  rw [runB_of [some (.d (.str (S t))), some (.d (.int n)), none, none] rfl]
  unfold d_token_at
  have hl2 : t.length ≤ 1000000 := by omega
  obtain ⟨x, hx, hd⟩ := drop_cons hn
  have hx2 : x < 128 := ht x (List.mem_of_getElem? hx)
  simp only [e_gt, e_gtT, e_gtC, e_gtN, OS.only_nx, OS.only_exc, ca_take, and_self, true_and, and_true, List.nodup_cons, List.nodup_nil, List.not_mem_nil, not_false_eq_true, List.zip_cons_cons, List.zip_nil_right, Nat.reduceAdd, Nat.reduceLeDiff, decide_true, decide_false, Bool.not_true, Bool.not_false, fr0, fr1, fr2, fr3, mk0, mkT1, mkT2, mkT3, e_v0, e_v1, e_v2, e_v3, e_v4, e_v5, e_v6, e_v7, e_v8, e_v9, e_g0, e_g1, e_g2, e_g3, e_g4, e_g5, e_g6, e_g7, e_g8, e_g9, e_s0, e_s1, e_s2, e_s3, e_s4, e_s5, e_s6, e_s7, e_s8, e_s9, e_c, e_nil, e_cons, e_bin, e_call, e_callN, e_test, e_not, e_and, e_or, e_andV, e_orV, e_if, e_isN, e_meth, e_tup, e_lst, e_sl, e_some, e_none, e_scons, e_set, e_ret, e_exp, e_sif, e_asg, e_raise, e_par, o_lt, o_le, o_gt, o_ge, o_sub, o_addI, o_iaddI, o_eqS, o_neS, o_eqI, o_isi, o_s0, o_sI, tyS, bT_ok, bT_exc, Out.bind_ok, Out.bind_exc, Out.bind_bad, Out.st_ok, Out.st_exc, Out.st_bad, OS.andThen_nx, OS.andThen_ret, OS.andThen_brk, OS.andThen_cnt, OS.andThen_exc, OS.andThen_bad, finR_nx, finR_ret, finR_exc, List.getElem?_cons_zero, List.getElem?_cons_succ, List.length_cons, List.length_nil, if_true, if_false, reduceIte, Bool.false_eq_true, List.take_length, o_ix c t hl2 hx, is_run1 hx2]
  by_cases hal : al x = true
  · have hr : run (t.drop n) ≠ [] := by unfold run; rw [hd, List.takeWhile_cons, if_pos hal]; simp
    rw [hal]
    simp only [e_gt, e_gtT, e_gtC, e_gtN, OS.only_nx, OS.only_exc, ca_take, and_self, true_and, and_true, List.nodup_cons, List.nodup_nil, List.not_mem_nil, not_false_eq_true, List.zip_cons_cons, List.zip_nil_right, Nat.reduceAdd, Nat.reduceLeDiff, decide_true, decide_false, Bool.not_true, Bool.not_false, fr0, fr1, fr2, fr3, mk0, mkT1, mkT2, mkT3, e_v0, e_v1, e_v2, e_v3, e_v4, e_v5, e_v6, e_v7, e_v8, e_v9, e_g0, e_g1, e_g2, e_g3, e_g4, e_g5, e_g6, e_g7, e_g8, e_g9, e_s0, e_s1, e_s2, e_s3, e_s4, e_s5, e_s6, e_s7, e_s8, e_s9, e_c, e_nil, e_cons, e_bin, e_call, e_callN, e_test, e_not, e_and, e_or, e_andV, e_orV, e_if, e_isN, e_meth, e_tup, e_lst, e_sl, e_some, e_none, e_scons, e_set, e_ret, e_exp, e_sif, e_asg, e_raise, e_par, o_lt, o_le, o_gt, o_ge, o_sub, o_addI, o_iaddI, o_eqS, o_neS, o_eqI, o_isi, o_s0, o_sI, tyS, bT_ok, bT_exc, Out.bind_ok, Out.bind_exc, Out.bind_bad, Out.st_ok, Out.st_exc, Out.st_bad, OS.andThen_nx, OS.andThen_ret, OS.andThen_brk, OS.andThen_cnt, OS.andThen_exc, OS.andThen_bad, finR_nx, finR_ret, finR_exc, List.getElem?_cons_zero, List.getElem?_cons_succ, List.length_cons, List.length_nil, if_true, if_false, reduceIte, Bool.false_eq_true, List.take_length, t_run_token ht hl n c hr]
    cases tok (t.drop n) with
    | none => simp only [tokR, e_gt, e_gtT, e_gtC, e_gtN, OS.only_nx, OS.only_exc, ca_take, and_self, true_and, and_true, List.nodup_cons, List.nodup_nil, List.not_mem_nil, not_false_eq_true, List.zip_cons_cons, List.zip_nil_right, Nat.reduceAdd, Nat.reduceLeDiff, decide_true, decide_false, Bool.not_true, Bool.not_false, fr0, fr1, fr2, fr3, mk0, mkT1, mkT2, mkT3, e_v0, e_v1, e_v2, e_v3, e_v4, e_v5, e_v6, e_v7, e_v8, e_v9, e_g0, e_g1, e_g2, e_g3, e_g4, e_g5, e_g6, e_g7, e_g8, e_g9, e_s0, e_s1, e_s2, e_s3, e_s4, e_s5, e_s6, e_s7, e_s8, e_s9, e_c, e_nil, e_cons, e_bin, e_call, e_callN, e_test, e_not, e_and, e_or, e_andV, e_orV, e_if, e_isN, e_meth, e_tup, e_lst, e_sl, e_some, e_none, e_scons, e_set, e_ret, e_exp, e_sif, e_asg, e_raise, e_par, o_lt, o_le, o_gt, o_ge, o_sub, o_addI, o_iaddI, o_eqS, o_neS, o_eqI, o_isi, o_s0, o_sI, tyS, bT_ok, bT_exc, Out.bind_ok, Out.bind_exc, Out.bind_bad, Out.st_ok, Out.st_exc, Out.st_bad, OS.andThen_nx, OS.andThen_ret, OS.andThen_brk, OS.andThen_cnt, OS.andThen_exc, OS.andThen_bad, finR_nx, finR_ret, finR_exc, List.getElem?_cons_zero, List.getElem?_cons_succ, List.length_cons, List.length_nil, if_true, if_false, reduceIte, Bool.false_eq_true, List.take_length]
    | some q => obtain ⟨k, l⟩ := q; simp only [tokR, e_gt, e_gtT, e_gtC, e_gtN, OS.only_nx, OS.only_exc, ca_take, and_self, true_and, and_true, List.nodup_cons, List.nodup_nil, List.not_mem_nil, not_false_eq_true, List.zip_cons_cons, List.zip_nil_right, Nat.reduceAdd, Nat.reduceLeDiff, decide_true, decide_false, Bool.not_true, Bool.not_false, fr0, fr1, fr2, fr3, mk0, mkT1, mkT2, mkT3, e_v0, e_v1, e_v2, e_v3, e_v4, e_v5, e_v6, e_v7, e_v8, e_v9, e_g0, e_g1, e_g2, e_g3, e_g4, e_g5, e_g6, e_g7, e_g8, e_g9, e_s0, e_s1, e_s2, e_s3, e_s4, e_s5, e_s6, e_s7, e_s8, e_s9, e_c, e_nil, e_cons, e_bin, e_call, e_callN, e_test, e_not, e_and, e_or, e_andV, e_orV, e_if, e_isN, e_meth, e_tup, e_lst, e_sl, e_some, e_none, e_scons, e_set, e_ret, e_exp, e_sif, e_asg, e_raise, e_par, o_lt, o_le, o_gt, o_ge, o_sub, o_addI, o_iaddI, o_eqS, o_neS, o_eqI, o_isi, o_s0, o_sI, tyS, bT_ok, bT_exc, Out.bind_ok, Out.bind_exc, Out.bind_bad, Out.st_ok, Out.st_exc, Out.st_bad, OS.andThen_nx, OS.andThen_ret, OS.andThen_brk, OS.andThen_cnt, OS.andThen_exc, OS.andThen_bad, finR_nx, finR_ret, finR_exc, List.getElem?_cons_zero, List.getElem?_cons_succ, List.length_cons, List.length_nil, if_true, if_false, reduceIte, Bool.false_eq_true, List.take_length]
  · have hr : run (t.drop n) = [] := by unfold run; rw [hd, List.takeWhile_cons, if_neg hal]
    rw [Bool.not_eq_true] at hal
    rw [hal]
    simp only [e_gt, e_gtT, e_gtC, e_gtN, OS.only_nx, OS.only_exc, ca_take, and_self, true_and, and_true, List.nodup_cons, List.nodup_nil, List.not_mem_nil, not_false_eq_true, List.zip_cons_cons, List.zip_nil_right, Nat.reduceAdd, Nat.reduceLeDiff, decide_true, decide_false, Bool.not_true, Bool.not_false, fr0, fr1, fr2, fr3, mk0, mkT1, mkT2, mkT3, e_v0, e_v1, e_v2, e_v3, e_v4, e_v5, e_v6, e_v7, e_v8, e_v9, e_g0, e_g1, e_g2, e_g3, e_g4, e_g5, e_g6, e_g7, e_g8, e_g9, e_s0, e_s1, e_s2, e_s3, e_s4, e_s5, e_s6, e_s7, e_s8, e_s9, e_c, e_nil, e_cons, e_bin, e_call, e_callN, e_test, e_not, e_and, e_or, e_andV, e_orV, e_if, e_isN, e_meth, e_tup, e_lst, e_sl, e_some, e_none, e_scons, e_set, e_ret, e_exp, e_sif, e_asg, e_raise, e_par, o_lt, o_le, o_gt, o_ge, o_sub, o_addI, o_iaddI, o_eqS, o_neS, o_eqI, o_isi, o_s0, o_sI, tyS, bT_ok, bT_exc, Out.bind_ok, Out.bind_exc, Out.bind_bad, Out.st_ok, Out.st_exc, Out.st_bad, OS.andThen_nx, OS.andThen_ret, OS.andThen_brk, OS.andThen_cnt, OS.andThen_exc, OS.andThen_bad, finR_nx, finR_ret, finR_exc, List.getElem?_cons_zero, List.getElem?_cons_succ, List.length_cons, List.length_nil, if_true, if_false, reduceIte, Bool.false_eq_true, List.take_length, o_ix c t hl2 hx, k_tilde, S_eq]
    unfold tok
    rw [hr]
    simp only [ne_eq, not_true_eq_false, if_false]
    have e0 : ((t.drop n).take 1 = [126]) = (x = 126) := by rw [hd]; simp
    have e9 : decide ([x] = [126]) = decide (x = 126) := by simp
    simp only [e0, e9, List.drop_drop]
    by_cases h1 : x = 126
    · have e1 : (n : Int) + 1 = ((n + 1 : Nat) : Int) := by omega
      have a1 := run_asc ht (n + 1)
      have l1 := Nat.le_trans (run_len t (n + 1)) hl
      rw [if_pos h1, decide_eq_true h1]
      simp only [e1, e_gt, e_gtT, e_gtC, e_gtN, OS.only_nx, OS.only_exc, ca_take, and_self, true_and, and_true, List.nodup_cons, List.nodup_nil, List.not_mem_nil, not_false_eq_true, List.zip_cons_cons, List.zip_nil_right, Nat.reduceAdd, Nat.reduceLeDiff, decide_true, decide_false, Bool.not_true, Bool.not_false, fr0, fr1, fr2, fr3, mk0, mkT1, mkT2, mkT3, e_v0, e_v1, e_v2, e_v3, e_v4, e_v5, e_v6, e_v7, e_v8, e_v9, e_g0, e_g1, e_g2, e_g3, e_g4, e_g5, e_g6, e_g7, e_g8, e_g9, e_s0, e_s1, e_s2, e_s3, e_s4, e_s5, e_s6, e_s7, e_s8, e_s9, e_c, e_nil, e_cons, e_bin, e_call, e_callN, e_test, e_not, e_and, e_or, e_andV, e_orV, e_if, e_isN, e_meth, e_tup, e_lst, e_sl, e_some, e_none, e_scons, e_set, e_ret, e_exp, e_sif, e_asg, e_raise, e_par, o_lt, o_le, o_gt, o_ge, o_sub, o_addI, o_iaddI, o_eqS, o_neS, o_eqI, o_isi, o_s0, o_sI, tyS, bT_ok, bT_exc, Out.bind_ok, Out.bind_exc, Out.bind_bad, Out.st_ok, Out.st_exc, Out.st_bad, OS.andThen_nx, OS.andThen_ret, OS.andThen_brk, OS.andThen_cnt, OS.andThen_exc, OS.andThen_bad, finR_nx, finR_ret, finR_exc, List.getElem?_cons_zero, List.getElem?_cons_succ, List.length_cons, List.length_nil, if_true, if_false, reduceIte, Bool.false_eq_true, List.take_length, o_ix c t hl2 hx, k_tilde, k_0, S_eq, t_run_end ht hl, twl_run, o_sl c t hl2, cut_run, kc_great, t_is_digits a1 l1]
      by_cases h2 : run (t.drop (n + 1)) = [48]
      · rw [decide_eq_true h2]
        simp only [e_gt, e_gtT, e_gtC, e_gtN, OS.only_nx, OS.only_exc, ca_take, and_self, true_and, and_true, List.nodup_cons, List.nodup_nil, List.not_mem_nil, not_false_eq_true, List.zip_cons_cons, List.zip_nil_right, Nat.reduceAdd, Nat.reduceLeDiff, decide_true, decide_false, Bool.not_true, Bool.not_false, fr0, fr1, fr2, fr3, mk0, mkT1, mkT2, mkT3, e_v0, e_v1, e_v2, e_v3, e_v4, e_v5, e_v6, e_v7, e_v8, e_v9, e_g0, e_g1, e_g2, e_g3, e_g4, e_g5, e_g6, e_g7, e_g8, e_g9, e_s0, e_s1, e_s2, e_s3, e_s4, e_s5, e_s6, e_s7, e_s8, e_s9, e_c, e_nil, e_cons, e_bin, e_call, e_callN, e_test, e_not, e_and, e_or, e_andV, e_orV, e_if, e_isN, e_meth, e_tup, e_lst, e_sl, e_some, e_none, e_scons, e_set, e_ret, e_exp, e_sif, e_asg, e_raise, e_par, o_lt, o_le, o_gt, o_ge, o_sub, o_addI, o_iaddI, o_eqS, o_neS, o_eqI, o_isi, o_s0, o_sI, tyS, bT_ok, bT_exc, Out.bind_ok, Out.bind_exc, Out.bind_bad, Out.st_ok, Out.st_exc, Out.st_bad, OS.andThen_nx, OS.andThen_ret, OS.andThen_brk, OS.andThen_cnt, OS.andThen_exc, OS.andThen_bad, finR_nx, finR_ret, finR_exc, List.getElem?_cons_zero, List.getElem?_cons_succ, List.length_cons, List.length_nil, if_true, if_false, reduceIte, Bool.false_eq_true, List.take_length, h2, tokR, not_true_eq_false, false_and, if_false, e1]
      · rw [decide_eq_false h2]
        simp only [e_gt, e_gtT, e_gtC, e_gtN, OS.only_nx, OS.only_exc, ca_take, and_self, true_and, and_true, List.nodup_cons, List.nodup_nil, List.not_mem_nil, not_false_eq_true, List.zip_cons_cons, List.zip_nil_right, Nat.reduceAdd, Nat.reduceLeDiff, decide_true, decide_false, Bool.not_true, Bool.not_false, fr0, fr1, fr2, fr3, mk0, mkT1, mkT2, mkT3, e_v0, e_v1, e_v2, e_v3, e_v4, e_v5, e_v6, e_v7, e_v8, e_v9, e_g0, e_g1, e_g2, e_g3, e_g4, e_g5, e_g6, e_g7, e_g8, e_g9, e_s0, e_s1, e_s2, e_s3, e_s4, e_s5, e_s6, e_s7, e_s8, e_s9, e_c, e_nil, e_cons, e_bin, e_call, e_callN, e_test, e_not, e_and, e_or, e_andV, e_orV, e_if, e_isN, e_meth, e_tup, e_lst, e_sl, e_some, e_none, e_scons, e_set, e_ret, e_exp, e_sif, e_asg, e_raise, e_par, o_lt, o_le, o_gt, o_ge, o_sub, o_addI, o_iaddI, o_eqS, o_neS, o_eqI, o_isi, o_s0, o_sI, tyS, bT_ok, bT_exc, Out.bind_ok, Out.bind_exc, Out.bind_bad, Out.st_ok, Out.st_exc, Out.st_bad, OS.andThen_nx, OS.andThen_ret, OS.andThen_brk, OS.andThen_cnt, OS.andThen_exc, OS.andThen_bad, finR_nx, finR_ret, finR_exc, List.getElem?_cons_zero, List.getElem?_cons_succ, List.length_cons, List.length_nil, if_true, if_false, reduceIte, Bool.false_eq_true, List.take_length, h2, e1, not_false_eq_true, true_and, o_sl c t hl2, cut_run, t_is_digits a1 l1]
        have e3 : (2147483647 : Int) + 1 = 2147483648 := by decide
        rw [e3]
        cases isD (run (t.drop (n + 1))) 2147483648 with
        | true => simp only [e_gt, e_gtT, e_gtC, e_gtN, OS.only_nx, OS.only_exc, ca_take, and_self, true_and, and_true, List.nodup_cons, List.nodup_nil, List.not_mem_nil, not_false_eq_true, List.zip_cons_cons, List.zip_nil_right, Nat.reduceAdd, Nat.reduceLeDiff, decide_true, decide_false, Bool.not_true, Bool.not_false, fr0, fr1, fr2, fr3, mk0, mkT1, mkT2, mkT3, e_v0, e_v1, e_v2, e_v3, e_v4, e_v5, e_v6, e_v7, e_v8, e_v9, e_g0, e_g1, e_g2, e_g3, e_g4, e_g5, e_g6, e_g7, e_g8, e_g9, e_s0, e_s1, e_s2, e_s3, e_s4, e_s5, e_s6, e_s7, e_s8, e_s9, e_c, e_nil, e_cons, e_bin, e_call, e_callN, e_test, e_not, e_and, e_or, e_andV, e_orV, e_if, e_isN, e_meth, e_tup, e_lst, e_sl, e_some, e_none, e_scons, e_set, e_ret, e_exp, e_sif, e_asg, e_raise, e_par, o_lt, o_le, o_gt, o_ge, o_sub, o_addI, o_iaddI, o_eqS, o_neS, o_eqI, o_isi, o_s0, o_sI, tyS, bT_ok, bT_exc, Out.bind_ok, Out.bind_exc, Out.bind_bad, Out.st_ok, Out.st_exc, Out.st_bad, OS.andThen_nx, OS.andThen_ret, OS.andThen_brk, OS.andThen_cnt, OS.andThen_exc, OS.andThen_bad, finR_nx, finR_ret, finR_exc, List.getElem?_cons_zero, List.getElem?_cons_succ, List.length_cons, List.length_nil, if_true, if_false, reduceIte, Bool.false_eq_true, List.take_length, tokR, Nat.add_assoc]
        | false => simp only [e_gt, e_gtT, e_gtC, e_gtN, OS.only_nx, OS.only_exc, ca_take, and_self, true_and, and_true, List.nodup_cons, List.nodup_nil, List.not_mem_nil, not_false_eq_true, List.zip_cons_cons, List.zip_nil_right, Nat.reduceAdd, Nat.reduceLeDiff, decide_true, decide_false, Bool.not_true, Bool.not_false, fr0, fr1, fr2, fr3, mk0, mkT1, mkT2, mkT3, e_v0, e_v1, e_v2, e_v3, e_v4, e_v5, e_v6, e_v7, e_v8, e_v9, e_g0, e_g1, e_g2, e_g3, e_g4, e_g5, e_g6, e_g7, e_g8, e_g9, e_s0, e_s1, e_s2, e_s3, e_s4, e_s5, e_s6, e_s7, e_s8, e_s9, e_c, e_nil, e_cons, e_bin, e_call, e_callN, e_test, e_not, e_and, e_or, e_andV, e_orV, e_if, e_isN, e_meth, e_tup, e_lst, e_sl, e_some, e_none, e_scons, e_set, e_ret, e_exp, e_sif, e_asg, e_raise, e_par, o_lt, o_le, o_gt, o_ge, o_sub, o_addI, o_iaddI, o_eqS, o_neS, o_eqI, o_isi, o_s0, o_sI, tyS, bT_ok, bT_exc, Out.bind_ok, Out.bind_exc, Out.bind_bad, Out.st_ok, Out.st_exc, Out.st_bad, OS.andThen_nx, OS.andThen_ret, OS.andThen_brk, OS.andThen_cnt, OS.andThen_exc, OS.andThen_bad, finR_nx, finR_ret, finR_exc, List.getElem?_cons_zero, List.getElem?_cons_succ, List.length_cons, List.length_nil, if_true, if_false, reduceIte, Bool.false_eq_true, List.take_length, tokR]
    · rw [if_neg h1, decide_eq_false h1]
      simp only [e_gt, e_gtT, e_gtC, e_gtN, OS.only_nx, OS.only_exc, ca_take, and_self, true_and, and_true, List.nodup_cons, List.nodup_nil, List.not_mem_nil, not_false_eq_true, List.zip_cons_cons, List.zip_nil_right, Nat.reduceAdd, Nat.reduceLeDiff, decide_true, decide_false, Bool.not_true, Bool.not_false, fr0, fr1, fr2, fr3, mk0, mkT1, mkT2, mkT3, e_v0, e_v1, e_v2, e_v3, e_v4, e_v5, e_v6, e_v7, e_v8, e_v9, e_g0, e_g1, e_g2, e_g3, e_g4, e_g5, e_g6, e_g7, e_g8, e_g9, e_s0, e_s1, e_s2, e_s3, e_s4, e_s5, e_s6, e_s7, e_s8, e_s9, e_c, e_nil, e_cons, e_bin, e_call, e_callN, e_test, e_not, e_and, e_or, e_andV, e_orV, e_if, e_isN, e_meth, e_tup, e_lst, e_sl, e_some, e_none, e_scons, e_set, e_ret, e_exp, e_sif, e_asg, e_raise, e_par, o_lt, o_le, o_gt, o_ge, o_sub, o_addI, o_iaddI, o_eqS, o_neS, o_eqI, o_isi, o_s0, o_sI, tyS, bT_ok, bT_exc, Out.bind_ok, Out.bind_exc, Out.bind_bad, Out.st_ok, Out.st_exc, Out.st_bad, OS.andThen_nx, OS.andThen_ret, OS.andThen_brk, OS.andThen_cnt, OS.andThen_exc, OS.andThen_bad, finR_nx, finR_ret, finR_exc, List.getElem?_cons_zero, List.getElem?_cons_succ, List.length_cons, List.length_nil, if_true, if_false, reduceIte, Bool.false_eq_true, List.take_length, kc_sg, k_signs]
      rw [e_forT _ _ _ _ _ (by decide)]
      obtain ⟨w', hw⟩ := t_signs hl n c none (two ++ ones.map fun y => [y]) (by decide) none
      rw [hw, hd, find_sg]
      have e4 : ((x :: t.drop (n + 1)).head?.any fun x => ones.contains x) = decide (x ∈ ones) := by simp
      rw [e4]
      by_cases h2 : (x :: t.drop (n + 1)).take 2 ∈ two
      · rw [if_pos h2, if_pos h2]
        have : ((x :: t.drop (n + 1)).take 2).length = 2 := by
          simp only [two, List.mem_cons, List.not_mem_nil, or_false] at h2
          rcases h2 with h | h | h <;> rw [h] <;> rfl
        simp only [e_gt, e_gtT, e_gtC, e_gtN, OS.only_nx, OS.only_exc, ca_take, and_self, true_and, and_true, List.nodup_cons, List.nodup_nil, List.not_mem_nil, not_false_eq_true, List.zip_cons_cons, List.zip_nil_right, Nat.reduceAdd, Nat.reduceLeDiff, decide_true, decide_false, Bool.not_true, Bool.not_false, fr0, fr1, fr2, fr3, mk0, mkT1, mkT2, mkT3, e_v0, e_v1, e_v2, e_v3, e_v4, e_v5, e_v6, e_v7, e_v8, e_v9, e_g0, e_g1, e_g2, e_g3, e_g4, e_g5, e_g6, e_g7, e_g8, e_g9, e_s0, e_s1, e_s2, e_s3, e_s4, e_s5, e_s6, e_s7, e_s8, e_s9, e_c, e_nil, e_cons, e_bin, e_call, e_callN, e_test, e_not, e_and, e_or, e_andV, e_orV, e_if, e_isN, e_meth, e_tup, e_lst, e_sl, e_some, e_none, e_scons, e_set, e_ret, e_exp, e_sif, e_asg, e_raise, e_par, o_lt, o_le, o_gt, o_ge, o_sub, o_addI, o_iaddI, o_eqS, o_neS, o_eqI, o_isi, o_s0, o_sI, tyS, bT_ok, bT_exc, Out.bind_ok, Out.bind_exc, Out.bind_bad, Out.st_ok, Out.st_exc, Out.st_bad, OS.andThen_nx, OS.andThen_ret, OS.andThen_brk, OS.andThen_cnt, OS.andThen_exc, OS.andThen_bad, finR_nx, finR_ret, finR_exc, List.getElem?_cons_zero, List.getElem?_cons_succ, List.length_cons, List.length_nil, if_true, if_false, reduceIte, Bool.false_eq_true, List.take_length, tokR, this]
      · rw [if_neg h2, if_neg h2]
        by_cases h3 : x ∈ ones
        · rw [if_pos h3, decide_eq_true h3]
          simp only [e_gt, e_gtT, e_gtC, e_gtN, OS.only_nx, OS.only_exc, ca_take, and_self, true_and, and_true, List.nodup_cons, List.nodup_nil, List.not_mem_nil, not_false_eq_true, List.zip_cons_cons, List.zip_nil_right, Nat.reduceAdd, Nat.reduceLeDiff, decide_true, decide_false, Bool.not_true, Bool.not_false, fr0, fr1, fr2, fr3, mk0, mkT1, mkT2, mkT3, e_v0, e_v1, e_v2, e_v3, e_v4, e_v5, e_v6, e_v7, e_v8, e_v9, e_g0, e_g1, e_g2, e_g3, e_g4, e_g5, e_g6, e_g7, e_g8, e_g9, e_s0, e_s1, e_s2, e_s3, e_s4, e_s5, e_s6, e_s7, e_s8, e_s9, e_c, e_nil, e_cons, e_bin, e_call, e_callN, e_test, e_not, e_and, e_or, e_andV, e_orV, e_if, e_isN, e_meth, e_tup, e_lst, e_sl, e_some, e_none, e_scons, e_set, e_ret, e_exp, e_sif, e_asg, e_raise, e_par, o_lt, o_le, o_gt, o_ge, o_sub, o_addI, o_iaddI, o_eqS, o_neS, o_eqI, o_isi, o_s0, o_sI, tyS, bT_ok, bT_exc, Out.bind_ok, Out.bind_exc, Out.bind_bad, Out.st_ok, Out.st_exc, Out.st_bad, OS.andThen_nx, OS.andThen_ret, OS.andThen_brk, OS.andThen_cnt, OS.andThen_exc, OS.andThen_bad, finR_nx, finR_ret, finR_exc, List.getElem?_cons_zero, List.getElem?_cons_succ, List.length_cons, List.length_nil, if_true, if_false, reduceIte, Bool.false_eq_true, List.take_length, tokR]
        · rw [if_neg h3, decide_eq_false h3]
          simp only [e_gt, e_gtT, e_gtC, e_gtN, OS.only_nx, OS.only_exc, ca_take, and_self, true_and, and_true, List.nodup_cons, List.nodup_nil, List.not_mem_nil, not_false_eq_true, List.zip_cons_cons, List.zip_nil_right, Nat.reduceAdd, Nat.reduceLeDiff, decide_true, decide_false, Bool.not_true, Bool.not_false, fr0, fr1, fr2, fr3, mk0, mkT1, mkT2, mkT3, e_v0, e_v1, e_v2, e_v3, e_v4, e_v5, e_v6, e_v7, e_v8, e_v9, e_g0, e_g1, e_g2, e_g3, e_g4, e_g5, e_g6, e_g7, e_g8, e_g9, e_s0, e_s1, e_s2, e_s3, e_s4, e_s5, e_s6, e_s7, e_s8, e_s9, e_c, e_nil, e_cons, e_bin, e_call, e_callN, e_test, e_not, e_and, e_or, e_andV, e_orV, e_if, e_isN, e_meth, e_tup, e_lst, e_sl, e_some, e_none, e_scons, e_set, e_ret, e_exp, e_sif, e_asg, e_raise, e_par, o_lt, o_le, o_gt, o_ge, o_sub, o_addI, o_iaddI, o_eqS, o_neS, o_eqI, o_isi, o_s0, o_sI, tyS, bT_ok, bT_exc, Out.bind_ok, Out.bind_exc, Out.bind_bad, Out.st_ok, Out.st_exc, Out.st_bad, OS.andThen_nx, OS.andThen_ret, OS.andThen_brk, OS.andThen_cnt, OS.andThen_exc, OS.andThen_bad, finR_nx, finR_ret, finR_exc, List.getElem?_cons_zero, List.getElem?_cons_succ, List.length_cons, List.length_nil, if_true, if_false, reduceIte, Bool.false_eq_true, List.take_length, tokR]
end Pm

namespace Pm
open PySem L2 PyProof.Rows SX
def tkD (t : List Nat) (n : Nat) (k : Str) (l : Nat) : D := .tup [.str k, .str (S ((t.drop n).take l)), .int n]
def lex (t : List Nat) : Nat → Nat → List D → List D × Option Nat
  | 0, _, acc => (acc, none)
  | m + 1, n, acc => if n < t.length then
      (if t.getD n 0 = 32 ∨ t.getD n 0 = 10 then lex t m (n + 1) acc
      else if t.getD n 0 = 35 then lex t m (n + twl (· != 10) t n) acc
      else match tok (t.drop n) with
        | some (k, l) => lex t m (n + l) (acc ++ [tkD t n k l])
        | none => (acc, some n))
    else (acc, none)
theorem tok_pos {l : List Nat} {k : Str} {n : Nat} (h : tok l = some (k, n)) : 1 ≤ n := by
  unfold tok at h
  have key : run l ≠ [] → 1 ≤ (run l).length := fun h => List.length_pos_iff.mpr h
  by_cases hr : run l ≠ []
  · have := key hr
    simp only [hr, if_true, ne_eq, not_false_eq_true] at h
    repeat' split at h
    all_goals first | (cases h; omega) | cases h
  · simp only [hr, if_false] at h
    repeat' split at h
    all_goals first | (cases h; omega) | cases h
theorem t_tokens_of {t : List Nat} (ht : asc t) (hl : t.length ≤ 400) (c : Cells) : g_tokens_of [.d (.str (S t))] c = match lex t (t.length + 1) 0 [] with
    | (acc, none) => .ok (.c c.length) (c ++ [.lst acc])
    | (_, some p) => .exc "BadText" [("position", .int p)] c := by
  unfold g_tokens_of
  rw [runB_of [some (.d (.str (S t))), none, none, none, none] rfl]
  unfold d_tokens_of
  have hl2 : t.length ≤ 1000000 := by omega
  simp only [e_gt, e_gtT, e_gtC, e_gtN, OS.only_nx, OS.only_exc, ca_take, and_self, true_and, and_true, List.nodup_cons, List.nodup_nil, List.not_mem_nil, not_false_eq_true, List.zip_cons_cons, List.zip_nil_right, Nat.reduceAdd, Nat.reduceLeDiff, decide_true, decide_false, Bool.not_true, Bool.not_false, fr0, fr1, fr2, fr3, mk0, mkT1, mkT2, mkT3, e_v0, e_v1, e_v2, e_v3, e_v4, e_v5, e_v6, e_v7, e_v8, e_v9, e_g0, e_g1, e_g2, e_g3, e_g4, e_g5, e_g6, e_g7, e_g8, e_g9, e_s0, e_s1, e_s2, e_s3, e_s4, e_s5, e_s6, e_s7, e_s8, e_s9, e_c, e_nil, e_cons, e_bin, e_call, e_callN, e_test, e_not, e_and, e_or, e_andV, e_orV, e_if, e_isN, e_meth, e_tup, e_lst, e_sl, e_some, e_none, e_scons, e_set, e_ret, e_exp, e_sif, e_asg, e_raise, e_par, o_lt, o_le, o_gt, o_ge, o_sub, o_addI, o_iaddI, o_eqS, o_neS, o_eqI, o_isi, o_s0, o_sI, tyS, bT_ok, bT_exc, Out.bind_ok, Out.bind_exc, Out.bind_bad, Out.st_ok, Out.st_exc, Out.st_bad, OS.andThen_nx, OS.andThen_ret, OS.andThen_brk, OS.andThen_cnt, OS.andThen_exc, OS.andThen_bad, finR_nx, finR_ret, finR_exc, List.getElem?_cons_zero, List.getElem?_cons_succ, List.length_cons, List.length_nil, if_true, if_false, reduceIte, Bool.false_eq_true, List.take_length]
  unfold sWhile
  have loop : ∀ (k m n : Nat) (acc : List D) (w3 w4 : Option W), t.length - n < k → k ≤ m → acc.length ≤ n → ∃ w2 w3' w4',
      loopW (dTest (dBin oLt (dVar 2) (dCall oLen (dCons (dVar 0) dNil)))) (sIf (dOr (dTest (dBin oEq (dBin oIx (dVar 0) (dVar 2)) (dC (.str " ")))) (dTest (dBin oEq (dBin oIx (dVar 0) (dVar 2)) (dC (.str "\n"))))) (sAug 2 oIadd (dC (.int 1))) (sIf (dTest (dBin oEq (dBin oIx (dVar 0) (dVar 2)) (dC (.str "#")))) (sSet 2 (dCallN 2 g_line_end (dCons (dVar 0) (dCons (dVar 2) dNil)))) (sCons (sAsg (dCallN 2 g_token_at (dCons (dVar 0) (dCons (dVar 2) dNil))) (gtTup 2 (gtCons (gtName 3) (gtCons (gtName 4) gtNil))))
    (sCons (sExp (dMeth "list" oAppend (dVar 1) (dCons (dTup (dCons (dVar 3) (dCons (dSl (dVar 0) (pSome (dVar 2)) (pSome (dVar 4))) (dCons (dVar 2) dNil)))) dNil)))
    (sSet 2 (dVar 4)))))) m [some (.d (.str (S t))), some (.c c.length), some (.d (.int n)), w3, w4] (c ++ [.lst acc])
      = match lex t k n acc with
        | (acc, none) => .nx [some (.d (.str (S t))), some (.c c.length), w2, w3', w4'] (c ++ [.lst acc])
        | (acc, some p) => .exc [some (.d (.str (S t))), some (.c c.length), w2, w3', w4'] "BadText" [("position", .int p)] (c ++ [.lst acc]) := by
    intro k
    induction k with
    | zero => intro m n acc w3 w4 h; omega
    | succ k ih =>
      intro m n acc w3 w4 h hm ha
      obtain ⟨m, rfl⟩ : ∃ m', m = m' + 1 := ⟨m - 1, by omega⟩
      rw [loopW_succ]
      unfold lex
      simp only [e_gt, e_gtT, e_gtC, e_gtN, OS.only_nx, OS.only_exc, ca_take, and_self, true_and, and_true, List.nodup_cons, List.nodup_nil, List.not_mem_nil, not_false_eq_true, List.zip_cons_cons, List.zip_nil_right, Nat.reduceAdd, Nat.reduceLeDiff, decide_true, decide_false, Bool.not_true, Bool.not_false, fr0, fr1, fr2, fr3, mk0, mkT1, mkT2, mkT3, e_v0, e_v1, e_v2, e_v3, e_v4, e_v5, e_v6, e_v7, e_v8, e_v9, e_g0, e_g1, e_g2, e_g3, e_g4, e_g5, e_g6, e_g7, e_g8, e_g9, e_s0, e_s1, e_s2, e_s3, e_s4, e_s5, e_s6, e_s7, e_s8, e_s9, e_c, e_nil, e_cons, e_bin, e_call, e_callN, e_test, e_not, e_and, e_or, e_andV, e_orV, e_if, e_isN, e_meth, e_tup, e_lst, e_sl, e_some, e_none, e_scons, e_set, e_ret, e_exp, e_sif, e_asg, e_raise, e_par, o_lt, o_le, o_gt, o_ge, o_sub, o_addI, o_iaddI, o_eqS, o_neS, o_eqI, o_isi, o_s0, o_sI, tyS, bT_ok, bT_exc, Out.bind_ok, Out.bind_exc, Out.bind_bad, Out.st_ok, Out.st_exc, Out.st_bad, OS.andThen_nx, OS.andThen_ret, OS.andThen_brk, OS.andThen_cnt, OS.andThen_exc, OS.andThen_bad, finR_nx, finR_ret, finR_exc, List.getElem?_cons_zero, List.getElem?_cons_succ, List.length_cons, List.length_nil, if_true, if_false, reduceIte, Bool.false_eq_true, List.take_length, o_len _ t hl2]
      by_cases hn : n < t.length
      · obtain ⟨x, hx, hd⟩ := drop_cons hn
        have e1 : decide ((n : Int) < (t.length : Int)) = true := decide_eq_true (by omega)
        have ex : t.getD n 0 = x := by simp [List.getD, hx]
        rw [if_pos hn, e1, ex]
        simp only [e_gt, e_gtT, e_gtC, e_gtN, OS.only_nx, OS.only_exc, ca_take, and_self, true_and, and_true, List.nodup_cons, List.nodup_nil, List.not_mem_nil, not_false_eq_true, List.zip_cons_cons, List.zip_nil_right, Nat.reduceAdd, Nat.reduceLeDiff, decide_true, decide_false, Bool.not_true, Bool.not_false, fr0, fr1, fr2, fr3, mk0, mkT1, mkT2, mkT3, e_v0, e_v1, e_v2, e_v3, e_v4, e_v5, e_v6, e_v7, e_v8, e_v9, e_g0, e_g1, e_g2, e_g3, e_g4, e_g5, e_g6, e_g7, e_g8, e_g9, e_s0, e_s1, e_s2, e_s3, e_s4, e_s5, e_s6, e_s7, e_s8, e_s9, e_c, e_nil, e_cons, e_bin, e_call, e_callN, e_test, e_not, e_and, e_or, e_andV, e_orV, e_if, e_isN, e_meth, e_tup, e_lst, e_sl, e_some, e_none, e_scons, e_set, e_ret, e_exp, e_sif, e_asg, e_raise, e_par, o_lt, o_le, o_gt, o_ge, o_sub, o_addI, o_iaddI, o_eqS, o_neS, o_eqI, o_isi, o_s0, o_sI, tyS, bT_ok, bT_exc, Out.bind_ok, Out.bind_exc, Out.bind_bad, Out.st_ok, Out.st_exc, Out.st_bad, OS.andThen_nx, OS.andThen_ret, OS.andThen_brk, OS.andThen_cnt, OS.andThen_exc, OS.andThen_bad, finR_nx, finR_ret, finR_exc, List.getElem?_cons_zero, List.getElem?_cons_succ, List.length_cons, List.length_nil, if_true, if_false, reduceIte, Bool.false_eq_true, List.take_length, o_ix _ t hl2 hx, k_sp, k_nl, k_hash, S_eq]
        have f1 : decide ([x] = [32]) = decide (x = 32) := by simp
        have f2 : decide ([x] = [10]) = decide (x = 10) := by simp
        have f3 : decide ([x] = [35]) = decide (x = 35) := by simp
        rw [f1]
        by_cases h1 : x = 32
        · rw [decide_eq_true h1]
          simp only [e_gt, e_gtT, e_gtC, e_gtN, OS.only_nx, OS.only_exc, ca_take, and_self, true_and, and_true, List.nodup_cons, List.nodup_nil, List.not_mem_nil, not_false_eq_true, List.zip_cons_cons, List.zip_nil_right, Nat.reduceAdd, Nat.reduceLeDiff, decide_true, decide_false, Bool.not_true, Bool.not_false, fr0, fr1, fr2, fr3, mk0, mkT1, mkT2, mkT3, e_v0, e_v1, e_v2, e_v3, e_v4, e_v5, e_v6, e_v7, e_v8, e_v9, e_g0, e_g1, e_g2, e_g3, e_g4, e_g5, e_g6, e_g7, e_g8, e_g9, e_s0, e_s1, e_s2, e_s3, e_s4, e_s5, e_s6, e_s7, e_s8, e_s9, e_c, e_nil, e_cons, e_bin, e_call, e_callN, e_test, e_not, e_and, e_or, e_andV, e_orV, e_if, e_isN, e_meth, e_tup, e_lst, e_sl, e_some, e_none, e_scons, e_set, e_ret, e_exp, e_sif, e_asg, e_raise, e_par, o_lt, o_le, o_gt, o_ge, o_sub, o_addI, o_iaddI, o_eqS, o_neS, o_eqI, o_isi, o_s0, o_sI, tyS, bT_ok, bT_exc, Out.bind_ok, Out.bind_exc, Out.bind_bad, Out.st_ok, Out.st_exc, Out.st_bad, OS.andThen_nx, OS.andThen_ret, OS.andThen_brk, OS.andThen_cnt, OS.andThen_exc, OS.andThen_bad, finR_nx, finR_ret, finR_exc, List.getElem?_cons_zero, List.getElem?_cons_succ, List.length_cons, List.length_nil, if_true, if_false, reduceIte, Bool.false_eq_true, List.take_length]
          rw [if_pos (.inl h1)]
          obtain ⟨w2, w3', w4', e⟩ := ih m (n + 1) acc w3 w4 (by omega) (by omega) (by omega)
          exact ⟨w2, w3', w4', e⟩
        rw [decide_eq_false h1]
        simp only [e_gt, e_gtT, e_gtC, e_gtN, OS.only_nx, OS.only_exc, ca_take, and_self, true_and, and_true, List.nodup_cons, List.nodup_nil, List.not_mem_nil, not_false_eq_true, List.zip_cons_cons, List.zip_nil_right, Nat.reduceAdd, Nat.reduceLeDiff, decide_true, decide_false, Bool.not_true, Bool.not_false, fr0, fr1, fr2, fr3, mk0, mkT1, mkT2, mkT3, e_v0, e_v1, e_v2, e_v3, e_v4, e_v5, e_v6, e_v7, e_v8, e_v9, e_g0, e_g1, e_g2, e_g3, e_g4, e_g5, e_g6, e_g7, e_g8, e_g9, e_s0, e_s1, e_s2, e_s3, e_s4, e_s5, e_s6, e_s7, e_s8, e_s9, e_c, e_nil, e_cons, e_bin, e_call, e_callN, e_test, e_not, e_and, e_or, e_andV, e_orV, e_if, e_isN, e_meth, e_tup, e_lst, e_sl, e_some, e_none, e_scons, e_set, e_ret, e_exp, e_sif, e_asg, e_raise, e_par, o_lt, o_le, o_gt, o_ge, o_sub, o_addI, o_iaddI, o_eqS, o_neS, o_eqI, o_isi, o_s0, o_sI, tyS, bT_ok, bT_exc, Out.bind_ok, Out.bind_exc, Out.bind_bad, Out.st_ok, Out.st_exc, Out.st_bad, OS.andThen_nx, OS.andThen_ret, OS.andThen_brk, OS.andThen_cnt, OS.andThen_exc, OS.andThen_bad, finR_nx, finR_ret, finR_exc, List.getElem?_cons_zero, List.getElem?_cons_succ, List.length_cons, List.length_nil, if_true, if_false, reduceIte, Bool.false_eq_true, List.take_length, o_ix _ t hl2 hx, k_sp, k_nl, k_hash, S_eq]
        rw [f2]
        by_cases h2 : x = 10
        · rw [decide_eq_true h2]
          simp only [e_gt, e_gtT, e_gtC, e_gtN, OS.only_nx, OS.only_exc, ca_take, and_self, true_and, and_true, List.nodup_cons, List.nodup_nil, List.not_mem_nil, not_false_eq_true, List.zip_cons_cons, List.zip_nil_right, Nat.reduceAdd, Nat.reduceLeDiff, decide_true, decide_false, Bool.not_true, Bool.not_false, fr0, fr1, fr2, fr3, mk0, mkT1, mkT2, mkT3, e_v0, e_v1, e_v2, e_v3, e_v4, e_v5, e_v6, e_v7, e_v8, e_v9, e_g0, e_g1, e_g2, e_g3, e_g4, e_g5, e_g6, e_g7, e_g8, e_g9, e_s0, e_s1, e_s2, e_s3, e_s4, e_s5, e_s6, e_s7, e_s8, e_s9, e_c, e_nil, e_cons, e_bin, e_call, e_callN, e_test, e_not, e_and, e_or, e_andV, e_orV, e_if, e_isN, e_meth, e_tup, e_lst, e_sl, e_some, e_none, e_scons, e_set, e_ret, e_exp, e_sif, e_asg, e_raise, e_par, o_lt, o_le, o_gt, o_ge, o_sub, o_addI, o_iaddI, o_eqS, o_neS, o_eqI, o_isi, o_s0, o_sI, tyS, bT_ok, bT_exc, Out.bind_ok, Out.bind_exc, Out.bind_bad, Out.st_ok, Out.st_exc, Out.st_bad, OS.andThen_nx, OS.andThen_ret, OS.andThen_brk, OS.andThen_cnt, OS.andThen_exc, OS.andThen_bad, finR_nx, finR_ret, finR_exc, List.getElem?_cons_zero, List.getElem?_cons_succ, List.length_cons, List.length_nil, if_true, if_false, reduceIte, Bool.false_eq_true, List.take_length]
          rw [if_pos (.inr h2)]
          obtain ⟨w2, w3', w4', e⟩ := ih m (n + 1) acc w3 w4 (by omega) (by omega) (by omega)
          exact ⟨w2, w3', w4', e⟩
        rw [decide_eq_false h2, if_neg (show ¬(x = 32 ∨ x = 10) by omega)]
        simp only [e_gt, e_gtT, e_gtC, e_gtN, OS.only_nx, OS.only_exc, ca_take, and_self, true_and, and_true, List.nodup_cons, List.nodup_nil, List.not_mem_nil, not_false_eq_true, List.zip_cons_cons, List.zip_nil_right, Nat.reduceAdd, Nat.reduceLeDiff, decide_true, decide_false, Bool.not_true, Bool.not_false, fr0, fr1, fr2, fr3, mk0, mkT1, mkT2, mkT3, e_v0, e_v1, e_v2, e_v3, e_v4, e_v5, e_v6, e_v7, e_v8, e_v9, e_g0, e_g1, e_g2, e_g3, e_g4, e_g5, e_g6, e_g7, e_g8, e_g9, e_s0, e_s1, e_s2, e_s3, e_s4, e_s5, e_s6, e_s7, e_s8, e_s9, e_c, e_nil, e_cons, e_bin, e_call, e_callN, e_test, e_not, e_and, e_or, e_andV, e_orV, e_if, e_isN, e_meth, e_tup, e_lst, e_sl, e_some, e_none, e_scons, e_set, e_ret, e_exp, e_sif, e_asg, e_raise, e_par, o_lt, o_le, o_gt, o_ge, o_sub, o_addI, o_iaddI, o_eqS, o_neS, o_eqI, o_isi, o_s0, o_sI, tyS, bT_ok, bT_exc, Out.bind_ok, Out.bind_exc, Out.bind_bad, Out.st_ok, Out.st_exc, Out.st_bad, OS.andThen_nx, OS.andThen_ret, OS.andThen_brk, OS.andThen_cnt, OS.andThen_exc, OS.andThen_bad, finR_nx, finR_ret, finR_exc, List.getElem?_cons_zero, List.getElem?_cons_succ, List.length_cons, List.length_nil, if_true, if_false, reduceIte, Bool.false_eq_true, List.take_length, o_ix _ t hl2 hx, k_sp, k_nl, k_hash, S_eq]
        rw [f3]
        by_cases h3 : x = 35
        · rw [decide_eq_true h3, if_pos h3]
          simp only [e_gt, e_gtT, e_gtC, e_gtN, OS.only_nx, OS.only_exc, ca_take, and_self, true_and, and_true, List.nodup_cons, List.nodup_nil, List.not_mem_nil, not_false_eq_true, List.zip_cons_cons, List.zip_nil_right, Nat.reduceAdd, Nat.reduceLeDiff, decide_true, decide_false, Bool.not_true, Bool.not_false, fr0, fr1, fr2, fr3, mk0, mkT1, mkT2, mkT3, e_v0, e_v1, e_v2, e_v3, e_v4, e_v5, e_v6, e_v7, e_v8, e_v9, e_g0, e_g1, e_g2, e_g3, e_g4, e_g5, e_g6, e_g7, e_g8, e_g9, e_s0, e_s1, e_s2, e_s3, e_s4, e_s5, e_s6, e_s7, e_s8, e_s9, e_c, e_nil, e_cons, e_bin, e_call, e_callN, e_test, e_not, e_and, e_or, e_andV, e_orV, e_if, e_isN, e_meth, e_tup, e_lst, e_sl, e_some, e_none, e_scons, e_set, e_ret, e_exp, e_sif, e_asg, e_raise, e_par, o_lt, o_le, o_gt, o_ge, o_sub, o_addI, o_iaddI, o_eqS, o_neS, o_eqI, o_isi, o_s0, o_sI, tyS, bT_ok, bT_exc, Out.bind_ok, Out.bind_exc, Out.bind_bad, Out.st_ok, Out.st_exc, Out.st_bad, OS.andThen_nx, OS.andThen_ret, OS.andThen_brk, OS.andThen_cnt, OS.andThen_exc, OS.andThen_bad, finR_nx, finR_ret, finR_exc, List.getElem?_cons_zero, List.getElem?_cons_succ, List.length_cons, List.length_nil, if_true, if_false, reduceIte, Bool.false_eq_true, List.take_length, t_line_end hl n (by omega)]
          have hs : twl (· != 10) t n = twl (· != 10) t (n + 1) + 1 := by
            rw [twl_step hx, if_pos (by simp [h2])]
          obtain ⟨w2, w3', w4', e⟩ := ih m (n + twl (· != 10) t n) acc w3 w4 (by omega) (by omega) (by omega)
          exact ⟨w2, w3', w4', e⟩
        · rw [decide_eq_false h3, if_neg h3]
          simp only [e_gt, e_gtT, e_gtC, e_gtN, OS.only_nx, OS.only_exc, ca_take, and_self, true_and, and_true, List.nodup_cons, List.nodup_nil, List.not_mem_nil, not_false_eq_true, List.zip_cons_cons, List.zip_nil_right, Nat.reduceAdd, Nat.reduceLeDiff, decide_true, decide_false, Bool.not_true, Bool.not_false, fr0, fr1, fr2, fr3, mk0, mkT1, mkT2, mkT3, e_v0, e_v1, e_v2, e_v3, e_v4, e_v5, e_v6, e_v7, e_v8, e_v9, e_g0, e_g1, e_g2, e_g3, e_g4, e_g5, e_g6, e_g7, e_g8, e_g9, e_s0, e_s1, e_s2, e_s3, e_s4, e_s5, e_s6, e_s7, e_s8, e_s9, e_c, e_nil, e_cons, e_bin, e_call, e_callN, e_test, e_not, e_and, e_or, e_andV, e_orV, e_if, e_isN, e_meth, e_tup, e_lst, e_sl, e_some, e_none, e_scons, e_set, e_ret, e_exp, e_sif, e_asg, e_raise, e_par, o_lt, o_le, o_gt, o_ge, o_sub, o_addI, o_iaddI, o_eqS, o_neS, o_eqI, o_isi, o_s0, o_sI, tyS, bT_ok, bT_exc, Out.bind_ok, Out.bind_exc, Out.bind_bad, Out.st_ok, Out.st_exc, Out.st_bad, OS.andThen_nx, OS.andThen_ret, OS.andThen_brk, OS.andThen_cnt, OS.andThen_exc, OS.andThen_bad, finR_nx, finR_ret, finR_exc, List.getElem?_cons_zero, List.getElem?_cons_succ, List.length_cons, List.length_nil, if_true, if_false, reduceIte, Bool.false_eq_true, List.take_length, t_token_at ht hl n hn]
          cases htok : tok (t.drop n) with
          | none =>
            simp only [tokR, e_gt, e_gtT, e_gtC, e_gtN, OS.only_nx, OS.only_exc, ca_take, and_self, true_and, and_true, List.nodup_cons, List.nodup_nil, List.not_mem_nil, not_false_eq_true, List.zip_cons_cons, List.zip_nil_right, Nat.reduceAdd, Nat.reduceLeDiff, decide_true, decide_false, Bool.not_true, Bool.not_false, fr0, fr1, fr2, fr3, mk0, mkT1, mkT2, mkT3, e_v0, e_v1, e_v2, e_v3, e_v4, e_v5, e_v6, e_v7, e_v8, e_v9, e_g0, e_g1, e_g2, e_g3, e_g4, e_g5, e_g6, e_g7, e_g8, e_g9, e_s0, e_s1, e_s2, e_s3, e_s4, e_s5, e_s6, e_s7, e_s8, e_s9, e_c, e_nil, e_cons, e_bin, e_call, e_callN, e_test, e_not, e_and, e_or, e_andV, e_orV, e_if, e_isN, e_meth, e_tup, e_lst, e_sl, e_some, e_none, e_scons, e_set, e_ret, e_exp, e_sif, e_asg, e_raise, e_par, o_lt, o_le, o_gt, o_ge, o_sub, o_addI, o_iaddI, o_eqS, o_neS, o_eqI, o_isi, o_s0, o_sI, tyS, bT_ok, bT_exc, Out.bind_ok, Out.bind_exc, Out.bind_bad, Out.st_ok, Out.st_exc, Out.st_bad, OS.andThen_nx, OS.andThen_ret, OS.andThen_brk, OS.andThen_cnt, OS.andThen_exc, OS.andThen_bad, finR_nx, finR_ret, finR_exc, List.getElem?_cons_zero, List.getElem?_cons_succ, List.length_cons, List.length_nil, if_true, if_false, reduceIte, Bool.false_eq_true, List.take_length]
            exact ⟨_, _, _, rfl⟩
          | some q =>
            obtain ⟨kd, l⟩ := q
            have hp := tok_pos htok
            simp only [tokR, e_gt, e_gtT, e_gtC, e_gtN, OS.only_nx, OS.only_exc, ca_take, and_self, true_and, and_true, List.nodup_cons, List.nodup_nil, List.not_mem_nil, not_false_eq_true, List.zip_cons_cons, List.zip_nil_right, Nat.reduceAdd, Nat.reduceLeDiff, decide_true, decide_false, Bool.not_true, Bool.not_false, fr0, fr1, fr2, fr3, mk0, mkT1, mkT2, mkT3, e_v0, e_v1, e_v2, e_v3, e_v4, e_v5, e_v6, e_v7, e_v8, e_v9, e_g0, e_g1, e_g2, e_g3, e_g4, e_g5, e_g6, e_g7, e_g8, e_g9, e_s0, e_s1, e_s2, e_s3, e_s4, e_s5, e_s6, e_s7, e_s8, e_s9, e_c, e_nil, e_cons, e_bin, e_call, e_callN, e_test, e_not, e_and, e_or, e_andV, e_orV, e_if, e_isN, e_meth, e_tup, e_lst, e_sl, e_some, e_none, e_scons, e_set, e_ret, e_exp, e_sif, e_asg, e_raise, e_par, o_lt, o_le, o_gt, o_ge, o_sub, o_addI, o_iaddI, o_eqS, o_neS, o_eqI, o_isi, o_s0, o_sI, tyS, bT_ok, bT_exc, Out.bind_ok, Out.bind_exc, Out.bind_bad, Out.st_ok, Out.st_exc, Out.st_bad, OS.andThen_nx, OS.andThen_ret, OS.andThen_brk, OS.andThen_cnt, OS.andThen_exc, OS.andThen_bad, finR_nx, finR_ret, finR_exc, List.getElem?_cons_zero, List.getElem?_cons_succ, List.length_cons, List.length_nil, if_true, if_false, reduceIte, Bool.false_eq_true, List.take_length, o_sl _ t hl2, ca_ty, o_app c acc _ (show acc.length < 1000000 by omega)]
            obtain ⟨w2, w3', w4', e⟩ := ih m (n + l) (acc ++ [tkD t n kd l]) (some (.d (.str kd))) (some (.d (.int ((n + l : Nat) : Int)))) (by omega) (by omega) (by simp; omega)
            refine ⟨w2, w3', w4', ?_⟩
            rw [Nat.add_sub_cancel_left]
            exact e
      · have e1 : decide ((n : Int) < (t.length : Int)) = false := decide_eq_false (by omega)
        rw [if_neg hn, e1]
        simp only [e_gt, e_gtT, e_gtC, e_gtN, OS.only_nx, OS.only_exc, ca_take, and_self, true_and, and_true, List.nodup_cons, List.nodup_nil, List.not_mem_nil, not_false_eq_true, List.zip_cons_cons, List.zip_nil_right, Nat.reduceAdd, Nat.reduceLeDiff, decide_true, decide_false, Bool.not_true, Bool.not_false, fr0, fr1, fr2, fr3, mk0, mkT1, mkT2, mkT3, e_v0, e_v1, e_v2, e_v3, e_v4, e_v5, e_v6, e_v7, e_v8, e_v9, e_g0, e_g1, e_g2, e_g3, e_g4, e_g5, e_g6, e_g7, e_g8, e_g9, e_s0, e_s1, e_s2, e_s3, e_s4, e_s5, e_s6, e_s7, e_s8, e_s9, e_c, e_nil, e_cons, e_bin, e_call, e_callN, e_test, e_not, e_and, e_or, e_andV, e_orV, e_if, e_isN, e_meth, e_tup, e_lst, e_sl, e_some, e_none, e_scons, e_set, e_ret, e_exp, e_sif, e_asg, e_raise, e_par, o_lt, o_le, o_gt, o_ge, o_sub, o_addI, o_iaddI, o_eqS, o_neS, o_eqI, o_isi, o_s0, o_sI, tyS, bT_ok, bT_exc, Out.bind_ok, Out.bind_exc, Out.bind_bad, Out.st_ok, Out.st_exc, Out.st_bad, OS.andThen_nx, OS.andThen_ret, OS.andThen_brk, OS.andThen_cnt, OS.andThen_exc, OS.andThen_bad, finR_nx, finR_ret, finR_exc, List.getElem?_cons_zero, List.getElem?_cons_succ, List.length_cons, List.length_nil, if_true, if_false, reduceIte, Bool.false_eq_true, List.take_length]
        exact ⟨_, _, _, rfl⟩
  obtain ⟨w2, w3, w4, e⟩ := loop (t.length + 1) bigN 0 [] none none (by omega) (by unfold bigN; omega) (Nat.le_refl _)
  have e' := e
  rw [show (((0 : Nat) : Int)) = 0 from rfl] at e'
  rw [e']
  match lex t (t.length + 1) 0 [] with
  | (acc, none) => simp only [e_gt, e_gtT, e_gtC, e_gtN, OS.only_nx, OS.only_exc, ca_take, and_self, true_and, and_true, List.nodup_cons, List.nodup_nil, List.not_mem_nil, not_false_eq_true, List.zip_cons_cons, List.zip_nil_right, Nat.reduceAdd, Nat.reduceLeDiff, decide_true, decide_false, Bool.not_true, Bool.not_false, fr0, fr1, fr2, fr3, mk0, mkT1, mkT2, mkT3, e_v0, e_v1, e_v2, e_v3, e_v4, e_v5, e_v6, e_v7, e_v8, e_v9, e_g0, e_g1, e_g2, e_g3, e_g4, e_g5, e_g6, e_g7, e_g8, e_g9, e_s0, e_s1, e_s2, e_s3, e_s4, e_s5, e_s6, e_s7, e_s8, e_s9, e_c, e_nil, e_cons, e_bin, e_call, e_callN, e_test, e_not, e_and, e_or, e_andV, e_orV, e_if, e_isN, e_meth, e_tup, e_lst, e_sl, e_some, e_none, e_scons, e_set, e_ret, e_exp, e_sif, e_asg, e_raise, e_par, o_lt, o_le, o_gt, o_ge, o_sub, o_addI, o_iaddI, o_eqS, o_neS, o_eqI, o_isi, o_s0, o_sI, tyS, bT_ok, bT_exc, Out.bind_ok, Out.bind_exc, Out.bind_bad, Out.st_ok, Out.st_exc, Out.st_bad, OS.andThen_nx, OS.andThen_ret, OS.andThen_brk, OS.andThen_cnt, OS.andThen_exc, OS.andThen_bad, finR_nx, finR_ret, finR_exc, List.getElem?_cons_zero, List.getElem?_cons_succ, List.length_cons, List.length_nil, if_true, if_false, reduceIte, Bool.false_eq_true, List.take_length, fin_cell]
  | (acc, some p) => simp only [e_gt, e_gtT, e_gtC, e_gtN, OS.only_nx, OS.only_exc, ca_take, and_self, true_and, and_true, List.nodup_cons, List.nodup_nil, List.not_mem_nil, not_false_eq_true, List.zip_cons_cons, List.zip_nil_right, Nat.reduceAdd, Nat.reduceLeDiff, decide_true, decide_false, Bool.not_true, Bool.not_false, fr0, fr1, fr2, fr3, mk0, mkT1, mkT2, mkT3, e_v0, e_v1, e_v2, e_v3, e_v4, e_v5, e_v6, e_v7, e_v8, e_v9, e_g0, e_g1, e_g2, e_g3, e_g4, e_g5, e_g6, e_g7, e_g8, e_g9, e_s0, e_s1, e_s2, e_s3, e_s4, e_s5, e_s6, e_s7, e_s8, e_s9, e_c, e_nil, e_cons, e_bin, e_call, e_callN, e_test, e_not, e_and, e_or, e_andV, e_orV, e_if, e_isN, e_meth, e_tup, e_lst, e_sl, e_some, e_none, e_scons, e_set, e_ret, e_exp, e_sif, e_asg, e_raise, e_par, o_lt, o_le, o_gt, o_ge, o_sub, o_addI, o_iaddI, o_eqS, o_neS, o_eqI, o_isi, o_s0, o_sI, tyS, bT_ok, bT_exc, Out.bind_ok, Out.bind_exc, Out.bind_bad, Out.st_ok, Out.st_exc, Out.st_bad, OS.andThen_nx, OS.andThen_ret, OS.andThen_brk, OS.andThen_cnt, OS.andThen_exc, OS.andThen_bad, finR_nx, finR_ret, finR_exc, List.getElem?_cons_zero, List.getElem?_cons_succ, List.length_cons, List.length_nil, if_true, if_false, reduceIte, Bool.false_eq_true, List.take_length]
end Pm

namespace Pm
open PySem L2 PyProof.Rows SX
theorem k_e : (Str.ofString "") = S [] := by decide +kernel
def ALN : List Nat := List.range' 97 26 ++ (List.range' 65 26 ++ List.range' 48 10)
theorem k_aln : (Str.ofString "abcdefghijklmnopqrstuvwxyzABCDEFGHIJKLMNOPQRSTUVWXYZ0123456789") = S ALN := by decide +kernel
theorem k_dig : (Str.ofString "0123456789") = S (List.range' 48 10) := by decide +kernel
theorem k_low : (Str.ofString "abcdefghijklmnopqrstuvwxyz") = S (List.range' 97 26) := by decide +kernel
theorem in_rng (x a n : Nat) : decide (x ∈ List.range' a n) = (decide (a ≤ x) && decide (x < a + n)) := by
  have : (x ∈ List.range' a n) ↔ a ≤ x ∧ x < a + n := by simp [List.mem_range'_1]
  rw [decide_eq_decide.mpr this, Bool.decide_and]
theorem in_dig (x : Nat) : decide (x ∈ List.range' 48 10) = dg x := by
  rw [in_rng]; unfold dg
  rw [decide_eq_decide.mpr (show x < 48 + 10 ↔ x ≤ 57 by omega)]
theorem in_low (x : Nat) : decide (x ∈ List.range' 97 26) = lw x := by
  rw [in_rng]; unfold lw
  rw [decide_eq_decide.mpr (show x < 97 + 26 ↔ x ≤ 122 by omega)]
theorem in_up (x : Nat) : decide (x ∈ List.range' 65 26) = up x := by
  rw [in_rng]; unfold up
  rw [decide_eq_decide.mpr (show x < 65 + 26 ↔ x ≤ 90 by omega)]
theorem in_aln (x : Nat) : decide (x ∈ ALN) = al x := by
  unfold ALN al
  rw [← in_low, ← in_up, ← in_dig]
  simp only [List.mem_append, Bool.decide_or, Bool.or_assoc]
theorem t_lisal (l : List Nat) (c : Cells) : g__law_is_alnum [.d (.str (S (l.take 1)))] c = .ok (.d (.bl (l.head?.any al))) c := by
  unfold g__law_is_alnum
  rw [runB_of [some (.d (.str (S (l.take 1))))] rfl]
  unfold d__law_is_alnum
  cases l with
  | nil => simp only [e_gt, e_gtT, e_gtC, e_gtN, OS.only_nx, OS.only_exc, ca_take, and_self, true_and, and_true, List.nodup_cons, List.nodup_nil, List.not_mem_nil, not_false_eq_true, List.zip_cons_cons, List.zip_nil_right, Nat.reduceAdd, Nat.reduceLeDiff, decide_true, decide_false, Bool.not_true, Bool.not_false, fr0, fr1, fr2, fr3, mk0, mkT1, mkT2, mkT3, e_v0, e_v1, e_v2, e_v3, e_v4, e_v5, e_v6, e_v7, e_v8, e_v9, e_g0, e_g1, e_g2, e_g3, e_g4, e_g5, e_g6, e_g7, e_g8, e_g9, e_s0, e_s1, e_s2, e_s3, e_s4, e_s5, e_s6, e_s7, e_s8, e_s9, e_c, e_nil, e_cons, e_bin, e_call, e_callN, e_test, e_not, e_and, e_or, e_andV, e_orV, e_if, e_isN, e_meth, e_tup, e_lst, e_sl, e_some, e_none, e_scons, e_set, e_ret, e_exp, e_sif, e_asg, e_raise, e_par, o_lt, o_le, o_gt, o_ge, o_sub, o_addI, o_iaddI, o_eqS, o_neS, o_eqI, o_isi, o_s0, o_sI, tyS, bT_ok, bT_exc, Out.bind_ok, Out.bind_exc, Out.bind_bad, Out.st_ok, Out.st_exc, Out.st_bad, OS.andThen_nx, OS.andThen_ret, OS.andThen_brk, OS.andThen_cnt, OS.andThen_exc, OS.andThen_bad, finR_nx, finR_ret, finR_exc, List.getElem?_cons_zero, List.getElem?_cons_succ, List.length_cons, List.length_nil, if_true, if_false, reduceIte, Bool.false_eq_true, List.take_length, k_e, S_eq, List.take_nil]; rfl
  | cons x l =>
    have e : (x :: l).take 1 = [x] := rfl
    have e2 : decide ([x] = ([] : List Nat)) = false := by simp
    rw [e]
    simp only [e_gt, e_gtT, e_gtC, e_gtN, OS.only_nx, OS.only_exc, ca_take, and_self, true_and, and_true, List.nodup_cons, List.nodup_nil, List.not_mem_nil, not_false_eq_true, List.zip_cons_cons, List.zip_nil_right, Nat.reduceAdd, Nat.reduceLeDiff, decide_true, decide_false, Bool.not_true, Bool.not_false, fr0, fr1, fr2, fr3, mk0, mkT1, mkT2, mkT3, e_v0, e_v1, e_v2, e_v3, e_v4, e_v5, e_v6, e_v7, e_v8, e_v9, e_g0, e_g1, e_g2, e_g3, e_g4, e_g5, e_g6, e_g7, e_g8, e_g9, e_s0, e_s1, e_s2, e_s3, e_s4, e_s5, e_s6, e_s7, e_s8, e_s9, e_c, e_nil, e_cons, e_bin, e_call, e_callN, e_test, e_not, e_and, e_or, e_andV, e_orV, e_if, e_isN, e_meth, e_tup, e_lst, e_sl, e_some, e_none, e_scons, e_set, e_ret, e_exp, e_sif, e_asg, e_raise, e_par, o_lt, o_le, o_gt, o_ge, o_sub, o_addI, o_iaddI, o_eqS, o_neS, o_eqI, o_isi, o_s0, o_sI, tyS, bT_ok, bT_exc, Out.bind_ok, Out.bind_exc, Out.bind_bad, Out.st_ok, Out.st_exc, Out.st_bad, OS.andThen_nx, OS.andThen_ret, OS.andThen_brk, OS.andThen_cnt, OS.andThen_exc, OS.andThen_bad, finR_nx, finR_ret, finR_exc, List.getElem?_cons_zero, List.getElem?_cons_succ, List.length_cons, List.length_nil, if_true, if_false, reduceIte, Bool.false_eq_true, List.take_length, k_e, S_eq, e2, o_inS _ ALN x _ k_aln, in_aln]
    rfl
theorem t_lrun {t : List Nat} (hl : t.length ≤ 400) (n : Nat) (c : Cells) : g__law_run [.d (.str (S t)), .d (.int n)] c = .ok (.d (.str (S (run (t.drop n))))) c := by
  unfold g__law_run
  rw [runB_of [some (.d (.str (S t))), some (.d (.int n)), none] rfl]
  unfold d__law_run
  have hl2 : t.length ≤ 1000000 := by omega
  have loop : ∀ (m k j : Nat), t.length - j < k → k ≤ m → loopW (dTest (dCallN 1 g__law_is_alnum (dCons (dSl (dVar 0) (pSome (dVar 2)) (pSome (dBin oAdd (dVar 2) (dC (.int 1))))) dNil))) (sSet 2 (dBin oAdd (dVar 2) (dC (.int 1)))) m [some (.d (.str (S t))), some (.d (.int n)), some (.d (.int j))] c
      = .nx [some (.d (.str (S t))), some (.d (.int n)), some (.d (.int ((j + twl al t j : Nat) : Int)))] c := by
    intro m k
    induction k generalizing m with
    | zero => intro j h; omega
    | succ k ih =>
      intro j h hm
      obtain ⟨m, rfl⟩ : ∃ m', m = m' + 1 := ⟨m - 1, by omega⟩
      rw [loopW_succ]
      have e1 : (j : Int) + 1 = ((j + 1 : Nat) : Int) := by omega
      have e2 : j + 1 - j = 1 := by omega
      simp only [e_gt, e_gtT, e_gtC, e_gtN, OS.only_nx, OS.only_exc, ca_take, and_self, true_and, and_true, List.nodup_cons, List.nodup_nil, List.not_mem_nil, not_false_eq_true, List.zip_cons_cons, List.zip_nil_right, Nat.reduceAdd, Nat.reduceLeDiff, decide_true, decide_false, Bool.not_true, Bool.not_false, fr0, fr1, fr2, fr3, mk0, mkT1, mkT2, mkT3, e_v0, e_v1, e_v2, e_v3, e_v4, e_v5, e_v6, e_v7, e_v8, e_v9, e_g0, e_g1, e_g2, e_g3, e_g4, e_g5, e_g6, e_g7, e_g8, e_g9, e_s0, e_s1, e_s2, e_s3, e_s4, e_s5, e_s6, e_s7, e_s8, e_s9, e_c, e_nil, e_cons, e_bin, e_call, e_callN, e_test, e_not, e_and, e_or, e_andV, e_orV, e_if, e_isN, e_meth, e_tup, e_lst, e_sl, e_some, e_none, e_scons, e_set, e_ret, e_exp, e_sif, e_asg, e_raise, e_par, o_lt, o_le, o_gt, o_ge, o_sub, o_addI, o_iaddI, o_eqS, o_neS, o_eqI, o_isi, o_s0, o_sI, tyS, bT_ok, bT_exc, Out.bind_ok, Out.bind_exc, Out.bind_bad, Out.st_ok, Out.st_exc, Out.st_bad, OS.andThen_nx, OS.andThen_ret, OS.andThen_brk, OS.andThen_cnt, OS.andThen_exc, OS.andThen_bad, finR_nx, finR_ret, finR_exc, List.getElem?_cons_zero, List.getElem?_cons_succ, List.length_cons, List.length_nil, if_true, if_false, reduceIte, Bool.false_eq_true, List.take_length, e1, o_sl c t hl2, e2, t_lisal]
      by_cases hj : j < t.length
      · obtain ⟨x, hx, hd⟩ := drop_cons hj
        rw [hd, twl_step hx]
        have e3 : (x :: t.drop (j + 1)).head?.any al = al x := rfl
        rw [e3]
        cases al x with
        | true =>
          simp only [e_gt, e_gtT, e_gtC, e_gtN, OS.only_nx, OS.only_exc, ca_take, and_self, true_and, and_true, List.nodup_cons, List.nodup_nil, List.not_mem_nil, not_false_eq_true, List.zip_cons_cons, List.zip_nil_right, Nat.reduceAdd, Nat.reduceLeDiff, decide_true, decide_false, Bool.not_true, Bool.not_false, fr0, fr1, fr2, fr3, mk0, mkT1, mkT2, mkT3, e_v0, e_v1, e_v2, e_v3, e_v4, e_v5, e_v6, e_v7, e_v8, e_v9, e_g0, e_g1, e_g2, e_g3, e_g4, e_g5, e_g6, e_g7, e_g8, e_g9, e_s0, e_s1, e_s2, e_s3, e_s4, e_s5, e_s6, e_s7, e_s8, e_s9, e_c, e_nil, e_cons, e_bin, e_call, e_callN, e_test, e_not, e_and, e_or, e_andV, e_orV, e_if, e_isN, e_meth, e_tup, e_lst, e_sl, e_some, e_none, e_scons, e_set, e_ret, e_exp, e_sif, e_asg, e_raise, e_par, o_lt, o_le, o_gt, o_ge, o_sub, o_addI, o_iaddI, o_eqS, o_neS, o_eqI, o_isi, o_s0, o_sI, tyS, bT_ok, bT_exc, Out.bind_ok, Out.bind_exc, Out.bind_bad, Out.st_ok, Out.st_exc, Out.st_bad, OS.andThen_nx, OS.andThen_ret, OS.andThen_brk, OS.andThen_cnt, OS.andThen_exc, OS.andThen_bad, finR_nx, finR_ret, finR_exc, List.getElem?_cons_zero, List.getElem?_cons_succ, List.length_cons, List.length_nil, if_true, if_false, reduceIte, Bool.false_eq_true, List.take_length, e1]
          rw [ih m (j + 1) (by omega) (by omega)]
          simp only [Nat.add_assoc, Nat.add_comm 1]
        | false => simp only [e_gt, e_gtT, e_gtC, e_gtN, OS.only_nx, OS.only_exc, ca_take, and_self, true_and, and_true, List.nodup_cons, List.nodup_nil, List.not_mem_nil, not_false_eq_true, List.zip_cons_cons, List.zip_nil_right, Nat.reduceAdd, Nat.reduceLeDiff, decide_true, decide_false, Bool.not_true, Bool.not_false, fr0, fr1, fr2, fr3, mk0, mkT1, mkT2, mkT3, e_v0, e_v1, e_v2, e_v3, e_v4, e_v5, e_v6, e_v7, e_v8, e_v9, e_g0, e_g1, e_g2, e_g3, e_g4, e_g5, e_g6, e_g7, e_g8, e_g9, e_s0, e_s1, e_s2, e_s3, e_s4, e_s5, e_s6, e_s7, e_s8, e_s9, e_c, e_nil, e_cons, e_bin, e_call, e_callN, e_test, e_not, e_and, e_or, e_andV, e_orV, e_if, e_isN, e_meth, e_tup, e_lst, e_sl, e_some, e_none, e_scons, e_set, e_ret, e_exp, e_sif, e_asg, e_raise, e_par, o_lt, o_le, o_gt, o_ge, o_sub, o_addI, o_iaddI, o_eqS, o_neS, o_eqI, o_isi, o_s0, o_sI, tyS, bT_ok, bT_exc, Out.bind_ok, Out.bind_exc, Out.bind_bad, Out.st_ok, Out.st_exc, Out.st_bad, OS.andThen_nx, OS.andThen_ret, OS.andThen_brk, OS.andThen_cnt, OS.andThen_exc, OS.andThen_bad, finR_nx, finR_ret, finR_exc, List.getElem?_cons_zero, List.getElem?_cons_succ, List.length_cons, List.length_nil, if_true, if_false, reduceIte, Bool.false_eq_true, List.take_length, Nat.add_zero]
      · rw [List.drop_eq_nil_of_le (Nat.le_of_not_lt hj), twl_end (Nat.le_of_not_lt hj)]
        have e3 : ([] : List Nat).head?.any al = false := rfl
        rw [e3]
        simp only [e_gt, e_gtT, e_gtC, e_gtN, OS.only_nx, OS.only_exc, ca_take, and_self, true_and, and_true, List.nodup_cons, List.nodup_nil, List.not_mem_nil, not_false_eq_true, List.zip_cons_cons, List.zip_nil_right, Nat.reduceAdd, Nat.reduceLeDiff, decide_true, decide_false, Bool.not_true, Bool.not_false, fr0, fr1, fr2, fr3, mk0, mkT1, mkT2, mkT3, e_v0, e_v1, e_v2, e_v3, e_v4, e_v5, e_v6, e_v7, e_v8, e_v9, e_g0, e_g1, e_g2, e_g3, e_g4, e_g5, e_g6, e_g7, e_g8, e_g9, e_s0, e_s1, e_s2, e_s3, e_s4, e_s5, e_s6, e_s7, e_s8, e_s9, e_c, e_nil, e_cons, e_bin, e_call, e_callN, e_test, e_not, e_and, e_or, e_andV, e_orV, e_if, e_isN, e_meth, e_tup, e_lst, e_sl, e_some, e_none, e_scons, e_set, e_ret, e_exp, e_sif, e_asg, e_raise, e_par, o_lt, o_le, o_gt, o_ge, o_sub, o_addI, o_iaddI, o_eqS, o_neS, o_eqI, o_isi, o_s0, o_sI, tyS, bT_ok, bT_exc, Out.bind_ok, Out.bind_exc, Out.bind_bad, Out.st_ok, Out.st_exc, Out.st_bad, OS.andThen_nx, OS.andThen_ret, OS.andThen_brk, OS.andThen_cnt, OS.andThen_exc, OS.andThen_bad, finR_nx, finR_ret, finR_exc, List.getElem?_cons_zero, List.getElem?_cons_succ, List.length_cons, List.length_nil, if_true, if_false, reduceIte, Bool.false_eq_true, List.take_length, Nat.add_zero]
  simp only [e_gt, e_gtT, e_gtC, e_gtN, OS.only_nx, OS.only_exc, ca_take, and_self, true_and, and_true, List.nodup_cons, List.nodup_nil, List.not_mem_nil, not_false_eq_true, List.zip_cons_cons, List.zip_nil_right, Nat.reduceAdd, Nat.reduceLeDiff, decide_true, decide_false, Bool.not_true, Bool.not_false, fr0, fr1, fr2, fr3, mk0, mkT1, mkT2, mkT3, e_v0, e_v1, e_v2, e_v3, e_v4, e_v5, e_v6, e_v7, e_v8, e_v9, e_g0, e_g1, e_g2, e_g3, e_g4, e_g5, e_g6, e_g7, e_g8, e_g9, e_s0, e_s1, e_s2, e_s3, e_s4, e_s5, e_s6, e_s7, e_s8, e_s9, e_c, e_nil, e_cons, e_bin, e_call, e_callN, e_test, e_not, e_and, e_or, e_andV, e_orV, e_if, e_isN, e_meth, e_tup, e_lst, e_sl, e_some, e_none, e_scons, e_set, e_ret, e_exp, e_sif, e_asg, e_raise, e_par, o_lt, o_le, o_gt, o_ge, o_sub, o_addI, o_iaddI, o_eqS, o_neS, o_eqI, o_isi, o_s0, o_sI, tyS, bT_ok, bT_exc, Out.bind_ok, Out.bind_exc, Out.bind_bad, Out.st_ok, Out.st_exc, Out.st_bad, OS.andThen_nx, OS.andThen_ret, OS.andThen_brk, OS.andThen_cnt, OS.andThen_exc, OS.andThen_bad, finR_nx, finR_ret, finR_exc, List.getElem?_cons_zero, List.getElem?_cons_succ, List.length_cons, List.length_nil, if_true, if_false, reduceIte, Bool.false_eq_true, List.take_length]
  unfold sWhile
  rw [loop bigN (t.length + 1) n (by omega) (by unfold bigN; omega)]
  simp only [e_gt, e_gtT, e_gtC, e_gtN, OS.only_nx, OS.only_exc, ca_take, and_self, true_and, and_true, List.nodup_cons, List.nodup_nil, List.not_mem_nil, not_false_eq_true, List.zip_cons_cons, List.zip_nil_right, Nat.reduceAdd, Nat.reduceLeDiff, decide_true, decide_false, Bool.not_true, Bool.not_false, fr0, fr1, fr2, fr3, mk0, mkT1, mkT2, mkT3, e_v0, e_v1, e_v2, e_v3, e_v4, e_v5, e_v6, e_v7, e_v8, e_v9, e_g0, e_g1, e_g2, e_g3, e_g4, e_g5, e_g6, e_g7, e_g8, e_g9, e_s0, e_s1, e_s2, e_s3, e_s4, e_s5, e_s6, e_s7, e_s8, e_s9, e_c, e_nil, e_cons, e_bin, e_call, e_callN, e_test, e_not, e_and, e_or, e_andV, e_orV, e_if, e_isN, e_meth, e_tup, e_lst, e_sl, e_some, e_none, e_scons, e_set, e_ret, e_exp, e_sif, e_asg, e_raise, e_par, o_lt, o_le, o_gt, o_ge, o_sub, o_addI, o_iaddI, o_eqS, o_neS, o_eqI, o_isi, o_s0, o_sI, tyS, bT_ok, bT_exc, Out.bind_ok, Out.bind_exc, Out.bind_bad, Out.st_ok, Out.st_exc, Out.st_bad, OS.andThen_nx, OS.andThen_ret, OS.andThen_brk, OS.andThen_cnt, OS.andThen_exc, OS.andThen_bad, finR_nx, finR_ret, finR_exc, List.getElem?_cons_zero, List.getElem?_cons_succ, List.length_cons, List.length_nil, if_true, if_false, reduceIte, Bool.false_eq_true, List.take_length, o_sl c t hl2, twl_run, cut_run]

theorem k_split1 : Txt.split (Str.ofString "and array ask at bool do else end exception exn false fn if in int let match mod module") (Str.ofString " ") = k_KEYWORDS.take 19 := by decide +kernel
theorem k_split2 : Txt.split (Str.ofString "not of place raise rec ref same show size tell then true try type unit with") (Str.ofString " ") = k_KEYWORDS.drop 19 := by decide +kernel
theorem o_split {a b : Str} {l : List Str} (h : Txt.split a b = l) (h1 : (decide (b.length ≠ 0) && smL (a.length + 2)) = true) (h2 : l.length ≤ 1000000) (c : Cells) : oSplit (.d (.str a)) [.d (.str b)] c = .ok (.c c.length) (c ++ [.lst (l.map D.str)]) := by
  show (if (decide (b.length ≠ 0) && smL (a.length + 2)) = true then mkL ((Txt.split a b).map D.str) c else .bad) = _
  rw [if_pos h1, h, mkL_of c (by rw [List.length_map]; exact h2)]
theorem t_words (c : Cells) : g__law_words [] c = .ok (.c c.length) (c ++ [.lst (k_KEYWORDS.map D.str)]) := by
  unfold g__law_words
  rw [runB_of [none, none] rfl]
  unfold d__law_words
  simp only [e_gt, e_gtT, e_gtC, e_gtN, OS.only_nx, OS.only_exc, ca_take, and_self, true_and, and_true, List.nodup_cons, List.nodup_nil, List.not_mem_nil, not_false_eq_true, List.zip_cons_cons, List.zip_nil_right, Nat.reduceAdd, Nat.reduceLeDiff, decide_true, decide_false, Bool.not_true, Bool.not_false, fr0, fr1, fr2, fr3, mk0, mkT1, mkT2, mkT3, e_v0, e_v1, e_v2, e_v3, e_v4, e_v5, e_v6, e_v7, e_v8, e_v9, e_g0, e_g1, e_g2, e_g3, e_g4, e_g5, e_g6, e_g7, e_g8, e_g9, e_s0, e_s1, e_s2, e_s3, e_s4, e_s5, e_s6, e_s7, e_s8, e_s9, e_c, e_nil, e_cons, e_bin, e_call, e_callN, e_test, e_not, e_and, e_or, e_andV, e_orV, e_if, e_isN, e_meth, e_tup, e_lst, e_sl, e_some, e_none, e_scons, e_set, e_ret, e_exp, e_sif, e_asg, e_raise, e_par, o_lt, o_le, o_gt, o_ge, o_sub, o_addI, o_iaddI, o_eqS, o_neS, o_eqI, o_isi, o_s0, o_sI, tyS, bT_ok, bT_exc, Out.bind_ok, Out.bind_exc, Out.bind_bad, Out.st_ok, Out.st_exc, Out.st_bad, OS.andThen_nx, OS.andThen_ret, OS.andThen_brk, OS.andThen_cnt, OS.andThen_exc, OS.andThen_bad, finR_nx, finR_ret, finR_exc, List.getElem?_cons_zero, List.getElem?_cons_succ, List.length_cons, List.length_nil, if_true, if_false, reduceIte, Bool.false_eq_true, List.take_length, o_split k_split1 (by decide +kernel) (by decide +kernel), o_split k_split2 (by decide +kernel) (by decide +kernel)]
  have r1 : rd ((c ++ [.lst ((k_KEYWORDS.take 19).map D.str)]) ++ [.lst ((k_KEYWORDS.drop 19).map D.str)]) (.c c.length) = some (.lst ((k_KEYWORDS.take 19).map D.str)) := by
    show (((c ++ [O.lst ((k_KEYWORDS.take 19).map D.str)]) ++ [O.lst ((k_KEYWORDS.drop 19).map D.str)])[c.length]?).map O.val = _
    rw [List.getElem?_append_left (by simp), ca_get]
    rfl
  have r2 := ca_rd (c ++ [.lst ((k_KEYWORDS.take 19).map D.str)]) ((k_KEYWORDS.drop 19).map D.str)
  have e : oAdd (.c c.length) (.c (c ++ [O.lst ((k_KEYWORDS.take 19).map D.str)]).length) ((c ++ [.lst ((k_KEYWORDS.take 19).map D.str)]) ++ [.lst ((k_KEYWORDS.drop 19).map D.str)])
      = mkL ((k_KEYWORDS.take 19).map D.str ++ (k_KEYWORDS.drop 19).map D.str) ((c ++ [.lst ((k_KEYWORDS.take 19).map D.str)]) ++ [.lst ((k_KEYWORDS.drop 19).map D.str)]) := by
    unfold oAdd
    rw [r1, r2]
  have e3 : (k_KEYWORDS.take 19).map D.str ++ (k_KEYWORDS.drop 19).map D.str = k_KEYWORDS.map D.str := by rw [← List.map_append, List.take_append_drop]
  rw [e, e3, mkL_of _ (by decide +kernel)]
  simp only [e_gt, e_gtT, e_gtC, e_gtN, OS.only_nx, OS.only_exc, ca_take, and_self, true_and, and_true, List.nodup_cons, List.nodup_nil, List.not_mem_nil, not_false_eq_true, List.zip_cons_cons, List.zip_nil_right, Nat.reduceAdd, Nat.reduceLeDiff, decide_true, decide_false, Bool.not_true, Bool.not_false, fr0, fr1, fr2, fr3, mk0, mkT1, mkT2, mkT3, e_v0, e_v1, e_v2, e_v3, e_v4, e_v5, e_v6, e_v7, e_v8, e_v9, e_g0, e_g1, e_g2, e_g3, e_g4, e_g5, e_g6, e_g7, e_g8, e_g9, e_s0, e_s1, e_s2, e_s3, e_s4, e_s5, e_s6, e_s7, e_s8, e_s9, e_c, e_nil, e_cons, e_bin, e_call, e_callN, e_test, e_not, e_and, e_or, e_andV, e_orV, e_if, e_isN, e_meth, e_tup, e_lst, e_sl, e_some, e_none, e_scons, e_set, e_ret, e_exp, e_sif, e_asg, e_raise, e_par, o_lt, o_le, o_gt, o_ge, o_sub, o_addI, o_iaddI, o_eqS, o_neS, o_eqI, o_isi, o_s0, o_sI, tyS, bT_ok, bT_exc, Out.bind_ok, Out.bind_exc, Out.bind_bad, Out.st_ok, Out.st_exc, Out.st_bad, OS.andThen_nx, OS.andThen_ret, OS.andThen_brk, OS.andThen_cnt, OS.andThen_exc, OS.andThen_bad, finR_nx, finR_ret, finR_exc, List.getElem?_cons_zero, List.getElem?_cons_succ, List.length_cons, List.length_nil, if_true, if_false, reduceIte, Bool.false_eq_true, List.take_length]
  exact fin_new _ (by simp) (by simp)
end Pm

namespace Pm
open PySem L2 PyProof.Rows SX
theorem q_e (r : List Nat) : (S r = Str.ofString "") = (r = []) := by rw [k_e, S_eq]
theorem o_inL (z : Str) (xs : List Str) (c : Cells) : oIn false (.d (.str z)) (.c c.length) (c ++ [.lst (xs.map D.str)]) = .ok (.d (.bl (decide (z ∈ xs)))) (c ++ [.lst (xs.map D.str)]) := by
  unfold oIn
  rw [ca_rd, rd_d]
  dsimp only
  rw [flat_strs, any_mem]
  rfl
def numK (r : List Nat) : Str := if (r = [48] ∨ r.head? ≠ some 48) ∧ (r.length < 10 ∨ (r.length = 10 ∧ NumText.digitsVal r < 2147483648)) then "number" else ""
/-- the law's name for a run's kind: "" when there is none -/
def kindL (r : List Nat) : Str :=
  if r = [] then ""
  else if r.head?.any dg = true then (if r.all dg = true then numK r else "")
  else if S r ∈ k_KEYWORDS then "word"
  else if 20 < r.length then ""
  else if r.head?.any lw = true then "name" else "big"
theorem t_kind {r : List Nat} (hl : r.length ≤ 400) (c : Cells) : g__law_run_kind [.d (.str (S r))] c = .ok (.d (.str (kindL r))) c := by
  unfold g__law_run_kind
  rw [runB_of [some (.d (.str (S r))), none, none] rfl]
  unfold d__law_run_kind
  have hl2 : r.length ≤ 1000000 := by omega
  simp only [e_gt, e_gtT, e_gtC, e_gtN, OS.only_nx, OS.only_exc, ca_take, and_self, true_and, and_true, List.nodup_cons, List.nodup_nil, List.not_mem_nil, not_false_eq_true, List.zip_cons_cons, List.zip_nil_right, Nat.reduceAdd, Nat.reduceLeDiff, decide_true, decide_false, Bool.not_true, Bool.not_false, fr0, fr1, fr2, fr3, mk0, mkT1, mkT2, mkT3, e_v0, e_v1, e_v2, e_v3, e_v4, e_v5, e_v6, e_v7, e_v8, e_v9, e_g0, e_g1, e_g2, e_g3, e_g4, e_g5, e_g6, e_g7, e_g8, e_g9, e_s0, e_s1, e_s2, e_s3, e_s4, e_s5, e_s6, e_s7, e_s8, e_s9, e_c, e_nil, e_cons, e_bin, e_call, e_callN, e_test, e_not, e_and, e_or, e_andV, e_orV, e_if, e_isN, e_meth, e_tup, e_lst, e_sl, e_some, e_none, e_scons, e_set, e_ret, e_exp, e_sif, e_asg, e_raise, e_par, o_lt, o_le, o_gt, o_ge, o_sub, o_addI, o_iaddI, o_eqS, o_neS, o_eqI, o_isi, o_s0, o_sI, tyS, bT_ok, bT_exc, Out.bind_ok, Out.bind_exc, Out.bind_bad, Out.st_ok, Out.st_exc, Out.st_bad, OS.andThen_nx, OS.andThen_ret, OS.andThen_brk, OS.andThen_cnt, OS.andThen_exc, OS.andThen_bad, finR_nx, finR_ret, finR_exc, List.getElem?_cons_zero, List.getElem?_cons_succ, List.length_cons, List.length_nil, if_true, if_false, reduceIte, Bool.false_eq_true, List.take_length, q_e]
  unfold kindL
  by_cases h0 : r = []
  · rw [if_pos h0, decide_eq_true h0]
    simp only [e_gt, e_gtT, e_gtC, e_gtN, OS.only_nx, OS.only_exc, ca_take, and_self, true_and, and_true, List.nodup_cons, List.nodup_nil, List.not_mem_nil, not_false_eq_true, List.zip_cons_cons, List.zip_nil_right, Nat.reduceAdd, Nat.reduceLeDiff, decide_true, decide_false, Bool.not_true, Bool.not_false, fr0, fr1, fr2, fr3, mk0, mkT1, mkT2, mkT3, e_v0, e_v1, e_v2, e_v3, e_v4, e_v5, e_v6, e_v7, e_v8, e_v9, e_g0, e_g1, e_g2, e_g3, e_g4, e_g5, e_g6, e_g7, e_g8, e_g9, e_s0, e_s1, e_s2, e_s3, e_s4, e_s5, e_s6, e_s7, e_s8, e_s9, e_c, e_nil, e_cons, e_bin, e_call, e_callN, e_test, e_not, e_and, e_or, e_andV, e_orV, e_if, e_isN, e_meth, e_tup, e_lst, e_sl, e_some, e_none, e_scons, e_set, e_ret, e_exp, e_sif, e_asg, e_raise, e_par, o_lt, o_le, o_gt, o_ge, o_sub, o_addI, o_iaddI, o_eqS, o_neS, o_eqI, o_isi, o_s0, o_sI, tyS, bT_ok, bT_exc, Out.bind_ok, Out.bind_exc, Out.bind_bad, Out.st_ok, Out.st_exc, Out.st_bad, OS.andThen_nx, OS.andThen_ret, OS.andThen_brk, OS.andThen_cnt, OS.andThen_exc, OS.andThen_bad, finR_nx, finR_ret, finR_exc, List.getElem?_cons_zero, List.getElem?_cons_succ, List.length_cons, List.length_nil, if_true, if_false, reduceIte, Bool.false_eq_true, List.take_length]
  rw [if_neg h0, decide_eq_false h0]
  obtain ⟨x, r', rfl⟩ := List.exists_cons_of_ne_nil h0
  have eh : (x :: r').head?.any dg = dg x := rfl
  have eh2 : (x :: r').head?.any lw = lw x := rfl
  rw [eh, eh2]
  simp only [e_gt, e_gtT, e_gtC, e_gtN, OS.only_nx, OS.only_exc, ca_take, and_self, true_and, and_true, List.nodup_cons, List.nodup_nil, List.not_mem_nil, not_false_eq_true, List.zip_cons_cons, List.zip_nil_right, Nat.reduceAdd, Nat.reduceLeDiff, decide_true, decide_false, Bool.not_true, Bool.not_false, fr0, fr1, fr2, fr3, mk0, mkT1, mkT2, mkT3, e_v0, e_v1, e_v2, e_v3, e_v4, e_v5, e_v6, e_v7, e_v8, e_v9, e_g0, e_g1, e_g2, e_g3, e_g4, e_g5, e_g6, e_g7, e_g8, e_g9, e_s0, e_s1, e_s2, e_s3, e_s4, e_s5, e_s6, e_s7, e_s8, e_s9, e_c, e_nil, e_cons, e_bin, e_call, e_callN, e_test, e_not, e_and, e_or, e_andV, e_orV, e_if, e_isN, e_meth, e_tup, e_lst, e_sl, e_some, e_none, e_scons, e_set, e_ret, e_exp, e_sif, e_asg, e_raise, e_par, o_lt, o_le, o_gt, o_ge, o_sub, o_addI, o_iaddI, o_eqS, o_neS, o_eqI, o_isi, o_s0, o_sI, tyS, bT_ok, bT_exc, Out.bind_ok, Out.bind_exc, Out.bind_bad, Out.st_ok, Out.st_exc, Out.st_bad, OS.andThen_nx, OS.andThen_ret, OS.andThen_brk, OS.andThen_cnt, OS.andThen_exc, OS.andThen_bad, finR_nx, finR_ret, finR_exc, List.getElem?_cons_zero, List.getElem?_cons_succ, List.length_cons, List.length_nil, if_true, if_false, reduceIte, Bool.false_eq_true, List.take_length, o_ix0 hl2, o_inS _ _ x _ k_dig, in_dig]
  by_cases h1 : dg x = true
  · rw [if_pos h1, h1]
    simp only [e_gt, e_gtT, e_gtC, e_gtN, OS.only_nx, OS.only_exc, ca_take, and_self, true_and, and_true, List.nodup_cons, List.nodup_nil, List.not_mem_nil, not_false_eq_true, List.zip_cons_cons, List.zip_nil_right, Nat.reduceAdd, Nat.reduceLeDiff, decide_true, decide_false, Bool.not_true, Bool.not_false, fr0, fr1, fr2, fr3, mk0, mkT1, mkT2, mkT3, e_v0, e_v1, e_v2, e_v3, e_v4, e_v5, e_v6, e_v7, e_v8, e_v9, e_g0, e_g1, e_g2, e_g3, e_g4, e_g5, e_g6, e_g7, e_g8, e_g9, e_s0, e_s1, e_s2, e_s3, e_s4, e_s5, e_s6, e_s7, e_s8, e_s9, e_c, e_nil, e_cons, e_bin, e_call, e_callN, e_test, e_not, e_and, e_or, e_andV, e_orV, e_if, e_isN, e_meth, e_tup, e_lst, e_sl, e_some, e_none, e_scons, e_set, e_ret, e_exp, e_sif, e_asg, e_raise, e_par, o_lt, o_le, o_gt, o_ge, o_sub, o_addI, o_iaddI, o_eqS, o_neS, o_eqI, o_isi, o_s0, o_sI, tyS, bT_ok, bT_exc, Out.bind_ok, Out.bind_exc, Out.bind_bad, Out.st_ok, Out.st_exc, Out.st_bad, OS.andThen_nx, OS.andThen_ret, OS.andThen_brk, OS.andThen_cnt, OS.andThen_exc, OS.andThen_bad, finR_nx, finR_ret, finR_exc, List.getElem?_cons_zero, List.getElem?_cons_succ, List.length_cons, List.length_nil, if_true, if_false, reduceIte, Bool.false_eq_true, List.take_length]
    rw [e_lcS (t := x :: r') (h := fun y => .bl (dg y)) (hg := rfl) (hl := by omega) (hf := fun y hy c => by
      show dBin (oIn false) (dVar 2) (dC (.str "0123456789")) [some (.d (.str (S (x :: r')))), none, some (.d (.str (S [y])))] c = _
      simp only [e_gt, e_gtT, e_gtC, e_gtN, OS.only_nx, OS.only_exc, ca_take, and_self, true_and, and_true, List.nodup_cons, List.nodup_nil, List.not_mem_nil, not_false_eq_true, List.zip_cons_cons, List.zip_nil_right, Nat.reduceAdd, Nat.reduceLeDiff, decide_true, decide_false, Bool.not_true, Bool.not_false, fr0, fr1, fr2, fr3, mk0, mkT1, mkT2, mkT3, e_v0, e_v1, e_v2, e_v3, e_v4, e_v5, e_v6, e_v7, e_v8, e_v9, e_g0, e_g1, e_g2, e_g3, e_g4, e_g5, e_g6, e_g7, e_g8, e_g9, e_s0, e_s1, e_s2, e_s3, e_s4, e_s5, e_s6, e_s7, e_s8, e_s9, e_c, e_nil, e_cons, e_bin, e_call, e_callN, e_test, e_not, e_and, e_or, e_andV, e_orV, e_if, e_isN, e_meth, e_tup, e_lst, e_sl, e_some, e_none, e_scons, e_set, e_ret, e_exp, e_sif, e_asg, e_raise, e_par, o_lt, o_le, o_gt, o_ge, o_sub, o_addI, o_iaddI, o_eqS, o_neS, o_eqI, o_isi, o_s0, o_sI, tyS, bT_ok, bT_exc, Out.bind_ok, Out.bind_exc, Out.bind_bad, Out.st_ok, Out.st_exc, Out.st_bad, OS.andThen_nx, OS.andThen_ret, OS.andThen_brk, OS.andThen_cnt, OS.andThen_exc, OS.andThen_bad, finR_nx, finR_ret, finR_exc, List.getElem?_cons_zero, List.getElem?_cons_succ, List.length_cons, List.length_nil, if_true, if_false, reduceIte, Bool.false_eq_true, List.take_length, o_inS _ _ y _ k_dig, in_dig])]
    simp only [e_gt, e_gtT, e_gtC, e_gtN, OS.only_nx, OS.only_exc, ca_take, and_self, true_and, and_true, List.nodup_cons, List.nodup_nil, List.not_mem_nil, not_false_eq_true, List.zip_cons_cons, List.zip_nil_right, Nat.reduceAdd, Nat.reduceLeDiff, decide_true, decide_false, Bool.not_true, Bool.not_false, fr0, fr1, fr2, fr3, mk0, mkT1, mkT2, mkT3, e_v0, e_v1, e_v2, e_v3, e_v4, e_v5, e_v6, e_v7, e_v8, e_v9, e_g0, e_g1, e_g2, e_g3, e_g4, e_g5, e_g6, e_g7, e_g8, e_g9, e_s0, e_s1, e_s2, e_s3, e_s4, e_s5, e_s6, e_s7, e_s8, e_s9, e_c, e_nil, e_cons, e_bin, e_call, e_callN, e_test, e_not, e_and, e_or, e_andV, e_orV, e_if, e_isN, e_meth, e_tup, e_lst, e_sl, e_some, e_none, e_scons, e_set, e_ret, e_exp, e_sif, e_asg, e_raise, e_par, o_lt, o_le, o_gt, o_ge, o_sub, o_addI, o_iaddI, o_eqS, o_neS, o_eqI, o_isi, o_s0, o_sI, tyS, bT_ok, bT_exc, Out.bind_ok, Out.bind_exc, Out.bind_bad, Out.st_ok, Out.st_exc, Out.st_bad, OS.andThen_nx, OS.andThen_ret, OS.andThen_brk, OS.andThen_cnt, OS.andThen_exc, OS.andThen_bad, finR_nx, finR_ret, finR_exc, List.getElem?_cons_zero, List.getElem?_cons_succ, List.length_cons, List.length_nil, if_true, if_false, reduceIte, Bool.false_eq_true, List.take_length, o_all]
    cases hA : (x :: r').all dg with
    | false =>
      simp only [e_gt, e_gtT, e_gtC, e_gtN, OS.only_nx, OS.only_exc, ca_take, and_self, true_and, and_true, List.nodup_cons, List.nodup_nil, List.not_mem_nil, not_false_eq_true, List.zip_cons_cons, List.zip_nil_right, Nat.reduceAdd, Nat.reduceLeDiff, decide_true, decide_false, Bool.not_true, Bool.not_false, fr0, fr1, fr2, fr3, mk0, mkT1, mkT2, mkT3, e_v0, e_v1, e_v2, e_v3, e_v4, e_v5, e_v6, e_v7, e_v8, e_v9, e_g0, e_g1, e_g2, e_g3, e_g4, e_g5, e_g6, e_g7, e_g8, e_g9, e_s0, e_s1, e_s2, e_s3, e_s4, e_s5, e_s6, e_s7, e_s8, e_s9, e_c, e_nil, e_cons, e_bin, e_call, e_callN, e_test, e_not, e_and, e_or, e_andV, e_orV, e_if, e_isN, e_meth, e_tup, e_lst, e_sl, e_some, e_none, e_scons, e_set, e_ret, e_exp, e_sif, e_asg, e_raise, e_par, o_lt, o_le, o_gt, o_ge, o_sub, o_addI, o_iaddI, o_eqS, o_neS, o_eqI, o_isi, o_s0, o_sI, tyS, bT_ok, bT_exc, Out.bind_ok, Out.bind_exc, Out.bind_bad, Out.st_ok, Out.st_exc, Out.st_bad, OS.andThen_nx, OS.andThen_ret, OS.andThen_brk, OS.andThen_cnt, OS.andThen_exc, OS.andThen_bad, finR_nx, finR_ret, finR_exc, List.getElem?_cons_zero, List.getElem?_cons_succ, List.length_cons, List.length_nil, if_true, if_false, reduceIte, Bool.false_eq_true, List.take_length]
    | true =>
      simp only [e_gt, e_gtT, e_gtC, e_gtN, OS.only_nx, OS.only_exc, ca_take, and_self, true_and, and_true, List.nodup_cons, List.nodup_nil, List.not_mem_nil, not_false_eq_true, List.zip_cons_cons, List.zip_nil_right, Nat.reduceAdd, Nat.reduceLeDiff, decide_true, decide_false, Bool.not_true, Bool.not_false, fr0, fr1, fr2, fr3, mk0, mkT1, mkT2, mkT3, e_v0, e_v1, e_v2, e_v3, e_v4, e_v5, e_v6, e_v7, e_v8, e_v9, e_g0, e_g1, e_g2, e_g3, e_g4, e_g5, e_g6, e_g7, e_g8, e_g9, e_s0, e_s1, e_s2, e_s3, e_s4, e_s5, e_s6, e_s7, e_s8, e_s9, e_c, e_nil, e_cons, e_bin, e_call, e_callN, e_test, e_not, e_and, e_or, e_andV, e_orV, e_if, e_isN, e_meth, e_tup, e_lst, e_sl, e_some, e_none, e_scons, e_set, e_ret, e_exp, e_sif, e_asg, e_raise, e_par, o_lt, o_le, o_gt, o_ge, o_sub, o_addI, o_iaddI, o_eqS, o_neS, o_eqI, o_isi, o_s0, o_sI, tyS, bT_ok, bT_exc, Out.bind_ok, Out.bind_exc, Out.bind_bad, Out.st_ok, Out.st_exc, Out.st_bad, OS.andThen_nx, OS.andThen_ret, OS.andThen_brk, OS.andThen_cnt, OS.andThen_exc, OS.andThen_bad, finR_nx, finR_ret, finR_exc, List.getElem?_cons_zero, List.getElem?_cons_succ, List.length_cons, List.length_nil, if_true, if_false, reduceIte, Bool.false_eq_true, List.take_length, k_0, S_eq]
      by_cases g0 : x :: r' = [48]
      · have g1 : x :: r' = [48] ∨ (x :: r').head? ≠ some 48 := .inl g0
        rw [decide_eq_true g0]
        simp only [e_gt, e_gtT, e_gtC, e_gtN, OS.only_nx, OS.only_exc, ca_take, and_self, true_and, and_true, List.nodup_cons, List.nodup_nil, List.not_mem_nil, not_false_eq_true, List.zip_cons_cons, List.zip_nil_right, Nat.reduceAdd, Nat.reduceLeDiff, decide_true, decide_false, Bool.not_true, Bool.not_false, fr0, fr1, fr2, fr3, mk0, mkT1, mkT2, mkT3, e_v0, e_v1, e_v2, e_v3, e_v4, e_v5, e_v6, e_v7, e_v8, e_v9, e_g0, e_g1, e_g2, e_g3, e_g4, e_g5, e_g6, e_g7, e_g8, e_g9, e_s0, e_s1, e_s2, e_s3, e_s4, e_s5, e_s6, e_s7, e_s8, e_s9, e_c, e_nil, e_cons, e_bin, e_call, e_callN, e_test, e_not, e_and, e_or, e_andV, e_orV, e_if, e_isN, e_meth, e_tup, e_lst, e_sl, e_some, e_none, e_scons, e_set, e_ret, e_exp, e_sif, e_asg, e_raise, e_par, o_lt, o_le, o_gt, o_ge, o_sub, o_addI, o_iaddI, o_eqS, o_neS, o_eqI, o_isi, o_s0, o_sI, tyS, bT_ok, bT_exc, Out.bind_ok, Out.bind_exc, Out.bind_bad, Out.st_ok, Out.st_exc, Out.st_bad, OS.andThen_nx, OS.andThen_ret, OS.andThen_brk, OS.andThen_cnt, OS.andThen_exc, OS.andThen_bad, finR_nx, finR_ret, finR_exc, List.getElem?_cons_zero, List.getElem?_cons_succ, List.length_cons, List.length_nil, if_true, if_false, reduceIte, Bool.false_eq_true, List.take_length, o_len _ (x :: r') hl2]
        by_cases g2 : (x :: r').length < 10
        · have e2 : decide (((x :: r').length : Int) < 10) = true := decide_eq_true (by omega)
          simp only [List.length_cons] at e2
          rw [e2, show numK (x :: r') = "number" from if_pos ⟨g1, .inl g2⟩]
          simp only [e_gt, e_gtT, e_gtC, e_gtN, OS.only_nx, OS.only_exc, ca_take, and_self, true_and, and_true, List.nodup_cons, List.nodup_nil, List.not_mem_nil, not_false_eq_true, List.zip_cons_cons, List.zip_nil_right, Nat.reduceAdd, Nat.reduceLeDiff, decide_true, decide_false, Bool.not_true, Bool.not_false, fr0, fr1, fr2, fr3, mk0, mkT1, mkT2, mkT3, e_v0, e_v1, e_v2, e_v3, e_v4, e_v5, e_v6, e_v7, e_v8, e_v9, e_g0, e_g1, e_g2, e_g3, e_g4, e_g5, e_g6, e_g7, e_g8, e_g9, e_s0, e_s1, e_s2, e_s3, e_s4, e_s5, e_s6, e_s7, e_s8, e_s9, e_c, e_nil, e_cons, e_bin, e_call, e_callN, e_test, e_not, e_and, e_or, e_andV, e_orV, e_if, e_isN, e_meth, e_tup, e_lst, e_sl, e_some, e_none, e_scons, e_set, e_ret, e_exp, e_sif, e_asg, e_raise, e_par, o_lt, o_le, o_gt, o_ge, o_sub, o_addI, o_iaddI, o_eqS, o_neS, o_eqI, o_isi, o_s0, o_sI, tyS, bT_ok, bT_exc, Out.bind_ok, Out.bind_exc, Out.bind_bad, Out.st_ok, Out.st_exc, Out.st_bad, OS.andThen_nx, OS.andThen_ret, OS.andThen_brk, OS.andThen_cnt, OS.andThen_exc, OS.andThen_bad, finR_nx, finR_ret, finR_exc, List.getElem?_cons_zero, List.getElem?_cons_succ, List.length_cons, List.length_nil, if_true, if_false, reduceIte, Bool.false_eq_true, List.take_length]
        · have e2 : decide (((x :: r').length : Int) < 10) = false := decide_eq_false (by omega)
          simp only [List.length_cons] at e2
          rw [e2]
          simp only [e_gt, e_gtT, e_gtC, e_gtN, OS.only_nx, OS.only_exc, ca_take, and_self, true_and, and_true, List.nodup_cons, List.nodup_nil, List.not_mem_nil, not_false_eq_true, List.zip_cons_cons, List.zip_nil_right, Nat.reduceAdd, Nat.reduceLeDiff, decide_true, decide_false, Bool.not_true, Bool.not_false, fr0, fr1, fr2, fr3, mk0, mkT1, mkT2, mkT3, e_v0, e_v1, e_v2, e_v3, e_v4, e_v5, e_v6, e_v7, e_v8, e_v9, e_g0, e_g1, e_g2, e_g3, e_g4, e_g5, e_g6, e_g7, e_g8, e_g9, e_s0, e_s1, e_s2, e_s3, e_s4, e_s5, e_s6, e_s7, e_s8, e_s9, e_c, e_nil, e_cons, e_bin, e_call, e_callN, e_test, e_not, e_and, e_or, e_andV, e_orV, e_if, e_isN, e_meth, e_tup, e_lst, e_sl, e_some, e_none, e_scons, e_set, e_ret, e_exp, e_sif, e_asg, e_raise, e_par, o_lt, o_le, o_gt, o_ge, o_sub, o_addI, o_iaddI, o_eqS, o_neS, o_eqI, o_isi, o_s0, o_sI, tyS, bT_ok, bT_exc, Out.bind_ok, Out.bind_exc, Out.bind_bad, Out.st_ok, Out.st_exc, Out.st_bad, OS.andThen_nx, OS.andThen_ret, OS.andThen_brk, OS.andThen_cnt, OS.andThen_exc, OS.andThen_bad, finR_nx, finR_ret, finR_exc, List.getElem?_cons_zero, List.getElem?_cons_succ, List.length_cons, List.length_nil, if_true, if_false, reduceIte, Bool.false_eq_true, List.take_length, o_len _ (x :: r') hl2]
          by_cases g3 : (x :: r').length = 10
          · have e3 : decide (((x :: r').length : Int) = 10) = true := decide_eq_true (by omega)
            simp only [List.length_cons] at e3
            rw [e3]
            by_cases g4 : NumText.digitsVal (x :: r') < 2147483648
            · have e4 : decide (((NumText.digitsVal (x :: r') : Nat) : Int) < 2147483648) = true := decide_eq_true (by omega)
              simp only [e_gt, e_gtT, e_gtC, e_gtN, OS.only_nx, OS.only_exc, ca_take, and_self, true_and, and_true, List.nodup_cons, List.nodup_nil, List.not_mem_nil, not_false_eq_true, List.zip_cons_cons, List.zip_nil_right, Nat.reduceAdd, Nat.reduceLeDiff, decide_true, decide_false, Bool.not_true, Bool.not_false, fr0, fr1, fr2, fr3, mk0, mkT1, mkT2, mkT3, e_v0, e_v1, e_v2, e_v3, e_v4, e_v5, e_v6, e_v7, e_v8, e_v9, e_g0, e_g1, e_g2, e_g3, e_g4, e_g5, e_g6, e_g7, e_g8, e_g9, e_s0, e_s1, e_s2, e_s3, e_s4, e_s5, e_s6, e_s7, e_s8, e_s9, e_c, e_nil, e_cons, e_bin, e_call, e_callN, e_test, e_not, e_and, e_or, e_andV, e_orV, e_if, e_isN, e_meth, e_tup, e_lst, e_sl, e_some, e_none, e_scons, e_set, e_ret, e_exp, e_sif, e_asg, e_raise, e_par, o_lt, o_le, o_gt, o_ge, o_sub, o_addI, o_iaddI, o_eqS, o_neS, o_eqI, o_isi, o_s0, o_sI, tyS, bT_ok, bT_exc, Out.bind_ok, Out.bind_exc, Out.bind_bad, Out.st_ok, Out.st_exc, Out.st_bad, OS.andThen_nx, OS.andThen_ret, OS.andThen_brk, OS.andThen_cnt, OS.andThen_exc, OS.andThen_bad, finR_nx, finR_ret, finR_exc, List.getElem?_cons_zero, List.getElem?_cons_succ, List.length_cons, List.length_nil, if_true, if_false, reduceIte, Bool.false_eq_true, List.take_length, o_int hA (by simp) (show (x :: r').length ≤ 640 by omega), e4]
              rw [show numK (x :: r') = "number" from if_pos ⟨g1, .inr ⟨g3, g4⟩⟩]
            · have e4 : decide (((NumText.digitsVal (x :: r') : Nat) : Int) < 2147483648) = false := decide_eq_false (by omega)
              simp only [e_gt, e_gtT, e_gtC, e_gtN, OS.only_nx, OS.only_exc, ca_take, and_self, true_and, and_true, List.nodup_cons, List.nodup_nil, List.not_mem_nil, not_false_eq_true, List.zip_cons_cons, List.zip_nil_right, Nat.reduceAdd, Nat.reduceLeDiff, decide_true, decide_false, Bool.not_true, Bool.not_false, fr0, fr1, fr2, fr3, mk0, mkT1, mkT2, mkT3, e_v0, e_v1, e_v2, e_v3, e_v4, e_v5, e_v6, e_v7, e_v8, e_v9, e_g0, e_g1, e_g2, e_g3, e_g4, e_g5, e_g6, e_g7, e_g8, e_g9, e_s0, e_s1, e_s2, e_s3, e_s4, e_s5, e_s6, e_s7, e_s8, e_s9, e_c, e_nil, e_cons, e_bin, e_call, e_callN, e_test, e_not, e_and, e_or, e_andV, e_orV, e_if, e_isN, e_meth, e_tup, e_lst, e_sl, e_some, e_none, e_scons, e_set, e_ret, e_exp, e_sif, e_asg, e_raise, e_par, o_lt, o_le, o_gt, o_ge, o_sub, o_addI, o_iaddI, o_eqS, o_neS, o_eqI, o_isi, o_s0, o_sI, tyS, bT_ok, bT_exc, Out.bind_ok, Out.bind_exc, Out.bind_bad, Out.st_ok, Out.st_exc, Out.st_bad, OS.andThen_nx, OS.andThen_ret, OS.andThen_brk, OS.andThen_cnt, OS.andThen_exc, OS.andThen_bad, finR_nx, finR_ret, finR_exc, List.getElem?_cons_zero, List.getElem?_cons_succ, List.length_cons, List.length_nil, if_true, if_false, reduceIte, Bool.false_eq_true, List.take_length, o_int hA (by simp) (show (x :: r').length ≤ 640 by omega), e4]
              rw [show numK (x :: r') = "" from if_neg (fun z => by rcases z.2 with z | z; exact g2 z; exact g4 z.2)]
          · have e3 : decide (((x :: r').length : Int) = 10) = false := decide_eq_false (by omega)
            simp only [List.length_cons] at e3
            rw [e3, show numK (x :: r') = "" from if_neg (fun z => by rcases z.2 with z | z; exact g2 z; exact g3 z.1)]
            simp only [e_gt, e_gtT, e_gtC, e_gtN, OS.only_nx, OS.only_exc, ca_take, and_self, true_and, and_true, List.nodup_cons, List.nodup_nil, List.not_mem_nil, not_false_eq_true, List.zip_cons_cons, List.zip_nil_right, Nat.reduceAdd, Nat.reduceLeDiff, decide_true, decide_false, Bool.not_true, Bool.not_false, fr0, fr1, fr2, fr3, mk0, mkT1, mkT2, mkT3, e_v0, e_v1, e_v2, e_v3, e_v4, e_v5, e_v6, e_v7, e_v8, e_v9, e_g0, e_g1, e_g2, e_g3, e_g4, e_g5, e_g6, e_g7, e_g8, e_g9, e_s0, e_s1, e_s2, e_s3, e_s4, e_s5, e_s6, e_s7, e_s8, e_s9, e_c, e_nil, e_cons, e_bin, e_call, e_callN, e_test, e_not, e_and, e_or, e_andV, e_orV, e_if, e_isN, e_meth, e_tup, e_lst, e_sl, e_some, e_none, e_scons, e_set, e_ret, e_exp, e_sif, e_asg, e_raise, e_par, o_lt, o_le, o_gt, o_ge, o_sub, o_addI, o_iaddI, o_eqS, o_neS, o_eqI, o_isi, o_s0, o_sI, tyS, bT_ok, bT_exc, Out.bind_ok, Out.bind_exc, Out.bind_bad, Out.st_ok, Out.st_exc, Out.st_bad, OS.andThen_nx, OS.andThen_ret, OS.andThen_brk, OS.andThen_cnt, OS.andThen_exc, OS.andThen_bad, finR_nx, finR_ret, finR_exc, List.getElem?_cons_zero, List.getElem?_cons_succ, List.length_cons, List.length_nil, if_true, if_false, reduceIte, Bool.false_eq_true, List.take_length]
      · rw [decide_eq_false g0]
        simp only [e_gt, e_gtT, e_gtC, e_gtN, OS.only_nx, OS.only_exc, ca_take, and_self, true_and, and_true, List.nodup_cons, List.nodup_nil, List.not_mem_nil, not_false_eq_true, List.zip_cons_cons, List.zip_nil_right, Nat.reduceAdd, Nat.reduceLeDiff, decide_true, decide_false, Bool.not_true, Bool.not_false, fr0, fr1, fr2, fr3, mk0, mkT1, mkT2, mkT3, e_v0, e_v1, e_v2, e_v3, e_v4, e_v5, e_v6, e_v7, e_v8, e_v9, e_g0, e_g1, e_g2, e_g3, e_g4, e_g5, e_g6, e_g7, e_g8, e_g9, e_s0, e_s1, e_s2, e_s3, e_s4, e_s5, e_s6, e_s7, e_s8, e_s9, e_c, e_nil, e_cons, e_bin, e_call, e_callN, e_test, e_not, e_and, e_or, e_andV, e_orV, e_if, e_isN, e_meth, e_tup, e_lst, e_sl, e_some, e_none, e_scons, e_set, e_ret, e_exp, e_sif, e_asg, e_raise, e_par, o_lt, o_le, o_gt, o_ge, o_sub, o_addI, o_iaddI, o_eqS, o_neS, o_eqI, o_isi, o_s0, o_sI, tyS, bT_ok, bT_exc, Out.bind_ok, Out.bind_exc, Out.bind_bad, Out.st_ok, Out.st_exc, Out.st_bad, OS.andThen_nx, OS.andThen_ret, OS.andThen_brk, OS.andThen_cnt, OS.andThen_exc, OS.andThen_bad, finR_nx, finR_ret, finR_exc, List.getElem?_cons_zero, List.getElem?_cons_succ, List.length_cons, List.length_nil, if_true, if_false, reduceIte, Bool.false_eq_true, List.take_length, o_ix0 hl2, k_0, S_eq]
        by_cases gx : [x] = [48]
        · have g1 : ¬(x :: r' = [48] ∨ (x :: r').head? ≠ some 48) := by
            rintro (z | z)
            · exact g0 z
            · exact z (by simpa using gx)
          rw [decide_eq_true gx, show numK (x :: r') = "" from if_neg (fun z => g1 z.1)]
          simp only [e_gt, e_gtT, e_gtC, e_gtN, OS.only_nx, OS.only_exc, ca_take, and_self, true_and, and_true, List.nodup_cons, List.nodup_nil, List.not_mem_nil, not_false_eq_true, List.zip_cons_cons, List.zip_nil_right, Nat.reduceAdd, Nat.reduceLeDiff, decide_true, decide_false, Bool.not_true, Bool.not_false, fr0, fr1, fr2, fr3, mk0, mkT1, mkT2, mkT3, e_v0, e_v1, e_v2, e_v3, e_v4, e_v5, e_v6, e_v7, e_v8, e_v9, e_g0, e_g1, e_g2, e_g3, e_g4, e_g5, e_g6, e_g7, e_g8, e_g9, e_s0, e_s1, e_s2, e_s3, e_s4, e_s5, e_s6, e_s7, e_s8, e_s9, e_c, e_nil, e_cons, e_bin, e_call, e_callN, e_test, e_not, e_and, e_or, e_andV, e_orV, e_if, e_isN, e_meth, e_tup, e_lst, e_sl, e_some, e_none, e_scons, e_set, e_ret, e_exp, e_sif, e_asg, e_raise, e_par, o_lt, o_le, o_gt, o_ge, o_sub, o_addI, o_iaddI, o_eqS, o_neS, o_eqI, o_isi, o_s0, o_sI, tyS, bT_ok, bT_exc, Out.bind_ok, Out.bind_exc, Out.bind_bad, Out.st_ok, Out.st_exc, Out.st_bad, OS.andThen_nx, OS.andThen_ret, OS.andThen_brk, OS.andThen_cnt, OS.andThen_exc, OS.andThen_bad, finR_nx, finR_ret, finR_exc, List.getElem?_cons_zero, List.getElem?_cons_succ, List.length_cons, List.length_nil, if_true, if_false, reduceIte, Bool.false_eq_true, List.take_length]
        · have g1 : x :: r' = [48] ∨ (x :: r').head? ≠ some 48 := .inr (by simpa using gx)
          rw [decide_eq_false gx]
          simp only [e_gt, e_gtT, e_gtC, e_gtN, OS.only_nx, OS.only_exc, ca_take, and_self, true_and, and_true, List.nodup_cons, List.nodup_nil, List.not_mem_nil, not_false_eq_true, List.zip_cons_cons, List.zip_nil_right, Nat.reduceAdd, Nat.reduceLeDiff, decide_true, decide_false, Bool.not_true, Bool.not_false, fr0, fr1, fr2, fr3, mk0, mkT1, mkT2, mkT3, e_v0, e_v1, e_v2, e_v3, e_v4, e_v5, e_v6, e_v7, e_v8, e_v9, e_g0, e_g1, e_g2, e_g3, e_g4, e_g5, e_g6, e_g7, e_g8, e_g9, e_s0, e_s1, e_s2, e_s3, e_s4, e_s5, e_s6, e_s7, e_s8, e_s9, e_c, e_nil, e_cons, e_bin, e_call, e_callN, e_test, e_not, e_and, e_or, e_andV, e_orV, e_if, e_isN, e_meth, e_tup, e_lst, e_sl, e_some, e_none, e_scons, e_set, e_ret, e_exp, e_sif, e_asg, e_raise, e_par, o_lt, o_le, o_gt, o_ge, o_sub, o_addI, o_iaddI, o_eqS, o_neS, o_eqI, o_isi, o_s0, o_sI, tyS, bT_ok, bT_exc, Out.bind_ok, Out.bind_exc, Out.bind_bad, Out.st_ok, Out.st_exc, Out.st_bad, OS.andThen_nx, OS.andThen_ret, OS.andThen_brk, OS.andThen_cnt, OS.andThen_exc, OS.andThen_bad, finR_nx, finR_ret, finR_exc, List.getElem?_cons_zero, List.getElem?_cons_succ, List.length_cons, List.length_nil, if_true, if_false, reduceIte, Bool.false_eq_true, List.take_length, o_len _ (x :: r') hl2]
          by_cases g2 : (x :: r').length < 10
          · have e2 : decide (((x :: r').length : Int) < 10) = true := decide_eq_true (by omega)
            simp only [List.length_cons] at e2
            rw [e2, show numK (x :: r') = "number" from if_pos ⟨g1, .inl g2⟩]
            simp only [e_gt, e_gtT, e_gtC, e_gtN, OS.only_nx, OS.only_exc, ca_take, and_self, true_and, and_true, List.nodup_cons, List.nodup_nil, List.not_mem_nil, not_false_eq_true, List.zip_cons_cons, List.zip_nil_right, Nat.reduceAdd, Nat.reduceLeDiff, decide_true, decide_false, Bool.not_true, Bool.not_false, fr0, fr1, fr2, fr3, mk0, mkT1, mkT2, mkT3, e_v0, e_v1, e_v2, e_v3, e_v4, e_v5, e_v6, e_v7, e_v8, e_v9, e_g0, e_g1, e_g2, e_g3, e_g4, e_g5, e_g6, e_g7, e_g8, e_g9, e_s0, e_s1, e_s2, e_s3, e_s4, e_s5, e_s6, e_s7, e_s8, e_s9, e_c, e_nil, e_cons, e_bin, e_call, e_callN, e_test, e_not, e_and, e_or, e_andV, e_orV, e_if, e_isN, e_meth, e_tup, e_lst, e_sl, e_some, e_none, e_scons, e_set, e_ret, e_exp, e_sif, e_asg, e_raise, e_par, o_lt, o_le, o_gt, o_ge, o_sub, o_addI, o_iaddI, o_eqS, o_neS, o_eqI, o_isi, o_s0, o_sI, tyS, bT_ok, bT_exc, Out.bind_ok, Out.bind_exc, Out.bind_bad, Out.st_ok, Out.st_exc, Out.st_bad, OS.andThen_nx, OS.andThen_ret, OS.andThen_brk, OS.andThen_cnt, OS.andThen_exc, OS.andThen_bad, finR_nx, finR_ret, finR_exc, List.getElem?_cons_zero, List.getElem?_cons_succ, List.length_cons, List.length_nil, if_true, if_false, reduceIte, Bool.false_eq_true, List.take_length]
          · have e2 : decide (((x :: r').length : Int) < 10) = false := decide_eq_false (by omega)
            simp only [List.length_cons] at e2
            rw [e2]
            simp only [e_gt, e_gtT, e_gtC, e_gtN, OS.only_nx, OS.only_exc, ca_take, and_self, true_and, and_true, List.nodup_cons, List.nodup_nil, List.not_mem_nil, not_false_eq_true, List.zip_cons_cons, List.zip_nil_right, Nat.reduceAdd, Nat.reduceLeDiff, decide_true, decide_false, Bool.not_true, Bool.not_false, fr0, fr1, fr2, fr3, mk0, mkT1, mkT2, mkT3, e_v0, e_v1, e_v2, e_v3, e_v4, e_v5, e_v6, e_v7, e_v8, e_v9, e_g0, e_g1, e_g2, e_g3, e_g4, e_g5, e_g6, e_g7, e_g8, e_g9, e_s0, e_s1, e_s2, e_s3, e_s4, e_s5, e_s6, e_s7, e_s8, e_s9, e_c, e_nil, e_cons, e_bin, e_call, e_callN, e_test, e_not, e_and, e_or, e_andV, e_orV, e_if, e_isN, e_meth, e_tup, e_lst, e_sl, e_some, e_none, e_scons, e_set, e_ret, e_exp, e_sif, e_asg, e_raise, e_par, o_lt, o_le, o_gt, o_ge, o_sub, o_addI, o_iaddI, o_eqS, o_neS, o_eqI, o_isi, o_s0, o_sI, tyS, bT_ok, bT_exc, Out.bind_ok, Out.bind_exc, Out.bind_bad, Out.st_ok, Out.st_exc, Out.st_bad, OS.andThen_nx, OS.andThen_ret, OS.andThen_brk, OS.andThen_cnt, OS.andThen_exc, OS.andThen_bad, finR_nx, finR_ret, finR_exc, List.getElem?_cons_zero, List.getElem?_cons_succ, List.length_cons, List.length_nil, if_true, if_false, reduceIte, Bool.false_eq_true, List.take_length, o_len _ (x :: r') hl2]
            by_cases g3 : (x :: r').length = 10
            · have e3 : decide (((x :: r').length : Int) = 10) = true := decide_eq_true (by omega)
              simp only [List.length_cons] at e3
              rw [e3]
              by_cases g4 : NumText.digitsVal (x :: r') < 2147483648
              · have e4 : decide (((NumText.digitsVal (x :: r') : Nat) : Int) < 2147483648) = true := decide_eq_true (by omega)
                simp only [e_gt, e_gtT, e_gtC, e_gtN, OS.only_nx, OS.only_exc, ca_take, and_self, true_and, and_true, List.nodup_cons, List.nodup_nil, List.not_mem_nil, not_false_eq_true, List.zip_cons_cons, List.zip_nil_right, Nat.reduceAdd, Nat.reduceLeDiff, decide_true, decide_false, Bool.not_true, Bool.not_false, fr0, fr1, fr2, fr3, mk0, mkT1, mkT2, mkT3, e_v0, e_v1, e_v2, e_v3, e_v4, e_v5, e_v6, e_v7, e_v8, e_v9, e_g0, e_g1, e_g2, e_g3, e_g4, e_g5, e_g6, e_g7, e_g8, e_g9, e_s0, e_s1, e_s2, e_s3, e_s4, e_s5, e_s6, e_s7, e_s8, e_s9, e_c, e_nil, e_cons, e_bin, e_call, e_callN, e_test, e_not, e_and, e_or, e_andV, e_orV, e_if, e_isN, e_meth, e_tup, e_lst, e_sl, e_some, e_none, e_scons, e_set, e_ret, e_exp, e_sif, e_asg, e_raise, e_par, o_lt, o_le, o_gt, o_ge, o_sub, o_addI, o_iaddI, o_eqS, o_neS, o_eqI, o_isi, o_s0, o_sI, tyS, bT_ok, bT_exc, Out.bind_ok, Out.bind_exc, Out.bind_bad, Out.st_ok, Out.st_exc, Out.st_bad, OS.andThen_nx, OS.andThen_ret, OS.andThen_brk, OS.andThen_cnt, OS.andThen_exc, OS.andThen_bad, finR_nx, finR_ret, finR_exc, List.getElem?_cons_zero, List.getElem?_cons_succ, List.length_cons, List.length_nil, if_true, if_false, reduceIte, Bool.false_eq_true, List.take_length, o_int hA (by simp) (show (x :: r').length ≤ 640 by omega), e4]
                rw [show numK (x :: r') = "number" from if_pos ⟨g1, .inr ⟨g3, g4⟩⟩]
              · have e4 : decide (((NumText.digitsVal (x :: r') : Nat) : Int) < 2147483648) = false := decide_eq_false (by omega)
                simp only [e_gt, e_gtT, e_gtC, e_gtN, OS.only_nx, OS.only_exc, ca_take, and_self, true_and, and_true, List.nodup_cons, List.nodup_nil, List.not_mem_nil, not_false_eq_true, List.zip_cons_cons, List.zip_nil_right, Nat.reduceAdd, Nat.reduceLeDiff, decide_true, decide_false, Bool.not_true, Bool.not_false, fr0, fr1, fr2, fr3, mk0, mkT1, mkT2, mkT3, e_v0, e_v1, e_v2, e_v3, e_v4, e_v5, e_v6, e_v7, e_v8, e_v9, e_g0, e_g1, e_g2, e_g3, e_g4, e_g5, e_g6, e_g7, e_g8, e_g9, e_s0, e_s1, e_s2, e_s3, e_s4, e_s5, e_s6, e_s7, e_s8, e_s9, e_c, e_nil, e_cons, e_bin, e_call, e_callN, e_test, e_not, e_and, e_or, e_andV, e_orV, e_if, e_isN, e_meth, e_tup, e_lst, e_sl, e_some, e_none, e_scons, e_set, e_ret, e_exp, e_sif, e_asg, e_raise, e_par, o_lt, o_le, o_gt, o_ge, o_sub, o_addI, o_iaddI, o_eqS, o_neS, o_eqI, o_isi, o_s0, o_sI, tyS, bT_ok, bT_exc, Out.bind_ok, Out.bind_exc, Out.bind_bad, Out.st_ok, Out.st_exc, Out.st_bad, OS.andThen_nx, OS.andThen_ret, OS.andThen_brk, OS.andThen_cnt, OS.andThen_exc, OS.andThen_bad, finR_nx, finR_ret, finR_exc, List.getElem?_cons_zero, List.getElem?_cons_succ, List.length_cons, List.length_nil, if_true, if_false, reduceIte, Bool.false_eq_true, List.take_length, o_int hA (by simp) (show (x :: r').length ≤ 640 by omega), e4]
                rw [show numK (x :: r') = "" from if_neg (fun z => by rcases z.2 with z | z; exact g2 z; exact g4 z.2)]
            · have e3 : decide (((x :: r').length : Int) = 10) = false := decide_eq_false (by omega)
              simp only [List.length_cons] at e3
              rw [e3, show numK (x :: r') = "" from if_neg (fun z => by rcases z.2 with z | z; exact g2 z; exact g3 z.1)]
              simp only [e_gt, e_gtT, e_gtC, e_gtN, OS.only_nx, OS.only_exc, ca_take, and_self, true_and, and_true, List.nodup_cons, List.nodup_nil, List.not_mem_nil, not_false_eq_true, List.zip_cons_cons, List.zip_nil_right, Nat.reduceAdd, Nat.reduceLeDiff, decide_true, decide_false, Bool.not_true, Bool.not_false, fr0, fr1, fr2, fr3, mk0, mkT1, mkT2, mkT3, e_v0, e_v1, e_v2, e_v3, e_v4, e_v5, e_v6, e_v7, e_v8, e_v9, e_g0, e_g1, e_g2, e_g3, e_g4, e_g5, e_g6, e_g7, e_g8, e_g9, e_s0, e_s1, e_s2, e_s3, e_s4, e_s5, e_s6, e_s7, e_s8, e_s9, e_c, e_nil, e_cons, e_bin, e_call, e_callN, e_test, e_not, e_and, e_or, e_andV, e_orV, e_if, e_isN, e_meth, e_tup, e_lst, e_sl, e_some, e_none, e_scons, e_set, e_ret, e_exp, e_sif, e_asg, e_raise, e_par, o_lt, o_le, o_gt, o_ge, o_sub, o_addI, o_iaddI, o_eqS, o_neS, o_eqI, o_isi, o_s0, o_sI, tyS, bT_ok, bT_exc, Out.bind_ok, Out.bind_exc, Out.bind_bad, Out.st_ok, Out.st_exc, Out.st_bad, OS.andThen_nx, OS.andThen_ret, OS.andThen_brk, OS.andThen_cnt, OS.andThen_exc, OS.andThen_bad, finR_nx, finR_ret, finR_exc, List.getElem?_cons_zero, List.getElem?_cons_succ, List.length_cons, List.length_nil, if_true, if_false, reduceIte, Bool.false_eq_true, List.take_length]
  rw [if_neg h1]
  rw [Bool.not_eq_true] at h1
  rw [h1]
  simp only [e_gt, e_gtT, e_gtC, e_gtN, OS.only_nx, OS.only_exc, ca_take, and_self, true_and, and_true, List.nodup_cons, List.nodup_nil, List.not_mem_nil, not_false_eq_true, List.zip_cons_cons, List.zip_nil_right, Nat.reduceAdd, Nat.reduceLeDiff, decide_true, decide_false, Bool.not_true, Bool.not_false, fr0, fr1, fr2, fr3, mk0, mkT1, mkT2, mkT3, e_v0, e_v1, e_v2, e_v3, e_v4, e_v5, e_v6, e_v7, e_v8, e_v9, e_g0, e_g1, e_g2, e_g3, e_g4, e_g5, e_g6, e_g7, e_g8, e_g9, e_s0, e_s1, e_s2, e_s3, e_s4, e_s5, e_s6, e_s7, e_s8, e_s9, e_c, e_nil, e_cons, e_bin, e_call, e_callN, e_test, e_not, e_and, e_or, e_andV, e_orV, e_if, e_isN, e_meth, e_tup, e_lst, e_sl, e_some, e_none, e_scons, e_set, e_ret, e_exp, e_sif, e_asg, e_raise, e_par, o_lt, o_le, o_gt, o_ge, o_sub, o_addI, o_iaddI, o_eqS, o_neS, o_eqI, o_isi, o_s0, o_sI, tyS, bT_ok, bT_exc, Out.bind_ok, Out.bind_exc, Out.bind_bad, Out.st_ok, Out.st_exc, Out.st_bad, OS.andThen_nx, OS.andThen_ret, OS.andThen_brk, OS.andThen_cnt, OS.andThen_exc, OS.andThen_bad, finR_nx, finR_ret, finR_exc, List.getElem?_cons_zero, List.getElem?_cons_succ, List.length_cons, List.length_nil, if_true, if_false, reduceIte, Bool.false_eq_true, List.take_length, t_words, o_inL]
  by_cases h2 : S (x :: r') ∈ k_KEYWORDS
  · rw [if_pos h2, decide_eq_true h2]
    simp only [e_gt, e_gtT, e_gtC, e_gtN, OS.only_nx, OS.only_exc, ca_take, and_self, true_and, and_true, List.nodup_cons, List.nodup_nil, List.not_mem_nil, not_false_eq_true, List.zip_cons_cons, List.zip_nil_right, Nat.reduceAdd, Nat.reduceLeDiff, decide_true, decide_false, Bool.not_true, Bool.not_false, fr0, fr1, fr2, fr3, mk0, mkT1, mkT2, mkT3, e_v0, e_v1, e_v2, e_v3, e_v4, e_v5, e_v6, e_v7, e_v8, e_v9, e_g0, e_g1, e_g2, e_g3, e_g4, e_g5, e_g6, e_g7, e_g8, e_g9, e_s0, e_s1, e_s2, e_s3, e_s4, e_s5, e_s6, e_s7, e_s8, e_s9, e_c, e_nil, e_cons, e_bin, e_call, e_callN, e_test, e_not, e_and, e_or, e_andV, e_orV, e_if, e_isN, e_meth, e_tup, e_lst, e_sl, e_some, e_none, e_scons, e_set, e_ret, e_exp, e_sif, e_asg, e_raise, e_par, o_lt, o_le, o_gt, o_ge, o_sub, o_addI, o_iaddI, o_eqS, o_neS, o_eqI, o_isi, o_s0, o_sI, tyS, bT_ok, bT_exc, Out.bind_ok, Out.bind_exc, Out.bind_bad, Out.st_ok, Out.st_exc, Out.st_bad, OS.andThen_nx, OS.andThen_ret, OS.andThen_brk, OS.andThen_cnt, OS.andThen_exc, OS.andThen_bad, finR_nx, finR_ret, finR_exc, List.getElem?_cons_zero, List.getElem?_cons_succ, List.length_cons, List.length_nil, if_true, if_false, reduceIte, Bool.false_eq_true, List.take_length]
  rw [if_neg h2, decide_eq_false h2]
  simp only [e_gt, e_gtT, e_gtC, e_gtN, OS.only_nx, OS.only_exc, ca_take, and_self, true_and, and_true, List.nodup_cons, List.nodup_nil, List.not_mem_nil, not_false_eq_true, List.zip_cons_cons, List.zip_nil_right, Nat.reduceAdd, Nat.reduceLeDiff, decide_true, decide_false, Bool.not_true, Bool.not_false, fr0, fr1, fr2, fr3, mk0, mkT1, mkT2, mkT3, e_v0, e_v1, e_v2, e_v3, e_v4, e_v5, e_v6, e_v7, e_v8, e_v9, e_g0, e_g1, e_g2, e_g3, e_g4, e_g5, e_g6, e_g7, e_g8, e_g9, e_s0, e_s1, e_s2, e_s3, e_s4, e_s5, e_s6, e_s7, e_s8, e_s9, e_c, e_nil, e_cons, e_bin, e_call, e_callN, e_test, e_not, e_and, e_or, e_andV, e_orV, e_if, e_isN, e_meth, e_tup, e_lst, e_sl, e_some, e_none, e_scons, e_set, e_ret, e_exp, e_sif, e_asg, e_raise, e_par, o_lt, o_le, o_gt, o_ge, o_sub, o_addI, o_iaddI, o_eqS, o_neS, o_eqI, o_isi, o_s0, o_sI, tyS, bT_ok, bT_exc, Out.bind_ok, Out.bind_exc, Out.bind_bad, Out.st_ok, Out.st_exc, Out.st_bad, OS.andThen_nx, OS.andThen_ret, OS.andThen_brk, OS.andThen_cnt, OS.andThen_exc, OS.andThen_bad, finR_nx, finR_ret, finR_exc, List.getElem?_cons_zero, List.getElem?_cons_succ, List.length_cons, List.length_nil, if_true, if_false, reduceIte, Bool.false_eq_true, List.take_length, o_len _ (x :: r') hl2]
  by_cases h3 : 20 < (x :: r').length
  · have e3 : decide ((20 : Int) < (((x :: r').length : Nat) : Int)) = true := decide_eq_true (by omega)
    simp only [List.length_cons] at e3
    rw [if_pos (show 20 < r'.length + 1 from h3), e3]
    simp only [e_gt, e_gtT, e_gtC, e_gtN, OS.only_nx, OS.only_exc, ca_take, and_self, true_and, and_true, List.nodup_cons, List.nodup_nil, List.not_mem_nil, not_false_eq_true, List.zip_cons_cons, List.zip_nil_right, Nat.reduceAdd, Nat.reduceLeDiff, decide_true, decide_false, Bool.not_true, Bool.not_false, fr0, fr1, fr2, fr3, mk0, mkT1, mkT2, mkT3, e_v0, e_v1, e_v2, e_v3, e_v4, e_v5, e_v6, e_v7, e_v8, e_v9, e_g0, e_g1, e_g2, e_g3, e_g4, e_g5, e_g6, e_g7, e_g8, e_g9, e_s0, e_s1, e_s2, e_s3, e_s4, e_s5, e_s6, e_s7, e_s8, e_s9, e_c, e_nil, e_cons, e_bin, e_call, e_callN, e_test, e_not, e_and, e_or, e_andV, e_orV, e_if, e_isN, e_meth, e_tup, e_lst, e_sl, e_some, e_none, e_scons, e_set, e_ret, e_exp, e_sif, e_asg, e_raise, e_par, o_lt, o_le, o_gt, o_ge, o_sub, o_addI, o_iaddI, o_eqS, o_neS, o_eqI, o_isi, o_s0, o_sI, tyS, bT_ok, bT_exc, Out.bind_ok, Out.bind_exc, Out.bind_bad, Out.st_ok, Out.st_exc, Out.st_bad, OS.andThen_nx, OS.andThen_ret, OS.andThen_brk, OS.andThen_cnt, OS.andThen_exc, OS.andThen_bad, finR_nx, finR_ret, finR_exc, List.getElem?_cons_zero, List.getElem?_cons_succ, List.length_cons, List.length_nil, if_true, if_false, reduceIte, Bool.false_eq_true, List.take_length]
  have e3 : decide ((20 : Int) < (((x :: r').length : Nat) : Int)) = false := decide_eq_false (by omega)
  simp only [List.length_cons] at e3
  rw [if_neg (show ¬ 20 < r'.length + 1 from h3), e3]
  simp only [e_gt, e_gtT, e_gtC, e_gtN, OS.only_nx, OS.only_exc, ca_take, and_self, true_and, and_true, List.nodup_cons, List.nodup_nil, List.not_mem_nil, not_false_eq_true, List.zip_cons_cons, List.zip_nil_right, Nat.reduceAdd, Nat.reduceLeDiff, decide_true, decide_false, Bool.not_true, Bool.not_false, fr0, fr1, fr2, fr3, mk0, mkT1, mkT2, mkT3, e_v0, e_v1, e_v2, e_v3, e_v4, e_v5, e_v6, e_v7, e_v8, e_v9, e_g0, e_g1, e_g2, e_g3, e_g4, e_g5, e_g6, e_g7, e_g8, e_g9, e_s0, e_s1, e_s2, e_s3, e_s4, e_s5, e_s6, e_s7, e_s8, e_s9, e_c, e_nil, e_cons, e_bin, e_call, e_callN, e_test, e_not, e_and, e_or, e_andV, e_orV, e_if, e_isN, e_meth, e_tup, e_lst, e_sl, e_some, e_none, e_scons, e_set, e_ret, e_exp, e_sif, e_asg, e_raise, e_par, o_lt, o_le, o_gt, o_ge, o_sub, o_addI, o_iaddI, o_eqS, o_neS, o_eqI, o_isi, o_s0, o_sI, tyS, bT_ok, bT_exc, Out.bind_ok, Out.bind_exc, Out.bind_bad, Out.st_ok, Out.st_exc, Out.st_bad, OS.andThen_nx, OS.andThen_ret, OS.andThen_brk, OS.andThen_cnt, OS.andThen_exc, OS.andThen_bad, finR_nx, finR_ret, finR_exc, List.getElem?_cons_zero, List.getElem?_cons_succ, List.length_cons, List.length_nil, if_true, if_false, reduceIte, Bool.false_eq_true, List.take_length, o_ix0 hl2, o_inS _ _ x _ k_low, in_low]
  cases lw x <;> simp only [e_gt, e_gtT, e_gtC, e_gtN, OS.only_nx, OS.only_exc, ca_take, and_self, true_and, and_true, List.nodup_cons, List.nodup_nil, List.not_mem_nil, not_false_eq_true, List.zip_cons_cons, List.zip_nil_right, Nat.reduceAdd, Nat.reduceLeDiff, decide_true, decide_false, Bool.not_true, Bool.not_false, fr0, fr1, fr2, fr3, mk0, mkT1, mkT2, mkT3, e_v0, e_v1, e_v2, e_v3, e_v4, e_v5, e_v6, e_v7, e_v8, e_v9, e_g0, e_g1, e_g2, e_g3, e_g4, e_g5, e_g6, e_g7, e_g8, e_g9, e_s0, e_s1, e_s2, e_s3, e_s4, e_s5, e_s6, e_s7, e_s8, e_s9, e_c, e_nil, e_cons, e_bin, e_call, e_callN, e_test, e_not, e_and, e_or, e_andV, e_orV, e_if, e_isN, e_meth, e_tup, e_lst, e_sl, e_some, e_none, e_scons, e_set, e_ret, e_exp, e_sif, e_asg, e_raise, e_par, o_lt, o_le, o_gt, o_ge, o_sub, o_addI, o_iaddI, o_eqS, o_neS, o_eqI, o_isi, o_s0, o_sI, tyS, bT_ok, bT_exc, Out.bind_ok, Out.bind_exc, Out.bind_bad, Out.st_ok, Out.st_exc, Out.st_bad, OS.andThen_nx, OS.andThen_ret, OS.andThen_brk, OS.andThen_cnt, OS.andThen_exc, OS.andThen_bad, finR_nx, finR_ret, finR_exc, List.getElem?_cons_zero, List.getElem?_cons_succ, List.length_cons, List.length_nil, if_true, if_false, reduceIte, Bool.false_eq_true, List.take_length]
end Pm

namespace Pm
open PySem L2 PyProof.Rows SX
theorem dv_snoc (cs : List Nat) (c : Nat) : NumText.digitsVal (cs ++ [c]) = NumText.digitsVal cs * 10 + (c - 48) := by
  unfold NumText.digitsVal
  rw [List.foldl_append]
  rfl
theorem dv_lt : ∀ (n : Nat) (r : List Nat), r.length = n → r.all dg = true → NumText.digitsVal r < 10 ^ n
  | 0, r, h, _ => by
    have := List.length_eq_zero_iff.mp h
    subst this
    decide
  | n + 1, r, h, hd => by
    have hne : r ≠ [] := by intro z; subst z; cases h
    obtain ⟨a, x, rfl⟩ : ∃ a x, r = a ++ [x] := ⟨_, _, (List.dropLast_concat_getLast hne).symm⟩
    rw [List.all_append, Bool.and_eq_true] at hd
    have ih := dv_lt n a (by simpa using h) hd.1
    have h2 := hd.2
    simp [dg] at h2
    rw [dv_snoc, Nat.pow_succ]
    omega
theorem dv_inj : ∀ (n : Nat) (a b : List Nat), a.length = n → b.length = n → a.all dg = true → b.all dg = true → NumText.digitsVal a = NumText.digitsVal b → a = b
  | 0, a, b, h, k, _, _, _ => by rw [List.length_eq_zero_iff.mp h, List.length_eq_zero_iff.mp k]
  | n + 1, a, b, h, k, ha, hb, e => by
    have na : a ≠ [] := by intro z; subst z; cases h
    have nb : b ≠ [] := by intro z; subst z; cases k
    obtain ⟨a, x, rfl⟩ : ∃ a' x, a = a' ++ [x] := ⟨_, _, (List.dropLast_concat_getLast na).symm⟩
    obtain ⟨b, y, rfl⟩ : ∃ b' y, b = b' ++ [y] := ⟨_, _, (List.dropLast_concat_getLast nb).symm⟩
    rw [List.all_append, Bool.and_eq_true] at ha hb
    rw [dv_snoc, dv_snoc] at e
    have h2 := ha.2
    have h3 := hb.2
    simp [dg] at h2 h3
    have e1 : NumText.digitsVal a = NumText.digitsVal b := by omega
    have e2 : x = y := by omega
    rw [dv_inj n a b (by simpa using h) (by simpa using k) ha.1 hb.1 e1, e2]
theorem kw_low : (k_KEYWORDS.all fun s => s.cps.toList.head?.any lw) = true := by decide +kernel
theorem kw_head {x : Nat} {r : List Nat} (h : S (x :: r) ∈ k_KEYWORDS) : lw x = true := List.all_eq_true.mp kw_low _ h
theorem dg_lw {x : Nat} (h : dg x = true) : lw x = false ∧ up x = false := by
  simp [dg] at h
  simp [lw, up]
  omega
theorem isD_iff {r : List Nat} (h : r ≠ []) (m : Int) : isD r m = true ↔ r.all dg = true ∧ r.length ≤ 10 ∧ ¬(r.head? = some 48 ∧ 1 < r.length) ∧ ((NumText.digitsVal r : Nat) : Int) ≤ m := by
  unfold isD
  cases r with
  | nil => exact absurd rfl h
  | cons x r => simp only [List.isEmpty_cons, Bool.not_false, Bool.true_and, Bool.and_eq_true, decide_eq_true_eq, Bool.not_eq_true', Bool.and_eq_false_imp, and_assoc, decide_eq_false_iff_not, not_and]
theorem num_iff {r : List Nat} (h : r ≠ []) (hd : r.all dg = true) : ((r = [48] ∨ r.head? ≠ some 48) ∧ (r.length < 10 ∨ (r.length = 10 ∧ NumText.digitsVal r < 2147483648))) ↔ isD r 2147483647 = true := by
  rw [isD_iff h]
  have hlt := dv_lt r.length r rfl hd
  have small : r.length < 10 → NumText.digitsVal r < 2147483648 := fun h => by
    have : 10 ^ r.length ≤ 10 ^ 9 := Nat.pow_le_pow_right (by decide) (by omega)
    omega
  have one : r = [48] ↔ r.head? = some 48 ∧ ¬ 1 < r.length := by
    cases r with
    | nil => exact absurd rfl h
    | cons x r =>
      cases r with
      | nil => simp
      | cons y r => simp
  constructor
  · rintro ⟨h1, h2⟩
    refine ⟨hd, by omega, ?_, ?_⟩
    · rintro ⟨a, b⟩
      rcases h1 with h1 | h1
      · exact (one.mp h1).2 b
      · exact h1 a
    · rcases h2 with h2 | h2
      · have := small h2; omega
      · omega
  · rintro ⟨_, h2, h3, h4⟩
    refine ⟨?_, ?_⟩
    · by_cases a : r.head? = some 48
      · exact .inl (one.mpr ⟨a, fun b => h3 ⟨a, b⟩⟩)
      · exact .inr a
    · omega
theorem isD_dg {x : Nat} {r : List Nat} {m : Int} (h : dg x = false) : isD (x :: r) m = false := by
  unfold isD
  rw [List.all_cons, h]
  simp
theorem kind_spec {r : List Nat} (h : r ≠ []) (ha : r.all al = true) : kindL r = if isD r 2147483647 = true then "number" else if S r ∈ k_KEYWORDS then "word" else if shN r = true then "name" else if shB r = true then "big" else "" := by
  obtain ⟨x, r', rfl⟩ := List.exists_cons_of_ne_nil h
  unfold kindL
  rw [if_neg h]
  have eh : (x :: r').head?.any dg = dg x := rfl
  have eh2 : (x :: r').head?.any lw = lw x := rfl
  have eh3 : (x :: r').head?.any up = up x := rfl
  have hN : shN (x :: r') = (decide ((x :: r').length ≤ 20) && (lw x && !decide (S (x :: r') ∈ k_KEYWORDS))) := by
    unfold shN
    rw [ha, eh2]
    simp [Bool.and_assoc]
  have hB : shB (x :: r') = (decide ((x :: r').length ≤ 20) && up x) := by
    unfold shB
    rw [ha, eh3]
    simp
  rw [eh, eh2, hN, hB]
  by_cases h1 : dg x = true
  · obtain ⟨a, b⟩ := dg_lw h1
    have hk : ¬ S (x :: r') ∈ k_KEYWORDS := fun z => by rw [kw_head z] at a; cases a
    rw [if_pos h1, if_neg hk, a, b]
    simp only [Bool.false_and, Bool.and_false, Bool.false_eq_true, if_false]
    by_cases hd : (x :: r').all dg = true
    · rw [if_pos hd]
      unfold numK
      by_cases c : isD (x :: r') 2147483647 = true
      · rw [if_pos c, if_pos ((num_iff h hd).mpr c)]
      · rw [if_neg c, if_neg fun z => c ((num_iff h hd).mp z)]
    · rw [if_neg hd]
      have : isD (x :: r') 2147483647 = false := by
        unfold isD
        rw [Bool.not_eq_true] at hd
        rw [hd]
        simp
      rw [this]
      simp
  · rw [if_neg h1]
    rw [Bool.not_eq_true] at h1
    rw [isD_dg h1]
    simp only [Bool.false_eq_true, if_false]
    by_cases h2 : S (x :: r') ∈ k_KEYWORDS
    · rw [if_pos h2, if_pos h2]
    rw [if_neg h2, if_neg h2, decide_eq_false h2]
    by_cases h3 : 20 < (x :: r').length
    · rw [if_pos h3, decide_eq_false (by omega : ¬ (x :: r').length ≤ 20)]
      simp
    · rw [if_neg h3, decide_eq_true (by omega : (x :: r').length ≤ 20)]
      have hx : al x = true := by rw [List.all_cons, Bool.and_eq_true] at ha; exact ha.1
      unfold al at hx
      rw [h1] at hx
      cases hl : lw x with
      | true => simp
      | false =>
        rw [hl] at hx
        have : up x = true := by simpa using hx
        simp [this]
theorem big_digits : (Str.ofString "2147483648") = S [50, 49, 52, 55, 52, 56, 51, 54, 52, 56] := by decide +kernel
theorem tilde_spec {q : List Nat} (ha : q.all al = true) : (q = [50, 49, 52, 55, 52, 56, 51, 54, 52, 56] ∨ (kindL q = "number" ∧ q ≠ [48])) ↔ (q ≠ [48] ∧ isD q 2147483648 = true) := by
  by_cases h : q = []
  · subst h
    constructor
    · rintro (h | ⟨h, _⟩)
      · cases h
      · exact absurd h (by decide +kernel)
    · rintro ⟨_, h⟩
      cases h
  · have hn : kindL q = "number" ↔ isD q 2147483647 = true := by
      rw [kind_spec h ha]
      by_cases c : isD q 2147483647 = true
      · simp [c]
      · rw [if_neg c]
        constructor
        · intro z
          exfalso
          have d1 : ¬ (Str.ofString "word") = Str.ofString "number" := by decide +kernel
          have d2 : ¬ (Str.ofString "name") = Str.ofString "number" := by decide +kernel
          have d3 : ¬ (Str.ofString "big") = Str.ofString "number" := by decide +kernel
          have d4 : ¬ (Str.ofString "") = Str.ofString "number" := by decide +kernel
          split at z
          · exact d1 z
          · split at z
            · exact d2 z
            · split at z
              · exact d3 z
              · exact d4 z
        · intro z; exact absurd z c
    rw [hn]
    constructor
    · rintro (e | ⟨a, b⟩)
      · subst e
        exact ⟨by decide, by decide⟩
      · refine ⟨b, ?_⟩
        rw [isD_iff h] at a ⊢
        exact ⟨a.1, a.2.1, a.2.2.1, by omega⟩
    · rintro ⟨b, a⟩
      have a' := (isD_iff h _).mp a
      obtain ⟨a1, a2, a3, a4⟩ := a'
      by_cases e : NumText.digitsVal q = 2147483648
      · left
        have hlt := dv_lt q.length q rfl a1
        have hl : q.length = 10 := by
          rcases Nat.lt_or_ge q.length 10 with z | z
          · exfalso
            have : 10 ^ q.length ≤ 10 ^ 9 := Nat.pow_le_pow_right (by decide) (by omega)
            omega
          · omega
        exact dv_inj 10 q _ hl rfl a1 (by decide) (by rw [e]; decide)
      · right
        exact ⟨(isD_iff h _).mpr ⟨a1, a2, a3, by omega⟩, b⟩
end Pm

namespace Pm
open PySem L2 PyProof.Rows SX
theorem o_inT2 (z a b : Str) (c : Cells) : oIn false (.d (.str z)) (.d (.tup [.str a, .str b])) c = .ok (.d (.bl (decide (z = a) || decide (z = b)))) c := by
  have := o_inT z [a, b] c
  simp only [List.map_cons, List.map_nil, List.mem_cons, List.not_mem_nil, or_false, Bool.decide_or] at this
  exact this
theorem o_inT3 (z a b d : Str) (c : Cells) : oIn false (.d (.str z)) (.d (.tup [.str a, .str b, .str d])) c = .ok (.d (.bl (decide (z = a) || (decide (z = b) || decide (z = d))))) c := by
  have := o_inT z [a, b, d] c
  simp only [List.map_cons, List.map_nil, List.mem_cons, List.not_mem_nil, or_false, Bool.decide_or] at this
  exact this
theorem dk1 : decide (Str.ofString "number" = Str.ofString "big") = false := by decide +kernel
theorem dk2 : decide (Str.ofString "word" = Str.ofString "big") = false := by decide +kernel
theorem dk3 : decide (Str.ofString "name" = Str.ofString "big") = false := by decide +kernel
theorem dk4 : decide (Str.ofString "" = Str.ofString "big") = false := by decide +kernel
theorem dk5 : decide (Str.ofString "" = Str.ofString "name") = false := by decide +kernel
theorem dk6 : decide (Str.ofString "number" = Str.ofString "") = false := by decide +kernel
theorem dk7 : decide (Str.ofString "word" = Str.ofString "") = false := by decide +kernel
theorem dk8 : decide (Str.ofString "name" = Str.ofString "") = false := by decide +kernel
theorem dk9 : decide (Str.ofString "big" = Str.ofString "") = false := by decide +kernel
theorem dk10 : decide (Str.ofString "big" = Str.ofString "name") = false := by decide +kernel
theorem dke (a : Str) : decide (a = a) = true := decide_eq_true rfl
theorem kind_e : kindL [] = "" := rfl
theorem t_kind_e (c : Cells) : g__law_run_kind [.d (.str (Str.ofString ""))] c = .ok (.d (.str "")) c := by
  rw [k_e, t_kind (by simp) c, kind_e, k_e]
theorem kind_far {q : List Nat} (ha : q.all al = true) : (shN q = true → kindL q = "name") ∧ (shN q = false → shB q = true → kindL q = "big") ∧ (shN q = false → shB q = false → (decide (kindL q = "name") || decide (kindL q = "big")) = false) := by
  by_cases h : q = []
  · subst h
    refine ⟨fun z => absurd z (by decide), fun _ z => absurd z (by decide), fun _ _ => ?_⟩
    rw [kind_e, dk5, dk4]
    rfl
  · obtain ⟨x, r, rfl⟩ := List.exists_cons_of_ne_nil h
    rw [kind_spec h ha]
    have nd : (lw x = true ∨ up x = true) → isD (x :: r) 2147483647 = false := fun z => isD_dg (by
      cases hd : dg x with
      | false => rfl
      | true =>
        obtain ⟨a, b⟩ := dg_lw hd
        rw [a, b] at z
        simp at z)
    refine ⟨fun z => ?_, fun z1 z2 => ?_, fun z1 z2 => ?_⟩
    · have z' := z
      unfold shN at z'
      simp only [Bool.and_eq_true] at z'
      have hx : lw x = true := z'.1.2
      have hk : ¬ S (x :: r) ∈ k_KEYWORDS := by simpa using z'.2
      rw [nd (.inl hx), z]
      simp [hk]
    · have z' := z2
      unfold shB at z'
      simp only [Bool.and_eq_true] at z'
      have hx : up x = true := z'.2
      have hk : ¬ S (x :: r) ∈ k_KEYWORDS := fun w => by
        have := kw_head w
        simp [lw] at this
        simp [up] at hx
        omega
      rw [nd (.inr hx), z1, z2]
      simp [hk]
    · rw [z1, z2]
      simp only [Bool.false_eq_true, if_false]
      have d1 : decide (Str.ofString "number" = Str.ofString "name") = false := by decide +kernel
      have d2 : decide (Str.ofString "word" = Str.ofString "name") = false := by decide +kernel
      split
      · rw [d1, dk1]; rfl
      · split
        · rw [d2, dk2]; rfl
        · rw [dk5, dk4]; rfl
def lawR (t : List Nat) (n : Nat) (c : Cells) : Option (Str × Nat) → Out W
  | some (k, l) => .ok (.d (tkD t n k l)) c
  | none => .ok (.d .non) c
theorem run_al (l : List Nat) : (run l).all al = true := by
  rw [List.all_eq_true]
  intro c hc
  unfold run at hc
  induction l with
  | nil => cases hc
  | cons a l ih =>
    rw [List.takeWhile_cons] at hc
    split at hc
    · rcases List.mem_cons.mp hc with h | h
      · subst h; assumption
      · exact ih h
    · cases hc
theorem k_le : Str.ofString "<=" = S [60, 61] := by decide +kernel
theorem k_as : Str.ofString ":=" = S [58, 61] := by decide +kernel
theorem k_ar : Str.ofString "->" = S [45, 62] := by decide +kernel
def ones2 : List Nat := [40, 41, 44, 59, 124, 95, 39, 33, 43, 45, 42, 47, 61, 60]
theorem k_ones : Str.ofString "(),;|_'!+-*/=<" = S ones2 := by decide +kernel
theorem in_ones (x : Nat) : decide (x ∈ ones2) = decide (x ∈ ones) := decide_eq_decide.mpr (by simp only [ones, ones2, List.mem_cons, List.not_mem_nil, or_false]; omega)
theorem in_two (l : List Nat) : (decide (l = [60, 61]) || (decide (l = [58, 61]) || decide (l = [45, 62]))) = decide (l ∈ two) := by
  simp only [two, List.mem_cons, List.not_mem_nil, or_false, Bool.decide_or]
theorem run_take (l : List Nat) : l.take (run l).length = run l := tw_take al l
theorem t_ltoken {t : List Nat} (hl : t.length ≤ 400) (n : Nat) (hn : n < t.length) (c : Cells) : g__law_token [.d (.str (S t)), .d (.int n)] c = lawR t n c (tok (t.drop n)) := by
  unfold g__law_token
  rw [runB_of [some (.d (.str (S t))), some (.d (.int n)), none, none, none] rfl]
  unfold d__law_token
  have hl2 : t.length ≤ 1000000 := by omega
  obtain ⟨x, hx, hd⟩ := drop_cons hn
  have l1 := Nat.le_trans (run_len t n) hl
  have cr := cut_run t n
  rw [Nat.add_sub_cancel_left] at cr
  simp only [e_gt, e_gtT, e_gtC, e_gtN, OS.only_nx, OS.only_exc, ca_take, and_self, true_and, and_true, List.nodup_cons, List.nodup_nil, List.not_mem_nil, not_false_eq_true, List.zip_cons_cons, List.zip_nil_right, Nat.reduceAdd, Nat.reduceLeDiff, decide_true, decide_false, Bool.not_true, Bool.not_false, fr0, fr1, fr2, fr3, mk0, mkT1, mkT2, mkT3, e_v0, e_v1, e_v2, e_v3, e_v4, e_v5, e_v6, e_v7, e_v8, e_v9, e_g0, e_g1, e_g2, e_g3, e_g4, e_g5, e_g6, e_g7, e_g8, e_g9, e_s0, e_s1, e_s2, e_s3, e_s4, e_s5, e_s6, e_s7, e_s8, e_s9, e_c, e_nil, e_cons, e_bin, e_call, e_callN, e_test, e_not, e_and, e_or, e_andV, e_orV, e_if, e_isN, e_meth, e_tup, e_lst, e_sl, e_some, e_none, e_scons, e_set, e_ret, e_exp, e_sif, e_asg, e_raise, e_par, o_lt, o_le, o_gt, o_ge, o_sub, o_addI, o_iaddI, o_eqS, o_neS, o_eqI, o_isi, o_s0, o_sI, tyS, bT_ok, bT_exc, Out.bind_ok, Out.bind_exc, Out.bind_bad, Out.st_ok, Out.st_exc, Out.st_bad, OS.andThen_nx, OS.andThen_ret, OS.andThen_brk, OS.andThen_cnt, OS.andThen_exc, OS.andThen_bad, finR_nx, finR_ret, finR_exc, List.getElem?_cons_zero, List.getElem?_cons_succ, List.length_cons, List.length_nil, if_true, if_false, reduceIte, Bool.false_eq_true, List.take_length, t_lrun hl, t_kind l1, q_e]
  by_cases hr : run (t.drop n) = []
  · rw [decide_eq_true hr]
    have ha : al x = false := by
      unfold run at hr
      rw [hd, List.takeWhile_cons] at hr
      split at hr
      · cases hr
      · simp_all
    unfold tok
    rw [hr]
    have e0 : ((t.drop n).take 1 = [126]) = (x = 126) := by rw [hd]; simp
    have e9 : decide ([x] = [126]) = decide (x = 126) := by simp
    simp only [ne_eq, not_true_eq_false, if_false, e0, List.drop_drop]
    simp only [e_gt, e_gtT, e_gtC, e_gtN, OS.only_nx, OS.only_exc, ca_take, and_self, true_and, and_true, List.nodup_cons, List.nodup_nil, List.not_mem_nil, not_false_eq_true, List.zip_cons_cons, List.zip_nil_right, Nat.reduceAdd, Nat.reduceLeDiff, decide_true, decide_false, Bool.not_true, Bool.not_false, fr0, fr1, fr2, fr3, mk0, mkT1, mkT2, mkT3, e_v0, e_v1, e_v2, e_v3, e_v4, e_v5, e_v6, e_v7, e_v8, e_v9, e_g0, e_g1, e_g2, e_g3, e_g4, e_g5, e_g6, e_g7, e_g8, e_g9, e_s0, e_s1, e_s2, e_s3, e_s4, e_s5, e_s6, e_s7, e_s8, e_s9, e_c, e_nil, e_cons, e_bin, e_call, e_callN, e_test, e_not, e_and, e_or, e_andV, e_orV, e_if, e_isN, e_meth, e_tup, e_lst, e_sl, e_some, e_none, e_scons, e_set, e_ret, e_exp, e_sif, e_asg, e_raise, e_par, o_lt, o_le, o_gt, o_ge, o_sub, o_addI, o_iaddI, o_eqS, o_neS, o_eqI, o_isi, o_s0, o_sI, tyS, bT_ok, bT_exc, Out.bind_ok, Out.bind_exc, Out.bind_bad, Out.st_ok, Out.st_exc, Out.st_bad, OS.andThen_nx, OS.andThen_ret, OS.andThen_brk, OS.andThen_cnt, OS.andThen_exc, OS.andThen_bad, finR_nx, finR_ret, finR_exc, List.getElem?_cons_zero, List.getElem?_cons_succ, List.length_cons, List.length_nil, if_true, if_false, reduceIte, Bool.false_eq_true, List.take_length, o_ix c t hl2 hx, k_tilde, S_eq, e9]
    by_cases h1 : x = 126
    · have e1 : (n : Int) + 1 = ((n + 1 : Nat) : Int) := by omega
      have l2 := Nat.le_trans (run_len t (n + 1)) hl
      have ta : (t.drop n).take (1 + (run (t.drop (n + 1))).length) = [126] ++ run (t.drop (n + 1)) := by
        rw [List.take_add, List.drop_drop, run_take, hd, h1]
        rfl
      have ts := tilde_spec (run_al (t.drop (n + 1)))
      have cat : oAdd (.d (.str (S [126]))) (.d (.str (S (run (t.drop (n + 1)))))) c = .ok (.d (.str (S ([126] ++ run (t.drop (n + 1)))))) c := o_addS c [126] (run (t.drop (n + 1))) (by simp; omega)
      rw [decide_eq_true h1, if_pos h1]
      simp only [e_gt, e_gtT, e_gtC, e_gtN, OS.only_nx, OS.only_exc, ca_take, and_self, true_and, and_true, List.nodup_cons, List.nodup_nil, List.not_mem_nil, not_false_eq_true, List.zip_cons_cons, List.zip_nil_right, Nat.reduceAdd, Nat.reduceLeDiff, decide_true, decide_false, Bool.not_true, Bool.not_false, fr0, fr1, fr2, fr3, mk0, mkT1, mkT2, mkT3, e_v0, e_v1, e_v2, e_v3, e_v4, e_v5, e_v6, e_v7, e_v8, e_v9, e_g0, e_g1, e_g2, e_g3, e_g4, e_g5, e_g6, e_g7, e_g8, e_g9, e_s0, e_s1, e_s2, e_s3, e_s4, e_s5, e_s6, e_s7, e_s8, e_s9, e_c, e_nil, e_cons, e_bin, e_call, e_callN, e_test, e_not, e_and, e_or, e_andV, e_orV, e_if, e_isN, e_meth, e_tup, e_lst, e_sl, e_some, e_none, e_scons, e_set, e_ret, e_exp, e_sif, e_asg, e_raise, e_par, o_lt, o_le, o_gt, o_ge, o_sub, o_addI, o_iaddI, o_eqS, o_neS, o_eqI, o_isi, o_s0, o_sI, tyS, bT_ok, bT_exc, Out.bind_ok, Out.bind_exc, Out.bind_bad, Out.st_ok, Out.st_exc, Out.st_bad, OS.andThen_nx, OS.andThen_ret, OS.andThen_brk, OS.andThen_cnt, OS.andThen_exc, OS.andThen_bad, finR_nx, finR_ret, finR_exc, List.getElem?_cons_zero, List.getElem?_cons_succ, List.length_cons, List.length_nil, if_true, if_false, reduceIte, Bool.false_eq_true, List.take_length, e1, t_lrun hl, big_digits, S_eq]
      by_cases h2 : run (t.drop (n + 1)) = [50, 49, 52, 55, 52, 56, 51, 54, 52, 56]
      · rw [if_pos (show (¬run (t.drop (n + 1)) = [48] ∧ isD (run (t.drop (n + 1))) 2147483648 = true) from ts.mp (.inl h2)), decide_eq_true h2]
        simp only [e_gt, e_gtT, e_gtC, e_gtN, OS.only_nx, OS.only_exc, ca_take, and_self, true_and, and_true, List.nodup_cons, List.nodup_nil, List.not_mem_nil, not_false_eq_true, List.zip_cons_cons, List.zip_nil_right, Nat.reduceAdd, Nat.reduceLeDiff, decide_true, decide_false, Bool.not_true, Bool.not_false, fr0, fr1, fr2, fr3, mk0, mkT1, mkT2, mkT3, e_v0, e_v1, e_v2, e_v3, e_v4, e_v5, e_v6, e_v7, e_v8, e_v9, e_g0, e_g1, e_g2, e_g3, e_g4, e_g5, e_g6, e_g7, e_g8, e_g9, e_s0, e_s1, e_s2, e_s3, e_s4, e_s5, e_s6, e_s7, e_s8, e_s9, e_c, e_nil, e_cons, e_bin, e_call, e_callN, e_test, e_not, e_and, e_or, e_andV, e_orV, e_if, e_isN, e_meth, e_tup, e_lst, e_sl, e_some, e_none, e_scons, e_set, e_ret, e_exp, e_sif, e_asg, e_raise, e_par, o_lt, o_le, o_gt, o_ge, o_sub, o_addI, o_iaddI, o_eqS, o_neS, o_eqI, o_isi, o_s0, o_sI, tyS, bT_ok, bT_exc, Out.bind_ok, Out.bind_exc, Out.bind_bad, Out.st_ok, Out.st_exc, Out.st_bad, OS.andThen_nx, OS.andThen_ret, OS.andThen_brk, OS.andThen_cnt, OS.andThen_exc, OS.andThen_bad, finR_nx, finR_ret, finR_exc, List.getElem?_cons_zero, List.getElem?_cons_succ, List.length_cons, List.length_nil, if_true, if_false, reduceIte, Bool.false_eq_true, List.take_length, lawR, tkD, ta, k_tilde, cat]
      · rw [decide_eq_false h2]
        simp only [e_gt, e_gtT, e_gtC, e_gtN, OS.only_nx, OS.only_exc, ca_take, and_self, true_and, and_true, List.nodup_cons, List.nodup_nil, List.not_mem_nil, not_false_eq_true, List.zip_cons_cons, List.zip_nil_right, Nat.reduceAdd, Nat.reduceLeDiff, decide_true, decide_false, Bool.not_true, Bool.not_false, fr0, fr1, fr2, fr3, mk0, mkT1, mkT2, mkT3, e_v0, e_v1, e_v2, e_v3, e_v4, e_v5, e_v6, e_v7, e_v8, e_v9, e_g0, e_g1, e_g2, e_g3, e_g4, e_g5, e_g6, e_g7, e_g8, e_g9, e_s0, e_s1, e_s2, e_s3, e_s4, e_s5, e_s6, e_s7, e_s8, e_s9, e_c, e_nil, e_cons, e_bin, e_call, e_callN, e_test, e_not, e_and, e_or, e_andV, e_orV, e_if, e_isN, e_meth, e_tup, e_lst, e_sl, e_some, e_none, e_scons, e_set, e_ret, e_exp, e_sif, e_asg, e_raise, e_par, o_lt, o_le, o_gt, o_ge, o_sub, o_addI, o_iaddI, o_eqS, o_neS, o_eqI, o_isi, o_s0, o_sI, tyS, bT_ok, bT_exc, Out.bind_ok, Out.bind_exc, Out.bind_bad, Out.st_ok, Out.st_exc, Out.st_bad, OS.andThen_nx, OS.andThen_ret, OS.andThen_brk, OS.andThen_cnt, OS.andThen_exc, OS.andThen_bad, finR_nx, finR_ret, finR_exc, List.getElem?_cons_zero, List.getElem?_cons_succ, List.length_cons, List.length_nil, if_true, if_false, reduceIte, Bool.false_eq_true, List.take_length, t_kind l2, k_0, S_eq]
        by_cases h3 : kindL (run (t.drop (n + 1))) = "number"
        · rw [decide_eq_true h3]
          simp only [e_gt, e_gtT, e_gtC, e_gtN, OS.only_nx, OS.only_exc, ca_take, and_self, true_and, and_true, List.nodup_cons, List.nodup_nil, List.not_mem_nil, not_false_eq_true, List.zip_cons_cons, List.zip_nil_right, Nat.reduceAdd, Nat.reduceLeDiff, decide_true, decide_false, Bool.not_true, Bool.not_false, fr0, fr1, fr2, fr3, mk0, mkT1, mkT2, mkT3, e_v0, e_v1, e_v2, e_v3, e_v4, e_v5, e_v6, e_v7, e_v8, e_v9, e_g0, e_g1, e_g2, e_g3, e_g4, e_g5, e_g6, e_g7, e_g8, e_g9, e_s0, e_s1, e_s2, e_s3, e_s4, e_s5, e_s6, e_s7, e_s8, e_s9, e_c, e_nil, e_cons, e_bin, e_call, e_callN, e_test, e_not, e_and, e_or, e_andV, e_orV, e_if, e_isN, e_meth, e_tup, e_lst, e_sl, e_some, e_none, e_scons, e_set, e_ret, e_exp, e_sif, e_asg, e_raise, e_par, o_lt, o_le, o_gt, o_ge, o_sub, o_addI, o_iaddI, o_eqS, o_neS, o_eqI, o_isi, o_s0, o_sI, tyS, bT_ok, bT_exc, Out.bind_ok, Out.bind_exc, Out.bind_bad, Out.st_ok, Out.st_exc, Out.st_bad, OS.andThen_nx, OS.andThen_ret, OS.andThen_brk, OS.andThen_cnt, OS.andThen_exc, OS.andThen_bad, finR_nx, finR_ret, finR_exc, List.getElem?_cons_zero, List.getElem?_cons_succ, List.length_cons, List.length_nil, if_true, if_false, reduceIte, Bool.false_eq_true, List.take_length, k_0, S_eq]
          by_cases h4 : run (t.drop (n + 1)) = [48]
          · rw [decide_eq_true h4, if_neg (show ¬(¬run (t.drop (n + 1)) = [48] ∧ isD (run (t.drop (n + 1))) 2147483648 = true) from fun z => z.1 h4)]
            simp only [e_gt, e_gtT, e_gtC, e_gtN, OS.only_nx, OS.only_exc, ca_take, and_self, true_and, and_true, List.nodup_cons, List.nodup_nil, List.not_mem_nil, not_false_eq_true, List.zip_cons_cons, List.zip_nil_right, Nat.reduceAdd, Nat.reduceLeDiff, decide_true, decide_false, Bool.not_true, Bool.not_false, fr0, fr1, fr2, fr3, mk0, mkT1, mkT2, mkT3, e_v0, e_v1, e_v2, e_v3, e_v4, e_v5, e_v6, e_v7, e_v8, e_v9, e_g0, e_g1, e_g2, e_g3, e_g4, e_g5, e_g6, e_g7, e_g8, e_g9, e_s0, e_s1, e_s2, e_s3, e_s4, e_s5, e_s6, e_s7, e_s8, e_s9, e_c, e_nil, e_cons, e_bin, e_call, e_callN, e_test, e_not, e_and, e_or, e_andV, e_orV, e_if, e_isN, e_meth, e_tup, e_lst, e_sl, e_some, e_none, e_scons, e_set, e_ret, e_exp, e_sif, e_asg, e_raise, e_par, o_lt, o_le, o_gt, o_ge, o_sub, o_addI, o_iaddI, o_eqS, o_neS, o_eqI, o_isi, o_s0, o_sI, tyS, bT_ok, bT_exc, Out.bind_ok, Out.bind_exc, Out.bind_bad, Out.st_ok, Out.st_exc, Out.st_bad, OS.andThen_nx, OS.andThen_ret, OS.andThen_brk, OS.andThen_cnt, OS.andThen_exc, OS.andThen_bad, finR_nx, finR_ret, finR_exc, List.getElem?_cons_zero, List.getElem?_cons_succ, List.length_cons, List.length_nil, if_true, if_false, reduceIte, Bool.false_eq_true, List.take_length, lawR]
          · rw [decide_eq_false h4, if_pos (show (¬run (t.drop (n + 1)) = [48] ∧ isD (run (t.drop (n + 1))) 2147483648 = true) from ts.mp (.inr ⟨h3, h4⟩))]
            simp only [e_gt, e_gtT, e_gtC, e_gtN, OS.only_nx, OS.only_exc, ca_take, and_self, true_and, and_true, List.nodup_cons, List.nodup_nil, List.not_mem_nil, not_false_eq_true, List.zip_cons_cons, List.zip_nil_right, Nat.reduceAdd, Nat.reduceLeDiff, decide_true, decide_false, Bool.not_true, Bool.not_false, fr0, fr1, fr2, fr3, mk0, mkT1, mkT2, mkT3, e_v0, e_v1, e_v2, e_v3, e_v4, e_v5, e_v6, e_v7, e_v8, e_v9, e_g0, e_g1, e_g2, e_g3, e_g4, e_g5, e_g6, e_g7, e_g8, e_g9, e_s0, e_s1, e_s2, e_s3, e_s4, e_s5, e_s6, e_s7, e_s8, e_s9, e_c, e_nil, e_cons, e_bin, e_call, e_callN, e_test, e_not, e_and, e_or, e_andV, e_orV, e_if, e_isN, e_meth, e_tup, e_lst, e_sl, e_some, e_none, e_scons, e_set, e_ret, e_exp, e_sif, e_asg, e_raise, e_par, o_lt, o_le, o_gt, o_ge, o_sub, o_addI, o_iaddI, o_eqS, o_neS, o_eqI, o_isi, o_s0, o_sI, tyS, bT_ok, bT_exc, Out.bind_ok, Out.bind_exc, Out.bind_bad, Out.st_ok, Out.st_exc, Out.st_bad, OS.andThen_nx, OS.andThen_ret, OS.andThen_brk, OS.andThen_cnt, OS.andThen_exc, OS.andThen_bad, finR_nx, finR_ret, finR_exc, List.getElem?_cons_zero, List.getElem?_cons_succ, List.length_cons, List.length_nil, if_true, if_false, reduceIte, Bool.false_eq_true, List.take_length, lawR, tkD, ta, k_tilde, cat]
        · rw [decide_eq_false h3, if_neg (show ¬(¬run (t.drop (n + 1)) = [48] ∧ isD (run (t.drop (n + 1))) 2147483648 = true) from fun z => by rcases ts.mpr z with w | w; exact h2 w; exact h3 w.1)]
          simp only [e_gt, e_gtT, e_gtC, e_gtN, OS.only_nx, OS.only_exc, ca_take, and_self, true_and, and_true, List.nodup_cons, List.nodup_nil, List.not_mem_nil, not_false_eq_true, List.zip_cons_cons, List.zip_nil_right, Nat.reduceAdd, Nat.reduceLeDiff, decide_true, decide_false, Bool.not_true, Bool.not_false, fr0, fr1, fr2, fr3, mk0, mkT1, mkT2, mkT3, e_v0, e_v1, e_v2, e_v3, e_v4, e_v5, e_v6, e_v7, e_v8, e_v9, e_g0, e_g1, e_g2, e_g3, e_g4, e_g5, e_g6, e_g7, e_g8, e_g9, e_s0, e_s1, e_s2, e_s3, e_s4, e_s5, e_s6, e_s7, e_s8, e_s9, e_c, e_nil, e_cons, e_bin, e_call, e_callN, e_test, e_not, e_and, e_or, e_andV, e_orV, e_if, e_isN, e_meth, e_tup, e_lst, e_sl, e_some, e_none, e_scons, e_set, e_ret, e_exp, e_sif, e_asg, e_raise, e_par, o_lt, o_le, o_gt, o_ge, o_sub, o_addI, o_iaddI, o_eqS, o_neS, o_eqI, o_isi, o_s0, o_sI, tyS, bT_ok, bT_exc, Out.bind_ok, Out.bind_exc, Out.bind_bad, Out.st_ok, Out.st_exc, Out.st_bad, OS.andThen_nx, OS.andThen_ret, OS.andThen_brk, OS.andThen_cnt, OS.andThen_exc, OS.andThen_bad, finR_nx, finR_ret, finR_exc, List.getElem?_cons_zero, List.getElem?_cons_succ, List.length_cons, List.length_nil, if_true, if_false, reduceIte, Bool.false_eq_true, List.take_length, lawR]
    · have e1 : (n : Int) + 2 = ((n + 2 : Nat) : Int) := by omega
      have e2 : n + 2 - n = 2 := by omega
      rw [decide_eq_false h1, if_neg h1]
      simp only [e_gt, e_gtT, e_gtC, e_gtN, OS.only_nx, OS.only_exc, ca_take, and_self, true_and, and_true, List.nodup_cons, List.nodup_nil, List.not_mem_nil, not_false_eq_true, List.zip_cons_cons, List.zip_nil_right, Nat.reduceAdd, Nat.reduceLeDiff, decide_true, decide_false, Bool.not_true, Bool.not_false, fr0, fr1, fr2, fr3, mk0, mkT1, mkT2, mkT3, e_v0, e_v1, e_v2, e_v3, e_v4, e_v5, e_v6, e_v7, e_v8, e_v9, e_g0, e_g1, e_g2, e_g3, e_g4, e_g5, e_g6, e_g7, e_g8, e_g9, e_s0, e_s1, e_s2, e_s3, e_s4, e_s5, e_s6, e_s7, e_s8, e_s9, e_c, e_nil, e_cons, e_bin, e_call, e_callN, e_test, e_not, e_and, e_or, e_andV, e_orV, e_if, e_isN, e_meth, e_tup, e_lst, e_sl, e_some, e_none, e_scons, e_set, e_ret, e_exp, e_sif, e_asg, e_raise, e_par, o_lt, o_le, o_gt, o_ge, o_sub, o_addI, o_iaddI, o_eqS, o_neS, o_eqI, o_isi, o_s0, o_sI, tyS, bT_ok, bT_exc, Out.bind_ok, Out.bind_exc, Out.bind_bad, Out.st_ok, Out.st_exc, Out.st_bad, OS.andThen_nx, OS.andThen_ret, OS.andThen_brk, OS.andThen_cnt, OS.andThen_exc, OS.andThen_bad, finR_nx, finR_ret, finR_exc, List.getElem?_cons_zero, List.getElem?_cons_succ, List.length_cons, List.length_nil, if_true, if_false, reduceIte, Bool.false_eq_true, List.take_length, e1, o_sl c t hl2, e2, o_inT3, k_le, k_as, k_ar, S_eq, in_two]
      by_cases h2 : (t.drop n).take 2 ∈ two
      · rw [decide_eq_true h2, if_pos h2]
        simp only [e_gt, e_gtT, e_gtC, e_gtN, OS.only_nx, OS.only_exc, ca_take, and_self, true_and, and_true, List.nodup_cons, List.nodup_nil, List.not_mem_nil, not_false_eq_true, List.zip_cons_cons, List.zip_nil_right, Nat.reduceAdd, Nat.reduceLeDiff, decide_true, decide_false, Bool.not_true, Bool.not_false, fr0, fr1, fr2, fr3, mk0, mkT1, mkT2, mkT3, e_v0, e_v1, e_v2, e_v3, e_v4, e_v5, e_v6, e_v7, e_v8, e_v9, e_g0, e_g1, e_g2, e_g3, e_g4, e_g5, e_g6, e_g7, e_g8, e_g9, e_s0, e_s1, e_s2, e_s3, e_s4, e_s5, e_s6, e_s7, e_s8, e_s9, e_c, e_nil, e_cons, e_bin, e_call, e_callN, e_test, e_not, e_and, e_or, e_andV, e_orV, e_if, e_isN, e_meth, e_tup, e_lst, e_sl, e_some, e_none, e_scons, e_set, e_ret, e_exp, e_sif, e_asg, e_raise, e_par, o_lt, o_le, o_gt, o_ge, o_sub, o_addI, o_iaddI, o_eqS, o_neS, o_eqI, o_isi, o_s0, o_sI, tyS, bT_ok, bT_exc, Out.bind_ok, Out.bind_exc, Out.bind_bad, Out.st_ok, Out.st_exc, Out.st_bad, OS.andThen_nx, OS.andThen_ret, OS.andThen_brk, OS.andThen_cnt, OS.andThen_exc, OS.andThen_bad, finR_nx, finR_ret, finR_exc, List.getElem?_cons_zero, List.getElem?_cons_succ, List.length_cons, List.length_nil, if_true, if_false, reduceIte, Bool.false_eq_true, List.take_length, e1, o_sl c t hl2, e2, lawR, tkD]
      · rw [decide_eq_false h2, if_neg h2]
        have e4 : ((t.drop n).head?.any fun x => ones.contains x) = decide (x ∈ ones) := by rw [hd]; simp
        rw [e4]
        simp only [e_gt, e_gtT, e_gtC, e_gtN, OS.only_nx, OS.only_exc, ca_take, and_self, true_and, and_true, List.nodup_cons, List.nodup_nil, List.not_mem_nil, not_false_eq_true, List.zip_cons_cons, List.zip_nil_right, Nat.reduceAdd, Nat.reduceLeDiff, decide_true, decide_false, Bool.not_true, Bool.not_false, fr0, fr1, fr2, fr3, mk0, mkT1, mkT2, mkT3, e_v0, e_v1, e_v2, e_v3, e_v4, e_v5, e_v6, e_v7, e_v8, e_v9, e_g0, e_g1, e_g2, e_g3, e_g4, e_g5, e_g6, e_g7, e_g8, e_g9, e_s0, e_s1, e_s2, e_s3, e_s4, e_s5, e_s6, e_s7, e_s8, e_s9, e_c, e_nil, e_cons, e_bin, e_call, e_callN, e_test, e_not, e_and, e_or, e_andV, e_orV, e_if, e_isN, e_meth, e_tup, e_lst, e_sl, e_some, e_none, e_scons, e_set, e_ret, e_exp, e_sif, e_asg, e_raise, e_par, o_lt, o_le, o_gt, o_ge, o_sub, o_addI, o_iaddI, o_eqS, o_neS, o_eqI, o_isi, o_s0, o_sI, tyS, bT_ok, bT_exc, Out.bind_ok, Out.bind_exc, Out.bind_bad, Out.st_ok, Out.st_exc, Out.st_bad, OS.andThen_nx, OS.andThen_ret, OS.andThen_brk, OS.andThen_cnt, OS.andThen_exc, OS.andThen_bad, finR_nx, finR_ret, finR_exc, List.getElem?_cons_zero, List.getElem?_cons_succ, List.length_cons, List.length_nil, if_true, if_false, reduceIte, Bool.false_eq_true, List.take_length, o_ix c t hl2 hx, o_inS _ ones2 x _ k_ones, in_ones]
        have t1 : (t.drop n).take 1 = [x] := by rw [hd]; rfl
        cases decide (x ∈ ones) with
        | true => simp only [e_gt, e_gtT, e_gtC, e_gtN, OS.only_nx, OS.only_exc, ca_take, and_self, true_and, and_true, List.nodup_cons, List.nodup_nil, List.not_mem_nil, not_false_eq_true, List.zip_cons_cons, List.zip_nil_right, Nat.reduceAdd, Nat.reduceLeDiff, decide_true, decide_false, Bool.not_true, Bool.not_false, fr0, fr1, fr2, fr3, mk0, mkT1, mkT2, mkT3, e_v0, e_v1, e_v2, e_v3, e_v4, e_v5, e_v6, e_v7, e_v8, e_v9, e_g0, e_g1, e_g2, e_g3, e_g4, e_g5, e_g6, e_g7, e_g8, e_g9, e_s0, e_s1, e_s2, e_s3, e_s4, e_s5, e_s6, e_s7, e_s8, e_s9, e_c, e_nil, e_cons, e_bin, e_call, e_callN, e_test, e_not, e_and, e_or, e_andV, e_orV, e_if, e_isN, e_meth, e_tup, e_lst, e_sl, e_some, e_none, e_scons, e_set, e_ret, e_exp, e_sif, e_asg, e_raise, e_par, o_lt, o_le, o_gt, o_ge, o_sub, o_addI, o_iaddI, o_eqS, o_neS, o_eqI, o_isi, o_s0, o_sI, tyS, bT_ok, bT_exc, Out.bind_ok, Out.bind_exc, Out.bind_bad, Out.st_ok, Out.st_exc, Out.st_bad, OS.andThen_nx, OS.andThen_ret, OS.andThen_brk, OS.andThen_cnt, OS.andThen_exc, OS.andThen_bad, finR_nx, finR_ret, finR_exc, List.getElem?_cons_zero, List.getElem?_cons_succ, List.length_cons, List.length_nil, if_true, if_false, reduceIte, Bool.false_eq_true, List.take_length, o_ix c t hl2 hx, lawR, tkD, t1]
        | false => simp only [e_gt, e_gtT, e_gtC, e_gtN, OS.only_nx, OS.only_exc, ca_take, and_self, true_and, and_true, List.nodup_cons, List.nodup_nil, List.not_mem_nil, not_false_eq_true, List.zip_cons_cons, List.zip_nil_right, Nat.reduceAdd, Nat.reduceLeDiff, decide_true, decide_false, Bool.not_true, Bool.not_false, fr0, fr1, fr2, fr3, mk0, mkT1, mkT2, mkT3, e_v0, e_v1, e_v2, e_v3, e_v4, e_v5, e_v6, e_v7, e_v8, e_v9, e_g0, e_g1, e_g2, e_g3, e_g4, e_g5, e_g6, e_g7, e_g8, e_g9, e_s0, e_s1, e_s2, e_s3, e_s4, e_s5, e_s6, e_s7, e_s8, e_s9, e_c, e_nil, e_cons, e_bin, e_call, e_callN, e_test, e_not, e_and, e_or, e_andV, e_orV, e_if, e_isN, e_meth, e_tup, e_lst, e_sl, e_some, e_none, e_scons, e_set, e_ret, e_exp, e_sif, e_asg, e_raise, e_par, o_lt, o_le, o_gt, o_ge, o_sub, o_addI, o_iaddI, o_eqS, o_neS, o_eqI, o_isi, o_s0, o_sI, tyS, bT_ok, bT_exc, Out.bind_ok, Out.bind_exc, Out.bind_bad, Out.st_ok, Out.st_exc, Out.st_bad, OS.andThen_nx, OS.andThen_ret, OS.andThen_brk, OS.andThen_cnt, OS.andThen_exc, OS.andThen_bad, finR_nx, finR_ret, finR_exc, List.getElem?_cons_zero, List.getElem?_cons_succ, List.length_cons, List.length_nil, if_true, if_false, reduceIte, Bool.false_eq_true, List.take_length, lawR]
  · have ks := kind_spec hr (run_al _)
    rw [decide_eq_false hr]
    unfold tok
    simp only [ne_eq, hr, not_false_eq_true, if_true]
    have plain : ∀ k, kindL (run (t.drop n)) = k → decide (k = Str.ofString "big") = false → decide (k = Str.ofString "") = false → lawR t n c (some (k, (run (t.drop n)).length)) = .ok (.d (.tup [.str k, .str (S (run (t.drop n))), .int n])) c := fun k _ _ _ => by
      unfold lawR tkD
      simp only [cr]
    simp only [e_gt, e_gtT, e_gtC, e_gtN, OS.only_nx, OS.only_exc, ca_take, and_self, true_and, and_true, List.nodup_cons, List.nodup_nil, List.not_mem_nil, not_false_eq_true, List.zip_cons_cons, List.zip_nil_right, Nat.reduceAdd, Nat.reduceLeDiff, decide_true, decide_false, Bool.not_true, Bool.not_false, fr0, fr1, fr2, fr3, mk0, mkT1, mkT2, mkT3, e_v0, e_v1, e_v2, e_v3, e_v4, e_v5, e_v6, e_v7, e_v8, e_v9, e_g0, e_g1, e_g2, e_g3, e_g4, e_g5, e_g6, e_g7, e_g8, e_g9, e_s0, e_s1, e_s2, e_s3, e_s4, e_s5, e_s6, e_s7, e_s8, e_s9, e_c, e_nil, e_cons, e_bin, e_call, e_callN, e_test, e_not, e_and, e_or, e_andV, e_orV, e_if, e_isN, e_meth, e_tup, e_lst, e_sl, e_some, e_none, e_scons, e_set, e_ret, e_exp, e_sif, e_asg, e_raise, e_par, o_lt, o_le, o_gt, o_ge, o_sub, o_addI, o_iaddI, o_eqS, o_neS, o_eqI, o_isi, o_s0, o_sI, tyS, bT_ok, bT_exc, Out.bind_ok, Out.bind_exc, Out.bind_bad, Out.st_ok, Out.st_exc, Out.st_bad, OS.andThen_nx, OS.andThen_ret, OS.andThen_brk, OS.andThen_cnt, OS.andThen_exc, OS.andThen_bad, finR_nx, finR_ret, finR_exc, List.getElem?_cons_zero, List.getElem?_cons_succ, List.length_cons, List.length_nil, if_true, if_false, reduceIte, Bool.false_eq_true, List.take_length]
    by_cases c1 : isD (run (t.drop n)) 2147483647 = true
    · rw [if_pos c1] at ks ⊢
      rw [ks, plain _ ks dk1 dk6]
      simp only [e_gt, e_gtT, e_gtC, e_gtN, OS.only_nx, OS.only_exc, ca_take, and_self, true_and, and_true, List.nodup_cons, List.nodup_nil, List.not_mem_nil, not_false_eq_true, List.zip_cons_cons, List.zip_nil_right, Nat.reduceAdd, Nat.reduceLeDiff, decide_true, decide_false, Bool.not_true, Bool.not_false, fr0, fr1, fr2, fr3, mk0, mkT1, mkT2, mkT3, e_v0, e_v1, e_v2, e_v3, e_v4, e_v5, e_v6, e_v7, e_v8, e_v9, e_g0, e_g1, e_g2, e_g3, e_g4, e_g5, e_g6, e_g7, e_g8, e_g9, e_s0, e_s1, e_s2, e_s3, e_s4, e_s5, e_s6, e_s7, e_s8, e_s9, e_c, e_nil, e_cons, e_bin, e_call, e_callN, e_test, e_not, e_and, e_or, e_andV, e_orV, e_if, e_isN, e_meth, e_tup, e_lst, e_sl, e_some, e_none, e_scons, e_set, e_ret, e_exp, e_sif, e_asg, e_raise, e_par, o_lt, o_le, o_gt, o_ge, o_sub, o_addI, o_iaddI, o_eqS, o_neS, o_eqI, o_isi, o_s0, o_sI, tyS, bT_ok, bT_exc, Out.bind_ok, Out.bind_exc, Out.bind_bad, Out.st_ok, Out.st_exc, Out.st_bad, OS.andThen_nx, OS.andThen_ret, OS.andThen_brk, OS.andThen_cnt, OS.andThen_exc, OS.andThen_bad, finR_nx, finR_ret, finR_exc, List.getElem?_cons_zero, List.getElem?_cons_succ, List.length_cons, List.length_nil, if_true, if_false, reduceIte, Bool.false_eq_true, List.take_length, dk1, dk6, t_kind_e, o_inT2, dk4, dk5, Bool.or_self]
    rw [if_neg c1] at ks ⊢
    by_cases c2 : S (run (t.drop n)) ∈ k_KEYWORDS
    · rw [if_pos c2] at ks ⊢
      rw [ks, plain _ ks dk2 dk7]
      simp only [e_gt, e_gtT, e_gtC, e_gtN, OS.only_nx, OS.only_exc, ca_take, and_self, true_and, and_true, List.nodup_cons, List.nodup_nil, List.not_mem_nil, not_false_eq_true, List.zip_cons_cons, List.zip_nil_right, Nat.reduceAdd, Nat.reduceLeDiff, decide_true, decide_false, Bool.not_true, Bool.not_false, fr0, fr1, fr2, fr3, mk0, mkT1, mkT2, mkT3, e_v0, e_v1, e_v2, e_v3, e_v4, e_v5, e_v6, e_v7, e_v8, e_v9, e_g0, e_g1, e_g2, e_g3, e_g4, e_g5, e_g6, e_g7, e_g8, e_g9, e_s0, e_s1, e_s2, e_s3, e_s4, e_s5, e_s6, e_s7, e_s8, e_s9, e_c, e_nil, e_cons, e_bin, e_call, e_callN, e_test, e_not, e_and, e_or, e_andV, e_orV, e_if, e_isN, e_meth, e_tup, e_lst, e_sl, e_some, e_none, e_scons, e_set, e_ret, e_exp, e_sif, e_asg, e_raise, e_par, o_lt, o_le, o_gt, o_ge, o_sub, o_addI, o_iaddI, o_eqS, o_neS, o_eqI, o_isi, o_s0, o_sI, tyS, bT_ok, bT_exc, Out.bind_ok, Out.bind_exc, Out.bind_bad, Out.st_ok, Out.st_exc, Out.st_bad, OS.andThen_nx, OS.andThen_ret, OS.andThen_brk, OS.andThen_cnt, OS.andThen_exc, OS.andThen_bad, finR_nx, finR_ret, finR_exc, List.getElem?_cons_zero, List.getElem?_cons_succ, List.length_cons, List.length_nil, if_true, if_false, reduceIte, Bool.false_eq_true, List.take_length, dk2, dk7, t_kind_e, o_inT2, dk4, dk5, Bool.or_self]
    rw [if_neg c2] at ks ⊢
    by_cases c3 : shN (run (t.drop n)) = true
    · rw [if_pos c3] at ks ⊢
      rw [ks, plain _ ks dk3 dk8]
      simp only [e_gt, e_gtT, e_gtC, e_gtN, OS.only_nx, OS.only_exc, ca_take, and_self, true_and, and_true, List.nodup_cons, List.nodup_nil, List.not_mem_nil, not_false_eq_true, List.zip_cons_cons, List.zip_nil_right, Nat.reduceAdd, Nat.reduceLeDiff, decide_true, decide_false, Bool.not_true, Bool.not_false, fr0, fr1, fr2, fr3, mk0, mkT1, mkT2, mkT3, e_v0, e_v1, e_v2, e_v3, e_v4, e_v5, e_v6, e_v7, e_v8, e_v9, e_g0, e_g1, e_g2, e_g3, e_g4, e_g5, e_g6, e_g7, e_g8, e_g9, e_s0, e_s1, e_s2, e_s3, e_s4, e_s5, e_s6, e_s7, e_s8, e_s9, e_c, e_nil, e_cons, e_bin, e_call, e_callN, e_test, e_not, e_and, e_or, e_andV, e_orV, e_if, e_isN, e_meth, e_tup, e_lst, e_sl, e_some, e_none, e_scons, e_set, e_ret, e_exp, e_sif, e_asg, e_raise, e_par, o_lt, o_le, o_gt, o_ge, o_sub, o_addI, o_iaddI, o_eqS, o_neS, o_eqI, o_isi, o_s0, o_sI, tyS, bT_ok, bT_exc, Out.bind_ok, Out.bind_exc, Out.bind_bad, Out.st_ok, Out.st_exc, Out.st_bad, OS.andThen_nx, OS.andThen_ret, OS.andThen_brk, OS.andThen_cnt, OS.andThen_exc, OS.andThen_bad, finR_nx, finR_ret, finR_exc, List.getElem?_cons_zero, List.getElem?_cons_succ, List.length_cons, List.length_nil, if_true, if_false, reduceIte, Bool.false_eq_true, List.take_length, dk3, dk8, t_kind_e, o_inT2, dk4, dk5, Bool.or_self]
    rw [if_neg c3] at ks ⊢
    by_cases c4 : shB (run (t.drop n)) = true
    · rw [if_pos c4] at ks ⊢
      have bg : lawR t n c (some (Str.ofString "big", (run (t.drop n)).length)) = .ok (.d (.tup [.str "big", .str (S (run (t.drop n))), .int n])) c := by
        unfold lawR tkD
        simp only [cr]
      have e1 : (n : Int) + ((run (t.drop n)).length : Int) = ((n + (run (t.drop n)).length : Nat) : Int) := by omega
      have e2 : ((n + (run (t.drop n)).length : Nat) : Int) + 1 = ((n + ((run (t.drop n)).length + 1) : Nat) : Int) := by omega
      have e3 : n + ((run (t.drop n)).length + 1) - (n + (run (t.drop n)).length) = 1 := by omega
      have hr2 : (run (t.drop n)).length ≤ 1000000 := by omega
      rw [ks]
      simp only [e_gt, e_gtT, e_gtC, e_gtN, OS.only_nx, OS.only_exc, ca_take, and_self, true_and, and_true, List.nodup_cons, List.nodup_nil, List.not_mem_nil, not_false_eq_true, List.zip_cons_cons, List.zip_nil_right, Nat.reduceAdd, Nat.reduceLeDiff, decide_true, decide_false, Bool.not_true, Bool.not_false, fr0, fr1, fr2, fr3, mk0, mkT1, mkT2, mkT3, e_v0, e_v1, e_v2, e_v3, e_v4, e_v5, e_v6, e_v7, e_v8, e_v9, e_g0, e_g1, e_g2, e_g3, e_g4, e_g5, e_g6, e_g7, e_g8, e_g9, e_s0, e_s1, e_s2, e_s3, e_s4, e_s5, e_s6, e_s7, e_s8, e_s9, e_c, e_nil, e_cons, e_bin, e_call, e_callN, e_test, e_not, e_and, e_or, e_andV, e_orV, e_if, e_isN, e_meth, e_tup, e_lst, e_sl, e_some, e_none, e_scons, e_set, e_ret, e_exp, e_sif, e_asg, e_raise, e_par, o_lt, o_le, o_gt, o_ge, o_sub, o_addI, o_iaddI, o_eqS, o_neS, o_eqI, o_isi, o_s0, o_sI, tyS, bT_ok, bT_exc, Out.bind_ok, Out.bind_exc, Out.bind_bad, Out.st_ok, Out.st_exc, Out.st_bad, OS.andThen_nx, OS.andThen_ret, OS.andThen_brk, OS.andThen_cnt, OS.andThen_exc, OS.andThen_bad, finR_nx, finR_ret, finR_exc, List.getElem?_cons_zero, List.getElem?_cons_succ, List.length_cons, List.length_nil, if_true, if_false, reduceIte, Bool.false_eq_true, List.take_length, dke, o_len _ (run (t.drop n)) hr2, e1, e2, o_sl c t hl2, e3, k_dot, S_eq, List.drop_drop]
      by_cases c5 : (t.drop (n + (run (t.drop n)).length)).take 1 = [46]
      · have l2 := Nat.le_trans (run_len t (n + ((run (t.drop n)).length + 1))) hl
        obtain ⟨f1, f2, f3⟩ := kind_far (run_al (t.drop (n + ((run (t.drop n)).length + 1))))
        have ta : (t.drop n).take ((run (t.drop n)).length + 1 + (run (t.drop (n + ((run (t.drop n)).length + 1)))).length) = run (t.drop n) ++ [46] ++ run (t.drop (n + ((run (t.drop n)).length + 1))) := by
          rw [List.take_add, List.take_add, List.drop_drop, List.drop_drop, cr, c5, run_take]
        have cat1 : oAdd (.d (.str (S (run (t.drop n))))) (.d (.str (S [46]))) c = .ok (.d (.str (S (run (t.drop n) ++ [46])))) c := o_addS c _ [46] (by simp; omega)
        have cat2 : oAdd (.d (.str (S (run (t.drop n) ++ [46])))) (.d (.str (S (run (t.drop (n + ((run (t.drop n)).length + 1))))))) c = .ok (.d (.str (S (run (t.drop n) ++ [46] ++ run (t.drop (n + ((run (t.drop n)).length + 1))))))) c := o_addS c _ _ (by simp; omega)
        rw [decide_eq_true c5, if_pos c5]
        simp only [e_gt, e_gtT, e_gtC, e_gtN, OS.only_nx, OS.only_exc, ca_take, and_self, true_and, and_true, List.nodup_cons, List.nodup_nil, List.not_mem_nil, not_false_eq_true, List.zip_cons_cons, List.zip_nil_right, Nat.reduceAdd, Nat.reduceLeDiff, decide_true, decide_false, Bool.not_true, Bool.not_false, fr0, fr1, fr2, fr3, mk0, mkT1, mkT2, mkT3, e_v0, e_v1, e_v2, e_v3, e_v4, e_v5, e_v6, e_v7, e_v8, e_v9, e_g0, e_g1, e_g2, e_g3, e_g4, e_g5, e_g6, e_g7, e_g8, e_g9, e_s0, e_s1, e_s2, e_s3, e_s4, e_s5, e_s6, e_s7, e_s8, e_s9, e_c, e_nil, e_cons, e_bin, e_call, e_callN, e_test, e_not, e_and, e_or, e_andV, e_orV, e_if, e_isN, e_meth, e_tup, e_lst, e_sl, e_some, e_none, e_scons, e_set, e_ret, e_exp, e_sif, e_asg, e_raise, e_par, o_lt, o_le, o_gt, o_ge, o_sub, o_addI, o_iaddI, o_eqS, o_neS, o_eqI, o_isi, o_s0, o_sI, tyS, bT_ok, bT_exc, Out.bind_ok, Out.bind_exc, Out.bind_bad, Out.st_ok, Out.st_exc, Out.st_bad, OS.andThen_nx, OS.andThen_ret, OS.andThen_brk, OS.andThen_cnt, OS.andThen_exc, OS.andThen_bad, finR_nx, finR_ret, finR_exc, List.getElem?_cons_zero, List.getElem?_cons_succ, List.length_cons, List.length_nil, if_true, if_false, reduceIte, Bool.false_eq_true, List.take_length, o_len _ (run (t.drop n)) hr2, e1, e2, t_lrun hl, t_kind l2, o_inT2]
        cases g1 : shN (run (t.drop (n + ((run (t.drop n)).length + 1)))) with
        | true =>
          rw [f1 g1]
          simp only [e_gt, e_gtT, e_gtC, e_gtN, OS.only_nx, OS.only_exc, ca_take, and_self, true_and, and_true, List.nodup_cons, List.nodup_nil, List.not_mem_nil, not_false_eq_true, List.zip_cons_cons, List.zip_nil_right, Nat.reduceAdd, Nat.reduceLeDiff, decide_true, decide_false, Bool.not_true, Bool.not_false, fr0, fr1, fr2, fr3, mk0, mkT1, mkT2, mkT3, e_v0, e_v1, e_v2, e_v3, e_v4, e_v5, e_v6, e_v7, e_v8, e_v9, e_g0, e_g1, e_g2, e_g3, e_g4, e_g5, e_g6, e_g7, e_g8, e_g9, e_s0, e_s1, e_s2, e_s3, e_s4, e_s5, e_s6, e_s7, e_s8, e_s9, e_c, e_nil, e_cons, e_bin, e_call, e_callN, e_test, e_not, e_and, e_or, e_andV, e_orV, e_if, e_isN, e_meth, e_tup, e_lst, e_sl, e_some, e_none, e_scons, e_set, e_ret, e_exp, e_sif, e_asg, e_raise, e_par, o_lt, o_le, o_gt, o_ge, o_sub, o_addI, o_iaddI, o_eqS, o_neS, o_eqI, o_isi, o_s0, o_sI, tyS, bT_ok, bT_exc, Out.bind_ok, Out.bind_exc, Out.bind_bad, Out.st_ok, Out.st_exc, Out.st_bad, OS.andThen_nx, OS.andThen_ret, OS.andThen_brk, OS.andThen_cnt, OS.andThen_exc, OS.andThen_bad, finR_nx, finR_ret, finR_exc, List.getElem?_cons_zero, List.getElem?_cons_succ, List.length_cons, List.length_nil, if_true, if_false, reduceIte, Bool.false_eq_true, List.take_length, dke, Bool.true_or, t_kind l2, f1 g1, k_dot, cat1, cat2, lawR, tkD, ta]
        | false =>
          cases g2 : shB (run (t.drop (n + ((run (t.drop n)).length + 1)))) with
          | true =>
            rw [f2 g1 g2]
            simp only [e_gt, e_gtT, e_gtC, e_gtN, OS.only_nx, OS.only_exc, ca_take, and_self, true_and, and_true, List.nodup_cons, List.nodup_nil, List.not_mem_nil, not_false_eq_true, List.zip_cons_cons, List.zip_nil_right, Nat.reduceAdd, Nat.reduceLeDiff, decide_true, decide_false, Bool.not_true, Bool.not_false, fr0, fr1, fr2, fr3, mk0, mkT1, mkT2, mkT3, e_v0, e_v1, e_v2, e_v3, e_v4, e_v5, e_v6, e_v7, e_v8, e_v9, e_g0, e_g1, e_g2, e_g3, e_g4, e_g5, e_g6, e_g7, e_g8, e_g9, e_s0, e_s1, e_s2, e_s3, e_s4, e_s5, e_s6, e_s7, e_s8, e_s9, e_c, e_nil, e_cons, e_bin, e_call, e_callN, e_test, e_not, e_and, e_or, e_andV, e_orV, e_if, e_isN, e_meth, e_tup, e_lst, e_sl, e_some, e_none, e_scons, e_set, e_ret, e_exp, e_sif, e_asg, e_raise, e_par, o_lt, o_le, o_gt, o_ge, o_sub, o_addI, o_iaddI, o_eqS, o_neS, o_eqI, o_isi, o_s0, o_sI, tyS, bT_ok, bT_exc, Out.bind_ok, Out.bind_exc, Out.bind_bad, Out.st_ok, Out.st_exc, Out.st_bad, OS.andThen_nx, OS.andThen_ret, OS.andThen_brk, OS.andThen_cnt, OS.andThen_exc, OS.andThen_bad, finR_nx, finR_ret, finR_exc, List.getElem?_cons_zero, List.getElem?_cons_succ, List.length_cons, List.length_nil, if_true, if_false, reduceIte, Bool.false_eq_true, List.take_length, dke, dk10, Bool.false_or, t_kind l2, f2 g1 g2, k_dot, cat1, cat2, lawR, tkD, ta]
          | false =>
            rw [f3 g1 g2]
            simp only [e_gt, e_gtT, e_gtC, e_gtN, OS.only_nx, OS.only_exc, ca_take, and_self, true_and, and_true, List.nodup_cons, List.nodup_nil, List.not_mem_nil, not_false_eq_true, List.zip_cons_cons, List.zip_nil_right, Nat.reduceAdd, Nat.reduceLeDiff, decide_true, decide_false, Bool.not_true, Bool.not_false, fr0, fr1, fr2, fr3, mk0, mkT1, mkT2, mkT3, e_v0, e_v1, e_v2, e_v3, e_v4, e_v5, e_v6, e_v7, e_v8, e_v9, e_g0, e_g1, e_g2, e_g3, e_g4, e_g5, e_g6, e_g7, e_g8, e_g9, e_s0, e_s1, e_s2, e_s3, e_s4, e_s5, e_s6, e_s7, e_s8, e_s9, e_c, e_nil, e_cons, e_bin, e_call, e_callN, e_test, e_not, e_and, e_or, e_andV, e_orV, e_if, e_isN, e_meth, e_tup, e_lst, e_sl, e_some, e_none, e_scons, e_set, e_ret, e_exp, e_sif, e_asg, e_raise, e_par, o_lt, o_le, o_gt, o_ge, o_sub, o_addI, o_iaddI, o_eqS, o_neS, o_eqI, o_isi, o_s0, o_sI, tyS, bT_ok, bT_exc, Out.bind_ok, Out.bind_exc, Out.bind_bad, Out.st_ok, Out.st_exc, Out.st_bad, OS.andThen_nx, OS.andThen_ret, OS.andThen_brk, OS.andThen_cnt, OS.andThen_exc, OS.andThen_bad, finR_nx, finR_ret, finR_exc, List.getElem?_cons_zero, List.getElem?_cons_succ, List.length_cons, List.length_nil, if_true, if_false, reduceIte, Bool.false_eq_true, List.take_length, dk9, bg]
      · rw [decide_eq_false c5, if_neg c5, bg]
        simp only [e_gt, e_gtT, e_gtC, e_gtN, OS.only_nx, OS.only_exc, ca_take, and_self, true_and, and_true, List.nodup_cons, List.nodup_nil, List.not_mem_nil, not_false_eq_true, List.zip_cons_cons, List.zip_nil_right, Nat.reduceAdd, Nat.reduceLeDiff, decide_true, decide_false, Bool.not_true, Bool.not_false, fr0, fr1, fr2, fr3, mk0, mkT1, mkT2, mkT3, e_v0, e_v1, e_v2, e_v3, e_v4, e_v5, e_v6, e_v7, e_v8, e_v9, e_g0, e_g1, e_g2, e_g3, e_g4, e_g5, e_g6, e_g7, e_g8, e_g9, e_s0, e_s1, e_s2, e_s3, e_s4, e_s5, e_s6, e_s7, e_s8, e_s9, e_c, e_nil, e_cons, e_bin, e_call, e_callN, e_test, e_not, e_and, e_or, e_andV, e_orV, e_if, e_isN, e_meth, e_tup, e_lst, e_sl, e_some, e_none, e_scons, e_set, e_ret, e_exp, e_sif, e_asg, e_raise, e_par, o_lt, o_le, o_gt, o_ge, o_sub, o_addI, o_iaddI, o_eqS, o_neS, o_eqI, o_isi, o_s0, o_sI, tyS, bT_ok, bT_exc, Out.bind_ok, Out.bind_exc, Out.bind_bad, Out.st_ok, Out.st_exc, Out.st_bad, OS.andThen_nx, OS.andThen_ret, OS.andThen_brk, OS.andThen_cnt, OS.andThen_exc, OS.andThen_bad, finR_nx, finR_ret, finR_exc, List.getElem?_cons_zero, List.getElem?_cons_succ, List.length_cons, List.length_nil, if_true, if_false, reduceIte, Bool.false_eq_true, List.take_length, t_kind_e, o_inT2, dk4, dk5, dk9, Bool.or_self]
    · rw [if_neg c4] at ks ⊢
      rw [ks]
      simp only [e_gt, e_gtT, e_gtC, e_gtN, OS.only_nx, OS.only_exc, ca_take, and_self, true_and, and_true, List.nodup_cons, List.nodup_nil, List.not_mem_nil, not_false_eq_true, List.zip_cons_cons, List.zip_nil_right, Nat.reduceAdd, Nat.reduceLeDiff, decide_true, decide_false, Bool.not_true, Bool.not_false, fr0, fr1, fr2, fr3, mk0, mkT1, mkT2, mkT3, e_v0, e_v1, e_v2, e_v3, e_v4, e_v5, e_v6, e_v7, e_v8, e_v9, e_g0, e_g1, e_g2, e_g3, e_g4, e_g5, e_g6, e_g7, e_g8, e_g9, e_s0, e_s1, e_s2, e_s3, e_s4, e_s5, e_s6, e_s7, e_s8, e_s9, e_c, e_nil, e_cons, e_bin, e_call, e_callN, e_test, e_not, e_and, e_or, e_andV, e_orV, e_if, e_isN, e_meth, e_tup, e_lst, e_sl, e_some, e_none, e_scons, e_set, e_ret, e_exp, e_sif, e_asg, e_raise, e_par, o_lt, o_le, o_gt, o_ge, o_sub, o_addI, o_iaddI, o_eqS, o_neS, o_eqI, o_isi, o_s0, o_sI, tyS, bT_ok, bT_exc, Out.bind_ok, Out.bind_exc, Out.bind_bad, Out.st_ok, Out.st_exc, Out.st_bad, OS.andThen_nx, OS.andThen_ret, OS.andThen_brk, OS.andThen_cnt, OS.andThen_exc, OS.andThen_bad, finR_nx, finR_ret, finR_exc, List.getElem?_cons_zero, List.getElem?_cons_succ, List.length_cons, List.length_nil, if_true, if_false, reduceIte, Bool.false_eq_true, List.take_length, dk4, t_kind_e, o_inT2, dk5, Bool.or_self, dke, lawR]
end Pm

namespace Pm
open PySem L2 PyProof.Rows SX
theorem tok_len {l : List Nat} {k : Str} {n : Nat} (h : tok l = some (k, n)) : n ≤ l.length := by
  have rl : ∀ l : List Nat, (run l).length ≤ l.length := fun l => (List.takeWhile_prefix al).length_le
  have h1 := rl l
  unfold tok at h
  by_cases hr : run l ≠ []
  · simp only [hr, if_true, ne_eq, not_false_eq_true] at h
    by_cases hdot : (l.drop (run l).length).take 1 = [46]
    · have hq := rl (l.drop ((run l).length + 1))
      rw [List.length_drop] at hq
      have hpos : (run l).length < l.length := by
        have := congrArg List.length hdot
        rw [List.length_take, List.length_drop] at this
        simp at this
        omega
      repeat' split at h
      all_goals first | (cases h; omega) | cases h
    · simp only [hdot, if_false] at h
      repeat' split at h
      all_goals first | (cases h; omega) | cases h
  · simp only [hr, if_false] at h
    split at h
    · rename_i h126
      have hq := rl (l.drop 1)
      rw [List.length_drop] at hq
      have hpos : 0 < l.length := by
        have := congrArg List.length h126
        rw [List.length_take] at this
        simp at this
        omega
      split at h
      · cases h; omega
      · cases h
    · split at h
      · rename_i h2
        have : (l.take 2).length = 2 := by
          simp only [two, List.mem_cons, List.not_mem_nil, or_false] at h2
          rcases h2 with h | h | h <;> rw [h] <;> rfl
        rw [List.length_take] at this
        cases h; omega
      · split at h
        · rename_i h3
          cases l with
          | nil => cases h3
          | cons x l => cases h; simp
        · cases h
theorem q_nl (a : List Nat) : (S a = Str.ofString "\n") = (a = [10]) := by rw [k_nl, S_eq]
theorem q_hash (a : List Nat) : (S a = Str.ofString "#") = (a = [35]) := by rw [k_hash, S_eq]
theorem e_neg1 (sl : Sl) (c : Cells) (i : Int) : dNeg (dC (.int i)) sl c = .ok (.d (.int (-i))) c := id rfl
theorem k_blank : Str.ofString " \n" = S [32, 10] := by decide +kernel
theorem t_ltokens {t : List Nat} (hl : t.length ≤ 400) (c : Cells) : g__law_tokens [.d (.str (S t))] c = match lex t (t.length + 1) 0 [] with
    | (acc, none) => .ok (.d (.tup [.lst acc, .int (-1)])) c
    | (acc, some p) => .ok (.d (.tup [.lst acc, .int p])) c := by
  unfold g__law_tokens
  rw [runB_of [some (.d (.str (S t))), none, none, none] rfl]
  unfold d__law_tokens
  have hl2 : t.length ≤ 1000000 := by omega
  have inner : ∀ (m k j : Nat) (C : Cells) (w1 w3 : Option W), t.length - j < k → k ≤ m → loopW (dAnd (dTest (dBin oLt (dVar 2) (dCall oLen (dCons (dVar 0) dNil)))) (dTest (dBin oNe (dBin oIx (dVar 0) (dVar 2)) (dC (.str "\n"))))) (sSet 2 (dBin oAdd (dVar 2) (dC (.int 1)))) m [some (.d (.str (S t))), w1, some (.d (.int j)), w3] C
      = .nx [some (.d (.str (S t))), w1, some (.d (.int ((j + twl (· != 10) t j : Nat) : Int))), w3] C := by
    intro m k
    induction k generalizing m with
    | zero => intro j C w1 w3 h; omega
    | succ k ih =>
      intro j C w1 w3 h hm
      obtain ⟨m, rfl⟩ : ∃ m', m = m' + 1 := ⟨m - 1, by omega⟩
      rw [loopW_succ]
      simp only [e_gt, e_gtT, e_gtC, e_gtN, OS.only_nx, OS.only_exc, ca_take, and_self, true_and, and_true, List.nodup_cons, List.nodup_nil, List.not_mem_nil, not_false_eq_true, List.zip_cons_cons, List.zip_nil_right, Nat.reduceAdd, Nat.reduceLeDiff, decide_true, decide_false, Bool.not_true, Bool.not_false, fr0, fr1, fr2, fr3, mk0, mkT1, mkT2, mkT3, e_v0, e_v1, e_v2, e_v3, e_v4, e_v5, e_v6, e_v7, e_v8, e_v9, e_g0, e_g1, e_g2, e_g3, e_g4, e_g5, e_g6, e_g7, e_g8, e_g9, e_s0, e_s1, e_s2, e_s3, e_s4, e_s5, e_s6, e_s7, e_s8, e_s9, e_c, e_nil, e_cons, e_bin, e_call, e_callN, e_test, e_not, e_and, e_or, e_andV, e_orV, e_if, e_isN, e_meth, e_tup, e_lst, e_sl, e_some, e_none, e_scons, e_set, e_ret, e_exp, e_sif, e_asg, e_raise, e_par, o_lt, o_le, o_gt, o_ge, o_sub, o_addI, o_iaddI, o_eqS, o_neS, o_eqI, o_isi, o_s0, o_sI, tyS, bT_ok, bT_exc, Out.bind_ok, Out.bind_exc, Out.bind_bad, Out.st_ok, Out.st_exc, Out.st_bad, OS.andThen_nx, OS.andThen_ret, OS.andThen_brk, OS.andThen_cnt, OS.andThen_exc, OS.andThen_bad, finR_nx, finR_ret, finR_exc, List.getElem?_cons_zero, List.getElem?_cons_succ, List.length_cons, List.length_nil, if_true, if_false, reduceIte, Bool.false_eq_true, List.take_length, o_len _ t hl2]
      by_cases hj : j < t.length
      · obtain ⟨x, hx, hd⟩ := drop_cons hj
        have e1 : decide ((j : Int) < (t.length : Int)) = true := decide_eq_true (by omega)
        rw [e1, twl_step hx]
        simp only [e_gt, e_gtT, e_gtC, e_gtN, OS.only_nx, OS.only_exc, ca_take, and_self, true_and, and_true, List.nodup_cons, List.nodup_nil, List.not_mem_nil, not_false_eq_true, List.zip_cons_cons, List.zip_nil_right, Nat.reduceAdd, Nat.reduceLeDiff, decide_true, decide_false, Bool.not_true, Bool.not_false, fr0, fr1, fr2, fr3, mk0, mkT1, mkT2, mkT3, e_v0, e_v1, e_v2, e_v3, e_v4, e_v5, e_v6, e_v7, e_v8, e_v9, e_g0, e_g1, e_g2, e_g3, e_g4, e_g5, e_g6, e_g7, e_g8, e_g9, e_s0, e_s1, e_s2, e_s3, e_s4, e_s5, e_s6, e_s7, e_s8, e_s9, e_c, e_nil, e_cons, e_bin, e_call, e_callN, e_test, e_not, e_and, e_or, e_andV, e_orV, e_if, e_isN, e_meth, e_tup, e_lst, e_sl, e_some, e_none, e_scons, e_set, e_ret, e_exp, e_sif, e_asg, e_raise, e_par, o_lt, o_le, o_gt, o_ge, o_sub, o_addI, o_iaddI, o_eqS, o_neS, o_eqI, o_isi, o_s0, o_sI, tyS, bT_ok, bT_exc, Out.bind_ok, Out.bind_exc, Out.bind_bad, Out.st_ok, Out.st_exc, Out.st_bad, OS.andThen_nx, OS.andThen_ret, OS.andThen_brk, OS.andThen_cnt, OS.andThen_exc, OS.andThen_bad, finR_nx, finR_ret, finR_exc, List.getElem?_cons_zero, List.getElem?_cons_succ, List.length_cons, List.length_nil, if_true, if_false, reduceIte, Bool.false_eq_true, List.take_length, o_ix _ t hl2 hx, q_nl]
        have f1 : decide ([x] = [10]) = decide (x = 10) := by simp
        have f2 : (x != 10) = !decide (x = 10) := by by_cases h : x = 10 <;> simp [h]
        rw [f1, f2]
        cases decide (x = 10) with
        | true => simp only [e_gt, e_gtT, e_gtC, e_gtN, OS.only_nx, OS.only_exc, ca_take, and_self, true_and, and_true, List.nodup_cons, List.nodup_nil, List.not_mem_nil, not_false_eq_true, List.zip_cons_cons, List.zip_nil_right, Nat.reduceAdd, Nat.reduceLeDiff, decide_true, decide_false, Bool.not_true, Bool.not_false, fr0, fr1, fr2, fr3, mk0, mkT1, mkT2, mkT3, e_v0, e_v1, e_v2, e_v3, e_v4, e_v5, e_v6, e_v7, e_v8, e_v9, e_g0, e_g1, e_g2, e_g3, e_g4, e_g5, e_g6, e_g7, e_g8, e_g9, e_s0, e_s1, e_s2, e_s3, e_s4, e_s5, e_s6, e_s7, e_s8, e_s9, e_c, e_nil, e_cons, e_bin, e_call, e_callN, e_test, e_not, e_and, e_or, e_andV, e_orV, e_if, e_isN, e_meth, e_tup, e_lst, e_sl, e_some, e_none, e_scons, e_set, e_ret, e_exp, e_sif, e_asg, e_raise, e_par, o_lt, o_le, o_gt, o_ge, o_sub, o_addI, o_iaddI, o_eqS, o_neS, o_eqI, o_isi, o_s0, o_sI, tyS, bT_ok, bT_exc, Out.bind_ok, Out.bind_exc, Out.bind_bad, Out.st_ok, Out.st_exc, Out.st_bad, OS.andThen_nx, OS.andThen_ret, OS.andThen_brk, OS.andThen_cnt, OS.andThen_exc, OS.andThen_bad, finR_nx, finR_ret, finR_exc, List.getElem?_cons_zero, List.getElem?_cons_succ, List.length_cons, List.length_nil, if_true, if_false, reduceIte, Bool.false_eq_true, List.take_length, Nat.add_zero]
        | false =>
          simp only [e_gt, e_gtT, e_gtC, e_gtN, OS.only_nx, OS.only_exc, ca_take, and_self, true_and, and_true, List.nodup_cons, List.nodup_nil, List.not_mem_nil, not_false_eq_true, List.zip_cons_cons, List.zip_nil_right, Nat.reduceAdd, Nat.reduceLeDiff, decide_true, decide_false, Bool.not_true, Bool.not_false, fr0, fr1, fr2, fr3, mk0, mkT1, mkT2, mkT3, e_v0, e_v1, e_v2, e_v3, e_v4, e_v5, e_v6, e_v7, e_v8, e_v9, e_g0, e_g1, e_g2, e_g3, e_g4, e_g5, e_g6, e_g7, e_g8, e_g9, e_s0, e_s1, e_s2, e_s3, e_s4, e_s5, e_s6, e_s7, e_s8, e_s9, e_c, e_nil, e_cons, e_bin, e_call, e_callN, e_test, e_not, e_and, e_or, e_andV, e_orV, e_if, e_isN, e_meth, e_tup, e_lst, e_sl, e_some, e_none, e_scons, e_set, e_ret, e_exp, e_sif, e_asg, e_raise, e_par, o_lt, o_le, o_gt, o_ge, o_sub, o_addI, o_iaddI, o_eqS, o_neS, o_eqI, o_isi, o_s0, o_sI, tyS, bT_ok, bT_exc, Out.bind_ok, Out.bind_exc, Out.bind_bad, Out.st_ok, Out.st_exc, Out.st_bad, OS.andThen_nx, OS.andThen_ret, OS.andThen_brk, OS.andThen_cnt, OS.andThen_exc, OS.andThen_bad, finR_nx, finR_ret, finR_exc, List.getElem?_cons_zero, List.getElem?_cons_succ, List.length_cons, List.length_nil, if_true, if_false, reduceIte, Bool.false_eq_true, List.take_length]
          have := ih m (j + 1) C w1 w3 (by omega) (by omega)
          rw [show ((j : Int) + 1) = ((j + 1 : Nat) : Int) by omega, this]
          simp only [Nat.add_assoc, Nat.add_comm 1]
      · have e1 : decide ((j : Int) < (t.length : Int)) = false := decide_eq_false (by omega)
        rw [e1, twl_end (Nat.le_of_not_lt hj)]
        simp only [e_gt, e_gtT, e_gtC, e_gtN, OS.only_nx, OS.only_exc, ca_take, and_self, true_and, and_true, List.nodup_cons, List.nodup_nil, List.not_mem_nil, not_false_eq_true, List.zip_cons_cons, List.zip_nil_right, Nat.reduceAdd, Nat.reduceLeDiff, decide_true, decide_false, Bool.not_true, Bool.not_false, fr0, fr1, fr2, fr3, mk0, mkT1, mkT2, mkT3, e_v0, e_v1, e_v2, e_v3, e_v4, e_v5, e_v6, e_v7, e_v8, e_v9, e_g0, e_g1, e_g2, e_g3, e_g4, e_g5, e_g6, e_g7, e_g8, e_g9, e_s0, e_s1, e_s2, e_s3, e_s4, e_s5, e_s6, e_s7, e_s8, e_s9, e_c, e_nil, e_cons, e_bin, e_call, e_callN, e_test, e_not, e_and, e_or, e_andV, e_orV, e_if, e_isN, e_meth, e_tup, e_lst, e_sl, e_some, e_none, e_scons, e_set, e_ret, e_exp, e_sif, e_asg, e_raise, e_par, o_lt, o_le, o_gt, o_ge, o_sub, o_addI, o_iaddI, o_eqS, o_neS, o_eqI, o_isi, o_s0, o_sI, tyS, bT_ok, bT_exc, Out.bind_ok, Out.bind_exc, Out.bind_bad, Out.st_ok, Out.st_exc, Out.st_bad, OS.andThen_nx, OS.andThen_ret, OS.andThen_brk, OS.andThen_cnt, OS.andThen_exc, OS.andThen_bad, finR_nx, finR_ret, finR_exc, List.getElem?_cons_zero, List.getElem?_cons_succ, List.length_cons, List.length_nil, if_true, if_false, reduceIte, Bool.false_eq_true, List.take_length, Nat.add_zero]
  simp only [e_gt, e_gtT, e_gtC, e_gtN, OS.only_nx, OS.only_exc, ca_take, and_self, true_and, and_true, List.nodup_cons, List.nodup_nil, List.not_mem_nil, not_false_eq_true, List.zip_cons_cons, List.zip_nil_right, Nat.reduceAdd, Nat.reduceLeDiff, decide_true, decide_false, Bool.not_true, Bool.not_false, fr0, fr1, fr2, fr3, mk0, mkT1, mkT2, mkT3, e_v0, e_v1, e_v2, e_v3, e_v4, e_v5, e_v6, e_v7, e_v8, e_v9, e_g0, e_g1, e_g2, e_g3, e_g4, e_g5, e_g6, e_g7, e_g8, e_g9, e_s0, e_s1, e_s2, e_s3, e_s4, e_s5, e_s6, e_s7, e_s8, e_s9, e_c, e_nil, e_cons, e_bin, e_call, e_callN, e_test, e_not, e_and, e_or, e_andV, e_orV, e_if, e_isN, e_meth, e_tup, e_lst, e_sl, e_some, e_none, e_scons, e_set, e_ret, e_exp, e_sif, e_asg, e_raise, e_par, o_lt, o_le, o_gt, o_ge, o_sub, o_addI, o_iaddI, o_eqS, o_neS, o_eqI, o_isi, o_s0, o_sI, tyS, bT_ok, bT_exc, Out.bind_ok, Out.bind_exc, Out.bind_bad, Out.st_ok, Out.st_exc, Out.st_bad, OS.andThen_nx, OS.andThen_ret, OS.andThen_brk, OS.andThen_cnt, OS.andThen_exc, OS.andThen_bad, finR_nx, finR_ret, finR_exc, List.getElem?_cons_zero, List.getElem?_cons_succ, List.length_cons, List.length_nil, if_true, if_false, reduceIte, Bool.false_eq_true, List.take_length]
  unfold sWhile
  have loop : ∀ (k m n : Nat) (acc : List D) (w3 : Option W), t.length - n < k → k ≤ m → acc.length ≤ n → ∃ w2 w3',
      loopW (dTest (dBin oLt (dVar 2) (dCall oLen (dCons (dVar 0) dNil)))) (sCons (sIf (dTest (dBin (oIn false) (dBin oIx (dVar 0) (dVar 2)) (dC (.str " \n")))) (sCons (sSet 2 (dBin oAdd (dVar 2) (dC (.int 1))))
    OS.cnt) OS.nx)
    (sCons (sIf (dTest (dBin oEq (dBin oIx (dVar 0) (dVar 2)) (dC (.str "#")))) (sCons (loopW (dAnd (dTest (dBin oLt (dVar 2) (dCall oLen (dCons (dVar 0) dNil)))) (dTest (dBin oNe (dBin oIx (dVar 0) (dVar 2)) (dC (.str "\n"))))) (sSet 2 (dBin oAdd (dVar 2) (dC (.int 1)))) bigN)
    OS.cnt) OS.nx)
    (sCons (sSet 3 (dCallN 2 g__law_token (dCons (dVar 0) (dCons (dVar 2) dNil))))
    (sCons (sIf (dTest (dIsN (dVar 3))) (sRet (dTup (dCons (dVar 1) (dCons (dVar 2) dNil)))) OS.nx)
    (sCons (sExp (dMeth "list" oAppend (dVar 1) (dCons (dVar 3) dNil)))
    (sSet 2 (dBin oAdd (dVar 2) (dCall oLen (dCons (dBin oIx (dVar 3) (dC (.int 1))) dNil))))))))) m [some (.d (.str (S t))), some (.c c.length), some (.d (.int n)), w3] (c ++ [.lst acc])
      = match lex t k n acc with
        | (acc, none) => .nx [some (.d (.str (S t))), some (.c c.length), w2, w3'] (c ++ [.lst acc])
        | (acc, some p) => .ret (.d (.tup [.lst acc, .int p])) (c ++ [.frz (.lst acc)]) := by
    intro k
    induction k with
    | zero => intro m n acc w3 h; omega
    | succ k ih =>
      intro m n acc w3 h hm ha
      obtain ⟨m, rfl⟩ : ∃ m', m = m' + 1 := ⟨m - 1, by omega⟩
      rw [loopW_succ]
      unfold lex
      simp only [e_gt, e_gtT, e_gtC, e_gtN, OS.only_nx, OS.only_exc, ca_take, and_self, true_and, and_true, List.nodup_cons, List.nodup_nil, List.not_mem_nil, not_false_eq_true, List.zip_cons_cons, List.zip_nil_right, Nat.reduceAdd, Nat.reduceLeDiff, decide_true, decide_false, Bool.not_true, Bool.not_false, fr0, fr1, fr2, fr3, mk0, mkT1, mkT2, mkT3, e_v0, e_v1, e_v2, e_v3, e_v4, e_v5, e_v6, e_v7, e_v8, e_v9, e_g0, e_g1, e_g2, e_g3, e_g4, e_g5, e_g6, e_g7, e_g8, e_g9, e_s0, e_s1, e_s2, e_s3, e_s4, e_s5, e_s6, e_s7, e_s8, e_s9, e_c, e_nil, e_cons, e_bin, e_call, e_callN, e_test, e_not, e_and, e_or, e_andV, e_orV, e_if, e_isN, e_meth, e_tup, e_lst, e_sl, e_some, e_none, e_scons, e_set, e_ret, e_exp, e_sif, e_asg, e_raise, e_par, o_lt, o_le, o_gt, o_ge, o_sub, o_addI, o_iaddI, o_eqS, o_neS, o_eqI, o_isi, o_s0, o_sI, tyS, bT_ok, bT_exc, Out.bind_ok, Out.bind_exc, Out.bind_bad, Out.st_ok, Out.st_exc, Out.st_bad, OS.andThen_nx, OS.andThen_ret, OS.andThen_brk, OS.andThen_cnt, OS.andThen_exc, OS.andThen_bad, finR_nx, finR_ret, finR_exc, List.getElem?_cons_zero, List.getElem?_cons_succ, List.length_cons, List.length_nil, if_true, if_false, reduceIte, Bool.false_eq_true, List.take_length, o_len _ t hl2]
      by_cases hn : n < t.length
      · obtain ⟨x, hx, hd⟩ := drop_cons hn
        have e1 : decide ((n : Int) < (t.length : Int)) = true := decide_eq_true (by omega)
        have ex : t.getD n 0 = x := by simp [List.getD, hx]
        rw [if_pos hn, e1, ex]
        have f1 : decide (x ∈ [32, 10]) = decide (x = 32 ∨ x = 10) := by simp
        have f3 : decide ([x] = [35]) = decide (x = 35) := by simp
        simp only [e_gt, e_gtT, e_gtC, e_gtN, OS.only_nx, OS.only_exc, ca_take, and_self, true_and, and_true, List.nodup_cons, List.nodup_nil, List.not_mem_nil, not_false_eq_true, List.zip_cons_cons, List.zip_nil_right, Nat.reduceAdd, Nat.reduceLeDiff, decide_true, decide_false, Bool.not_true, Bool.not_false, fr0, fr1, fr2, fr3, mk0, mkT1, mkT2, mkT3, e_v0, e_v1, e_v2, e_v3, e_v4, e_v5, e_v6, e_v7, e_v8, e_v9, e_g0, e_g1, e_g2, e_g3, e_g4, e_g5, e_g6, e_g7, e_g8, e_g9, e_s0, e_s1, e_s2, e_s3, e_s4, e_s5, e_s6, e_s7, e_s8, e_s9, e_c, e_nil, e_cons, e_bin, e_call, e_callN, e_test, e_not, e_and, e_or, e_andV, e_orV, e_if, e_isN, e_meth, e_tup, e_lst, e_sl, e_some, e_none, e_scons, e_set, e_ret, e_exp, e_sif, e_asg, e_raise, e_par, o_lt, o_le, o_gt, o_ge, o_sub, o_addI, o_iaddI, o_eqS, o_neS, o_eqI, o_isi, o_s0, o_sI, tyS, bT_ok, bT_exc, Out.bind_ok, Out.bind_exc, Out.bind_bad, Out.st_ok, Out.st_exc, Out.st_bad, OS.andThen_nx, OS.andThen_ret, OS.andThen_brk, OS.andThen_cnt, OS.andThen_exc, OS.andThen_bad, finR_nx, finR_ret, finR_exc, List.getElem?_cons_zero, List.getElem?_cons_succ, List.length_cons, List.length_nil, if_true, if_false, reduceIte, Bool.false_eq_true, List.take_length, o_ix _ t hl2 hx, o_inS _ [32, 10] x _ k_blank, f1]
        by_cases h1 : x = 32 ∨ x = 10
        · rw [decide_eq_true h1, if_pos h1]
          simp only [e_gt, e_gtT, e_gtC, e_gtN, OS.only_nx, OS.only_exc, ca_take, and_self, true_and, and_true, List.nodup_cons, List.nodup_nil, List.not_mem_nil, not_false_eq_true, List.zip_cons_cons, List.zip_nil_right, Nat.reduceAdd, Nat.reduceLeDiff, decide_true, decide_false, Bool.not_true, Bool.not_false, fr0, fr1, fr2, fr3, mk0, mkT1, mkT2, mkT3, e_v0, e_v1, e_v2, e_v3, e_v4, e_v5, e_v6, e_v7, e_v8, e_v9, e_g0, e_g1, e_g2, e_g3, e_g4, e_g5, e_g6, e_g7, e_g8, e_g9, e_s0, e_s1, e_s2, e_s3, e_s4, e_s5, e_s6, e_s7, e_s8, e_s9, e_c, e_nil, e_cons, e_bin, e_call, e_callN, e_test, e_not, e_and, e_or, e_andV, e_orV, e_if, e_isN, e_meth, e_tup, e_lst, e_sl, e_some, e_none, e_scons, e_set, e_ret, e_exp, e_sif, e_asg, e_raise, e_par, o_lt, o_le, o_gt, o_ge, o_sub, o_addI, o_iaddI, o_eqS, o_neS, o_eqI, o_isi, o_s0, o_sI, tyS, bT_ok, bT_exc, Out.bind_ok, Out.bind_exc, Out.bind_bad, Out.st_ok, Out.st_exc, Out.st_bad, OS.andThen_nx, OS.andThen_ret, OS.andThen_brk, OS.andThen_cnt, OS.andThen_exc, OS.andThen_bad, finR_nx, finR_ret, finR_exc, List.getElem?_cons_zero, List.getElem?_cons_succ, List.length_cons, List.length_nil, if_true, if_false, reduceIte, Bool.false_eq_true, List.take_length]
          obtain ⟨w2, w3', e⟩ := ih m (n + 1) acc w3 (by omega) (by omega) (by omega)
          exact ⟨w2, w3', e⟩
        rw [decide_eq_false h1, if_neg h1]
        simp only [e_gt, e_gtT, e_gtC, e_gtN, OS.only_nx, OS.only_exc, ca_take, and_self, true_and, and_true, List.nodup_cons, List.nodup_nil, List.not_mem_nil, not_false_eq_true, List.zip_cons_cons, List.zip_nil_right, Nat.reduceAdd, Nat.reduceLeDiff, decide_true, decide_false, Bool.not_true, Bool.not_false, fr0, fr1, fr2, fr3, mk0, mkT1, mkT2, mkT3, e_v0, e_v1, e_v2, e_v3, e_v4, e_v5, e_v6, e_v7, e_v8, e_v9, e_g0, e_g1, e_g2, e_g3, e_g4, e_g5, e_g6, e_g7, e_g8, e_g9, e_s0, e_s1, e_s2, e_s3, e_s4, e_s5, e_s6, e_s7, e_s8, e_s9, e_c, e_nil, e_cons, e_bin, e_call, e_callN, e_test, e_not, e_and, e_or, e_andV, e_orV, e_if, e_isN, e_meth, e_tup, e_lst, e_sl, e_some, e_none, e_scons, e_set, e_ret, e_exp, e_sif, e_asg, e_raise, e_par, o_lt, o_le, o_gt, o_ge, o_sub, o_addI, o_iaddI, o_eqS, o_neS, o_eqI, o_isi, o_s0, o_sI, tyS, bT_ok, bT_exc, Out.bind_ok, Out.bind_exc, Out.bind_bad, Out.st_ok, Out.st_exc, Out.st_bad, OS.andThen_nx, OS.andThen_ret, OS.andThen_brk, OS.andThen_cnt, OS.andThen_exc, OS.andThen_bad, finR_nx, finR_ret, finR_exc, List.getElem?_cons_zero, List.getElem?_cons_succ, List.length_cons, List.length_nil, if_true, if_false, reduceIte, Bool.false_eq_true, List.take_length, o_ix _ t hl2 hx, q_hash, f3]
        by_cases h3 : x = 35
        · rw [decide_eq_true h3, if_pos h3]
          simp only [e_gt, e_gtT, e_gtC, e_gtN, OS.only_nx, OS.only_exc, ca_take, and_self, true_and, and_true, List.nodup_cons, List.nodup_nil, List.not_mem_nil, not_false_eq_true, List.zip_cons_cons, List.zip_nil_right, Nat.reduceAdd, Nat.reduceLeDiff, decide_true, decide_false, Bool.not_true, Bool.not_false, fr0, fr1, fr2, fr3, mk0, mkT1, mkT2, mkT3, e_v0, e_v1, e_v2, e_v3, e_v4, e_v5, e_v6, e_v7, e_v8, e_v9, e_g0, e_g1, e_g2, e_g3, e_g4, e_g5, e_g6, e_g7, e_g8, e_g9, e_s0, e_s1, e_s2, e_s3, e_s4, e_s5, e_s6, e_s7, e_s8, e_s9, e_c, e_nil, e_cons, e_bin, e_call, e_callN, e_test, e_not, e_and, e_or, e_andV, e_orV, e_if, e_isN, e_meth, e_tup, e_lst, e_sl, e_some, e_none, e_scons, e_set, e_ret, e_exp, e_sif, e_asg, e_raise, e_par, o_lt, o_le, o_gt, o_ge, o_sub, o_addI, o_iaddI, o_eqS, o_neS, o_eqI, o_isi, o_s0, o_sI, tyS, bT_ok, bT_exc, Out.bind_ok, Out.bind_exc, Out.bind_bad, Out.st_ok, Out.st_exc, Out.st_bad, OS.andThen_nx, OS.andThen_ret, OS.andThen_brk, OS.andThen_cnt, OS.andThen_exc, OS.andThen_bad, finR_nx, finR_ret, finR_exc, List.getElem?_cons_zero, List.getElem?_cons_succ, List.length_cons, List.length_nil, if_true, if_false, reduceIte, Bool.false_eq_true, List.take_length]
          have hin := inner bigN (t.length + 1) n (c ++ [.lst acc]) (some (.c c.length)) w3 (by omega) (by unfold bigN; omega)
          rw [hin]
          simp only [e_gt, e_gtT, e_gtC, e_gtN, OS.only_nx, OS.only_exc, ca_take, and_self, true_and, and_true, List.nodup_cons, List.nodup_nil, List.not_mem_nil, not_false_eq_true, List.zip_cons_cons, List.zip_nil_right, Nat.reduceAdd, Nat.reduceLeDiff, decide_true, decide_false, Bool.not_true, Bool.not_false, fr0, fr1, fr2, fr3, mk0, mkT1, mkT2, mkT3, e_v0, e_v1, e_v2, e_v3, e_v4, e_v5, e_v6, e_v7, e_v8, e_v9, e_g0, e_g1, e_g2, e_g3, e_g4, e_g5, e_g6, e_g7, e_g8, e_g9, e_s0, e_s1, e_s2, e_s3, e_s4, e_s5, e_s6, e_s7, e_s8, e_s9, e_c, e_nil, e_cons, e_bin, e_call, e_callN, e_test, e_not, e_and, e_or, e_andV, e_orV, e_if, e_isN, e_meth, e_tup, e_lst, e_sl, e_some, e_none, e_scons, e_set, e_ret, e_exp, e_sif, e_asg, e_raise, e_par, o_lt, o_le, o_gt, o_ge, o_sub, o_addI, o_iaddI, o_eqS, o_neS, o_eqI, o_isi, o_s0, o_sI, tyS, bT_ok, bT_exc, Out.bind_ok, Out.bind_exc, Out.bind_bad, Out.st_ok, Out.st_exc, Out.st_bad, OS.andThen_nx, OS.andThen_ret, OS.andThen_brk, OS.andThen_cnt, OS.andThen_exc, OS.andThen_bad, finR_nx, finR_ret, finR_exc, List.getElem?_cons_zero, List.getElem?_cons_succ, List.length_cons, List.length_nil, if_true, if_false, reduceIte, Bool.false_eq_true, List.take_length]
          have hs : twl (· != 10) t n = twl (· != 10) t (n + 1) + 1 := by
            rw [twl_step hx, if_pos (by simp; omega)]
          obtain ⟨w2, w3', e⟩ := ih m (n + twl (· != 10) t n) acc w3 (by omega) (by omega) (by omega)
          exact ⟨w2, w3', e⟩
        · rw [decide_eq_false h3, if_neg h3]
          simp only [e_gt, e_gtT, e_gtC, e_gtN, OS.only_nx, OS.only_exc, ca_take, and_self, true_and, and_true, List.nodup_cons, List.nodup_nil, List.not_mem_nil, not_false_eq_true, List.zip_cons_cons, List.zip_nil_right, Nat.reduceAdd, Nat.reduceLeDiff, decide_true, decide_false, Bool.not_true, Bool.not_false, fr0, fr1, fr2, fr3, mk0, mkT1, mkT2, mkT3, e_v0, e_v1, e_v2, e_v3, e_v4, e_v5, e_v6, e_v7, e_v8, e_v9, e_g0, e_g1, e_g2, e_g3, e_g4, e_g5, e_g6, e_g7, e_g8, e_g9, e_s0, e_s1, e_s2, e_s3, e_s4, e_s5, e_s6, e_s7, e_s8, e_s9, e_c, e_nil, e_cons, e_bin, e_call, e_callN, e_test, e_not, e_and, e_or, e_andV, e_orV, e_if, e_isN, e_meth, e_tup, e_lst, e_sl, e_some, e_none, e_scons, e_set, e_ret, e_exp, e_sif, e_asg, e_raise, e_par, o_lt, o_le, o_gt, o_ge, o_sub, o_addI, o_iaddI, o_eqS, o_neS, o_eqI, o_isi, o_s0, o_sI, tyS, bT_ok, bT_exc, Out.bind_ok, Out.bind_exc, Out.bind_bad, Out.st_ok, Out.st_exc, Out.st_bad, OS.andThen_nx, OS.andThen_ret, OS.andThen_brk, OS.andThen_cnt, OS.andThen_exc, OS.andThen_bad, finR_nx, finR_ret, finR_exc, List.getElem?_cons_zero, List.getElem?_cons_succ, List.length_cons, List.length_nil, if_true, if_false, reduceIte, Bool.false_eq_true, List.take_length, t_ltoken hl n hn]
          cases htok : tok (t.drop n) with
          | none =>
            simp only [lawR, e_gt, e_gtT, e_gtC, e_gtN, OS.only_nx, OS.only_exc, ca_take, and_self, true_and, and_true, List.nodup_cons, List.nodup_nil, List.not_mem_nil, not_false_eq_true, List.zip_cons_cons, List.zip_nil_right, Nat.reduceAdd, Nat.reduceLeDiff, decide_true, decide_false, Bool.not_true, Bool.not_false, fr0, fr1, fr2, fr3, mk0, mkT1, mkT2, mkT3, e_v0, e_v1, e_v2, e_v3, e_v4, e_v5, e_v6, e_v7, e_v8, e_v9, e_g0, e_g1, e_g2, e_g3, e_g4, e_g5, e_g6, e_g7, e_g8, e_g9, e_s0, e_s1, e_s2, e_s3, e_s4, e_s5, e_s6, e_s7, e_s8, e_s9, e_c, e_nil, e_cons, e_bin, e_call, e_callN, e_test, e_not, e_and, e_or, e_andV, e_orV, e_if, e_isN, e_meth, e_tup, e_lst, e_sl, e_some, e_none, e_scons, e_set, e_ret, e_exp, e_sif, e_asg, e_raise, e_par, o_lt, o_le, o_gt, o_ge, o_sub, o_addI, o_iaddI, o_eqS, o_neS, o_eqI, o_isi, o_s0, o_sI, tyS, bT_ok, bT_exc, Out.bind_ok, Out.bind_exc, Out.bind_bad, Out.st_ok, Out.st_exc, Out.st_bad, OS.andThen_nx, OS.andThen_ret, OS.andThen_brk, OS.andThen_cnt, OS.andThen_exc, OS.andThen_bad, finR_nx, finR_ret, finR_exc, List.getElem?_cons_zero, List.getElem?_cons_succ, List.length_cons, List.length_nil, if_true, if_false, reduceIte, Bool.false_eq_true, List.take_length, isN_non, fr_c]
            exact ⟨none, none, trivial⟩
          | some q =>
            obtain ⟨kd, l⟩ := q
            have hp := tok_pos htok
            have hq := tok_len htok
            rw [List.length_drop] at hq
            have hlen : ((t.drop n).take l).length = l := by rw [List.length_take, List.length_drop]; omega
            simp only [lawR, tkD, e_gt, e_gtT, e_gtC, e_gtN, OS.only_nx, OS.only_exc, ca_take, and_self, true_and, and_true, List.nodup_cons, List.nodup_nil, List.not_mem_nil, not_false_eq_true, List.zip_cons_cons, List.zip_nil_right, Nat.reduceAdd, Nat.reduceLeDiff, decide_true, decide_false, Bool.not_true, Bool.not_false, fr0, fr1, fr2, fr3, mk0, mkT1, mkT2, mkT3, e_v0, e_v1, e_v2, e_v3, e_v4, e_v5, e_v6, e_v7, e_v8, e_v9, e_g0, e_g1, e_g2, e_g3, e_g4, e_g5, e_g6, e_g7, e_g8, e_g9, e_s0, e_s1, e_s2, e_s3, e_s4, e_s5, e_s6, e_s7, e_s8, e_s9, e_c, e_nil, e_cons, e_bin, e_call, e_callN, e_test, e_not, e_and, e_or, e_andV, e_orV, e_if, e_isN, e_meth, e_tup, e_lst, e_sl, e_some, e_none, e_scons, e_set, e_ret, e_exp, e_sif, e_asg, e_raise, e_par, o_lt, o_le, o_gt, o_ge, o_sub, o_addI, o_iaddI, o_eqS, o_neS, o_eqI, o_isi, o_s0, o_sI, tyS, bT_ok, bT_exc, Out.bind_ok, Out.bind_exc, Out.bind_bad, Out.st_ok, Out.st_exc, Out.st_bad, OS.andThen_nx, OS.andThen_ret, OS.andThen_brk, OS.andThen_cnt, OS.andThen_exc, OS.andThen_bad, finR_nx, finR_ret, finR_exc, List.getElem?_cons_zero, List.getElem?_cons_succ, List.length_cons, List.length_nil, if_true, if_false, reduceIte, Bool.false_eq_true, List.take_length, isN_tup, ca_ty, o_app c acc _ (show acc.length < 1000000 by omega), o_ixT1, o_len _ ((t.drop n).take l) (by omega), hlen]
            obtain ⟨w2, w3', e⟩ := ih m (n + l) (acc ++ [tkD t n kd l]) (some (.d (tkD t n kd l))) (by omega) (by omega) (by simp; omega)
            exact ⟨w2, w3', e⟩
      · have e1 : decide ((n : Int) < (t.length : Int)) = false := decide_eq_false (by omega)
        rw [if_neg hn, e1]
        simp only [e_gt, e_gtT, e_gtC, e_gtN, OS.only_nx, OS.only_exc, ca_take, and_self, true_and, and_true, List.nodup_cons, List.nodup_nil, List.not_mem_nil, not_false_eq_true, List.zip_cons_cons, List.zip_nil_right, Nat.reduceAdd, Nat.reduceLeDiff, decide_true, decide_false, Bool.not_true, Bool.not_false, fr0, fr1, fr2, fr3, mk0, mkT1, mkT2, mkT3, e_v0, e_v1, e_v2, e_v3, e_v4, e_v5, e_v6, e_v7, e_v8, e_v9, e_g0, e_g1, e_g2, e_g3, e_g4, e_g5, e_g6, e_g7, e_g8, e_g9, e_s0, e_s1, e_s2, e_s3, e_s4, e_s5, e_s6, e_s7, e_s8, e_s9, e_c, e_nil, e_cons, e_bin, e_call, e_callN, e_test, e_not, e_and, e_or, e_andV, e_orV, e_if, e_isN, e_meth, e_tup, e_lst, e_sl, e_some, e_none, e_scons, e_set, e_ret, e_exp, e_sif, e_asg, e_raise, e_par, o_lt, o_le, o_gt, o_ge, o_sub, o_addI, o_iaddI, o_eqS, o_neS, o_eqI, o_isi, o_s0, o_sI, tyS, bT_ok, bT_exc, Out.bind_ok, Out.bind_exc, Out.bind_bad, Out.st_ok, Out.st_exc, Out.st_bad, OS.andThen_nx, OS.andThen_ret, OS.andThen_brk, OS.andThen_cnt, OS.andThen_exc, OS.andThen_bad, finR_nx, finR_ret, finR_exc, List.getElem?_cons_zero, List.getElem?_cons_succ, List.length_cons, List.length_nil, if_true, if_false, reduceIte, Bool.false_eq_true, List.take_length]
        exact ⟨_, _, rfl⟩
  obtain ⟨w2, w3, e⟩ := loop (t.length + 1) bigN 0 [] none (by omega) (by unfold bigN; omega) (Nat.le_refl _)
  have e' := e
  rw [show (((0 : Nat) : Int)) = 0 from rfl] at e'
  rw [e']
  match lex t (t.length + 1) 0 [] with
  | (acc, none) => simp only [e_gt, e_gtT, e_gtC, e_gtN, OS.only_nx, OS.only_exc, ca_take, and_self, true_and, and_true, List.nodup_cons, List.nodup_nil, List.not_mem_nil, not_false_eq_true, List.zip_cons_cons, List.zip_nil_right, Nat.reduceAdd, Nat.reduceLeDiff, decide_true, decide_false, Bool.not_true, Bool.not_false, fr0, fr1, fr2, fr3, mk0, mkT1, mkT2, mkT3, e_v0, e_v1, e_v2, e_v3, e_v4, e_v5, e_v6, e_v7, e_v8, e_v9, e_g0, e_g1, e_g2, e_g3, e_g4, e_g5, e_g6, e_g7, e_g8, e_g9, e_s0, e_s1, e_s2, e_s3, e_s4, e_s5, e_s6, e_s7, e_s8, e_s9, e_c, e_nil, e_cons, e_bin, e_call, e_callN, e_test, e_not, e_and, e_or, e_andV, e_orV, e_if, e_isN, e_meth, e_tup, e_lst, e_sl, e_some, e_none, e_scons, e_set, e_ret, e_exp, e_sif, e_asg, e_raise, e_par, o_lt, o_le, o_gt, o_ge, o_sub, o_addI, o_iaddI, o_eqS, o_neS, o_eqI, o_isi, o_s0, o_sI, tyS, bT_ok, bT_exc, Out.bind_ok, Out.bind_exc, Out.bind_bad, Out.st_ok, Out.st_exc, Out.st_bad, OS.andThen_nx, OS.andThen_ret, OS.andThen_brk, OS.andThen_cnt, OS.andThen_exc, OS.andThen_bad, finR_nx, finR_ret, finR_exc, List.getElem?_cons_zero, List.getElem?_cons_succ, List.length_cons, List.length_nil, if_true, if_false, reduceIte, Bool.false_eq_true, List.take_length, e_neg1, fr_c]
  | (acc, some p) => simp only [e_gt, e_gtT, e_gtC, e_gtN, OS.only_nx, OS.only_exc, ca_take, and_self, true_and, and_true, List.nodup_cons, List.nodup_nil, List.not_mem_nil, not_false_eq_true, List.zip_cons_cons, List.zip_nil_right, Nat.reduceAdd, Nat.reduceLeDiff, decide_true, decide_false, Bool.not_true, Bool.not_false, fr0, fr1, fr2, fr3, mk0, mkT1, mkT2, mkT3, e_v0, e_v1, e_v2, e_v3, e_v4, e_v5, e_v6, e_v7, e_v8, e_v9, e_g0, e_g1, e_g2, e_g3, e_g4, e_g5, e_g6, e_g7, e_g8, e_g9, e_s0, e_s1, e_s2, e_s3, e_s4, e_s5, e_s6, e_s7, e_s8, e_s9, e_c, e_nil, e_cons, e_bin, e_call, e_callN, e_test, e_not, e_and, e_or, e_andV, e_orV, e_if, e_isN, e_meth, e_tup, e_lst, e_sl, e_some, e_none, e_scons, e_set, e_ret, e_exp, e_sif, e_asg, e_raise, e_par, o_lt, o_le, o_gt, o_ge, o_sub, o_addI, o_iaddI, o_eqS, o_neS, o_eqI, o_isi, o_s0, o_sI, tyS, bT_ok, bT_exc, Out.bind_ok, Out.bind_exc, Out.bind_bad, Out.st_ok, Out.st_exc, Out.st_bad, OS.andThen_nx, OS.andThen_ret, OS.andThen_brk, OS.andThen_cnt, OS.andThen_exc, OS.andThen_bad, finR_nx, finR_ret, finR_exc, List.getElem?_cons_zero, List.getElem?_cons_succ, List.length_cons, List.length_nil, if_true, if_false, reduceIte, Bool.false_eq_true, List.take_length]
end Pm

namespace Pm
open PySem L2 PyProof.Rows SX
theorem sb1 : sub (Str.ofString "BadText") (Str.ofString "BadText") = some true := by decide +kernel
theorem sb2 : sub (Str.ofString "InvalidText") (Str.ofString "BadText") = some false := by decide +kernel
theorem sb3 : sub (Str.ofString "InvalidText") (Str.ofString "InvalidText") = some true := by decide +kernel
theorem sb4 : sub (Str.ofString "BadText") (Str.ofString "ChangeError") = some true := by decide +kernel
theorem sb5 : sub (Str.ofString "InvalidText") (Str.ofString "ChangeError") = some true := by decide +kernel
theorem con (a : Str) : [a].contains a = true := by simp
theorem e_xf (a b : Str) (d : D) (f : Den) (sl : Sl) (c : Cells) (h : f sl c = .ok (.x a [(b, d)]) c) : dXf [a] [b] b f sl c = .ok (.d d) c := by
  unfold dXf
  rw [h]
  simp only [Out.bind_ok, con, Bool.and_self, if_true]
  have : [(b, d)].lookup b = some d := by simp [List.lookup]
  rw [this]
theorem o_isxA {a h : Str} {pl : List (Str × D)} {v : Bool} (e : sub a h = some v) (c : Cells) : oIsxA sub [a] [.x a pl, .d (.fn h)] c = .ok (.d (.bl v)) c := by
  unfold oIsxA
  dsimp only
  rw [con, if_pos rfl]
  unfold oIsx
  dsimp only
  rw [e]
theorem o_repr {d : D} {z : Str} (h : reprD d = some z) (c : Cells) : oRepr [.d d] c = .ok (.d (.str z)) c := by
  unfold oRepr
  dsimp only
  rw [rd_d]
  dsimp only
  rw [h]
theorem o_reprC {acc : List D} {z : Str} (h : reprD (.lst acc) = some z) (c : Cells) : oRepr [.c c.length] (c ++ [.lst acc]) = .ok (.d (.str z)) (c ++ [.lst acc]) := by
  unfold oRepr
  dsimp only
  rw [ca_rd]
  dsimp only
  rw [h]
theorem unset_nx {i : Nat} {sl : Sl} {c : Cells} (h : noXs (sl.set i none) = true) : (OS.nx sl c).unset i = .nx (sl.set i none) c := if_pos h
theorem t_heard_ok {t : List Nat} (ht : asc t) (hl : t.length ≤ 400) (c : Cells) {acc : List D} (h : lex t (t.length + 1) 0 [] = (acc, none)) : g__law_heard [.d (.str (S t))] c = .ok (.c c.length) (c ++ [.lst acc]) := by
  unfold g__law_heard
  rw [runB_of [some (.d (.str (S t))), none, none] rfl]
  unfold d__law_heard
  simp only [e_gt, e_gtT, e_gtC, e_gtN, OS.only_nx, OS.only_exc, ca_take, and_self, true_and, and_true, List.nodup_cons, List.nodup_nil, List.not_mem_nil, not_false_eq_true, List.zip_cons_cons, List.zip_nil_right, Nat.reduceAdd, Nat.reduceLeDiff, decide_true, decide_false, Bool.not_true, Bool.not_false, fr0, fr1, fr2, fr3, mk0, mkT1, mkT2, mkT3, e_v0, e_v1, e_v2, e_v3, e_v4, e_v5, e_v6, e_v7, e_v8, e_v9, e_g0, e_g1, e_g2, e_g3, e_g4, e_g5, e_g6, e_g7, e_g8, e_g9, e_s0, e_s1, e_s2, e_s3, e_s4, e_s5, e_s6, e_s7, e_s8, e_s9, e_c, e_nil, e_cons, e_bin, e_call, e_callN, e_test, e_not, e_and, e_or, e_andV, e_orV, e_if, e_isN, e_meth, e_tup, e_lst, e_sl, e_some, e_none, e_scons, e_set, e_ret, e_exp, e_sif, e_asg, e_raise, e_par, o_lt, o_le, o_gt, o_ge, o_sub, o_addI, o_iaddI, o_eqS, o_neS, o_eqI, o_isi, o_s0, o_sI, tyS, bT_ok, bT_exc, Out.bind_ok, Out.bind_exc, Out.bind_bad, Out.st_ok, Out.st_exc, Out.st_bad, OS.andThen_nx, OS.andThen_ret, OS.andThen_brk, OS.andThen_cnt, OS.andThen_exc, OS.andThen_bad, finR_nx, finR_ret, finR_exc, List.getElem?_cons_zero, List.getElem?_cons_succ, List.length_cons, List.length_nil, if_true, if_false, reduceIte, Bool.false_eq_true, List.take_length]
  unfold sTry
  simp only [e_gt, e_gtT, e_gtC, e_gtN, OS.only_nx, OS.only_exc, ca_take, and_self, true_and, and_true, List.nodup_cons, List.nodup_nil, List.not_mem_nil, not_false_eq_true, List.zip_cons_cons, List.zip_nil_right, Nat.reduceAdd, Nat.reduceLeDiff, decide_true, decide_false, Bool.not_true, Bool.not_false, fr0, fr1, fr2, fr3, mk0, mkT1, mkT2, mkT3, e_v0, e_v1, e_v2, e_v3, e_v4, e_v5, e_v6, e_v7, e_v8, e_v9, e_g0, e_g1, e_g2, e_g3, e_g4, e_g5, e_g6, e_g7, e_g8, e_g9, e_s0, e_s1, e_s2, e_s3, e_s4, e_s5, e_s6, e_s7, e_s8, e_s9, e_c, e_nil, e_cons, e_bin, e_call, e_callN, e_test, e_not, e_and, e_or, e_andV, e_orV, e_if, e_isN, e_meth, e_tup, e_lst, e_sl, e_some, e_none, e_scons, e_set, e_ret, e_exp, e_sif, e_asg, e_raise, e_par, o_lt, o_le, o_gt, o_ge, o_sub, o_addI, o_iaddI, o_eqS, o_neS, o_eqI, o_isi, o_s0, o_sI, tyS, bT_ok, bT_exc, Out.bind_ok, Out.bind_exc, Out.bind_bad, Out.st_ok, Out.st_exc, Out.st_bad, OS.andThen_nx, OS.andThen_ret, OS.andThen_brk, OS.andThen_cnt, OS.andThen_exc, OS.andThen_bad, finR_nx, finR_ret, finR_exc, List.getElem?_cons_zero, List.getElem?_cons_succ, List.length_cons, List.length_nil, if_true, if_false, reduceIte, Bool.false_eq_true, List.take_length, t_tokens_of ht hl, h, fin_cell]
theorem t_heard_bad {t : List Nat} (ht : asc t) (hl : t.length ≤ 400) (c : Cells) {acc : List D} {p : Nat} {z : Str} (h : lex t (t.length + 1) 0 [] = (acc, some p)) (hz : reprD (.int p) = some z) : g__law_heard [.d (.str (S t))] c = .ok (.d (.tup [.str z, .bl true])) c := by
  unfold g__law_heard
  rw [runB_of [some (.d (.str (S t))), none, none] rfl]
  unfold d__law_heard
  simp only [e_gt, e_gtT, e_gtC, e_gtN, OS.only_nx, OS.only_exc, ca_take, and_self, true_and, and_true, List.nodup_cons, List.nodup_nil, List.not_mem_nil, not_false_eq_true, List.zip_cons_cons, List.zip_nil_right, Nat.reduceAdd, Nat.reduceLeDiff, decide_true, decide_false, Bool.not_true, Bool.not_false, fr0, fr1, fr2, fr3, mk0, mkT1, mkT2, mkT3, e_v0, e_v1, e_v2, e_v3, e_v4, e_v5, e_v6, e_v7, e_v8, e_v9, e_g0, e_g1, e_g2, e_g3, e_g4, e_g5, e_g6, e_g7, e_g8, e_g9, e_s0, e_s1, e_s2, e_s3, e_s4, e_s5, e_s6, e_s7, e_s8, e_s9, e_c, e_nil, e_cons, e_bin, e_call, e_callN, e_test, e_not, e_and, e_or, e_andV, e_orV, e_if, e_isN, e_meth, e_tup, e_lst, e_sl, e_some, e_none, e_scons, e_set, e_ret, e_exp, e_sif, e_asg, e_raise, e_par, o_lt, o_le, o_gt, o_ge, o_sub, o_addI, o_iaddI, o_eqS, o_neS, o_eqI, o_isi, o_s0, o_sI, tyS, bT_ok, bT_exc, Out.bind_ok, Out.bind_exc, Out.bind_bad, Out.st_ok, Out.st_exc, Out.st_bad, OS.andThen_nx, OS.andThen_ret, OS.andThen_brk, OS.andThen_cnt, OS.andThen_exc, OS.andThen_bad, finR_nx, finR_ret, finR_exc, List.getElem?_cons_zero, List.getElem?_cons_succ, List.length_cons, List.length_nil, if_true, if_false, reduceIte, Bool.false_eq_true, List.take_length]
  unfold sTry
  simp only [e_gt, e_gtT, e_gtC, e_gtN, OS.only_nx, OS.only_exc, ca_take, and_self, true_and, and_true, List.nodup_cons, List.nodup_nil, List.not_mem_nil, not_false_eq_true, List.zip_cons_cons, List.zip_nil_right, Nat.reduceAdd, Nat.reduceLeDiff, decide_true, decide_false, Bool.not_true, Bool.not_false, fr0, fr1, fr2, fr3, mk0, mkT1, mkT2, mkT3, e_v0, e_v1, e_v2, e_v3, e_v4, e_v5, e_v6, e_v7, e_v8, e_v9, e_g0, e_g1, e_g2, e_g3, e_g4, e_g5, e_g6, e_g7, e_g8, e_g9, e_s0, e_s1, e_s2, e_s3, e_s4, e_s5, e_s6, e_s7, e_s8, e_s9, e_c, e_nil, e_cons, e_bin, e_call, e_callN, e_test, e_not, e_and, e_or, e_andV, e_orV, e_if, e_isN, e_meth, e_tup, e_lst, e_sl, e_some, e_none, e_scons, e_set, e_ret, e_exp, e_sif, e_asg, e_raise, e_par, o_lt, o_le, o_gt, o_ge, o_sub, o_addI, o_iaddI, o_eqS, o_neS, o_eqI, o_isi, o_s0, o_sI, tyS, bT_ok, bT_exc, Out.bind_ok, Out.bind_exc, Out.bind_bad, Out.st_ok, Out.st_exc, Out.st_bad, OS.andThen_nx, OS.andThen_ret, OS.andThen_brk, OS.andThen_cnt, OS.andThen_exc, OS.andThen_bad, finR_nx, finR_ret, finR_exc, List.getElem?_cons_zero, List.getElem?_cons_succ, List.length_cons, List.length_nil, if_true, if_false, reduceIte, Bool.false_eq_true, List.take_length, t_tokens_of ht hl, h, handle, sb1]
  rw [e_xf (Str.ofString "BadText") (Str.ofString "position") (.int p) (h := rfl)]
  simp only [e_gt, e_gtT, e_gtC, e_gtN, OS.only_nx, OS.only_exc, ca_take, and_self, true_and, and_true, List.nodup_cons, List.nodup_nil, List.not_mem_nil, not_false_eq_true, List.zip_cons_cons, List.zip_nil_right, Nat.reduceAdd, Nat.reduceLeDiff, decide_true, decide_false, Bool.not_true, Bool.not_false, fr0, fr1, fr2, fr3, mk0, mkT1, mkT2, mkT3, e_v0, e_v1, e_v2, e_v3, e_v4, e_v5, e_v6, e_v7, e_v8, e_v9, e_g0, e_g1, e_g2, e_g3, e_g4, e_g5, e_g6, e_g7, e_g8, e_g9, e_s0, e_s1, e_s2, e_s3, e_s4, e_s5, e_s6, e_s7, e_s8, e_s9, e_c, e_nil, e_cons, e_bin, e_call, e_callN, e_test, e_not, e_and, e_or, e_andV, e_orV, e_if, e_isN, e_meth, e_tup, e_lst, e_sl, e_some, e_none, e_scons, e_set, e_ret, e_exp, e_sif, e_asg, e_raise, e_par, o_lt, o_le, o_gt, o_ge, o_sub, o_addI, o_iaddI, o_eqS, o_neS, o_eqI, o_isi, o_s0, o_sI, tyS, bT_ok, bT_exc, Out.bind_ok, Out.bind_exc, Out.bind_bad, Out.st_ok, Out.st_exc, Out.st_bad, OS.andThen_nx, OS.andThen_ret, OS.andThen_brk, OS.andThen_cnt, OS.andThen_exc, OS.andThen_bad, finR_nx, finR_ret, finR_exc, List.getElem?_cons_zero, List.getElem?_cons_succ, List.length_cons, List.length_nil, if_true, if_false, reduceIte, Bool.false_eq_true, List.take_length, o_repr hz, o_isxA sb4]
  rw [unset_nx rfl]
  simp only [e_gt, e_gtT, e_gtC, e_gtN, OS.only_nx, OS.only_exc, ca_take, and_self, true_and, and_true, List.nodup_cons, List.nodup_nil, List.not_mem_nil, not_false_eq_true, List.zip_cons_cons, List.zip_nil_right, Nat.reduceAdd, Nat.reduceLeDiff, decide_true, decide_false, Bool.not_true, Bool.not_false, fr0, fr1, fr2, fr3, mk0, mkT1, mkT2, mkT3, e_v0, e_v1, e_v2, e_v3, e_v4, e_v5, e_v6, e_v7, e_v8, e_v9, e_g0, e_g1, e_g2, e_g3, e_g4, e_g5, e_g6, e_g7, e_g8, e_g9, e_s0, e_s1, e_s2, e_s3, e_s4, e_s5, e_s6, e_s7, e_s8, e_s9, e_c, e_nil, e_cons, e_bin, e_call, e_callN, e_test, e_not, e_and, e_or, e_andV, e_orV, e_if, e_isN, e_meth, e_tup, e_lst, e_sl, e_some, e_none, e_scons, e_set, e_ret, e_exp, e_sif, e_asg, e_raise, e_par, o_lt, o_le, o_gt, o_ge, o_sub, o_addI, o_iaddI, o_eqS, o_neS, o_eqI, o_isi, o_s0, o_sI, tyS, bT_ok, bT_exc, Out.bind_ok, Out.bind_exc, Out.bind_bad, Out.st_ok, Out.st_exc, Out.st_bad, OS.andThen_nx, OS.andThen_ret, OS.andThen_brk, OS.andThen_cnt, OS.andThen_exc, OS.andThen_bad, finR_nx, finR_ret, finR_exc, List.getElem?_cons_zero, List.getElem?_cons_succ, List.length_cons, List.length_nil, if_true, if_false, reduceIte, Bool.false_eq_true, List.take_length]
theorem t_heard_odd {d : D} {z : Str} (c : Cells) (hk : ∀ c, oIsi [.d d, .d (.ty "str")] c = .ok (.d (.bl false)) c) (hz : reprD d = some z) : g__law_heard [.d d] c = .ok (.d (.tup [.str "text", .str z, .bl true])) c := by
  have ht : g_tokens_of [.d d] c = .exc "InvalidText" [("value", d)] c := by
    unfold g_tokens_of
    rw [runB_of [some (.d d), none, none, none, none] rfl]
    unfold d_tokens_of
    simp only [e_gt, e_gtT, e_gtC, e_gtN, OS.only_nx, OS.only_exc, ca_take, and_self, true_and, and_true, List.nodup_cons, List.nodup_nil, List.not_mem_nil, not_false_eq_true, List.zip_cons_cons, List.zip_nil_right, Nat.reduceAdd, Nat.reduceLeDiff, decide_true, decide_false, Bool.not_true, Bool.not_false, fr0, fr1, fr2, fr3, mk0, mkT1, mkT2, mkT3, e_v0, e_v1, e_v2, e_v3, e_v4, e_v5, e_v6, e_v7, e_v8, e_v9, e_g0, e_g1, e_g2, e_g3, e_g4, e_g5, e_g6, e_g7, e_g8, e_g9, e_s0, e_s1, e_s2, e_s3, e_s4, e_s5, e_s6, e_s7, e_s8, e_s9, e_c, e_nil, e_cons, e_bin, e_call, e_callN, e_test, e_not, e_and, e_or, e_andV, e_orV, e_if, e_isN, e_meth, e_tup, e_lst, e_sl, e_some, e_none, e_scons, e_set, e_ret, e_exp, e_sif, e_asg, e_raise, e_par, o_lt, o_le, o_gt, o_ge, o_sub, o_addI, o_iaddI, o_eqS, o_neS, o_eqI, o_isi, o_s0, o_sI, tyS, bT_ok, bT_exc, Out.bind_ok, Out.bind_exc, Out.bind_bad, Out.st_ok, Out.st_exc, Out.st_bad, OS.andThen_nx, OS.andThen_ret, OS.andThen_brk, OS.andThen_cnt, OS.andThen_exc, OS.andThen_bad, finR_nx, finR_ret, finR_exc, List.getElem?_cons_zero, List.getElem?_cons_succ, List.length_cons, List.length_nil, if_true, if_false, reduceIte, Bool.false_eq_true, List.take_length, hk]
  unfold g__law_heard
  rw [runB_of [some (.d d), none, none] rfl]
  unfold d__law_heard
  simp only [e_gt, e_gtT, e_gtC, e_gtN, OS.only_nx, OS.only_exc, ca_take, and_self, true_and, and_true, List.nodup_cons, List.nodup_nil, List.not_mem_nil, not_false_eq_true, List.zip_cons_cons, List.zip_nil_right, Nat.reduceAdd, Nat.reduceLeDiff, decide_true, decide_false, Bool.not_true, Bool.not_false, fr0, fr1, fr2, fr3, mk0, mkT1, mkT2, mkT3, e_v0, e_v1, e_v2, e_v3, e_v4, e_v5, e_v6, e_v7, e_v8, e_v9, e_g0, e_g1, e_g2, e_g3, e_g4, e_g5, e_g6, e_g7, e_g8, e_g9, e_s0, e_s1, e_s2, e_s3, e_s4, e_s5, e_s6, e_s7, e_s8, e_s9, e_c, e_nil, e_cons, e_bin, e_call, e_callN, e_test, e_not, e_and, e_or, e_andV, e_orV, e_if, e_isN, e_meth, e_tup, e_lst, e_sl, e_some, e_none, e_scons, e_set, e_ret, e_exp, e_sif, e_asg, e_raise, e_par, o_lt, o_le, o_gt, o_ge, o_sub, o_addI, o_iaddI, o_eqS, o_neS, o_eqI, o_isi, o_s0, o_sI, tyS, bT_ok, bT_exc, Out.bind_ok, Out.bind_exc, Out.bind_bad, Out.st_ok, Out.st_exc, Out.st_bad, OS.andThen_nx, OS.andThen_ret, OS.andThen_brk, OS.andThen_cnt, OS.andThen_exc, OS.andThen_bad, finR_nx, finR_ret, finR_exc, List.getElem?_cons_zero, List.getElem?_cons_succ, List.length_cons, List.length_nil, if_true, if_false, reduceIte, Bool.false_eq_true, List.take_length]
  unfold sTry
  simp only [e_gt, e_gtT, e_gtC, e_gtN, OS.only_nx, OS.only_exc, ca_take, and_self, true_and, and_true, List.nodup_cons, List.nodup_nil, List.not_mem_nil, not_false_eq_true, List.zip_cons_cons, List.zip_nil_right, Nat.reduceAdd, Nat.reduceLeDiff, decide_true, decide_false, Bool.not_true, Bool.not_false, fr0, fr1, fr2, fr3, mk0, mkT1, mkT2, mkT3, e_v0, e_v1, e_v2, e_v3, e_v4, e_v5, e_v6, e_v7, e_v8, e_v9, e_g0, e_g1, e_g2, e_g3, e_g4, e_g5, e_g6, e_g7, e_g8, e_g9, e_s0, e_s1, e_s2, e_s3, e_s4, e_s5, e_s6, e_s7, e_s8, e_s9, e_c, e_nil, e_cons, e_bin, e_call, e_callN, e_test, e_not, e_and, e_or, e_andV, e_orV, e_if, e_isN, e_meth, e_tup, e_lst, e_sl, e_some, e_none, e_scons, e_set, e_ret, e_exp, e_sif, e_asg, e_raise, e_par, o_lt, o_le, o_gt, o_ge, o_sub, o_addI, o_iaddI, o_eqS, o_neS, o_eqI, o_isi, o_s0, o_sI, tyS, bT_ok, bT_exc, Out.bind_ok, Out.bind_exc, Out.bind_bad, Out.st_ok, Out.st_exc, Out.st_bad, OS.andThen_nx, OS.andThen_ret, OS.andThen_brk, OS.andThen_cnt, OS.andThen_exc, OS.andThen_bad, finR_nx, finR_ret, finR_exc, List.getElem?_cons_zero, List.getElem?_cons_succ, List.length_cons, List.length_nil, if_true, if_false, reduceIte, Bool.false_eq_true, List.take_length, ht, handle, sb2, sb3]
  rw [e_xf (Str.ofString "InvalidText") (Str.ofString "value") d (h := rfl)]
  simp only [e_gt, e_gtT, e_gtC, e_gtN, OS.only_nx, OS.only_exc, ca_take, and_self, true_and, and_true, List.nodup_cons, List.nodup_nil, List.not_mem_nil, not_false_eq_true, List.zip_cons_cons, List.zip_nil_right, Nat.reduceAdd, Nat.reduceLeDiff, decide_true, decide_false, Bool.not_true, Bool.not_false, fr0, fr1, fr2, fr3, mk0, mkT1, mkT2, mkT3, e_v0, e_v1, e_v2, e_v3, e_v4, e_v5, e_v6, e_v7, e_v8, e_v9, e_g0, e_g1, e_g2, e_g3, e_g4, e_g5, e_g6, e_g7, e_g8, e_g9, e_s0, e_s1, e_s2, e_s3, e_s4, e_s5, e_s6, e_s7, e_s8, e_s9, e_c, e_nil, e_cons, e_bin, e_call, e_callN, e_test, e_not, e_and, e_or, e_andV, e_orV, e_if, e_isN, e_meth, e_tup, e_lst, e_sl, e_some, e_none, e_scons, e_set, e_ret, e_exp, e_sif, e_asg, e_raise, e_par, o_lt, o_le, o_gt, o_ge, o_sub, o_addI, o_iaddI, o_eqS, o_neS, o_eqI, o_isi, o_s0, o_sI, tyS, bT_ok, bT_exc, Out.bind_ok, Out.bind_exc, Out.bind_bad, Out.st_ok, Out.st_exc, Out.st_bad, OS.andThen_nx, OS.andThen_ret, OS.andThen_brk, OS.andThen_cnt, OS.andThen_exc, OS.andThen_bad, finR_nx, finR_ret, finR_exc, List.getElem?_cons_zero, List.getElem?_cons_succ, List.length_cons, List.length_nil, if_true, if_false, reduceIte, Bool.false_eq_true, List.take_length, o_repr hz, o_isxA sb5]
  rw [unset_nx rfl]
  simp only [e_gt, e_gtT, e_gtC, e_gtN, OS.only_nx, OS.only_exc, ca_take, and_self, true_and, and_true, List.nodup_cons, List.nodup_nil, List.not_mem_nil, not_false_eq_true, List.zip_cons_cons, List.zip_nil_right, Nat.reduceAdd, Nat.reduceLeDiff, decide_true, decide_false, Bool.not_true, Bool.not_false, fr0, fr1, fr2, fr3, mk0, mkT1, mkT2, mkT3, e_v0, e_v1, e_v2, e_v3, e_v4, e_v5, e_v6, e_v7, e_v8, e_v9, e_g0, e_g1, e_g2, e_g3, e_g4, e_g5, e_g6, e_g7, e_g8, e_g9, e_s0, e_s1, e_s2, e_s3, e_s4, e_s5, e_s6, e_s7, e_s8, e_s9, e_c, e_nil, e_cons, e_bin, e_call, e_callN, e_test, e_not, e_and, e_or, e_andV, e_orV, e_if, e_isN, e_meth, e_tup, e_lst, e_sl, e_some, e_none, e_scons, e_set, e_ret, e_exp, e_sif, e_asg, e_raise, e_par, o_lt, o_le, o_gt, o_ge, o_sub, o_addI, o_iaddI, o_eqS, o_neS, o_eqI, o_isi, o_s0, o_sI, tyS, bT_ok, bT_exc, Out.bind_ok, Out.bind_exc, Out.bind_bad, Out.st_ok, Out.st_exc, Out.st_bad, OS.andThen_nx, OS.andThen_ret, OS.andThen_brk, OS.andThen_cnt, OS.andThen_exc, OS.andThen_bad, finR_nx, finR_ret, finR_exc, List.getElem?_cons_zero, List.getElem?_cons_succ, List.length_cons, List.length_nil, if_true, if_false, reduceIte, Bool.false_eq_true, List.take_length]
/-! ### what is shown -/
theorem int400 : (List.range 401).all (fun p => decide ((PyData.shown (.int p)).length ≤ 13) && decide (((p : Int)).natAbs.log2 ≤ 10) && PyData.strOk (PyData.shown (.int p))) = true := by decide +kernel
theorem int_ok {p : Nat} (h : p ≤ 400) : (PyData.shown (.int p)).length ≤ 13 ∧ ((p : Int)).natAbs.log2 ≤ 10 ∧ PyData.strOk (PyData.shown (.int p)) = true := by
  have := List.all_eq_true.mp int400 p (List.mem_range.mpr (by omega))
  simp only [Bool.and_eq_true, decide_eq_true_eq] at this
  exact ⟨this.1.1, this.1.2, this.2⟩
theorem repr_int {p : Nat} (h : p ≤ 400) : reprD (.int p) = some (PyData.shown (.int p)) := by
  obtain ⟨h1, h2, h3⟩ := int_ok h
  show (if shOk (.int p) = true then some (PyData.shown (.int p)) else none) = _
  rw [if_pos]
  unfold shOk
  simp only [Bool.and_eq_true, decide_eq_true_eq, PyData.showable, PyData.depth]
  exact ⟨⟨by omega, by first | omega | decide | trivial⟩, by omega⟩
theorem ne_self {ds : List D} {ps : List PyData} (h : toPyA ds = some ps) (hs : SeqAt.shaped (.tuple ps) = true) (c : Cells) : oNe (.d (.tup ds)) (.d (.tup ds)) c = .ok (.d (.bl false)) c := by
  have e : eqD (.tup ds) (.tup ds) = some true := by
    show (match toPy (.tup ds), toPy (.tup ds) with
      | some p, some q => if (SeqAt.shaped p && SeqAt.shaped q) = true then some (PyData.eqv p q) else none
      | _, _ => none) = some true
    have : toPy (.tup ds) = some (.tuple ps) := by simp only [toPy, h, Option.map_some]
    rw [this]
    dsimp only
    rw [hs, SeqAt.eqv_refl _ (SeqAt.canLay_of_shaped hs)]
    rfl
  unfold oNe
  simp only [rd_d, e]
  rfl
end Pm

namespace Pm
open PySem L2 PyProof.Rows SX
/-! ### draws -/
abbrev pc (a b : Int) (r : Cells) : Cells := O.lst [.int a, .int b] :: r
theorem p_ix0 (a b : Int) (r : Cells) : oIx (.c 0) (.d (.int 0)) (pc a b r) = .ok (.d (.int a)) (pc a b r) := id rfl
theorem p_ix1 (a b : Int) (r : Cells) : oIx (.c 0) (.d (.int 1)) (pc a b r) = .ok (.d (.int b)) (pc a b r) := id rfl
theorem p_st0 (a b v : Int) (r : Cells) : stL (.c 0) (.d (.int 0)) (.d (.int v)) (pc a b r) = .ok () (pc v b r) := id rfl
theorem p_st1 (a b v : Int) (r : Cells) : stL (.c 0) (.d (.int 1)) (.d (.int v)) (pc a b r) = .ok () (pc a v r) := id rfl
theorem e_gtS (o i : Den) (st : W → W → W → Cells → Out Unit) (w : W) (sl : Sl) (c : Cells) : gtSub o i st w sl c = (o sl c).st sl fun wo c1 => (i sl c1).st sl fun wi c2 => (st wo wi w c2).st sl fun _ c3 => .nx sl c3 := id rfl
theorem log_lt {n : Nat} (h : n < 2 ^ 64) : n.log2 < 64 := by
  by_cases z : n = 0
  · subst z; decide
  · exact (Nat.log2_lt z).mpr h
theorem o_dm {a r : Int} (h : 0 < r) (h2 : r < 2 ^ 60) (c : Cells) : oDivmod [.d (.int a), .d (.int r)] c = .ok (.d (.tup [.int (a / r), .int (a % r)])) c := by
  have hy : Builtin.divisionGoesByPylong a r = false := by
    unfold Builtin.divisionGoesByPylong
    have : r.natAbs.log2 < 64 := log_lt (by omega)
    have h3 : ¬ (r == 0) = true := by simp; omega
    simp only [h3, Bool.false_eq_true, if_false]
    have : decide (r.natAbs.log2 / 30 + 1 > 300) = false := decide_eq_false (by omega)
    rw [this]
    simp
  show (if decide (0 < r ∧ Builtin.divisionGoesByPylong a r = false) = true then _ else _) = _
  rw [if_pos (decide_eq_true ⟨h, hy⟩)]
theorem o_mulS {a b : Int} (h : a.natAbs < 2 ^ 64) (h2 : b.natAbs < 2 ^ 64) (c : Cells) : oMul (.d (.int a)) (.d (.int b)) c = .ok (.d (.int (a * b))) c := by
  show (if decide (a.natAbs.log2 + b.natAbs.log2 < 1000000) = true then _ else _) = _
  have := log_lt h
  have := log_lt h2
  rw [if_pos (decide_eq_true (by omega))]
theorem o_intI (i : Int) (c : Cells) : oInt [.d (.int i)] c = .ok (.d (.int i)) c := id rfl
theorem o_fdiv {a b : Int} (h : 0 < b) (h2 : b < 2 ^ 60) (c : Cells) : oFdiv (.d (.int a)) (.d (.int b)) c = .ok (.d (.int (a / b))) c := by
  show (if decide (0 < b ∧ b.natAbs.log2 < 9000) = true then _ else _) = _
  have : b.natAbs.log2 < 64 := log_lt (by omega)
  rw [if_pos (decide_eq_true ⟨h, by omega⟩)]
def okP (a b : Int) : Prop := 0 ≤ a ∧ 0 ≤ b ∧ b < 2147483648
theorem t_draw {a b : Int} (h : okP a b) (room : Nat) (h1 : 0 < room) (h2 : room ≤ 1000) (r : Cells) : ∃ (v : Nat) (a' b' : Int), v < room ∧ okP a' b' ∧ g__law_draw [.c 0, .d (.int room)] (pc a b r) = .ok (.d (.int v)) (pc a' b' r) := by
  obtain ⟨ha, hb, hb2⟩ := h
  by_cases h0 : 0 < a
  · have m1 := Int.emod_nonneg a (show (room : Int) ≠ 0 by omega)
    have m2 := Int.emod_lt_of_pos a (show 0 < (room : Int) by omega)
    refine ⟨(a % room).toNat, a / room, b, by omega, ⟨Int.ediv_nonneg ha (by omega), hb, hb2⟩, ?_⟩
    unfold g__law_draw
    rw [runB_of [some (.c 0), some (.d (.int room)), none] rfl]
    unfold d__law_draw
    simp only [e_gt, e_gtT, e_gtC, e_gtN, OS.only_nx, OS.only_exc, ca_take, and_self, true_and, and_true, List.nodup_cons, List.nodup_nil, List.not_mem_nil, not_false_eq_true, List.zip_cons_cons, List.zip_nil_right, Nat.reduceAdd, Nat.reduceLeDiff, decide_true, decide_false, Bool.not_true, Bool.not_false, fr0, fr1, fr2, fr3, mk0, mkT1, mkT2, mkT3, e_v0, e_v1, e_v2, e_v3, e_v4, e_v5, e_v6, e_v7, e_v8, e_v9, e_g0, e_g1, e_g2, e_g3, e_g4, e_g5, e_g6, e_g7, e_g8, e_g9, e_s0, e_s1, e_s2, e_s3, e_s4, e_s5, e_s6, e_s7, e_s8, e_s9, e_c, e_nil, e_cons, e_bin, e_call, e_callN, e_test, e_not, e_and, e_or, e_andV, e_orV, e_if, e_isN, e_meth, e_tup, e_lst, e_sl, e_some, e_none, e_scons, e_set, e_ret, e_exp, e_sif, e_asg, e_raise, e_par, o_lt, o_le, o_gt, o_ge, o_sub, o_addI, o_iaddI, o_eqS, o_neS, o_eqI, o_isi, o_s0, o_sI, tyS, bT_ok, bT_exc, Out.bind_ok, Out.bind_exc, Out.bind_bad, Out.st_ok, Out.st_exc, Out.st_bad, OS.andThen_nx, OS.andThen_ret, OS.andThen_brk, OS.andThen_cnt, OS.andThen_exc, OS.andThen_bad, finR_nx, finR_ret, finR_exc, List.getElem?_cons_zero, List.getElem?_cons_succ, List.length_cons, List.length_nil, if_true, if_false, reduceIte, Bool.false_eq_true, List.take_length, p_ix0, decide_eq_true h0, o_dm (a := a) (show 0 < (room : Int) by omega) (show (room : Int) < 2 ^ 60 by omega), e_gtS, p_st0]
    rw [show ((a % (room : Int)).toNat : Int) = a % room by omega]
    simp
  · obtain ⟨b1, hb1⟩ : ∃ b1, b1 = (b * 48271 + 18126) % 2147483587 := ⟨_, rfl⟩
    have k1 : 0 ≤ b1 := by rw [hb1]; exact Int.emod_nonneg _ (by decide)
    have k2 : b1 < 2147483587 := by rw [hb1]; exact Int.emod_lt_of_pos _ (by decide)
    obtain ⟨y, hy⟩ : ∃ y, y = b1 * b1 % 2147483549 := ⟨_, rfl⟩
    obtain ⟨x, hx⟩ : ∃ x, x = y / 71 := ⟨_, rfl⟩
    have m1 := Int.emod_nonneg x (show (room : Int) ≠ 0 by omega)
    have m2 := Int.emod_lt_of_pos x (show 0 < (room : Int) by omega)
    refine ⟨(x % room).toNat, a, b1, by omega, ⟨ha, k1, by omega⟩, ?_⟩
    unfold g__law_draw
    rw [runB_of [some (.c 0), some (.d (.int room)), none] rfl]
    unfold d__law_draw
    have q1 := fun c => o_mulS (a := b) (b := 48271) (by omega) (by decide) c
    have q2 : ∀ c, oMod (.d (.int (b * 48271 + 18126))) (.d (.int 2147483587)) c = .ok (.d (.int b1)) c := fun c => by rw [hb1]; exact o_mod c _ _ (by decide)
    have q3 := fun c => o_mulS (a := b1) (b := b1) (by omega) (by omega) c
    have q4 : ∀ c, oMod (.d (.int (b1 * b1))) (.d (.int 2147483549)) c = .ok (.d (.int y)) c := fun c => by rw [hy]; exact o_mod c _ _ (by decide)
    have q5 : ∀ c, oFdiv (.d (.int y)) (.d (.int 71)) c = .ok (.d (.int x)) c := fun c => by rw [hx]; exact o_fdiv (by decide) (by decide) c
    have q6 : ∀ c, oMod (.d (.int x)) (.d (.int room)) c = .ok (.d (.int (x % room))) c := fun c => o_mod c _ _ (by omega)
    have e0 : (((x % (room : Int)).toNat : Nat) : Int) = x % room := by omega
    rw [e0]
    simp only [e_gt, e_gtT, e_gtC, e_gtN, OS.only_nx, OS.only_exc, ca_take, and_self, true_and, and_true, List.nodup_cons, List.nodup_nil, List.not_mem_nil, not_false_eq_true, List.zip_cons_cons, List.zip_nil_right, Nat.reduceAdd, Nat.reduceLeDiff, decide_true, decide_false, Bool.not_true, Bool.not_false, fr0, fr1, fr2, fr3, mk0, mkT1, mkT2, mkT3, e_v0, e_v1, e_v2, e_v3, e_v4, e_v5, e_v6, e_v7, e_v8, e_v9, e_g0, e_g1, e_g2, e_g3, e_g4, e_g5, e_g6, e_g7, e_g8, e_g9, e_s0, e_s1, e_s2, e_s3, e_s4, e_s5, e_s6, e_s7, e_s8, e_s9, e_c, e_nil, e_cons, e_bin, e_call, e_callN, e_test, e_not, e_and, e_or, e_andV, e_orV, e_if, e_isN, e_meth, e_tup, e_lst, e_sl, e_some, e_none, e_scons, e_set, e_ret, e_exp, e_sif, e_asg, e_raise, e_par, o_lt, o_le, o_gt, o_ge, o_sub, o_addI, o_iaddI, o_eqS, o_neS, o_eqI, o_isi, o_s0, o_sI, tyS, bT_ok, bT_exc, Out.bind_ok, Out.bind_exc, Out.bind_bad, Out.st_ok, Out.st_exc, Out.st_bad, OS.andThen_nx, OS.andThen_ret, OS.andThen_brk, OS.andThen_cnt, OS.andThen_exc, OS.andThen_bad, finR_nx, finR_ret, finR_exc, List.getElem?_cons_zero, List.getElem?_cons_succ, List.length_cons, List.length_nil, if_true, if_false, reduceIte, Bool.false_eq_true, List.take_length, p_ix0, p_ix1, decide_eq_false h0, q1, q2, q3, q4, q5, q6, o_intI, e_gtS, p_st1]
    simp
end Pm

namespace Pm
open PySem L2 PyProof.Rows SX
def dStrs : List Str → Sl → Cells → Out (List W)
  | [] => dNil
  | s :: l => dCons (dC (.str s)) (dStrs l)
theorem e_strs (sl : Sl) (c : Cells) : ∀ xs : List Str, dStrs xs sl c = .ok (xs.map fun s => .d (.str s)) c
  | [] => rfl
  | s :: l => by
    unfold dStrs
    rw [e_cons, e_c, Out.bind_ok, e_strs sl c l, Out.bind_ok]
    rfl
theorem frz_ds (c : Cells) : ∀ ds : List D, frzAll (ds.map W.d) c = .ok ds c
  | [] => rfl
  | d :: ds => by
    show (Out.ok d c).bind _ = _
    rw [Out.bind_ok, frz_ds c ds]
    rfl
theorem e_lstS (sl : Sl) (a b : Int) (r : Cells) (xs : List Str) (h : xs.length ≤ 1000) : dLst (dStrs xs) sl (pc a b r) = .ok (.c (r.length + 1)) (pc a b (r ++ [.lst (xs.map D.str)])) := by
  rw [e_lst, e_strs, Out.bind_ok]
  have : (xs.map fun s => W.d (D.str s)) = (xs.map D.str).map W.d := by rw [List.map_map]; rfl
  rw [this, frz_ds, Out.bind_ok, mkL_of _ (by rw [List.length_map]; omega)]
  rfl
theorem p_len {k : Nat} {ds : List D} {a b : Int} {r : Cells} (hk : r[k]? = some (.lst ds)) : oLen [.c (k + 1)] (pc a b r) = .ok (.d (.int ds.length)) (pc a b r) := by
  have : rd (pc a b r) (.c (k + 1)) = some (.lst ds) := by
    show ((pc a b r)[k + 1]?).map O.val = _
    rw [List.getElem?_cons_succ, hk]
    rfl
  unfold oLen
  dsimp only
  rw [this]
theorem p_ix {k v : Nat} {ds : List D} {d : D} {a b : Int} {r : Cells} (hk : r[k]? = some (.lst ds)) (hv : ds[v]? = some d) : oIx (.c (k + 1)) (.d (.int v)) (pc a b r) = .ok (.d d) (pc a b r) := by
  have : rd (pc a b r) (.c (k + 1)) = some (.lst ds) := by
    show ((pc a b r)[k + 1]?).map O.val = _
    rw [List.getElem?_cons_succ, hk]
    rfl
  unfold oIx
  rw [this]
  dsimp only
  have hl := (List.getElem?_eq_some_iff.mp hv).1
  have : atI ds (v : Int) = some d := by
    unfold atI ixN
    rw [if_pos (by omega), if_pos (by omega)]
    simpa using hv
  rw [this]
def okS (L : Nat) (s : Str) : Bool := s.cps.toList.all (fun c => decide (c < 128)) && decide (s.cps.toList.length ≤ L)
theorem t_pickG {f : Den} {xs : List Str} {k L : Nat} {a b : Int} {r r' : Cells} {sl : Sl} (h : okP a b) (hf : f (some (.c 0) :: sl) (pc a b r) = .ok (.c (k + 1)) (pc a b r')) (hk : r'[k]? = some (.lst (xs.map D.str))) (h1 : 0 < xs.length) (h2 : xs.length ≤ 1000) (h3 : xs.all (okS L) = true) :
    ∃ u a' b', asc u ∧ u.length ≤ L ∧ okP a' b' ∧ dCallN 2 g__law_pick (dCons (dVar 0) (dCons f dNil)) (some (.c 0) :: sl) (pc a b r) = .ok (.d (.str (S u))) (pc a' b' r') := by
  obtain ⟨v, a', b', hv, ok, e⟩ := t_draw h xs.length h1 h2 r'
  have hx : (xs.map D.str)[v]? = some (.str xs[v]) := by simp [hv]
  have hs := List.all_eq_true.mp h3 xs[v] (List.getElem_mem hv)
  unfold okS at hs
  rw [Bool.and_eq_true, List.all_eq_true, decide_eq_true_eq] at hs
  refine ⟨xs[v].cps.toList, a', b', fun c hc => of_decide_eq_true (hs.1 c hc), hs.2, ok, ?_⟩
  rw [S_tl]
  simp only [e_gt, e_gtT, e_gtC, e_gtN, OS.only_nx, OS.only_exc, ca_take, and_self, true_and, and_true, List.nodup_cons, List.nodup_nil, List.not_mem_nil, not_false_eq_true, List.zip_cons_cons, List.zip_nil_right, Nat.reduceAdd, Nat.reduceLeDiff, decide_true, decide_false, Bool.not_true, Bool.not_false, fr0, fr1, fr2, fr3, mk0, mkT1, mkT2, mkT3, e_v0, e_v1, e_v2, e_v3, e_v4, e_v5, e_v6, e_v7, e_v8, e_v9, e_g0, e_g1, e_g2, e_g3, e_g4, e_g5, e_g6, e_g7, e_g8, e_g9, e_s0, e_s1, e_s2, e_s3, e_s4, e_s5, e_s6, e_s7, e_s8, e_s9, e_c, e_nil, e_cons, e_bin, e_call, e_callN, e_test, e_not, e_and, e_or, e_andV, e_orV, e_if, e_isN, e_meth, e_tup, e_lst, e_sl, e_some, e_none, e_scons, e_set, e_ret, e_exp, e_sif, e_asg, e_raise, e_par, o_lt, o_le, o_gt, o_ge, o_sub, o_addI, o_iaddI, o_eqS, o_neS, o_eqI, o_isi, o_s0, o_sI, tyS, bT_ok, bT_exc, Out.bind_ok, Out.bind_exc, Out.bind_bad, Out.st_ok, Out.st_exc, Out.st_bad, OS.andThen_nx, OS.andThen_ret, OS.andThen_brk, OS.andThen_cnt, OS.andThen_exc, OS.andThen_bad, finR_nx, finR_ret, finR_exc, List.getElem?_cons_zero, List.getElem?_cons_succ, List.length_cons, List.length_nil, if_true, if_false, reduceIte, Bool.false_eq_true, List.take_length, hf]
  unfold g__law_pick
  rw [runB_of [some (.c 0), some (.c (k + 1))] rfl]
  unfold d__law_pick
  have pl := p_len (a := a) (b := b) hk
  rw [List.length_map] at pl
  simp only [e_gt, e_gtT, e_gtC, e_gtN, OS.only_nx, OS.only_exc, ca_take, and_self, true_and, and_true, List.nodup_cons, List.nodup_nil, List.not_mem_nil, not_false_eq_true, List.zip_cons_cons, List.zip_nil_right, Nat.reduceAdd, Nat.reduceLeDiff, decide_true, decide_false, Bool.not_true, Bool.not_false, fr0, fr1, fr2, fr3, mk0, mkT1, mkT2, mkT3, e_v0, e_v1, e_v2, e_v3, e_v4, e_v5, e_v6, e_v7, e_v8, e_v9, e_g0, e_g1, e_g2, e_g3, e_g4, e_g5, e_g6, e_g7, e_g8, e_g9, e_s0, e_s1, e_s2, e_s3, e_s4, e_s5, e_s6, e_s7, e_s8, e_s9, e_c, e_nil, e_cons, e_bin, e_call, e_callN, e_test, e_not, e_and, e_or, e_andV, e_orV, e_if, e_isN, e_meth, e_tup, e_lst, e_sl, e_some, e_none, e_scons, e_set, e_ret, e_exp, e_sif, e_asg, e_raise, e_par, o_lt, o_le, o_gt, o_ge, o_sub, o_addI, o_iaddI, o_eqS, o_neS, o_eqI, o_isi, o_s0, o_sI, tyS, bT_ok, bT_exc, Out.bind_ok, Out.bind_exc, Out.bind_bad, Out.st_ok, Out.st_exc, Out.st_bad, OS.andThen_nx, OS.andThen_ret, OS.andThen_brk, OS.andThen_cnt, OS.andThen_exc, OS.andThen_bad, finR_nx, finR_ret, finR_exc, List.getElem?_cons_zero, List.getElem?_cons_succ, List.length_cons, List.length_nil, if_true, if_false, reduceIte, Bool.false_eq_true, List.take_length, pl, e, p_ix hk hx]
  exact congrArg (Out.ok _) (List.take_of_length_le (by simp))
theorem pc_take (a b a' b' : Int) (r e : Cells) : (pc a b (r ++ e)).take (pc a' b' r).length = pc a b r := by simp
theorem ret_then (f : Den) (sl : Sl) (c : Cells) (g : SDen) : (sRet f sl c).andThen g = sRet f sl c := by
  unfold sRet
  cases f sl c <;> rfl
def lp1 : List Str := (["x", "f1", "aB9", "matches", "a234567890b234567890", "a234567890b234567890c", "ends", "in1"] : List String).map Str.ofString
def lp2 : List Str := (["M", "Some", "M.x", "M.Nil", "M.fn", "M.", "M.1", "M .x", "A.B.c", "Fn", "M.a234567890b234567890c"] : List String).map Str.ofString
def lp3 : List Str := (["0", "7", "2147483647", "2147483648", "00", "012", "12ab", "1x", "9999999999", "999999999"] : List String).map Str.ofString
def lp4 : List Str := (["~5", "~0", "~2147483648", "~2147483649", "~", "~ 5", "~x", "~01", "~7a", "~~3"] : List String).map Str.ofString
def lp5 : List Str := (["(", ")", ",", ";", "|", "_", "'", "!", "+", "-", "*", "/", "=", "<", "<=", ":=", "->", ":", ">", "<=>", "=<", "--", "_x", ".", "#", "# x (\n"] : List String).map Str.ofString
theorem t_piece {a b : Int} (h : okP a b) (r : Cells) : ∃ u a' b', asc u ∧ u.length ≤ 24 ∧ okP a' b' ∧ g__law_piece [.c 0] (pc a b r) = .ok (.d (.str (S u))) (pc a' b' r) := by
  obtain ⟨v, a1, b1, hv, ok1, e1⟩ := t_draw h 6 (by decide) (by decide) r
  have e1' : g__law_draw [.c 0, .d (.int 6)] (pc a b r) = .ok (.d (.int v)) (pc a1 b1 r) := e1
  have gk : ∀ (x : O), (r ++ [x])[r.length]? = some x := fun x => by simp
  have run : ∀ (f : Den) (r' : Cells) (sl : Sl), (∃ u a' b', asc u ∧ u.length ≤ 24 ∧ okP a' b' ∧ f sl (pc a1 b1 r) = .ok (.d (.str (S u))) (pc a' b' (r ++ r'))) → ∃ u a' b', asc u ∧ u.length ≤ 24 ∧ okP a' b' ∧ finR (pc a b r).length (sRet f sl (pc a1 b1 r)) = .ok (.d (.str (S u))) (pc a' b' r) := by
    rintro f r' sl ⟨u, a', b', h1, h2, h3, e⟩
    refine ⟨u, a', b', h1, h2, h3, ?_⟩
    rw [e_ret, e]
    simp only [Out.st_ok, finR_ret, pc_take]
  unfold g__law_piece
  rw [runB_of [some (.c 0), none, none] rfl]
  unfold d__law_piece
  have n6 : v = 0 ∨ v = 1 ∨ v = 2 ∨ v = 3 ∨ v = 4 ∨ v = 5 := by omega
  simp only [e_scons, e_set, e_callN, e_cons, e_v0, e_c, e_nil, Out.bind_ok, List.length_cons, List.length_nil, Nat.reduceAdd, if_true, e1', Out.st_ok, OS.andThen_nx, e_s1]
  rcases n6 with rfl | rfl | rfl | rfl | rfl | rfl
  · have q0 : ∀ c, oEq (.d (.int ((0 : Nat) : Int))) (.d (.int 0)) c = .ok (.d (.bl true)) c := fun c => rfl
    simp only [e_scons, e_sif, e_test, e_bin, e_v1, e_c, Out.bind_ok, bT_ok, Out.st_ok, OS.andThen_nx, reduceIte, Bool.false_eq_true, ret_then, q0]
    exact run _ [.lst (k_KEYWORDS.map D.str)] _ (t_pickG (xs := k_KEYWORDS) (k := r.length) ok1 (by simp only [e_callN, e_nil, Out.bind_ok, List.length_nil, if_true, reduceIte]; exact t_words _) (gk _) (by decide +kernel) (by decide +kernel) (by decide +kernel))
  · have q0 : ∀ c, oEq (.d (.int ((1 : Nat) : Int))) (.d (.int 0)) c = .ok (.d (.bl false)) c := fun c => rfl
    have q1 : ∀ c, oEq (.d (.int ((1 : Nat) : Int))) (.d (.int 1)) c = .ok (.d (.bl true)) c := fun c => rfl
    simp only [e_scons, e_sif, e_test, e_bin, e_v1, e_c, Out.bind_ok, bT_ok, Out.st_ok, OS.andThen_nx, reduceIte, Bool.false_eq_true, ret_then, q0, q1]
    exact run _ [.lst (lp1.map D.str)] _ (t_pickG (xs := lp1) (k := r.length) ok1 (e_lstS _ a1 b1 r lp1 (by decide +kernel)) (gk _) (by decide +kernel) (by decide +kernel) (by decide +kernel))
  · have q0 : ∀ c, oEq (.d (.int ((2 : Nat) : Int))) (.d (.int 0)) c = .ok (.d (.bl false)) c := fun c => rfl
    have q1 : ∀ c, oEq (.d (.int ((2 : Nat) : Int))) (.d (.int 1)) c = .ok (.d (.bl false)) c := fun c => rfl
    have q2 : ∀ c, oEq (.d (.int ((2 : Nat) : Int))) (.d (.int 2)) c = .ok (.d (.bl true)) c := fun c => rfl
    simp only [e_scons, e_sif, e_test, e_bin, e_v1, e_c, Out.bind_ok, bT_ok, Out.st_ok, OS.andThen_nx, reduceIte, Bool.false_eq_true, ret_then, q0, q1, q2]
    exact run _ [.lst (lp2.map D.str)] _ (t_pickG (xs := lp2) (k := r.length) ok1 (e_lstS _ a1 b1 r lp2 (by decide +kernel)) (gk _) (by decide +kernel) (by decide +kernel) (by decide +kernel))
  · have q0 : ∀ c, oEq (.d (.int ((3 : Nat) : Int))) (.d (.int 0)) c = .ok (.d (.bl false)) c := fun c => rfl
    have q1 : ∀ c, oEq (.d (.int ((3 : Nat) : Int))) (.d (.int 1)) c = .ok (.d (.bl false)) c := fun c => rfl
    have q2 : ∀ c, oEq (.d (.int ((3 : Nat) : Int))) (.d (.int 2)) c = .ok (.d (.bl false)) c := fun c => rfl
    have q3 : ∀ c, oEq (.d (.int ((3 : Nat) : Int))) (.d (.int 3)) c = .ok (.d (.bl true)) c := fun c => rfl
    simp only [e_scons, e_sif, e_test, e_bin, e_v1, e_c, Out.bind_ok, bT_ok, Out.st_ok, OS.andThen_nx, reduceIte, Bool.false_eq_true, ret_then, q0, q1, q2, q3]
    rw [e_set]
    have hl := e_lstS [some (.c 0), some (.d (.int ((3 : Nat) : Int))), none] a1 b1 r lp3 (by decide +kernel)
    erw [hl]
    simp only [Out.st_ok, OS.andThen_nx, e_s2, ret_then]
    obtain ⟨u, a', b', g1, g2, g3, e⟩ := t_pickG (f := dVar 2) (xs := lp3) (k := r.length) (L := 24) (r := r ++ [.lst (lp3.map D.str)]) (sl := [some (.d (.int ((3 : Nat) : Int))), some (.c (r.length + 1))]) ok1 rfl (gk _) (by decide +kernel) (by decide +kernel) (by decide +kernel)
    refine ⟨u, a', b', g1, g2, g3, ?_⟩
    rw [e_ret, e]
    simp only [Out.st_ok, finR_ret]
    exact congrArg (Out.ok _) (pc_take a' b' a b r _)
  · have q0 : ∀ c, oEq (.d (.int ((4 : Nat) : Int))) (.d (.int 0)) c = .ok (.d (.bl false)) c := fun c => rfl
    have q1 : ∀ c, oEq (.d (.int ((4 : Nat) : Int))) (.d (.int 1)) c = .ok (.d (.bl false)) c := fun c => rfl
    have q2 : ∀ c, oEq (.d (.int ((4 : Nat) : Int))) (.d (.int 2)) c = .ok (.d (.bl false)) c := fun c => rfl
    have q3 : ∀ c, oEq (.d (.int ((4 : Nat) : Int))) (.d (.int 3)) c = .ok (.d (.bl false)) c := fun c => rfl
    have q4 : ∀ c, oEq (.d (.int ((4 : Nat) : Int))) (.d (.int 4)) c = .ok (.d (.bl true)) c := fun c => rfl
    simp only [e_scons, e_sif, e_test, e_bin, e_v1, e_c, Out.bind_ok, bT_ok, Out.st_ok, OS.andThen_nx, reduceIte, Bool.false_eq_true, ret_then, q0, q1, q2, q3, q4]
    exact run _ [.lst (lp4.map D.str)] _ (t_pickG (xs := lp4) (k := r.length) ok1 (e_lstS _ a1 b1 r lp4 (by decide +kernel)) (gk _) (by decide +kernel) (by decide +kernel) (by decide +kernel))
  · have q0 : ∀ c, oEq (.d (.int ((5 : Nat) : Int))) (.d (.int 0)) c = .ok (.d (.bl false)) c := fun c => rfl
    have q1 : ∀ c, oEq (.d (.int ((5 : Nat) : Int))) (.d (.int 1)) c = .ok (.d (.bl false)) c := fun c => rfl
    have q2 : ∀ c, oEq (.d (.int ((5 : Nat) : Int))) (.d (.int 2)) c = .ok (.d (.bl false)) c := fun c => rfl
    have q3 : ∀ c, oEq (.d (.int ((5 : Nat) : Int))) (.d (.int 3)) c = .ok (.d (.bl false)) c := fun c => rfl
    have q4 : ∀ c, oEq (.d (.int ((5 : Nat) : Int))) (.d (.int 4)) c = .ok (.d (.bl false)) c := fun c => rfl
    simp only [e_scons, e_sif, e_test, e_bin, e_v1, e_c, Out.bind_ok, bT_ok, Out.st_ok, OS.andThen_nx, reduceIte, Bool.false_eq_true, ret_then, q0, q1, q2, q3, q4]
    exact run _ [.lst (lp5.map D.str)] _ (t_pickG (xs := lp5) (k := r.length) ok1 (e_lstS _ a1 b1 r lp5 (by decide +kernel)) (gk _) (by decide +kernel) (by decide +kernel) (by decide +kernel))
end Pm

namespace Pm
open PySem L2 PyProof.Rows SX
def lpS : List Str := ([" ", " ", " ", "\n", "", "  "] : List String).map Str.ofString
def lpI : List Str := (["?", "a", "0", " ", "~", ".", "=", "", "#", "# ", "@"] : List String).map Str.ofString
theorem two62 : ((2 : Int) ^ 62) = 4611686018427387904 := by decide +kernel
theorem e_rng {as : Sl → Cells → Out (List W)} {sl : Sl} {c c1 : Cells} {j : Int} (h : as sl c = .ok [.d (.int j)] c1) (h0 : 0 ≤ j) (h1 : j ≤ 1000) : iRng1D as sl c = .ok (rngItems 0 j.toNat) c1 := by
  unfold iRng1D
  rw [h, Out.bind_ok]
  dsimp only
  rw [if_pos]
  rw [two62]
  constructor
  · omega
  · omega
theorem e_for1 {as : Sl → Cells → Out (List W)} {g : W → SDen} {b : SDen} {sl : Sl} {c c1 : Cells} {j : Int} {o : OS} (h : as sl c = .ok [.d (.int j)] c1) (h0 : 0 ≤ j) (h1 : j ≤ 1000) (k : ∀ M, 1001 < M → loopF (rngItems 0 j.toNat) g b M 0 sl c1 = o) : sFor (iRng1D as) g b sl c = o := by
  unfold sFor
  rw [e_rng h h0 h1, Out.st_ok]
  exact k bigN (by unfold bigN; omega)
theorem asc.append {a b : List Nat} (h : asc a) (k : asc b) : asc (a ++ b) := fun c hc => by
  rcases List.mem_append.mp hc with z | z
  · exact h c z
  · exact k c z
theorem cut_to (t : List Nat) (q : Nat) : cutS (S t) none (some q) = S (t.take q) := by
  have := cut_S t 0 q
  rw [List.drop_zero, Nat.sub_zero] at this
  rw [← this]
  unfold cutS
  rw [show HT.sIx (S t).length 0 (some ((0 : Nat) : Int)) = 0 by rw [HT.sIx_nat, Nat.zero_min], HT.sIx_none]
theorem cut_from (t : List Nat) (p : Nat) : cutS (S t) (some p) none = S (t.drop p) := by
  unfold cutS
  have hl : (S t).length = t.length := S_len t
  have e : (S t).cps.toList = t := rfl
  rw [HT.sIx_nat, HT.sIx_none, e, hl]
  refine congrArg S ?_
  by_cases h : p ≤ t.length
  · rw [Nat.min_eq_left h, List.take_of_length_le (by rw [List.length_drop]; omega)]
  · rw [Nat.min_eq_right (show t.length ≤ p by omega), List.drop_eq_nil_of_le (Nat.le_refl _), List.drop_eq_nil_of_le (show t.length ≤ p by omega)]
    simp
theorem o_slT (t : List Nat) (q : Nat) (c : Cells) (h : t.length ≤ 1000000) : oSl (.d (.str (S t))) none (some q) c = .ok (.d (.str (S (t.take q)))) c := by
  show (if smL (S t).length = true then _ else _) = _
  rw [S_len, if_pos (smL_of h), cut_to]
theorem o_slF (t : List Nat) (p : Nat) (c : Cells) (h : t.length ≤ 1000000) : oSl (.d (.str (S t))) (some p) none c = .ok (.d (.str (S (t.drop p)))) c := by
  show (if smL (S t).length = true then _ else _) = _
  rw [S_len, if_pos (smL_of h), cut_from]
theorem loopF_rng (n : Nat) (g : W → SDen) (b : SDen) (m i : Nat) (sl : Sl) (c : Cells) (h : i < n) : loopF (rngItems 0 n) g b (m + 1) i sl c = (g (.d (.int i)) sl c).only.andThen fun sl1 c1 => match b sl1 c1 with
      | .nx sl2 c2 => loopF (rngItems 0 n) g b m (i + 1) sl2 c2
      | .cnt sl2 c2 => loopF (rngItems 0 n) g b m (i + 1) sl2 c2
      | .brk sl2 c2 => .nx sl2 c2
      | .ret w c2 => .ret w c2
      | .exc sl2 x pl c2 => .exc sl2 x pl c2
      | .bad => .bad := by
  have : rngItems 0 n i c = some (some (.int i)) := by
    unfold rngItems
    rw [if_pos h, Int.zero_add]
  rw [loopF]
  dsimp only
  rw [this]
  all_goals rfl
theorem loopF_rng0 (n : Nat) (g : W → SDen) (b : SDen) (m i : Nat) (sl : Sl) (c : Cells) (h : ¬ i < n) : loopF (rngItems 0 n) g b (m + 1) i sl c = .nx sl c := by
  have : rngItems 0 n i c = some none := by
    unfold rngItems
    rw [if_neg h]
  rw [loopF]
  dsimp only
  rw [this]
theorem gkA (r : Cells) (x : O) : (r ++ [x])[r.length]? = some x := by simp
theorem t_body : ∀ (u : List Nat) (w2 w3 : Option W) (a b : Int) (r : Cells), asc u → u.length ≤ 300 → okP a b → ∃ u' a' b' x, asc u' ∧ u'.length ≤ u.length + 26 ∧ okP a' b' ∧
    sSet 1 (dBin oAdd (dBin oAdd (dVar 1) (dCallN 1 g__law_piece (dCons (dVar 0) dNil))) (dCallN 2 g__law_pick (dCons (dVar 0) (dCons (dLst (dStrs lpS)) dNil)))) [some (.c 0), some (.d (.str (S u))), w2, w3] (pc a b r)
      = .nx [some (.c 0), some (.d (.str (S u'))), w2, w3] (pc a' b' (r ++ [x])) := by
  intro u w2 w3 a b r hu hl ok
  obtain ⟨p, a2, b2, p1, p2, ok2, e2⟩ := t_piece ok r
  obtain ⟨s, a3, b3, s1, s2, ok3, e3⟩ := t_pickG (sl := [some (.d (.str (S u))), w2, w3]) (xs := lpS) (L := 2) (k := r.length) ok2 (e_lstS _ a2 b2 r lpS (by decide +kernel)) (gkA _ _) (by decide +kernel) (by decide +kernel) (by decide +kernel)
  refine ⟨u ++ p ++ s, a3, b3, .lst (lpS.map D.str), (hu.append p1).append s1, by simp; omega, ok3, ?_⟩
  rw [e_set, e_bin, e_bin]
  simp only [e_v1, Out.bind_ok]
  rw [e_callN, e_cons]
  simp only [e_v0, e_nil, Out.bind_ok, List.length_cons, List.length_nil, Nat.reduceAdd, if_true, reduceIte, e2, o_addS _ u p (by omega), e3, o_addS _ (u ++ p) s (by simp; omega), Out.st_ok, e_s1]
theorem t_loop (r : Cells) : ∀ (d i m : Nat) (n : Nat) (u : List Nat) (w2 w3 : Option W) (a b : Int) (ext : Cells), n ≤ 9 → n - i = d → d < m → asc u → u.length ≤ 26 * i → i ≤ n → okP a b → ∃ u' w2' a' b' ext', asc u' ∧ u'.length ≤ 234 ∧ okP a' b' ∧
    loopF (rngItems 0 n) (gtName 2) (sSet 1 (dBin oAdd (dBin oAdd (dVar 1) (dCallN 1 g__law_piece (dCons (dVar 0) dNil))) (dCallN 2 g__law_pick (dCons (dVar 0) (dCons (dLst (dStrs lpS)) dNil))))) m i [some (.c 0), some (.d (.str (S u))), w2, w3] (pc a b (r ++ ext))
      = .nx [some (.c 0), some (.d (.str (S u'))), w2', w3] (pc a' b' (r ++ ext')) := by
  intro d
  induction d with
  | zero =>
    intro i m n u w2 w3 a b ext hn hd hm hu hl hi ok
    obtain ⟨m, rfl⟩ : ∃ k, m = k + 1 := ⟨m - 1, by omega⟩
    rw [loopF_rng0 _ _ _ _ _ _ _ (by omega)]
    exact ⟨u, w2, a, b, ext, hu, by omega, ok, rfl⟩
  | succ d ih =>
    intro i m n u w2 w3 a b ext hn hd hm hu hl hi ok
    obtain ⟨m, rfl⟩ : ∃ k, m = k + 1 := ⟨m - 1, by omega⟩
    rw [loopF_rng _ _ _ _ _ _ _ (by omega)]
    obtain ⟨u1, a1, b1, x, g1, g2, g3, e⟩   := t_body u (some (.d (.int i))) w3 a b (r ++ ext) hu (by omega) ok
    simp only [e_gt, e_s2, OS.only_nx, OS.andThen_nx, e]
    rw [List.append_assoc]
    exact ih (i + 1) m n u1 _ w3 a1 b1 (ext ++ [x]) hn (by omega) (by omega) g1 (by omega) (by omega) g3
theorem t_text {a b : Int} (h : okP a b) (r : Cells) : ∃ u a' b', asc u ∧ u.length ≤ 400 ∧ okP a' b' ∧ g__law_text [.c 0] (pc a b r) = .ok (.d (.str (S u))) (pc a' b' r) := by
  have gk : ∀ (r : Cells) (x : O), (r ++ [x])[r.length]? = some x := fun r x => by simp
  unfold g__law_text
  rw [runB_of [some (.c 0), none, none, none] rfl]
  unfold d__law_text
  obtain ⟨v, a1, b1, hv, ok1, e1⟩ := t_draw h 9 (by decide) (by decide) r
  have e1' : g__law_draw [.c 0, .d (.int 9)] (pc a b r) = .ok (.d (.int v)) (pc a1 b1 r) := e1
  have loop := t_loop r
  have fin2 : ∀ (u : List Nat) (a b a0 b0 : Int) (ext : Cells) (w2 w3 : Option W), asc u → u.length ≤ 400 → okP a b → ∃ u' a' b', asc u' ∧ u'.length ≤ 400 ∧ okP a' b' ∧ finR (pc a0 b0 r).length (sRet (dVar 1) [some (.c 0), some (.d (.str (S u))), w2, w3] (pc a b (r ++ ext))) = .ok (.d (.str (S u'))) (pc a' b' r) := by
    intro u a b a0 b0 ext w2 w3 hu hl ok
    refine ⟨u, a, b, hu, hl, ok, ?_⟩
    simp only [e_ret, e_v1, Out.st_ok, finR_ret]
    exact congrArg (Out.ok _) (pc_take a b a0 b0 r ext)
  have key : ∃ u w2 a2 b2 ext, asc u ∧ u.length ≤ 234 ∧ okP a2 b2 ∧ sFor (iRng1D (dCons (dBin oAdd (dC (.int 1)) (dCallN 2 g__law_draw (dCons (dVar 0) (dCons (dC (.int 9)) dNil)))) dNil)) (gtName 2) (sSet 1 (dBin oAdd (dBin oAdd (dVar 1) (dCallN 1 g__law_piece (dCons (dVar 0) dNil))) (dCallN 2 g__law_pick (dCons (dVar 0) (dCons (dLst (dStrs lpS)) dNil))))) [some (.c 0), some (.d (.str (Str.ofString ""))), none, none] (pc a b r)
      = .nx [some (.c 0), some (.d (.str (S u))), w2, none] (pc a2 b2 (r ++ ext)) := by
    have ex : ∀ M, ∃ u w2 a2 b2 ext, 1001 < M → asc u ∧ u.length ≤ 234 ∧ okP a2 b2 ∧ loopF (rngItems 0 (1 + v)) (gtName 2) (sSet 1 (dBin oAdd (dBin oAdd (dVar 1) (dCallN 1 g__law_piece (dCons (dVar 0) dNil))) (dCallN 2 g__law_pick (dCons (dVar 0) (dCons (dLst (dStrs lpS)) dNil))))) M 0 [some (.c 0), some (.d (.str (S []))), none, none] (pc a1 b1 r)
        = .nx [some (.c 0), some (.d (.str (S u))), w2, none] (pc a2 b2 (r ++ ext)) := by
      intro M
      by_cases hM : 1001 < M
      · obtain ⟨u, w2, a2, b2, ext, g1, g2, ok2, eL⟩ := loop (1 + v) 0 M (1 + v) [] none none a1 b1 [] (by omega) (Nat.sub_zero _) (by omega) (fun c hc => by cases hc) (Nat.zero_le _) (Nat.zero_le _) ok1
        rw [List.append_nil] at eL
        exact ⟨u, w2, a2, b2, ext, fun _ => ⟨g1, g2, ok2, eL⟩⟩
      · exact ⟨[], none, 0, 0, [], fun z => absurd z hM⟩
    obtain ⟨u, w2, a2, b2, ext, hh⟩ := ex bigN
    obtain ⟨g1, g2, ok2, eL⟩ := hh (by unfold bigN; omega)
    refine ⟨u, w2, a2, b2, ext, g1, g2, ok2, ?_⟩
    rw [k_e]
    unfold sFor
    rw [e_rng (c1 := pc a1 b1 r) (j := 1 + v) (by simp only [e_cons, e_bin, e_c, e_nil, e_callN, e_v0, Out.bind_ok, List.length_cons, List.length_nil, Nat.reduceAdd, reduceIte, e1', o_addI]) (by omega) (by omega), Out.st_ok]
    rw [show ((1 : Int) + (v : Int)).toNat = 1 + v by omega]
    exact eL
  obtain ⟨u, w2, a2, b2, ext, g1, g2, ok2, eF⟩ := key
  rw [e_scons, e_set, e_c]
  simp only [Out.st_ok, OS.andThen_nx, e_s1]
  rw [e_scons]
  erw [eF]
  rw [OS.andThen_nx]
  obtain ⟨z, a3, b3, hz, ok3, e3⟩ := t_draw ok2 3 (by decide) (by decide) (r ++ ext)
  have e3' : g__law_draw [.c 0, .d (.int 3)] (pc a2 b2 (r ++ ext)) = .ok (.d (.int z)) (pc a3 b3 (r ++ ext)) := e3
  rw [e_scons, e_sif]
  simp only [e_test, e_bin, e_callN, e_cons, e_v0, e_c, e_nil, Out.bind_ok, List.length_cons, List.length_nil, Nat.reduceAdd, reduceIte, e3', o_eqI, bT_ok, Out.st_ok]
  by_cases hz0 : z = 0
  · have : decide ((z : Int) = 0) = true := decide_eq_true (by omega)
    rw [this]
    simp only [reduceIte]
    obtain ⟨y, a4, b4, hy, ok4, e4⟩ := t_draw ok3 (u.length + 1) (by omega) (by omega) (r ++ ext)
    have e4' : g__law_draw [.c 0, .d (.int ((u.length : Int) + 1))] (pc a3 b3 (r ++ ext)) = .ok (.d (.int y)) (pc a4 b4 (r ++ ext)) := by
      rw [show ((u.length : Int) + 1) = ((u.length + 1 : Nat) : Int) by omega]; exact e4
    obtain ⟨s, a5, b5, s1, s2, ok5, e5⟩ := t_pickG (sl := [some (.d (.str (S u))), w2, some (.d (.int y))]) (xs := lpI) (L := 2) (k := (r ++ ext).length) ok4 (e_lstS _ a4 b4 (r ++ ext) lpI (by decide +kernel)) (gk _ _) (by decide +kernel) (by decide +kernel) (by decide +kernel)
    obtain ⟨x, a6, b6, hx, ok6, e6⟩ := t_draw ok5 2 (by decide) (by decide) ((r ++ ext) ++ [.lst (lpI.map D.str)])
    have e6' : g__law_draw [.c 0, .d (.int 2)] (pc a5 b5 ((r ++ ext) ++ [.lst (lpI.map D.str)])) = .ok (.d (.int x)) (pc a6 b6 ((r ++ ext) ++ [.lst (lpI.map D.str)])) := e6
    have hul : u.length ≤ 1000000 := by omega
    rw [e_scons, e_set]
    simp only [e_callN, e_cons, e_bin, e_call, e_v0, e_v1, e_c, e_nil, Out.bind_ok, List.length_cons, List.length_nil, Nat.reduceAdd, reduceIte, o_len _ u hul, o_addI, e4', Out.st_ok, OS.andThen_nx, e_s3]
    rw [e_set, e_bin, e_bin, e_sl]
    simp only [e_v1, e_none, e_some, e_v3, Out.bind_ok, o_slT u _ _ hul]
    erw [e5]
    simp only [Out.bind_ok, o_addS _ (u.take y) s (by rw [List.length_take]; omega)]
    rw [e_sl]
    simp only [e_v1, e_none, e_some, e_v3, e_bin, e_callN, e_cons, e_v0, e_c, e_nil, Out.bind_ok, List.length_cons, List.length_nil, Nat.reduceAdd, reduceIte, e6', o_addI]
    rw [show ((y : Int) + (x : Int)) = ((y + x : Nat) : Int) by omega]
    simp only [o_slF u _ _ hul, Out.bind_ok, o_addS _ (u.take y ++ s) (u.drop (y + x)) (by rw [List.length_append, List.length_take, List.length_drop]; omega), Out.st_ok, e_s1, OS.andThen_nx]
    rw [List.append_assoc r ext]
    exact fin2 _ a6 b6 a b _ _ _ (((g1.take y).append s1).append (g1.drop (y + x))) (by rw [List.length_append, List.length_append, List.length_take, List.length_drop]; omega) ok6
  · have : decide ((z : Int) = 0) = false := decide_eq_false (by omega)
    rw [this]
    simp only [Bool.false_eq_true, reduceIte, OS.andThen_nx]
    exact fin2 u a3 b3 a b ext _ _ g1 (by omega) ok3
end Pm

namespace Pm
open PySem L2 PyProof.Rows SX
def KN : List Str := (["number", "word", "name", "big", "sign"] : List String).map Str.ofString
theorem kn_ok : KN.all (fun k => decide (k.cps.size ≤ 6) && k.cps.toList.all (fun c => decide (c < 16 ^ 8))) = true := by decide +kernel
theorem kn0 : Str.ofString "number" ∈ KN := by decide +kernel
theorem kn1 : Str.ofString "word" ∈ KN := by decide +kernel
theorem kn2 : Str.ofString "name" ∈ KN := by decide +kernel
theorem kn3 : Str.ofString "big" ∈ KN := by decide +kernel
theorem kn4 : Str.ofString "sign" ∈ KN := by decide +kernel
theorem tok_kn {l : List Nat} {k : Str} {n : Nat} (h : tok l = some (k, n)) : k ∈ KN := by
  unfold tok at h
  by_cases hr : run l ≠ []
  · simp only [hr, if_true, ne_eq, not_false_eq_true] at h
    repeat' split at h
    all_goals first | (cases h; first | exact kn0 | exact kn1 | exact kn2 | exact kn3 | exact kn4) | cases h
  · simp only [hr, if_false] at h
    repeat' split at h
    all_goals first | (cases h; first | exact kn0 | exact kn4) | cases h
def okTk (d : D) : Prop := ∃ (k : Str) (u : List Nat) (n : Nat), d = .tup [.str k, .str (S u), .int n] ∧ k ∈ KN ∧ asc u ∧ u.length ≤ 400 ∧ n ≤ 400
theorem lex_ok {t : List Nat} (ht : asc t) (hl : t.length ≤ 400) : ∀ (m n : Nat) (acc : List D), (∀ d ∈ acc, okTk d) → (∀ d ∈ (lex t m n acc).1, okTk d) ∧ (lex t m n acc).1.length ≤ acc.length + m ∧ ∀ p, (lex t m n acc).2 = some p → p < t.length
  | 0, n, acc, h => ⟨h, Nat.le_refl _, fun p e => by cases e⟩
  | m + 1, n, acc, h => by
    unfold lex
    split
    · rename_i hn
      split
      · obtain ⟨a, b, c⟩ := lex_ok ht hl m (n + 1) acc h
        exact ⟨a, by omega, c⟩
      · split
        · obtain ⟨a, b, c⟩ := lex_ok ht hl m (n + twl (· != 10) t n) acc h
          exact ⟨a, by omega, c⟩
        · split
          · rename_i k l htok
            have hk := tok_kn htok
            have : okTk (tkD t n k l) := ⟨k, (t.drop n).take l, n, rfl, hk, (ht.drop n).take l, by rw [List.length_take, List.length_drop]; omega, by omega⟩
            obtain ⟨a, b, c⟩ := lex_ok ht hl m (n + l) (acc ++ [tkD t n k l]) (fun d hd => by
              rcases List.mem_append.mp hd with z | z
              · exact h d z
              · rw [List.mem_singleton.mp z]; exact this)
            refine ⟨a, ?_, c⟩
            rw [List.length_append] at b
            simp at b
            omega
          · exact ⟨h, Nat.le_add_right _ _, fun p e => by cases e; exact hn⟩
    · exact ⟨h, Nat.le_add_right _ _, fun p e => by cases e⟩
theorem tk_py : ∀ (acc : List D), (∀ d ∈ acc, okTk d) → ∃ ps, toPyA acc = some ps ∧ PyData.showableAll ps = true ∧ PyData.depthAll ps ≤ 1 ∧ PyData.leavesShortAll 13 ps = true ∧ PyData.weightAll ps ≤ 450 * acc.length
  | [], _ => ⟨[], rfl, rfl, Nat.zero_le _, rfl, Nat.zero_le _⟩
  | d :: acc, h => by
    obtain ⟨ps, e, a1, a2, a3, a4⟩ := tk_py acc fun d hd => h d (List.mem_cons_of_mem _ hd)
    obtain ⟨k, u, n, rfl, hk, hu, hul, hn⟩ := h d List.mem_cons_self
    have kk := List.all_eq_true.mp kn_ok k hk
    rw [Bool.and_eq_true, decide_eq_true_eq] at kk
    obtain ⟨i1, i2, i3⟩ := int_ok hn
    have hS : (S u).cps.toList.all (fun c => decide (c < 16 ^ 8)) = true := by
      rw [List.all_eq_true]
      intro c hc
      exact decide_eq_true (Nat.lt_of_lt_of_le (hu c hc) (by decide))
    have hsz : (S u).cps.size = u.length := by simp [S]
    refine ⟨.tuple [.str k, .str (S u), .int n] :: ps, ?_, ?_, ?_, ?_, ?_⟩
    · simp only [toPyA, toPy, Option.map_some, e]
    · simp only [PyData.showableAll, PyData.showable, a1, Bool.and_true, Bool.true_and]
      exact decide_eq_true (by omega)
    · simp only [PyData.depthAll, PyData.depth]
      omega
    · simp only [PyData.leavesShortAll, PyData.leavesShort, kk.2, hS, a3, Bool.and_true, Bool.true_and]
      exact decide_eq_true i1
    · simp only [PyData.weightAll, PyData.weight, hsz, List.length_cons]
      split <;> omega
theorem repr_lst {acc : List D} (h : ∀ d ∈ acc, okTk d) (hl : acc.length ≤ 500) : ∃ z, reprD (.lst acc) = some z := by
  obtain ⟨ps, e, a1, a2, a3, a4⟩ := tk_py acc h
  have hp : toPy (.lst acc) = some (.list ps) := by simp only [toPy, e, Option.map_some]
  refine ⟨(PyData.list ps).shown, ?_⟩
  · show (match toPy (.lst acc) with
      | some p => if shOk p = true then some p.shown else none
      | none => none) = _
    rw [hp]
    dsimp only
    rw [if_pos]
    have lv : (PyData.list ps).leavesShort 13 = true := by simp only [PyData.leavesShort]; exact a3
    have sl := PyData.shown_le 13 (by decide) (.list ps) lv
    have w : (PyData.list ps).weight = PyData.weightAll ps := by simp only [PyData.weight]
    unfold shOk
    simp only [Bool.and_eq_true, decide_eq_true_eq]
    refine ⟨⟨by simp only [PyData.showable]; exact a1, by simp only [PyData.depth]; omega⟩, ?_⟩
    rw [w] at sl
    omega
end Pm

namespace Pm
open PySem L2 PyProof.Rows SX
theorem loopF_const {item : Items} {ds : List D} {g : W → SDen} {b : SDen} {c : Cells} {P : Sl → Prop} (hi : ∀ i, item i c = some ds[i]?) (hb : ∀ d ∈ ds, ∀ sl, P sl → ∃ sl1 sl2, P sl2 ∧ g (.d d) sl c = .nx sl1 c ∧ b sl1 c = .nx sl2 c) :
    ∀ (es : List D) (m i : Nat) (sl : Sl), ds.drop i = es → es.length < m → P sl → ∃ sl', P sl' ∧ loopF item g b m i sl c = .nx sl' c
  | [], m, i, sl, e, h, hp => by
    obtain ⟨m, rfl⟩ : ∃ k, m = k + 1 := ⟨m - 1, by omega⟩
    have : ds[i]? = none := List.getElem?_eq_none (List.drop_eq_nil_iff.mp e)
    refine ⟨sl, hp, ?_⟩
    unfold loopF
    rw [hi, this]
  | d :: es, m, i, sl, e, h, hp => by
    obtain ⟨m, rfl⟩ : ∃ k, m = k + 1 := ⟨m - 1, by omega⟩
    have hlt : i < ds.length := by
      rcases Nat.lt_or_ge i ds.length with h2 | h2
      · exact h2
      · rw [List.drop_eq_nil_of_le h2] at e; cases e
    have e2 := List.drop_eq_getElem_cons hlt
    rw [e] at e2
    injection e2 with e3 e4
    have e5 : ds[i]? = some d := by rw [e3]; simp [hlt]
    obtain ⟨sl1, sl2, p2, q1, q2⟩ := hb d (List.mem_of_getElem? e5) sl hp
    obtain ⟨sl', p3, q3⟩ := loopF_const hi hb es m (i + 1) sl2 e4.symm (by simp at h; omega) p2
    refine ⟨sl', p3, ?_⟩
    unfold loopF
    rw [hi, e5]
    dsimp only
    rw [q1, OS.only_nx, OS.andThen_nx, q2]
    exact q3
def odds : List D := [.non, .int 5, .bl true, .lst [], .tup [.str "x"], .dic []]
def oddB : SDen := sIf (dTest (dBin oNe (dCallN 1 g__law_heard (dCons (dVar 1) dNil)) (dTup (dCons (dC (.str "text")) (dCons (dCall oRepr (dCons (dVar 1) dNil)) (dCons (dC (.bl true)) dNil)))))) (sRet (dC (.bl false))) OS.nx
theorem odd_one {d : D} {z : Str} (hk : ∀ c, oIsi [.d d, .d (.ty "str")] c = .ok (.d (.bl false)) c) (hz : reprD d = some z) (hs : SeqAt.shaped (.tuple [.str "text", .str z, .bool true]) = true) (a0 a2 a3 a4 a5 a6 : Option W) (c : Cells) : oddB [a0, some (.d d), a2, a3, a4, a5, a6] c = .nx [a0, some (.d d), a2, a3, a4, a5, a6] c := by
  unfold oddB
  have ne := fun c => ne_self (ds := [.str "text", .str z, .bl true]) (ps := [.str "text", .str z, .bool true]) rfl hs c
  simp only [e_gt, e_gtT, e_gtC, e_gtN, OS.only_nx, OS.only_exc, ca_take, and_self, true_and, and_true, List.nodup_cons, List.nodup_nil, List.not_mem_nil, not_false_eq_true, List.zip_cons_cons, List.zip_nil_right, Nat.reduceAdd, Nat.reduceLeDiff, decide_true, decide_false, Bool.not_true, Bool.not_false, fr0, fr1, fr2, fr3, mk0, mkT1, mkT2, mkT3, e_v0, e_v1, e_v2, e_v3, e_v4, e_v5, e_v6, e_v7, e_v8, e_v9, e_g0, e_g1, e_g2, e_g3, e_g4, e_g5, e_g6, e_g7, e_g8, e_g9, e_s0, e_s1, e_s2, e_s3, e_s4, e_s5, e_s6, e_s7, e_s8, e_s9, e_c, e_nil, e_cons, e_bin, e_call, e_callN, e_test, e_not, e_and, e_or, e_andV, e_orV, e_if, e_isN, e_meth, e_tup, e_lst, e_sl, e_some, e_none, e_scons, e_set, e_ret, e_exp, e_sif, e_asg, e_raise, e_par, o_lt, o_le, o_gt, o_ge, o_sub, o_addI, o_iaddI, o_eqS, o_neS, o_eqI, o_isi, o_s0, o_sI, tyS, bT_ok, bT_exc, Out.bind_ok, Out.bind_exc, Out.bind_bad, Out.st_ok, Out.st_exc, Out.st_bad, OS.andThen_nx, OS.andThen_ret, OS.andThen_brk, OS.andThen_cnt, OS.andThen_exc, OS.andThen_bad, finR_nx, finR_ret, finR_exc, List.getElem?_cons_zero, List.getElem?_cons_succ, List.length_cons, List.length_nil, if_true, if_false, reduceIte, Bool.false_eq_true, List.take_length, t_heard_odd _ hk hz, o_repr hz, ne]
theorem odd_all : ∀ d ∈ odds, ∃ z, (∀ c, oIsi [.d d, .d (.ty "str")] c = .ok (.d (.bl false)) c) ∧ reprD d = some z ∧ SeqAt.shaped (.tuple [.str "text", .str z, .bool true]) = true := by
  intro d hd
  simp only [odds, List.mem_cons, List.not_mem_nil, or_false] at hd
  rcases hd with rfl | rfl | rfl | rfl | rfl | rfl
  · exact ⟨"None", fun c => rfl, by decide +kernel, by decide +kernel⟩
  · exact ⟨"5", fun c => rfl, by decide +kernel, by decide +kernel⟩
  · exact ⟨"True", fun c => rfl, by decide +kernel, by decide +kernel⟩
  · exact ⟨"[]", fun c => rfl, by decide +kernel, by decide +kernel⟩
  · exact ⟨"('x',)", fun c => rfl, by decide +kernel, by decide +kernel⟩
  · exact ⟨"{}", fun c => rfl, by decide +kernel, by decide +kernel⟩
theorem e_callK (n : Nat) (is : List Nat) (g : List W → Cells → Out W) (as : Sl → Cells → Out (List W)) (sl : Sl) (c : Cells) : dCallK n is g as sl c = (as sl c).bind fun ws c1 => if (perm is ws).length = n then g (perm is ws) c1 else .bad := rfl
theorem perm1 (w : W) : perm [0] [w] = [w] := rfl
def turnB : SDen := (sCons (sSet 3 (dCallN 1 g__law_text (dCons (dVar 0) dNil)))
    (sCons (sAsg (dCallN 1 g__law_tokens (dCons (dVar 3) dNil)) (gtTup 2 (gtCons (gtName 4) (gtCons (gtName 5) gtNil))))
    (sCons (sSet 6 (dCallN 1 g__law_heard (dCons (dVar 3) dNil)))
    (sIf (dTest (dBin oGe (dVar 5) (dC (.int 0)))) (sIf (dTest (dBin oNe (dVar 6) (dTup (dCons (dCall oRepr (dCons (dVar 5) dNil)) (dCons (dC (.bl true)) dNil))))) (sRet (dC (.bl false))) OS.nx) (sCons (sIf (dTest (dBin oNe (dCall oRepr (dCons (dVar 6) dNil)) (dCall oRepr (dCons (dVar 4) dNil)))) (sRet (dC (.bl false))) OS.nx)
    (sCons (sExp (dMeth "list" oAppend (dVar 6) (dCons (dC .non) dNil)))
    (sIf (dTest (dBin oNe (dCall oRepr (dCons (dCallK 1 [0] g_tokens_of (dCons (dVar 3) dNil)) dNil)) (dCall oRepr (dCons (dVar 4) dNil)))) (sRet (dC (.bl false))) OS.nx)))))))
theorem t_turn {a b : Int} (h : okP a b) (r : Cells) (w1 w2 w3 w4 w5 w6 : Option W) : ∃ a' b' x w3' w4' w5' w6', okP a' b' ∧ turnB [some (.c 0), w1, w2, w3, w4, w5, w6] (pc a b r) = .nx [some (.c 0), w1, w2, w3', w4', w5', w6'] (pc a' b' (r ++ x)) := by
  obtain ⟨u, a1, b1, hu, hl, ok, e⟩ := t_text h r
  unfold turnB
  obtain ⟨lx1, lx2, lx3⟩ := lex_ok hu hl (u.length + 1) 0 [] (fun d hd => by cases hd)
  cases hlex : lex u (u.length + 1) 0 [] with
  | mk acc o =>
    rw [hlex] at lx1 lx2 lx3
    have hacc : acc.length ≤ 500 := by simp at lx2; omega
    cases o with
    | some p =>
      have hp : p ≤ 400 := by have := lx3 p rfl; omega
      have hz := repr_int hp
      have e1 : decide ((0 : Int) ≤ (p : Int)) = true := decide_eq_true (by omega)
      have hs : SeqAt.shaped (.tuple [.str (PyData.shown (.int p)), .bool true]) = true := by
        have := (int_ok hp).2.2
        simp [SeqAt.shaped, PyData.canLay0, PyData.canLayAll0, PyData.depth, PyData.depthAll, this]
      have ne := fun c => ne_self (ds := [.str (PyData.shown (.int p)), .bl true]) (ps := [.str (PyData.shown (.int p)), .bool true]) rfl hs c
      refine ⟨a1, b1, [], some (.d (.str (S u))), some (.d (.lst acc)), some (.d (.int p)), some (.d (.tup [.str (PyData.shown (.int p)), .bl true])), ok, ?_⟩
      simp only [e_gt, e_gtT, e_gtC, e_gtN, OS.only_nx, OS.only_exc, ca_take, and_self, true_and, and_true, List.nodup_cons, List.nodup_nil, List.not_mem_nil, not_false_eq_true, List.zip_cons_cons, List.zip_nil_right, Nat.reduceAdd, Nat.reduceLeDiff, decide_true, decide_false, Bool.not_true, Bool.not_false, fr0, fr1, fr2, fr3, mk0, mkT1, mkT2, mkT3, e_v0, e_v1, e_v2, e_v3, e_v4, e_v5, e_v6, e_v7, e_v8, e_v9, e_g0, e_g1, e_g2, e_g3, e_g4, e_g5, e_g6, e_g7, e_g8, e_g9, e_s0, e_s1, e_s2, e_s3, e_s4, e_s5, e_s6, e_s7, e_s8, e_s9, e_c, e_nil, e_cons, e_bin, e_call, e_callN, e_test, e_not, e_and, e_or, e_andV, e_orV, e_if, e_isN, e_meth, e_tup, e_lst, e_sl, e_some, e_none, e_scons, e_set, e_ret, e_exp, e_sif, e_asg, e_raise, e_par, o_lt, o_le, o_gt, o_ge, o_sub, o_addI, o_iaddI, o_eqS, o_neS, o_eqI, o_isi, o_s0, o_sI, tyS, bT_ok, bT_exc, Out.bind_ok, Out.bind_exc, Out.bind_bad, Out.st_ok, Out.st_exc, Out.st_bad, OS.andThen_nx, OS.andThen_ret, OS.andThen_brk, OS.andThen_cnt, OS.andThen_exc, OS.andThen_bad, finR_nx, finR_ret, finR_exc, List.getElem?_cons_zero, List.getElem?_cons_succ, List.length_cons, List.length_nil, if_true, if_false, reduceIte, Bool.false_eq_true, List.take_length, e, t_ltokens hl, hlex, t_heard_bad hu hl _ hlex hz, e1, o_repr hz, ne, List.append_nil]
    | none =>
      obtain ⟨z, hz⟩ := repr_lst lx1 hacc
      have e1 : decide ((0 : Int) ≤ -1) = false := by decide
      refine ⟨a1, b1, [.lst (acc ++ [.non]), .lst acc], some (.d (.str (S u))), some (.d (.lst acc)), some (.d (.int (-1))), some (.c (pc a1 b1 r).length), ok, ?_⟩
      have efin : pc a1 b1 (r ++ [.lst (acc ++ [.non]), .lst acc]) = (pc a1 b1 r ++ [O.lst (acc ++ [.non])]) ++ [O.lst acc] := by simp
      rw [efin]
      generalize hC : pc a1 b1 r = C at e ⊢
      have hd := t_heard_ok hu hl C hlex
      have tk := fun c => t_tokens_of hu hl c
      rw [hlex] at tk
      dsimp only at tk
      have ap := o_app C acc .non (show acc.length < 1000000 by omega)
      have r1 := o_reprC hz C
      have r2 := o_reprC hz (C ++ [O.lst (acc ++ [.non])])
      have ty := ca_ty C acc
      simp only [e_gt, e_gtT, e_gtC, e_gtN, OS.only_nx, OS.only_exc, ca_take, and_self, true_and, and_true, List.nodup_cons, List.nodup_nil, List.not_mem_nil, not_false_eq_true, List.zip_cons_cons, List.zip_nil_right, Nat.reduceAdd, Nat.reduceLeDiff, decide_true, decide_false, Bool.not_true, Bool.not_false, fr0, fr1, fr2, fr3, mk0, mkT1, mkT2, mkT3, e_v0, e_v1, e_v2, e_v3, e_v4, e_v5, e_v6, e_v7, e_v8, e_v9, e_g0, e_g1, e_g2, e_g3, e_g4, e_g5, e_g6, e_g7, e_g8, e_g9, e_s0, e_s1, e_s2, e_s3, e_s4, e_s5, e_s6, e_s7, e_s8, e_s9, e_c, e_nil, e_cons, e_bin, e_call, e_callN, e_test, e_not, e_and, e_or, e_andV, e_orV, e_if, e_isN, e_meth, e_tup, e_lst, e_sl, e_some, e_none, e_scons, e_set, e_ret, e_exp, e_sif, e_asg, e_raise, e_par, o_lt, o_le, o_gt, o_ge, o_sub, o_addI, o_iaddI, o_eqS, o_neS, o_eqI, o_isi, o_s0, o_sI, tyS, bT_ok, bT_exc, Out.bind_ok, Out.bind_exc, Out.bind_bad, Out.st_ok, Out.st_exc, Out.st_bad, OS.andThen_nx, OS.andThen_ret, OS.andThen_brk, OS.andThen_cnt, OS.andThen_exc, OS.andThen_bad, finR_nx, finR_ret, finR_exc, List.getElem?_cons_zero, List.getElem?_cons_succ, List.length_cons, List.length_nil, if_true, if_false, reduceIte, Bool.false_eq_true, List.take_length, e, t_ltokens hl, hlex, hd, e1, r1, o_repr hz, dke, ty, ap, e_callK, perm1, tk, r2]
end Pm

namespace Pm
open PySem L2 PyProof.Rows SX
def law_tail : SDen := (sRet (dAndV (dBin oEq (dCallN 1 g_tokens_of (dCons (dC (.str "")) dNil)) (dLst dNil)) (dBin oEq (dCallN 1 g_tokens_of (dCons (dC (.str " \n ")) dNil)) (dLst dNil))))
theorem o_eq00 (c : Cells) : oEq (.c c.length) (.c (c ++ [O.lst []]).length) ((c ++ [.lst []]) ++ [.lst []]) = .ok (.d (.bl true)) ((c ++ [.lst []]) ++ [.lst []]) := by
  have r1 : rd ((c ++ [.lst []]) ++ [.lst []]) (.c c.length) = some (.lst []) := by
    show (((c ++ [O.lst []]) ++ [O.lst []])[c.length]?).map O.val = _
    rw [List.getElem?_append_left (by simp), ca_get]
    rfl
  have r2 := ca_rd (c ++ [.lst []]) []
  unfold oEq
  rw [r1, r2]
  rfl
theorem k_b3 : Str.ofString " \n " = S [32, 10, 32] := by decide +kernel
theorem lex0 : lex [] 1 0 [] = ([], none) := rfl
theorem lex3 : lex [32, 10, 32] 4 0 [] = ([], none) := rfl
theorem t_tail (sl : Sl) (c : Cells) : ∃ c', law_tail sl c = .ret (.d (.bl true)) c' := by
  have t0 : ∀ c, g_tokens_of [.d (.str (S []))] c = .ok (.c c.length) (c ++ [.lst []]) := fun c => by
    rw [t_tokens_of (t := []) (fun c hc => by cases hc) (by simp) c]
    rfl
  have t3 : ∀ c, g_tokens_of [.d (.str (S [32, 10, 32]))] c = .ok (.c c.length) (c ++ [.lst []]) := fun c => by
    rw [t_tokens_of (t := [32, 10, 32]) (fun c hc => by simp at hc; omega) (by simp) c]
    rfl
  unfold law_tail
  simp only [e_gt, e_gtT, e_gtC, e_gtN, OS.only_nx, OS.only_exc, ca_take, and_self, true_and, and_true, List.nodup_cons, List.nodup_nil, List.not_mem_nil, not_false_eq_true, List.zip_cons_cons, List.zip_nil_right, Nat.reduceAdd, Nat.reduceLeDiff, decide_true, decide_false, Bool.not_true, Bool.not_false, fr0, fr1, fr2, fr3, mk0, mkT1, mkT2, mkT3, e_v0, e_v1, e_v2, e_v3, e_v4, e_v5, e_v6, e_v7, e_v8, e_v9, e_g0, e_g1, e_g2, e_g3, e_g4, e_g5, e_g6, e_g7, e_g8, e_g9, e_s0, e_s1, e_s2, e_s3, e_s4, e_s5, e_s6, e_s7, e_s8, e_s9, e_c, e_nil, e_cons, e_bin, e_call, e_callN, e_test, e_not, e_and, e_or, e_andV, e_orV, e_if, e_isN, e_meth, e_tup, e_lst, e_sl, e_some, e_none, e_scons, e_set, e_ret, e_exp, e_sif, e_asg, e_raise, e_par, o_lt, o_le, o_gt, o_ge, o_sub, o_addI, o_iaddI, o_eqS, o_neS, o_eqI, o_isi, o_s0, o_sI, tyS, bT_ok, bT_exc, Out.bind_ok, Out.bind_exc, Out.bind_bad, Out.st_ok, Out.st_exc, Out.st_bad, OS.andThen_nx, OS.andThen_ret, OS.andThen_brk, OS.andThen_cnt, OS.andThen_exc, OS.andThen_bad, finR_nx, finR_ret, finR_exc, List.getElem?_cons_zero, List.getElem?_cons_succ, List.length_cons, List.length_nil, if_true, if_false, reduceIte, Bool.false_eq_true, List.take_length, k_e, k_b3, t0, t3, o_eq00]
  exact ⟨_, rfl⟩
end Pm

namespace Pm
open PySem L2 PyProof.Rows SX
theorem e_forLst {f : Den} {g : W → SDen} {b : SDen} {sl : Sl} {c c1 : Cells} {w : W} {ds : List D} {o : OS} (h : f sl c = .ok w c1) (hr : rd c1 w = some (.lst ds)) (k : loopF (lstItems w) g b bigN 0 sl c1 = o) : sFor (iLst f) g b sl c = o := by
  have e : iLst f sl c = .ok (lstItems w) c1 := by
    unfold iLst
    rw [h, Out.bind_ok, hr]
  have e2 : sFor (iLst f) g b sl c = (iLst f sl c).st sl fun item c1 => loopF item g b bigN 0 sl c1 := rfl
  rw [e2, e, Out.st_ok]
  exact k
theorem t_right {a b : Int} (h : okP a b) : ∃ c', g__law_right [.c 0] (pc a b []) = .ok (.d (.bl true)) c' := by
  unfold g__law_right
  rw [runB_of [some (.c 0), none, none, none, none, none, none] rfl]
  have e : d__law_right = sCons (sFor (iLst (dLst (dCons (dC .non) (dCons (dC (.int 5)) (dCons (dC (.bl true)) (dCons (dLst dNil) (dCons (dTup (dCons (dC (.str "x")) dNil)) (dCons dDic dNil)))))))) (gtName 1) oddB) (sCons (sFor (iRng1D (dCons (dC (.int 8)) dNil)) (gtName 2) turnB) law_tail) := rfl
  rw [e]
  have d1 : dLst (dCons (dC .non) (dCons (dC (.int 5)) (dCons (dC (.bl true)) (dCons (dLst dNil) (dCons (dTup (dCons (dC (.str "x")) dNil)) (dCons dDic dNil)))))) [some (.c 0), none, none, none, none, none, none] (pc a b []) = .ok (.c 3) (pc a b [.frz (.lst []), .frz (.dic []), .lst odds]) := rfl
  have f1 : ∃ w1, sFor (iLst (dLst (dCons (dC .non) (dCons (dC (.int 5)) (dCons (dC (.bl true)) (dCons (dLst dNil) (dCons (dTup (dCons (dC (.str "x")) dNil)) (dCons dDic dNil)))))))) (gtName 1) oddB [some (.c 0), none, none, none, none, none, none] (pc a b [])
      = .nx [some (.c 0), w1, none, none, none, none, none] (pc a b [.frz (.lst []), .frz (.dic []), .lst odds]) := by
    obtain ⟨sl', ⟨w1, hw⟩, q⟩ := loopF_const (item := lstItems (.c 3)) (ds := odds) (g := gtName 1) (b := oddB) (c := pc a b [.frz (.lst []), .frz (.dic []), .lst odds]) (P := fun sl => ∃ w1, sl = [some (.c 0), w1, none, none, none, none, none])
      (fun i => rfl) (fun d hd sl ⟨w1, hw⟩ => by
        subst hw
        obtain ⟨z, z1, z2, z3⟩ := odd_all d hd
        exact ⟨[some (.c 0), some (.d d), none, none, none, none, none], _, ⟨_, rfl⟩, rfl, odd_one z1 z2 z3 _ _ _ _ _ _ _⟩)
      odds bigN 0 [some (.c 0), none, none, none, none, none, none] rfl (by unfold bigN; decide) ⟨_, rfl⟩
    subst hw
    exact ⟨w1, e_forLst d1 rfl q⟩
  obtain ⟨w1, f1⟩ := f1
  have lp : ∀ (d i m : Nat) (w2 w3 w4 w5 w6 : Option W) (a b : Int) (r : Cells), 8 - i = d → d < m → okP a b → ∃ sl' c', loopF (rngItems 0 8) (gtName 2) turnB m i [some (.c 0), w1, w2, w3, w4, w5, w6] (pc a b r) = .nx sl' c' := by
    intro d
    induction d with
    | zero =>
      intro i m w2 w3 w4 w5 w6 a b r hd hm ok
      obtain ⟨m, rfl⟩ : ∃ k, m = k + 1 := ⟨m - 1, by omega⟩
      rw [loopF_rng0 _ _ _ _ _ _ _ (by omega)]
      exact ⟨_, _, rfl⟩
    | succ d ih =>
      intro i m w2 w3 w4 w5 w6 a b r hd hm ok
      obtain ⟨m, rfl⟩ : ∃ k, m = k + 1 := ⟨m - 1, by omega⟩
      rw [loopF_rng _ _ _ _ _ _ _ (by omega)]
      obtain ⟨a', b', x, w3', w4', w5', w6', ok', e⟩ := t_turn ok r w1 (some (.d (.int i))) w3 w4 w5 w6
      simp only [e_gt, e_s2, OS.only_nx, OS.andThen_nx, e]
      exact ih (i + 1) m _ _ _ _ _ a' b' _ (by omega) (by omega) ok'
  have f2 : ∃ sl' c', sFor (iRng1D (dCons (dC (.int 8)) dNil)) (gtName 2) turnB [some (.c 0), w1, none, none, none, none, none] (pc a b [.frz (.lst []), .frz (.dic []), .lst odds]) = .nx sl' c' := by
    have ex : ∀ M, 1001 < M → ∃ sl' c', loopF (rngItems 0 8) (gtName 2) turnB M 0 [some (.c 0), w1, none, none, none, none, none] (pc a b [.frz (.lst []), .frz (.dic []), .lst odds]) = .nx sl' c' := fun M hM => lp 8 0 M _ _ _ _ _ a b _ rfl (by omega) h
    obtain ⟨sl', c', q⟩ := ex bigN (by unfold bigN; omega)
    refine ⟨sl', c', ?_⟩
    unfold sFor
    rw [e_rng (c1 := pc a b [.frz (.lst []), .frz (.dic []), .lst odds]) (j := 8) rfl (by decide) (by decide), Out.st_ok]
    exact q
  obtain ⟨sl', c', f2⟩ := f2
  obtain ⟨c2, f3⟩ := t_tail sl' c'
  rw [e_scons, f1, OS.andThen_nx, e_scons, f2, OS.andThen_nx, f3]
  exact ⟨_, rfl⟩
end Pm

namespace Pm
open PySem L2 PyProof.Rows SX
theorem o_abs (i : Int) (c : Cells) : oAbs [.d (.int i)] c = .ok (.d (.int (if i < 0 then -i else i))) c := id rfl
theorem o_max2 (i j : Int) (c : Cells) : oMax2 [.d (.int i), .d (.int j)] c = .ok (.d (.int (if j > i then j else i))) c := id rfl
theorem o_lenA (ns : List Int) (c : Cells) : oLen [.d (.arr ns)] c = .ok (.d (.int ns.length)) c := id rfl
theorem o_ixA (x : Int) (ns : List Int) (c : Cells) : oIx (.d (.arr (x :: ns))) (.d (.int 0)) c = .ok (.d (.int x)) c := by
  unfold oIx
  rw [rd_d]
  dsimp only
  have : atI (x :: ns) 0 = some x := by
    unfold atI ixN
    rw [if_pos (by omega), if_pos (by simp)]
    rfl
  rw [this]
theorem o_pow1 (c : Cells) : oPow (.d (.int 10)) (.d (.int 18)) c = .ok (.d (.int 1000000000000000000)) c := by
  show (if decide ((0 : Int) ≤ 18 ∧ (18 : Int) ≤ 1000000 ∧ (10 : Int).natAbs < 2 ^ 64) = true then Out.ok (W.d (.int ((10 : Int) ^ (18 : Int).toNat))) c else .bad) = _
  rw [if_pos (by decide), show ((10 : Int) ^ (18 : Int).toNat) = 1000000000000000000 by decide]
theorem o_pow2 (c : Cells) : oPow (.d (.int 3)) (.d (.int 3)) c = .ok (.d (.int 27)) c := by
  show (if decide ((0 : Int) ≤ 3 ∧ (3 : Int) ≤ 1000000 ∧ (3 : Int).natAbs < 2 ^ 64) = true then Out.ok (W.d (.int ((3 : Int) ^ (3 : Int).toNat))) c else .bad) = _
  rw [if_pos (by decide), show ((3 : Int) ^ (3 : Int).toNat) = 27 by decide]
theorem t_pot (ns : List Int) : ∃ a b, okP a b ∧ g__law_pot [.d (.arr ns), .d (.int 0)] [] = .ok (.c 0) (pc a b []) := by
  have tail : ∀ x : Int, 0 ≤ x → ∃ a b, okP a b ∧ dLst (dCons (dCall oMax2 (dCons (dC (.int 0)) (dCons (dBin oSub (dVar 2) (dBin oPow (dC (.int 10)) (dC (.int 18)))) dNil))) (dCons (dBin oAdd (dBin oMod (dBin oMul (dCall oInt (dCons (dBin oAdd (dBin oMod (dCall oInt (dCons (dVar 2) dNil)) (dC (.int 2147483549))) (dC (.int 53))) dNil)) (dBin oPow (dBin oAdd (dBin oMul (dC (.int 2)) (dVar 1)) (dC (.int 3))) (dC (.int 3)))) (dC (.int 2147483477))) (dC (.int 1))) dNil))
      [some (.d (.arr ns)), some (.d (.int 0)), some (.d (.int x))] [] = .ok (.c 0) (pc a b []) := by
    intro x hx
    obtain ⟨y, hy⟩ : ∃ y, y = x % 2147483549 := ⟨_, rfl⟩
    have y1 : 0 ≤ y := by rw [hy]; exact Int.emod_nonneg _ (by decide)
    have y2 : y < 2147483549 := by rw [hy]; exact Int.emod_lt_of_pos _ (by decide)
    obtain ⟨v, hv⟩ : ∃ v, v = (y + 53) * 27 % 2147483477 := ⟨_, rfl⟩
    have v1 : 0 ≤ v := by rw [hv]; exact Int.emod_nonneg _ (by decide)
    have v2 : v < 2147483477 := by rw [hv]; exact Int.emod_lt_of_pos _ (by decide)
    refine ⟨if x - 1000000000000000000 > 0 then x - 1000000000000000000 else 0, v + 1, ⟨by split <;> omega, by omega, by omega⟩, ?_⟩
    have q1 : ∀ c, oMod (.d (.int x)) (.d (.int 2147483549)) c = .ok (.d (.int y)) c := fun c => by rw [hy]; exact o_mod c _ _ (by decide)
    have q2 : ∀ c, oMul (.d (.int 2)) (.d (.int 0)) c = .ok (.d (.int 0)) c := fun c => o_mulS (by decide) (by decide) c
    have q3 : ∀ c, oMul (.d (.int (y + 53))) (.d (.int 27)) c = .ok (.d (.int ((y + 53) * 27))) c := fun c => o_mulS (by omega) (by decide) c
    have q4 : ∀ c, oMod (.d (.int ((y + 53) * 27))) (.d (.int 2147483477)) c = .ok (.d (.int v)) c := fun c => by rw [hv]; exact o_mod c _ _ (by decide)
    have e3 : (0 : Int) + 3 = 3 := by decide
    simp only [e_gt, e_gtT, e_gtC, e_gtN, OS.only_nx, OS.only_exc, ca_take, and_self, true_and, and_true, List.nodup_cons, List.nodup_nil, List.not_mem_nil, not_false_eq_true, List.zip_cons_cons, List.zip_nil_right, Nat.reduceAdd, Nat.reduceLeDiff, decide_true, decide_false, Bool.not_true, Bool.not_false, fr0, fr1, fr2, fr3, mk0, mkT1, mkT2, mkT3, e_v0, e_v1, e_v2, e_v3, e_v4, e_v5, e_v6, e_v7, e_v8, e_v9, e_g0, e_g1, e_g2, e_g3, e_g4, e_g5, e_g6, e_g7, e_g8, e_g9, e_s0, e_s1, e_s2, e_s3, e_s4, e_s5, e_s6, e_s7, e_s8, e_s9, e_c, e_nil, e_cons, e_bin, e_call, e_callN, e_test, e_not, e_and, e_or, e_andV, e_orV, e_if, e_isN, e_meth, e_tup, e_lst, e_sl, e_some, e_none, e_scons, e_set, e_ret, e_exp, e_sif, e_asg, e_raise, e_par, o_lt, o_le, o_gt, o_ge, o_sub, o_addI, o_iaddI, o_eqS, o_neS, o_eqI, o_isi, o_s0, o_sI, tyS, bT_ok, bT_exc, Out.bind_ok, Out.bind_exc, Out.bind_bad, Out.st_ok, Out.st_exc, Out.st_bad, OS.andThen_nx, OS.andThen_ret, OS.andThen_brk, OS.andThen_cnt, OS.andThen_exc, OS.andThen_bad, finR_nx, finR_ret, finR_exc, List.getElem?_cons_zero, List.getElem?_cons_succ, List.length_cons, List.length_nil, if_true, if_false, reduceIte, Bool.false_eq_true, List.take_length, o_max2, o_pow1, o_intI, q1, q2, e3, o_pow2, q3, q4]
    rfl
  unfold g__law_pot
  rw [runB_of [some (.d (.arr ns)), some (.d (.int 0)), none] rfl]
  unfold d__law_pot
  have m0 : ∀ c, oMul (.d (.int 113)) (.d (.int 0)) c = .ok (.d (.int 0)) c := fun c => o_mulS (by decide) (by decide) c
  have e5 : (0 : Int) + 53 = 53 := by decide
  cases ns with
  | nil =>
    obtain ⟨a, b, ok, e⟩ := tail 53 (by decide)
    refine ⟨a, b, ok, ?_⟩
    rw [e_scons, e_set]
    simp only [e_bin, e_c, e_v1, Out.bind_ok, m0, o_addI, e5, Out.st_ok, OS.andThen_nx, e_s2]
    have z0 : decide ((0 : Int) < (([] : List Int).length : Int)) = false := by decide
    rw [e_scons, e_sif, e_test, e_bin, e_v1, Out.bind_ok, e_call, e_cons, e_v0]
    simp only [e_nil, Out.bind_ok, o_lenA, o_lt, z0, bT_ok, Out.st_ok, Bool.false_eq_true, reduceIte, OS.andThen_nx]
    rw [e_ret, e]
    rfl
  | cons x ns =>
    obtain ⟨a, b, ok, e⟩ := tail (if x < 0 then -x else x) (by split <;> omega)
    refine ⟨a, b, ok, ?_⟩
    rw [e_scons, e_set]
    simp only [e_bin, e_c, e_v1, Out.bind_ok, m0, o_addI, e5, Out.st_ok, OS.andThen_nx, e_s2]
    have z0 : decide ((0 : Int) < ((x :: ns).length : Int)) = true := decide_eq_true (by simp)
    rw [e_scons, e_sif, e_test, e_bin, e_v1, Out.bind_ok, e_call, e_cons, e_v0]
    simp only [e_nil, Out.bind_ok, o_lenA, o_lt, z0, bT_ok, Out.st_ok, reduceIte]
    rw [e_set, e_call, e_cons, e_bin, e_v0]
    simp only [e_nil, e_v1, Out.bind_ok, o_ixA, o_abs, Out.st_ok, OS.andThen_nx, e_s2]
    rw [e_ret, e]
    rfl
end Pm

namespace Pm
open PySem L2 PyProof.Rows SX
theorem t_law (ns : List Int) : ∃ c, g_law [.d (.arr ns)] [] = .ok (.d (.bl true)) c := by
  obtain ⟨a, b, ok, e⟩ := t_pot ns
  obtain ⟨c', e2⟩ := t_right ok
  unfold g_law
  rw [runB_of [some (.d (.arr ns))] rfl]
  unfold d_law
  simp only [e_gt, e_gtT, e_gtC, e_gtN, OS.only_nx, OS.only_exc, ca_take, and_self, true_and, and_true, List.nodup_cons, List.nodup_nil, List.not_mem_nil, not_false_eq_true, List.zip_cons_cons, List.zip_nil_right, Nat.reduceAdd, Nat.reduceLeDiff, decide_true, decide_false, Bool.not_true, Bool.not_false, fr0, fr1, fr2, fr3, mk0, mkT1, mkT2, mkT3, e_v0, e_v1, e_v2, e_v3, e_v4, e_v5, e_v6, e_v7, e_v8, e_v9, e_g0, e_g1, e_g2, e_g3, e_g4, e_g5, e_g6, e_g7, e_g8, e_g9, e_s0, e_s1, e_s2, e_s3, e_s4, e_s5, e_s6, e_s7, e_s8, e_s9, e_c, e_nil, e_cons, e_bin, e_call, e_callN, e_test, e_not, e_and, e_or, e_andV, e_orV, e_if, e_isN, e_meth, e_tup, e_lst, e_sl, e_some, e_none, e_scons, e_set, e_ret, e_exp, e_sif, e_asg, e_raise, e_par, o_lt, o_le, o_gt, o_ge, o_sub, o_addI, o_iaddI, o_eqS, o_neS, o_eqI, o_isi, o_s0, o_sI, tyS, bT_ok, bT_exc, Out.bind_ok, Out.bind_exc, Out.bind_bad, Out.st_ok, Out.st_exc, Out.st_bad, OS.andThen_nx, OS.andThen_ret, OS.andThen_brk, OS.andThen_cnt, OS.andThen_exc, OS.andThen_bad, finR_nx, finR_ret, finR_exc, List.getElem?_cons_zero, List.getElem?_cons_succ, List.length_cons, List.length_nil, if_true, if_false, reduceIte, Bool.false_eq_true, List.take_length, e, e2]
  exact ⟨_, rfl⟩
end Pm

namespace Pm
open PySem L2 PyProof.Rows
theorem sci_BadText : FnScope ["self", "position"] ["self", "position"] (defScope si_BadText) := ⟨rfl, rfl, rfl, by decide +kernel, rfl, by decide +kernel, by decide +kernel⟩
theorem sci_InvalidText : FnScope ["self", "value"] ["self", "value"] (defScope si_InvalidText) := ⟨rfl, rfl, rfl, by decide +kernel, rfl, by decide +kernel, by decide +kernel⟩
theorem all_mk {l : PySem.W.OpenLaw} {w : World} {K : PySem.W.Frag} {h : Heap} {mg : Str → Option Value} {fl : Addr} (X : K.In h) (G : h.Ns mainGlobals mg) (hfl : mg "law" = some (.ref fl))
    {tk_GREATEST : Tok}
    {A_KEYWORDS : Addr} {od_KEYWORDS : Option Addr} {its_KEYWORDS : Array Value} {n_KEYWORDS : Nat} {sl_KEYWORDS : Array (Option Value)}
    {tk_LONGEST_NAME : Tok}
    {tk_LONGEST_NUMBER : Tok}
    {A_SIGNS : Addr} {od_SIGNS : Option Addr} {its_SIGNS : Array Value} {n_SIGNS : Nat} {sl_SIGNS : Array (Option Value)}
    {C_BadText : Addr}
    {C_ChangeError : Addr}
    {C_InvalidText : Addr}
    {nm_BadText q_BadText : Str} {N_BadText : Addr} {bs_BadText bm_BadText : List Value} {sn_BadText : List Str} {sb_BadText : List Value} {ab_BadText : Bool} {col_BadText : Option Bool} {dd_BadText : Option Addr} {m0_BadText m1_BadText m2_BadText m3_BadText m5_BadText : Option Value} {f_BadText : Addr} {od_BadText an_BadText : Option Addr} {sl_BadText : Array (Option Value)} {oc_BadText kV_BadText dc_BadText pm_BadText cd_BadText ct_BadText : Value}
    {nm_InvalidText q_InvalidText : Str} {N_InvalidText : Addr} {bs_InvalidText bm_InvalidText : List Value} {sn_InvalidText : List Str} {sb_InvalidText : List Value} {ab_InvalidText : Bool} {col_InvalidText : Option Bool} {dd_InvalidText : Option Addr} {m0_InvalidText m1_InvalidText m2_InvalidText m3_InvalidText m5_InvalidText : Option Value} {f_InvalidText : Addr} {od_InvalidText an_InvalidText : Option Addr} {sl_InvalidText : Array (Option Value)} {oc_InvalidText kV_InvalidText dc_InvalidText pm_InvalidText cd_InvalidText ct_InvalidText : Value}
    {F__law_pot : Addr} {fod__law_pot fan__law_pot : Option Addr} {fsl__law_pot : Array (Option Value)} {foc__law_pot fkV__law_pot fdc__law_pot fpm__law_pot fcd__law_pot fct__law_pot : Value}
    {F_is_run : Addr} {fod_is_run fan_is_run : Option Addr} {fsl_is_run : Array (Option Value)} {foc_is_run fkV_is_run fdc_is_run fpm_is_run fcd_is_run fct_is_run : Value}
    {F_is_short_big : Addr} {fod_is_short_big fan_is_short_big : Option Addr} {fsl_is_short_big : Array (Option Value)} {foc_is_short_big fkV_is_short_big fdc_is_short_big fpm_is_short_big fcd_is_short_big fct_is_short_big : Value}
    {F_is_digits : Addr} {fod_is_digits fan_is_digits : Option Addr} {fsl_is_digits : Array (Option Value)} {foc_is_digits fkV_is_digits fdc_is_digits fpm_is_digits fcd_is_digits fct_is_digits : Value}
    {F_is_short_name : Addr} {fod_is_short_name fan_is_short_name : Option Addr} {fsl_is_short_name : Array (Option Value)} {foc_is_short_name fkV_is_short_name fdc_is_short_name fpm_is_short_name fcd_is_short_name fct_is_short_name : Value}
    {F_run_end : Addr} {fod_run_end fan_run_end : Option Addr} {fsl_run_end : Array (Option Value)} {foc_run_end fkV_run_end fdc_run_end fpm_run_end fcd_run_end fct_run_end : Value}
    {F_run_token : Addr} {fod_run_token fan_run_token : Option Addr} {fsl_run_token : Array (Option Value)} {foc_run_token fkV_run_token fdc_run_token fpm_run_token fcd_run_token fct_run_token : Value}
    {F_token_at : Addr} {fod_token_at fan_token_at : Option Addr} {fsl_token_at : Array (Option Value)} {foc_token_at fkV_token_at fdc_token_at fpm_token_at fcd_token_at fct_token_at : Value}
    {F_line_end : Addr} {fod_line_end fan_line_end : Option Addr} {fsl_line_end : Array (Option Value)} {foc_line_end fkV_line_end fdc_line_end fpm_line_end fcd_line_end fct_line_end : Value}
    {F_tokens_of : Addr} {fod_tokens_of fan_tokens_of : Option Addr} {fsl_tokens_of : Array (Option Value)} {foc_tokens_of fkV_tokens_of fdc_tokens_of fpm_tokens_of fcd_tokens_of fct_tokens_of : Value}
    {F__law_words : Addr} {fod__law_words fan__law_words : Option Addr} {fsl__law_words : Array (Option Value)} {foc__law_words fkV__law_words fdc__law_words fpm__law_words fcd__law_words fct__law_words : Value}
    {F__law_run_kind : Addr} {fod__law_run_kind fan__law_run_kind : Option Addr} {fsl__law_run_kind : Array (Option Value)} {foc__law_run_kind fkV__law_run_kind fdc__law_run_kind fpm__law_run_kind fcd__law_run_kind fct__law_run_kind : Value}
    {F__law_is_alnum : Addr} {fod__law_is_alnum fan__law_is_alnum : Option Addr} {fsl__law_is_alnum : Array (Option Value)} {foc__law_is_alnum fkV__law_is_alnum fdc__law_is_alnum fpm__law_is_alnum fcd__law_is_alnum fct__law_is_alnum : Value}
    {F__law_run : Addr} {fod__law_run fan__law_run : Option Addr} {fsl__law_run : Array (Option Value)} {foc__law_run fkV__law_run fdc__law_run fpm__law_run fcd__law_run fct__law_run : Value}
    {F__law_token : Addr} {fod__law_token fan__law_token : Option Addr} {fsl__law_token : Array (Option Value)} {foc__law_token fkV__law_token fdc__law_token fpm__law_token fcd__law_token fct__law_token : Value}
    {F__law_tokens : Addr} {fod__law_tokens fan__law_tokens : Option Addr} {fsl__law_tokens : Array (Option Value)} {foc__law_tokens fkV__law_tokens fdc__law_tokens fpm__law_tokens fcd__law_tokens fct__law_tokens : Value}
    {F__law_heard : Addr} {fod__law_heard fan__law_heard : Option Addr} {fsl__law_heard : Array (Option Value)} {foc__law_heard fkV__law_heard fdc__law_heard fpm__law_heard fcd__law_heard fct__law_heard : Value}
    {F__law_draw : Addr} {fod__law_draw fan__law_draw : Option Addr} {fsl__law_draw : Array (Option Value)} {foc__law_draw fkV__law_draw fdc__law_draw fpm__law_draw fcd__law_draw fct__law_draw : Value}
    {F__law_pick : Addr} {fod__law_pick fan__law_pick : Option Addr} {fsl__law_pick : Array (Option Value)} {foc__law_pick fkV__law_pick fdc__law_pick fpm__law_pick fcd__law_pick fct__law_pick : Value}
    {F__law_piece : Addr} {fod__law_piece fan__law_piece : Option Addr} {fsl__law_piece : Array (Option Value)} {foc__law_piece fkV__law_piece fdc__law_piece fpm__law_piece fcd__law_piece fct__law_piece : Value}
    {F__law_text : Addr} {fod__law_text fan__law_text : Option Addr} {fsl__law_text : Array (Option Value)} {foc__law_text fkV__law_text fdc__law_text fpm__law_text fcd__law_text fct__law_text : Value}
    {F__law_right : Addr} {fod__law_right fan__law_right : Option Addr} {fsl__law_right : Array (Option Value)} {foc__law_right fkV__law_right fdc__law_right fpm__law_right fcd__law_right fct__law_right : Value}
    {F_law : Addr} {fod_law fan_law : Option Addr} {fsl_law : Array (Option Value)} {foc_law fkV_law fdc_law fpm_law fcd_law fct_law : Value}
    (z_abs : PySem.W.nsIn K mainGlobals "abs" = some none)
    (z_all : PySem.W.nsIn K mainGlobals "all" = some none)
    (z_divmod : PySem.W.nsIn K mainGlobals "divmod" = some none)
    (z_int : PySem.W.nsIn K mainGlobals "int" = some none)
    (z_isinstance : PySem.W.nsIn K mainGlobals "isinstance" = some none)
    (z_len : PySem.W.nsIn K mainGlobals "len" = some none)
    (z_max : PySem.W.nsIn K mainGlobals "max" = some none)
    (z_range : PySem.W.nsIn K mainGlobals "range" = some none)
    (z_repr : PySem.W.nsIn K mainGlobals "repr" = some none)
    (z_str : PySem.W.nsIn K mainGlobals "str" = some none)
    (a_GREATEST : PySem.W.nsIn K mainGlobals "GREATEST" = some (some (.int 2147483647 tk_GREATEST)))
    (a_KEYWORDS : PySem.W.nsIn K mainGlobals "KEYWORDS" = some (some (.ref A_KEYWORDS)))
    (l_KEYWORDS : K.lookup A_KEYWORDS = some ⟨.type "tuple", od_KEYWORDS, .seq its_KEYWORDS n_KEYWORDS, sl_KEYWORDS⟩)
    (e_KEYWORDS : its_KEYWORDS.toList.map absV = k_KEYWORDS.map fun y => some (V.str y))
    (a_LONGEST_NAME : PySem.W.nsIn K mainGlobals "LONGEST_NAME" = some (some (.int 20 tk_LONGEST_NAME)))
    (a_LONGEST_NUMBER : PySem.W.nsIn K mainGlobals "LONGEST_NUMBER" = some (some (.int 10 tk_LONGEST_NUMBER)))
    (a_SIGNS : PySem.W.nsIn K mainGlobals "SIGNS" = some (some (.ref A_SIGNS)))
    (l_SIGNS : K.lookup A_SIGNS = some ⟨.type "tuple", od_SIGNS, .seq its_SIGNS n_SIGNS, sl_SIGNS⟩)
    (e_SIGNS : its_SIGNS.toList.map absV = k_SIGNS.map fun y => some (V.str y))
    (a_BadText : PySem.W.nsIn K mainGlobals "BadText" = some (some (.ref C_BadText)))
    (a_ChangeError : PySem.W.nsIn K mainGlobals "ChangeError" = some (some (.ref C_ChangeError)))
    (a_InvalidText : PySem.W.nsIn K mainGlobals "InvalidText" = some (some (.ref C_InvalidText)))
    (xL_BadText : K.lookup C_BadText = some (excClassObj nm_BadText q_BadText C_BadText N_BadText bs_BadText bm_BadText true sn_BadText sb_BadText ab_BadText col_BadText dd_BadText m0_BadText m1_BadText m2_BadText m3_BadText m5_BadText "ValueError.__new__"))
    (rv_BadText : PySem.HandSPX.refsVE bm_BadText = true)
    (sa_BadText : PySem.W.findIn K (.ref C_BadText) "__setattr__" = some (some (.builtin "object.__setattr__")))
    (eC_BadText : PySem.W.subIn K (.ref C_BadText) (.type "BaseException") = some true)
    (tC_BadText : PySem.W.typeIn K (.ref C_BadText) = some (.type "type"))
    (kC_BadText : PySem.W.keepIn K (.ref C_BadText) = true)
    (i1_BadText : PySem.W.findIn K (.ref C_BadText) "__init__" = some (some (.ref f_BadText)))
    (it_BadText : PySem.W.typeIn K (.ref f_BadText) = some (.type "function"))
    (il_BadText : K.lookup f_BadText = some ⟨oc_BadText, od_BadText, .func (PySem.W.fnOf "__init__" "BadText.__init__" (defArgs si_BadText) (defBody si_BadText) (defScope si_BadText) .none kV_BadText dc_BadText pm_BadText an_BadText cd_BadText ct_BadText), sl_BadText⟩)
    (ic_BadText : PySem.W.codeIn K cd_BadText "BadText.__init__" = true)
    (ik_BadText : PySem.W.keepIn K (.ref f_BadText) = true)
    (no_BadText : PySem.W.findIn K (.ref C_BadText) "position" = some none)
    (xL_InvalidText : K.lookup C_InvalidText = some (excClassObj nm_InvalidText q_InvalidText C_InvalidText N_InvalidText bs_InvalidText bm_InvalidText true sn_InvalidText sb_InvalidText ab_InvalidText col_InvalidText dd_InvalidText m0_InvalidText m1_InvalidText m2_InvalidText m3_InvalidText m5_InvalidText "ValueError.__new__"))
    (rv_InvalidText : PySem.HandSPX.refsVE bm_InvalidText = true)
    (sa_InvalidText : PySem.W.findIn K (.ref C_InvalidText) "__setattr__" = some (some (.builtin "object.__setattr__")))
    (eC_InvalidText : PySem.W.subIn K (.ref C_InvalidText) (.type "BaseException") = some true)
    (tC_InvalidText : PySem.W.typeIn K (.ref C_InvalidText) = some (.type "type"))
    (kC_InvalidText : PySem.W.keepIn K (.ref C_InvalidText) = true)
    (i1_InvalidText : PySem.W.findIn K (.ref C_InvalidText) "__init__" = some (some (.ref f_InvalidText)))
    (it_InvalidText : PySem.W.typeIn K (.ref f_InvalidText) = some (.type "function"))
    (il_InvalidText : K.lookup f_InvalidText = some ⟨oc_InvalidText, od_InvalidText, .func (PySem.W.fnOf "__init__" "InvalidText.__init__" (defArgs si_InvalidText) (defBody si_InvalidText) (defScope si_InvalidText) .none kV_InvalidText dc_InvalidText pm_InvalidText an_InvalidText cd_InvalidText ct_InvalidText), sl_InvalidText⟩)
    (ic_InvalidText : PySem.W.codeIn K cd_InvalidText "InvalidText.__init__" = true)
    (ik_InvalidText : PySem.W.keepIn K (.ref f_InvalidText) = true)
    (no_InvalidText : PySem.W.findIn K (.ref C_InvalidText) "value" = some none)
    (xf_BadText : xfB K C_BadText = true)
    (xf_InvalidText : xfB K C_InvalidText = true)
    (nf_BadText_position : PySem.W.findIn K (.ref C_BadText) "position" = some none)
    (nf_InvalidText_value : PySem.W.findIn K (.ref C_InvalidText) "value" = some none)
    (g1_BadText : PySem.W.findIn K (.ref C_BadText) "__getattribute__" = some (some (.builtin "BaseException.__getattribute__")))
    (g2_BadText : PySem.W.findIn K (.ref C_BadText) "__getattr__" = some none)
    (g3_BadText : PySem.W.subIn K (.ref C_BadText) (.type "BaseException") = some true)
    (g4_BadText : PySem.W.hasDictIn K C_BadText = true)
    (g5_BadText : PySem.W.findIn K (.ref C_BadText) "__class__" = some (some (.builtin "object.__class__")))
    (g6_BadText : PySem.W.specialIn K (.builtin "object.__class__") "__get__" = some (some (.builtin "getset_descriptor.__get__")))
    (g7_BadText : PySem.W.takesIn K (.builtin "object.__class__") = some true)
    (g8_BadText : PySem.W.mroIn K C_BadText (.type "object") = some true)
    (g1_InvalidText : PySem.W.findIn K (.ref C_InvalidText) "__getattribute__" = some (some (.builtin "BaseException.__getattribute__")))
    (g2_InvalidText : PySem.W.findIn K (.ref C_InvalidText) "__getattr__" = some none)
    (g3_InvalidText : PySem.W.subIn K (.ref C_InvalidText) (.type "BaseException") = some true)
    (g4_InvalidText : PySem.W.hasDictIn K C_InvalidText = true)
    (g5_InvalidText : PySem.W.findIn K (.ref C_InvalidText) "__class__" = some (some (.builtin "object.__class__")))
    (g6_InvalidText : PySem.W.specialIn K (.builtin "object.__class__") "__get__" = some (some (.builtin "getset_descriptor.__get__")))
    (g7_InvalidText : PySem.W.takesIn K (.builtin "object.__class__") = some true)
    (g8_InvalidText : PySem.W.mroIn K C_InvalidText (.type "object") = some true)
    (x1_BadText_BadText : PySem.W.exmOne K (.ref C_BadText) (.ref C_BadText) = some true)
    (x2_BadText_BadText : PySem.W.kitOne K (.ref C_BadText) (.ref C_BadText) = some true)
    (x1_BadText_ChangeError : PySem.W.exmOne K (.ref C_BadText) (.ref C_ChangeError) = some true)
    (x2_BadText_ChangeError : PySem.W.kitOne K (.ref C_BadText) (.ref C_ChangeError) = some true)
    (x1_BadText_InvalidText : PySem.W.exmOne K (.ref C_BadText) (.ref C_InvalidText) = some false)
    (x2_BadText_InvalidText : PySem.W.kitOne K (.ref C_BadText) (.ref C_InvalidText) = some false)
    (x1_InvalidText_BadText : PySem.W.exmOne K (.ref C_InvalidText) (.ref C_BadText) = some false)
    (x2_InvalidText_BadText : PySem.W.kitOne K (.ref C_InvalidText) (.ref C_BadText) = some false)
    (x1_InvalidText_ChangeError : PySem.W.exmOne K (.ref C_InvalidText) (.ref C_ChangeError) = some true)
    (x2_InvalidText_ChangeError : PySem.W.kitOne K (.ref C_InvalidText) (.ref C_ChangeError) = some true)
    (x1_InvalidText_InvalidText : PySem.W.exmOne K (.ref C_InvalidText) (.ref C_InvalidText) = some true)
    (x2_InvalidText_InvalidText : PySem.W.kitOne K (.ref C_InvalidText) (.ref C_InvalidText) = some true)
    (fa__law_pot : PySem.W.nsIn K mainGlobals "_law_pot" = some (some (.ref F__law_pot)))
    (fl__law_pot : K.lookup F__law_pot = some ⟨foc__law_pot, fod__law_pot, .func (PySem.W.fnOf "_law_pot" "_law_pot" (defArgs s__law_pot) (defBody s__law_pot) (defScope s__law_pot) .none fkV__law_pot fdc__law_pot fpm__law_pot fan__law_pot fcd__law_pot fct__law_pot), fsl__law_pot⟩)
    (fc__law_pot : PySem.W.codeIn K fcd__law_pot "_law_pot" = true)
    (fk__law_pot : PySem.W.keepIn K (.ref F__law_pot) = true)
    (fa_is_run : PySem.W.nsIn K mainGlobals "is_run" = some (some (.ref F_is_run)))
    (fl_is_run : K.lookup F_is_run = some ⟨foc_is_run, fod_is_run, .func (PySem.W.fnOf "is_run" "is_run" (defArgs s_is_run) (defBody s_is_run) (defScope s_is_run) .none fkV_is_run fdc_is_run fpm_is_run fan_is_run fcd_is_run fct_is_run), fsl_is_run⟩)
    (fc_is_run : PySem.W.codeIn K fcd_is_run "is_run" = true)
    (fk_is_run : PySem.W.keepIn K (.ref F_is_run) = true)
    (fa_is_short_big : PySem.W.nsIn K mainGlobals "is_short_big" = some (some (.ref F_is_short_big)))
    (fl_is_short_big : K.lookup F_is_short_big = some ⟨foc_is_short_big, fod_is_short_big, .func (PySem.W.fnOf "is_short_big" "is_short_big" (defArgs s_is_short_big) (defBody s_is_short_big) (defScope s_is_short_big) .none fkV_is_short_big fdc_is_short_big fpm_is_short_big fan_is_short_big fcd_is_short_big fct_is_short_big), fsl_is_short_big⟩)
    (fc_is_short_big : PySem.W.codeIn K fcd_is_short_big "is_short_big" = true)
    (fk_is_short_big : PySem.W.keepIn K (.ref F_is_short_big) = true)
    (fa_is_digits : PySem.W.nsIn K mainGlobals "is_digits" = some (some (.ref F_is_digits)))
    (fl_is_digits : K.lookup F_is_digits = some ⟨foc_is_digits, fod_is_digits, .func (PySem.W.fnOf "is_digits" "is_digits" (defArgs s_is_digits) (defBody s_is_digits) (defScope s_is_digits) .none fkV_is_digits fdc_is_digits fpm_is_digits fan_is_digits fcd_is_digits fct_is_digits), fsl_is_digits⟩)
    (fc_is_digits : PySem.W.codeIn K fcd_is_digits "is_digits" = true)
    (fk_is_digits : PySem.W.keepIn K (.ref F_is_digits) = true)
    (fa_is_short_name : PySem.W.nsIn K mainGlobals "is_short_name" = some (some (.ref F_is_short_name)))
    (fl_is_short_name : K.lookup F_is_short_name = some ⟨foc_is_short_name, fod_is_short_name, .func (PySem.W.fnOf "is_short_name" "is_short_name" (defArgs s_is_short_name) (defBody s_is_short_name) (defScope s_is_short_name) .none fkV_is_short_name fdc_is_short_name fpm_is_short_name fan_is_short_name fcd_is_short_name fct_is_short_name), fsl_is_short_name⟩)
    (fc_is_short_name : PySem.W.codeIn K fcd_is_short_name "is_short_name" = true)
    (fk_is_short_name : PySem.W.keepIn K (.ref F_is_short_name) = true)
    (fa_run_end : PySem.W.nsIn K mainGlobals "run_end" = some (some (.ref F_run_end)))
    (fl_run_end : K.lookup F_run_end = some ⟨foc_run_end, fod_run_end, .func (PySem.W.fnOf "run_end" "run_end" (defArgs s_run_end) (defBody s_run_end) (defScope s_run_end) .none fkV_run_end fdc_run_end fpm_run_end fan_run_end fcd_run_end fct_run_end), fsl_run_end⟩)
    (fc_run_end : PySem.W.codeIn K fcd_run_end "run_end" = true)
    (fk_run_end : PySem.W.keepIn K (.ref F_run_end) = true)
    (fa_run_token : PySem.W.nsIn K mainGlobals "run_token" = some (some (.ref F_run_token)))
    (fl_run_token : K.lookup F_run_token = some ⟨foc_run_token, fod_run_token, .func (PySem.W.fnOf "run_token" "run_token" (defArgs s_run_token) (defBody s_run_token) (defScope s_run_token) .none fkV_run_token fdc_run_token fpm_run_token fan_run_token fcd_run_token fct_run_token), fsl_run_token⟩)
    (fc_run_token : PySem.W.codeIn K fcd_run_token "run_token" = true)
    (fk_run_token : PySem.W.keepIn K (.ref F_run_token) = true)
    (fa_token_at : PySem.W.nsIn K mainGlobals "token_at" = some (some (.ref F_token_at)))
    (fl_token_at : K.lookup F_token_at = some ⟨foc_token_at, fod_token_at, .func (PySem.W.fnOf "token_at" "token_at" (defArgs s_token_at) (defBody s_token_at) (defScope s_token_at) .none fkV_token_at fdc_token_at fpm_token_at fan_token_at fcd_token_at fct_token_at), fsl_token_at⟩)
    (fc_token_at : PySem.W.codeIn K fcd_token_at "token_at" = true)
    (fk_token_at : PySem.W.keepIn K (.ref F_token_at) = true)
    (fa_line_end : PySem.W.nsIn K mainGlobals "line_end" = some (some (.ref F_line_end)))
    (fl_line_end : K.lookup F_line_end = some ⟨foc_line_end, fod_line_end, .func (PySem.W.fnOf "line_end" "line_end" (defArgs s_line_end) (defBody s_line_end) (defScope s_line_end) .none fkV_line_end fdc_line_end fpm_line_end fan_line_end fcd_line_end fct_line_end), fsl_line_end⟩)
    (fc_line_end : PySem.W.codeIn K fcd_line_end "line_end" = true)
    (fk_line_end : PySem.W.keepIn K (.ref F_line_end) = true)
    (fa_tokens_of : PySem.W.nsIn K mainGlobals "tokens_of" = some (some (.ref F_tokens_of)))
    (fl_tokens_of : K.lookup F_tokens_of = some ⟨foc_tokens_of, fod_tokens_of, .func (PySem.W.fnOf "tokens_of" "tokens_of" (defArgs s_tokens_of) (defBody s_tokens_of) (defScope s_tokens_of) .none fkV_tokens_of fdc_tokens_of fpm_tokens_of fan_tokens_of fcd_tokens_of fct_tokens_of), fsl_tokens_of⟩)
    (fc_tokens_of : PySem.W.codeIn K fcd_tokens_of "tokens_of" = true)
    (fk_tokens_of : PySem.W.keepIn K (.ref F_tokens_of) = true)
    (fa__law_words : PySem.W.nsIn K mainGlobals "_law_words" = some (some (.ref F__law_words)))
    (fl__law_words : K.lookup F__law_words = some ⟨foc__law_words, fod__law_words, .func (PySem.W.fnOf "_law_words" "_law_words" (defArgs s__law_words) (defBody s__law_words) (defScope s__law_words) .none fkV__law_words fdc__law_words fpm__law_words fan__law_words fcd__law_words fct__law_words), fsl__law_words⟩)
    (fc__law_words : PySem.W.codeIn K fcd__law_words "_law_words" = true)
    (fk__law_words : PySem.W.keepIn K (.ref F__law_words) = true)
    (fa__law_run_kind : PySem.W.nsIn K mainGlobals "_law_run_kind" = some (some (.ref F__law_run_kind)))
    (fl__law_run_kind : K.lookup F__law_run_kind = some ⟨foc__law_run_kind, fod__law_run_kind, .func (PySem.W.fnOf "_law_run_kind" "_law_run_kind" (defArgs s__law_run_kind) (defBody s__law_run_kind) (defScope s__law_run_kind) .none fkV__law_run_kind fdc__law_run_kind fpm__law_run_kind fan__law_run_kind fcd__law_run_kind fct__law_run_kind), fsl__law_run_kind⟩)
    (fc__law_run_kind : PySem.W.codeIn K fcd__law_run_kind "_law_run_kind" = true)
    (fk__law_run_kind : PySem.W.keepIn K (.ref F__law_run_kind) = true)
    (fa__law_is_alnum : PySem.W.nsIn K mainGlobals "_law_is_alnum" = some (some (.ref F__law_is_alnum)))
    (fl__law_is_alnum : K.lookup F__law_is_alnum = some ⟨foc__law_is_alnum, fod__law_is_alnum, .func (PySem.W.fnOf "_law_is_alnum" "_law_is_alnum" (defArgs s__law_is_alnum) (defBody s__law_is_alnum) (defScope s__law_is_alnum) .none fkV__law_is_alnum fdc__law_is_alnum fpm__law_is_alnum fan__law_is_alnum fcd__law_is_alnum fct__law_is_alnum), fsl__law_is_alnum⟩)
    (fc__law_is_alnum : PySem.W.codeIn K fcd__law_is_alnum "_law_is_alnum" = true)
    (fk__law_is_alnum : PySem.W.keepIn K (.ref F__law_is_alnum) = true)
    (fa__law_run : PySem.W.nsIn K mainGlobals "_law_run" = some (some (.ref F__law_run)))
    (fl__law_run : K.lookup F__law_run = some ⟨foc__law_run, fod__law_run, .func (PySem.W.fnOf "_law_run" "_law_run" (defArgs s__law_run) (defBody s__law_run) (defScope s__law_run) .none fkV__law_run fdc__law_run fpm__law_run fan__law_run fcd__law_run fct__law_run), fsl__law_run⟩)
    (fc__law_run : PySem.W.codeIn K fcd__law_run "_law_run" = true)
    (fk__law_run : PySem.W.keepIn K (.ref F__law_run) = true)
    (fa__law_token : PySem.W.nsIn K mainGlobals "_law_token" = some (some (.ref F__law_token)))
    (fl__law_token : K.lookup F__law_token = some ⟨foc__law_token, fod__law_token, .func (PySem.W.fnOf "_law_token" "_law_token" (defArgs s__law_token) (defBody s__law_token) (defScope s__law_token) .none fkV__law_token fdc__law_token fpm__law_token fan__law_token fcd__law_token fct__law_token), fsl__law_token⟩)
    (fc__law_token : PySem.W.codeIn K fcd__law_token "_law_token" = true)
    (fk__law_token : PySem.W.keepIn K (.ref F__law_token) = true)
    (fa__law_tokens : PySem.W.nsIn K mainGlobals "_law_tokens" = some (some (.ref F__law_tokens)))
    (fl__law_tokens : K.lookup F__law_tokens = some ⟨foc__law_tokens, fod__law_tokens, .func (PySem.W.fnOf "_law_tokens" "_law_tokens" (defArgs s__law_tokens) (defBody s__law_tokens) (defScope s__law_tokens) .none fkV__law_tokens fdc__law_tokens fpm__law_tokens fan__law_tokens fcd__law_tokens fct__law_tokens), fsl__law_tokens⟩)
    (fc__law_tokens : PySem.W.codeIn K fcd__law_tokens "_law_tokens" = true)
    (fk__law_tokens : PySem.W.keepIn K (.ref F__law_tokens) = true)
    (fa__law_heard : PySem.W.nsIn K mainGlobals "_law_heard" = some (some (.ref F__law_heard)))
    (fl__law_heard : K.lookup F__law_heard = some ⟨foc__law_heard, fod__law_heard, .func (PySem.W.fnOf "_law_heard" "_law_heard" (defArgs s__law_heard) (defBody s__law_heard) (defScope s__law_heard) .none fkV__law_heard fdc__law_heard fpm__law_heard fan__law_heard fcd__law_heard fct__law_heard), fsl__law_heard⟩)
    (fc__law_heard : PySem.W.codeIn K fcd__law_heard "_law_heard" = true)
    (fk__law_heard : PySem.W.keepIn K (.ref F__law_heard) = true)
    (fa__law_draw : PySem.W.nsIn K mainGlobals "_law_draw" = some (some (.ref F__law_draw)))
    (fl__law_draw : K.lookup F__law_draw = some ⟨foc__law_draw, fod__law_draw, .func (PySem.W.fnOf "_law_draw" "_law_draw" (defArgs s__law_draw) (defBody s__law_draw) (defScope s__law_draw) .none fkV__law_draw fdc__law_draw fpm__law_draw fan__law_draw fcd__law_draw fct__law_draw), fsl__law_draw⟩)
    (fc__law_draw : PySem.W.codeIn K fcd__law_draw "_law_draw" = true)
    (fk__law_draw : PySem.W.keepIn K (.ref F__law_draw) = true)
    (fa__law_pick : PySem.W.nsIn K mainGlobals "_law_pick" = some (some (.ref F__law_pick)))
    (fl__law_pick : K.lookup F__law_pick = some ⟨foc__law_pick, fod__law_pick, .func (PySem.W.fnOf "_law_pick" "_law_pick" (defArgs s__law_pick) (defBody s__law_pick) (defScope s__law_pick) .none fkV__law_pick fdc__law_pick fpm__law_pick fan__law_pick fcd__law_pick fct__law_pick), fsl__law_pick⟩)
    (fc__law_pick : PySem.W.codeIn K fcd__law_pick "_law_pick" = true)
    (fk__law_pick : PySem.W.keepIn K (.ref F__law_pick) = true)
    (fa__law_piece : PySem.W.nsIn K mainGlobals "_law_piece" = some (some (.ref F__law_piece)))
    (fl__law_piece : K.lookup F__law_piece = some ⟨foc__law_piece, fod__law_piece, .func (PySem.W.fnOf "_law_piece" "_law_piece" (defArgs s__law_piece) (defBody s__law_piece) (defScope s__law_piece) .none fkV__law_piece fdc__law_piece fpm__law_piece fan__law_piece fcd__law_piece fct__law_piece), fsl__law_piece⟩)
    (fc__law_piece : PySem.W.codeIn K fcd__law_piece "_law_piece" = true)
    (fk__law_piece : PySem.W.keepIn K (.ref F__law_piece) = true)
    (fa__law_text : PySem.W.nsIn K mainGlobals "_law_text" = some (some (.ref F__law_text)))
    (fl__law_text : K.lookup F__law_text = some ⟨foc__law_text, fod__law_text, .func (PySem.W.fnOf "_law_text" "_law_text" (defArgs s__law_text) (defBody s__law_text) (defScope s__law_text) .none fkV__law_text fdc__law_text fpm__law_text fan__law_text fcd__law_text fct__law_text), fsl__law_text⟩)
    (fc__law_text : PySem.W.codeIn K fcd__law_text "_law_text" = true)
    (fk__law_text : PySem.W.keepIn K (.ref F__law_text) = true)
    (fa__law_right : PySem.W.nsIn K mainGlobals "_law_right" = some (some (.ref F__law_right)))
    (fl__law_right : K.lookup F__law_right = some ⟨foc__law_right, fod__law_right, .func (PySem.W.fnOf "_law_right" "_law_right" (defArgs s__law_right) (defBody s__law_right) (defScope s__law_right) .none fkV__law_right fdc__law_right fpm__law_right fan__law_right fcd__law_right fct__law_right), fsl__law_right⟩)
    (fc__law_right : PySem.W.codeIn K fcd__law_right "_law_right" = true)
    (fk__law_right : PySem.W.keepIn K (.ref F__law_right) = true)
    (fa_law : PySem.W.nsIn K mainGlobals "law" = some (some (.ref F_law)))
    (fl_law : K.lookup F_law = some ⟨foc_law, fod_law, .func (PySem.W.fnOf "law" "law" (defArgs s_law) (defBody s_law) (defScope s_law) .none fkV_law fdc_law fpm_law fan_law fcd_law fct_law), fsl_law⟩)
    (fc_law : PySem.W.codeIn K fcd_law "law" = true)
    (fk_law : PySem.W.keepIn K (.ref F_law) = true)
    : ∃ fd : FuncData, (∀ (s : Shared) (u : Value), BindsTo s fd ⟨[u], []⟩ [("_law_script", u)]) ∧ ∀ base : Heap, K.In base → base.Ns mainGlobals mg → FnG l.prog w K mg base 8 fl fd ["_law_script"] (spD K (faOf mg) 1 g_law) := by
  have e := hfl.symm.trans (PySem.W.mg_of X G fa_law)
  cases e
  have M_BadText := PySem.W.mg_of X G a_BadText
  have M_ChangeError := PySem.W.mg_of X G a_ChangeError
  have M_InvalidText := PySem.W.mg_of X G a_InvalidText
  have X_BadText : OexC K C_BadText := ⟨⟨nm_BadText, q_BadText, N_BadText, bs_BadText, bm_BadText, sn_BadText, sb_BadText, ab_BadText, col_BadText, dd_BadText, m0_BadText, m1_BadText, m2_BadText, m3_BadText, m5_BadText, xL_BadText, rv_BadText⟩, sa_BadText, eC_BadText, tC_BadText, kC_BadText⟩
  have I_BadText := fun_mk (st := si_BadText) il_BadText ic_BadText ik_BadText
  have J_BadText := I_BadText.binds (ps := ["self", "position"]) fun _ _ _ _ _ _ us hl => match us, hl with | [_, _], _ => rfl
  have X_InvalidText : OexC K C_InvalidText := ⟨⟨nm_InvalidText, q_InvalidText, N_InvalidText, bs_InvalidText, bm_InvalidText, sn_InvalidText, sb_InvalidText, ab_InvalidText, col_InvalidText, dd_InvalidText, m0_InvalidText, m1_InvalidText, m2_InvalidText, m3_InvalidText, m5_InvalidText, xL_InvalidText, rv_InvalidText⟩, sa_InvalidText, eC_InvalidText, tC_InvalidText, kC_InvalidText⟩
  have I_InvalidText := fun_mk (st := si_InvalidText) il_InvalidText ic_InvalidText ik_InvalidText
  have J_InvalidText := I_InvalidText.binds (ps := ["self", "value"]) fun _ _ _ _ _ _ us hl => match us, hl with | [_, _], _ => rfl
  have N__law_pot := fun_mk (st := s__law_pot) fl__law_pot fc__law_pot fk__law_pot
  have B__law_pot := N__law_pot.binds (ps := ["_law_script", "_law_k"]) fun _ _ _ _ _ _ us hl => match us, hl with | [_, _], _ => rfl
  have H__law_pot := PySem.W.mg_of X G fa__law_pot
  have N_is_run := fun_mk (st := s_is_run) fl_is_run fc_is_run fk_is_run
  have B_is_run := N_is_run.binds (ps := ["value"]) fun _ _ _ _ _ _ us hl => match us, hl with | [_], _ => rfl
  have H_is_run := PySem.W.mg_of X G fa_is_run
  have N_is_short_big := fun_mk (st := s_is_short_big) fl_is_short_big fc_is_short_big fk_is_short_big
  have B_is_short_big := N_is_short_big.binds (ps := ["value"]) fun _ _ _ _ _ _ us hl => match us, hl with | [_], _ => rfl
  have H_is_short_big := PySem.W.mg_of X G fa_is_short_big
  have N_is_digits := fun_mk (st := s_is_digits) fl_is_digits fc_is_digits fk_is_digits
  have B_is_digits := N_is_digits.binds (ps := ["run", "most"]) fun _ _ _ _ _ _ us hl => match us, hl with | [_, _], _ => rfl
  have H_is_digits := PySem.W.mg_of X G fa_is_digits
  have N_is_short_name := fun_mk (st := s_is_short_name) fl_is_short_name fc_is_short_name fk_is_short_name
  have B_is_short_name := N_is_short_name.binds (ps := ["value"]) fun _ _ _ _ _ _ us hl => match us, hl with | [_], _ => rfl
  have H_is_short_name := PySem.W.mg_of X G fa_is_short_name
  have N_run_end := fun_mk (st := s_run_end) fl_run_end fc_run_end fk_run_end
  have B_run_end := N_run_end.binds (ps := ["text", "at"]) fun _ _ _ _ _ _ us hl => match us, hl with | [_, _], _ => rfl
  have H_run_end := PySem.W.mg_of X G fa_run_end
  have N_run_token := fun_mk (st := s_run_token) fl_run_token fc_run_token fk_run_token
  have B_run_token := N_run_token.binds (ps := ["text", "at"]) fun _ _ _ _ _ _ us hl => match us, hl with | [_, _], _ => rfl
  have H_run_token := PySem.W.mg_of X G fa_run_token
  have N_token_at := fun_mk (st := s_token_at) fl_token_at fc_token_at fk_token_at
  have B_token_at := N_token_at.binds (ps := ["text", "at"]) fun _ _ _ _ _ _ us hl => match us, hl with | [_, _], _ => rfl
  have H_token_at := PySem.W.mg_of X G fa_token_at
  have N_line_end := fun_mk (st := s_line_end) fl_line_end fc_line_end fk_line_end
  have B_line_end := N_line_end.binds (ps := ["text", "at"]) fun _ _ _ _ _ _ us hl => match us, hl with | [_, _], _ => rfl
  have H_line_end := PySem.W.mg_of X G fa_line_end
  have N_tokens_of := fun_mk (st := s_tokens_of) fl_tokens_of fc_tokens_of fk_tokens_of
  have B_tokens_of := N_tokens_of.binds (ps := ["text"]) fun _ _ _ _ _ _ us hl => match us, hl with | [_], _ => rfl
  have H_tokens_of := PySem.W.mg_of X G fa_tokens_of
  have N__law_words := fun_mk (st := s__law_words) fl__law_words fc__law_words fk__law_words
  have B__law_words := N__law_words.binds (ps := []) fun _ _ _ _ _ _ us hl => match us, hl with | [], _ => rfl
  have H__law_words := PySem.W.mg_of X G fa__law_words
  have N__law_run_kind := fun_mk (st := s__law_run_kind) fl__law_run_kind fc__law_run_kind fk__law_run_kind
  have B__law_run_kind := N__law_run_kind.binds (ps := ["_law_run_here"]) fun _ _ _ _ _ _ us hl => match us, hl with | [_], _ => rfl
  have H__law_run_kind := PySem.W.mg_of X G fa__law_run_kind
  have N__law_is_alnum := fun_mk (st := s__law_is_alnum) fl__law_is_alnum fc__law_is_alnum fk__law_is_alnum
  have B__law_is_alnum := N__law_is_alnum.binds (ps := ["_law_sign"]) fun _ _ _ _ _ _ us hl => match us, hl with | [_], _ => rfl
  have H__law_is_alnum := PySem.W.mg_of X G fa__law_is_alnum
  have N__law_run := fun_mk (st := s__law_run) fl__law_run fc__law_run fk__law_run
  have B__law_run := N__law_run.binds (ps := ["_law_text_here", "_law_at"]) fun _ _ _ _ _ _ us hl => match us, hl with | [_, _], _ => rfl
  have H__law_run := PySem.W.mg_of X G fa__law_run
  have N__law_token := fun_mk (st := s__law_token) fl__law_token fc__law_token fk__law_token
  have B__law_token := N__law_token.binds (ps := ["_law_text_here", "_law_at"]) fun _ _ _ _ _ _ us hl => match us, hl with | [_, _], _ => rfl
  have H__law_token := PySem.W.mg_of X G fa__law_token
  have N__law_tokens := fun_mk (st := s__law_tokens) fl__law_tokens fc__law_tokens fk__law_tokens
  have B__law_tokens := N__law_tokens.binds (ps := ["_law_text_here"]) fun _ _ _ _ _ _ us hl => match us, hl with | [_], _ => rfl
  have H__law_tokens := PySem.W.mg_of X G fa__law_tokens
  have N__law_heard := fun_mk (st := s__law_heard) fl__law_heard fc__law_heard fk__law_heard
  have B__law_heard := N__law_heard.binds (ps := ["_law_text_here"]) fun _ _ _ _ _ _ us hl => match us, hl with | [_], _ => rfl
  have H__law_heard := PySem.W.mg_of X G fa__law_heard
  have N__law_draw := fun_mk (st := s__law_draw) fl__law_draw fc__law_draw fk__law_draw
  have B__law_draw := N__law_draw.binds (ps := ["_law_pot_here", "_law_room"]) fun _ _ _ _ _ _ us hl => match us, hl with | [_, _], _ => rfl
  have H__law_draw := PySem.W.mg_of X G fa__law_draw
  have N__law_pick := fun_mk (st := s__law_pick) fl__law_pick fc__law_pick fk__law_pick
  have B__law_pick := N__law_pick.binds (ps := ["_law_pot_here", "_law_some"]) fun _ _ _ _ _ _ us hl => match us, hl with | [_, _], _ => rfl
  have H__law_pick := PySem.W.mg_of X G fa__law_pick
  have N__law_piece := fun_mk (st := s__law_piece) fl__law_piece fc__law_piece fk__law_piece
  have B__law_piece := N__law_piece.binds (ps := ["_law_pot_here"]) fun _ _ _ _ _ _ us hl => match us, hl with | [_], _ => rfl
  have H__law_piece := PySem.W.mg_of X G fa__law_piece
  have N__law_text := fun_mk (st := s__law_text) fl__law_text fc__law_text fk__law_text
  have B__law_text := N__law_text.binds (ps := ["_law_pot_here"]) fun _ _ _ _ _ _ us hl => match us, hl with | [_], _ => rfl
  have H__law_text := PySem.W.mg_of X G fa__law_text
  have N__law_right := fun_mk (st := s__law_right) fl__law_right fc__law_right fk__law_right
  have B__law_right := N__law_right.binds (ps := ["_law_pot_here"]) fun _ _ _ _ _ _ us hl => match us, hl with | [_], _ => rfl
  have H__law_right := PySem.W.mg_of X G fa__law_right
  have N_law := fun_mk (st := s_law) fl_law fc_law fk_law
  have B_law := N_law.binds (ps := ["_law_script"]) fun _ _ _ _ _ _ us hl => match us, hl with | [_], _ => rfl
  have H_law := PySem.W.mg_of X G fa_law
  refine ⟨PySem.W.fnOf "law" "law" (defArgs s_law) (defBody s_law) (defScope s_law) .none fkV_law fdc_law fpm_law fan_law fcd_law fct_law, fun s u => .of_eq rfl, fun base _ _ => ?_⟩
  have T : Tx l.prog w K mg base C_BadText C_ChangeError C_InvalidText := {
    z_abs := PySem.W.mg_none_of X G z_abs
    z_all := PySem.W.mg_none_of X G z_all
    z_divmod := PySem.W.mg_none_of X G z_divmod
    z_int := PySem.W.mg_none_of X G z_int
    z_isinstance := PySem.W.mg_none_of X G z_isinstance
    z_len := PySem.W.mg_none_of X G z_len
    z_max := PySem.W.mg_none_of X G z_max
    z_range := PySem.W.mg_none_of X G z_range
    z_repr := PySem.W.mg_none_of X G z_repr
    z_str := PySem.W.mg_none_of X G z_str
    c_GREATEST := Cn.int (PySem.W.mg_of X G a_GREATEST)
    c_KEYWORDS := Cn.strs (PySem.W.mg_of X G a_KEYWORDS) l_KEYWORDS e_KEYWORDS (by decide +kernel)
    c_LONGEST_NAME := Cn.int (PySem.W.mg_of X G a_LONGEST_NAME)
    c_LONGEST_NUMBER := Cn.int (PySem.W.mg_of X G a_LONGEST_NUMBER)
    c_SIGNS := Cn.strs (PySem.W.mg_of X G a_SIGNS) l_SIGNS e_SIGNS (by decide +kernel)
    m_BadText := M_BadText
    m_ChangeError := M_ChangeError
    m_InvalidText := M_InvalidText
    e_BadText := ⟨C_BadText, f_BadText, _, M_BadText, X_BadText, i1_BadText, it_BadText, J_BadText, err_init1 I_BadText sci_BadText X_BadText no_BadText rfl (.inl rfl) (.inl rfl) (by decide +kernel) (by decide +kernel)⟩
    e_InvalidText := ⟨C_InvalidText, f_InvalidText, _, M_InvalidText, X_InvalidText, i1_InvalidText, it_InvalidText, J_InvalidText, err_init1 I_InvalidText sci_InvalidText X_InvalidText no_InvalidText rfl (.inl rfl) (.inl rfl) (by decide +kernel) (by decide +kernel)⟩
    sub := subOk_of (.cons (subC_of (faOf_of M_BadText) (faOf_of M_BadText) x1_BadText_BadText x2_BadText_BadText) (.cons (subC_of (faOf_of M_BadText) (faOf_of M_ChangeError) x1_BadText_ChangeError x2_BadText_ChangeError) (.cons (subC_of (faOf_of M_BadText) (faOf_of M_InvalidText) x1_BadText_InvalidText x2_BadText_InvalidText) (.cons (subC_of (faOf_of M_InvalidText) (faOf_of M_BadText) x1_InvalidText_BadText x2_InvalidText_BadText) (.cons (subC_of (faOf_of M_InvalidText) (faOf_of M_ChangeError) x1_InvalidText_ChangeError x2_InvalidText_ChangeError) (.cons (subC_of (faOf_of M_InvalidText) (faOf_of M_InvalidText) x1_InvalidText_InvalidText x2_InvalidText_InvalidText) .nil))))))
    fld_BadText_position := fld_one (faOf_of M_BadText) (xfB_ok xf_BadText) nf_BadText_position
    fld_InvalidText_value := fld_one (faOf_of M_InvalidText) (xfB_ok xf_InvalidText) nf_InvalidText_value
    isi_BadText := isi_one (faOf_of M_BadText) ⟨g1_BadText, g2_BadText, g3_BadText, g4_BadText, g5_BadText, g6_BadText, g7_BadText, g8_BadText⟩
    isi_InvalidText := isi_one (faOf_of M_InvalidText) ⟨g1_InvalidText, g2_InvalidText, g3_InvalidText, g4_InvalidText, g5_InvalidText, g6_InvalidText, g7_InvalidText, g8_InvalidText⟩ }
  have D__law_pot : Fd l.prog w K mg base "_law_pot" s__law_pot 1 ["_law_script", "_law_k"] g__law_pot := ⟨F__law_pot, _, N__law_pot, H__law_pot, B__law_pot, ok__law_pot T N__law_pot⟩
  have D_is_run : Fd l.prog w K mg base "is_run" s_is_run 1 ["value"] g_is_run := ⟨F_is_run, _, N_is_run, H_is_run, B_is_run, ok_is_run T N_is_run⟩
  have D_is_short_big : Fd l.prog w K mg base "is_short_big" s_is_short_big 2 ["value"] g_is_short_big := ⟨F_is_short_big, _, N_is_short_big, H_is_short_big, B_is_short_big, ok_is_short_big T D_is_run N_is_short_big⟩
  have D_is_digits : Fd l.prog w K mg base "is_digits" s_is_digits 1 ["run", "most"] g_is_digits := ⟨F_is_digits, _, N_is_digits, H_is_digits, B_is_digits, ok_is_digits T N_is_digits⟩
  have D_is_short_name : Fd l.prog w K mg base "is_short_name" s_is_short_name 2 ["value"] g_is_short_name := ⟨F_is_short_name, _, N_is_short_name, H_is_short_name, B_is_short_name, ok_is_short_name T D_is_run N_is_short_name⟩
  have D_run_end : Fd l.prog w K mg base "run_end" s_run_end 2 ["text", "at"] g_run_end := ⟨F_run_end, _, N_run_end, H_run_end, B_run_end, ok_run_end T D_is_run N_run_end⟩
  have D_run_token : Fd l.prog w K mg base "run_token" s_run_token 3 ["text", "at"] g_run_token := ⟨F_run_token, _, N_run_token, H_run_token, B_run_token, ok_run_token T D_is_digits D_is_short_big D_is_short_name D_run_end N_run_token⟩
  have D_token_at : Fd l.prog w K mg base "token_at" s_token_at 4 ["text", "at"] g_token_at := ⟨F_token_at, _, N_token_at, H_token_at, B_token_at, ok_token_at T D_is_digits D_is_run D_run_end D_run_token N_token_at⟩
  have D_line_end : Fd l.prog w K mg base "line_end" s_line_end 1 ["text", "at"] g_line_end := ⟨F_line_end, _, N_line_end, H_line_end, B_line_end, ok_line_end T N_line_end⟩
  have D_tokens_of : Fd l.prog w K mg base "tokens_of" s_tokens_of 5 ["text"] g_tokens_of := ⟨F_tokens_of, _, N_tokens_of, H_tokens_of, B_tokens_of, ok_tokens_of T D_line_end D_token_at N_tokens_of⟩
  have K_tokens_of : KwP K mg "tokens_of" ["text"] ["text"] [0] := kwp_one N_tokens_of H_tokens_of fun _ _ _ _ _ _ _ => rfl
  have D__law_words : Fd l.prog w K mg base "_law_words" s__law_words 1 [] g__law_words := ⟨F__law_words, _, N__law_words, H__law_words, B__law_words, ok__law_words T N__law_words⟩
  have D__law_run_kind : Fd l.prog w K mg base "_law_run_kind" s__law_run_kind 2 ["_law_run_here"] g__law_run_kind := ⟨F__law_run_kind, _, N__law_run_kind, H__law_run_kind, B__law_run_kind, ok__law_run_kind T D__law_words N__law_run_kind⟩
  have D__law_is_alnum : Fd l.prog w K mg base "_law_is_alnum" s__law_is_alnum 1 ["_law_sign"] g__law_is_alnum := ⟨F__law_is_alnum, _, N__law_is_alnum, H__law_is_alnum, B__law_is_alnum, ok__law_is_alnum T N__law_is_alnum⟩
  have D__law_run : Fd l.prog w K mg base "_law_run" s__law_run 2 ["_law_text_here", "_law_at"] g__law_run := ⟨F__law_run, _, N__law_run, H__law_run, B__law_run, ok__law_run T D__law_is_alnum N__law_run⟩
  have D__law_token : Fd l.prog w K mg base "_law_token" s__law_token 3 ["_law_text_here", "_law_at"] g__law_token := ⟨F__law_token, _, N__law_token, H__law_token, B__law_token, ok__law_token T D__law_run D__law_run_kind N__law_token⟩
  have D__law_tokens : Fd l.prog w K mg base "_law_tokens" s__law_tokens 4 ["_law_text_here"] g__law_tokens := ⟨F__law_tokens, _, N__law_tokens, H__law_tokens, B__law_tokens, ok__law_tokens T D__law_token N__law_tokens⟩
  have D__law_heard : Fd l.prog w K mg base "_law_heard" s__law_heard 6 ["_law_text_here"] g__law_heard := ⟨F__law_heard, _, N__law_heard, H__law_heard, B__law_heard, ok__law_heard T D_tokens_of N__law_heard⟩
  have D__law_draw : Fd l.prog w K mg base "_law_draw" s__law_draw 1 ["_law_pot_here", "_law_room"] g__law_draw := ⟨F__law_draw, _, N__law_draw, H__law_draw, B__law_draw, ok__law_draw T N__law_draw⟩
  have D__law_pick : Fd l.prog w K mg base "_law_pick" s__law_pick 2 ["_law_pot_here", "_law_some"] g__law_pick := ⟨F__law_pick, _, N__law_pick, H__law_pick, B__law_pick, ok__law_pick T D__law_draw N__law_pick⟩
  have D__law_piece : Fd l.prog w K mg base "_law_piece" s__law_piece 3 ["_law_pot_here"] g__law_piece := ⟨F__law_piece, _, N__law_piece, H__law_piece, B__law_piece, ok__law_piece T D__law_draw D__law_pick D__law_words N__law_piece⟩
  have D__law_text : Fd l.prog w K mg base "_law_text" s__law_text 4 ["_law_pot_here"] g__law_text := ⟨F__law_text, _, N__law_text, H__law_text, B__law_text, ok__law_text T D__law_draw D__law_pick D__law_piece N__law_text⟩
  have D__law_right : Fd l.prog w K mg base "_law_right" s__law_right 7 ["_law_pot_here"] g__law_right := ⟨F__law_right, _, N__law_right, H__law_right, B__law_right, ok__law_right T D__law_heard D__law_text D__law_tokens D_tokens_of K_tokens_of N__law_right⟩
  exact ok_law T D__law_pot D__law_right N_law
theorem law_sp (K : PySem.W.Frag) (mg : Str → Option Value) (H : Hp) (a : Addr) (ns : List Int) (hS : SqL K H a (ns.map V.int)) : spD K (faOf mg) 1 g_law [.ref a] H (fun v _ => v = .bl true) fun _ _ _ => False := by
  obtain ⟨c, e⟩ := t_law ns
  refine ⟨rfl, [.d (.arr ns)], [], [], H, .cons (.arr hS) .nil, ⟨Same.refl H, rfl, List.nodup_nil, fun a h => (nomatch h), fun k o a h => by simp at h⟩, ?_⟩
  rw [e]
  intro H' F' ad' _ _ R v rv
  cases rv
  rfl
end Pm
open PySem PySem.W PyProof.Rows
set_option maxRecDepth 100000 in
set_option maxHeartbeats 0 in
theorem PySem.Challenge.cw_changedsame_k11_tokens_by_own_walk_holds : PySem.Challenge.rw_changedsame_k11_tokens_by_own_walk.Holds := by
  w_on; o_law; k_head; (case hw => w_witness2)
  k_fill
  refine Pm.walk_g (l := PySem.Challenge.rw_changedsame_k11_tokens_by_own_walk) (n := 63) (k := 8) (x := "_law_script") (sp := fun K mg => Pm.spD K (Pm.faOf mg) 1 Pm.g_law) rfl (by decide) rfl ⟨rfl, by decide, by decide⟩ (fun w h Y => PySem.W.kIn_of Y) ?F (fun K mg H a ns _ _ hS => Pm.law_sp K mg H a ns hS)
  case F =>
    intro w mg fl h KX G hmg
    refine' Pm.all_mk KX G hmg ?z_abs ?z_all ?z_divmod ?z_int ?z_isinstance ?z_len ?z_max ?z_range ?z_repr ?z_str ?a_GREATEST ?a_KEYWORDS ?l_KEYWORDS ?e_KEYWORDS ?a_LONGEST_NAME ?a_LONGEST_NUMBER ?a_SIGNS ?l_SIGNS ?e_SIGNS ?a_BadText ?a_ChangeError ?a_InvalidText ?xL_BadText ?rv_BadText ?sa_BadText ?eC_BadText ?tC_BadText ?kC_BadText ?i1_BadText ?it_BadText ?il_BadText ?ic_BadText ?ik_BadText ?no_BadText ?xL_InvalidText ?rv_InvalidText ?sa_InvalidText ?eC_InvalidText ?tC_InvalidText ?kC_InvalidText ?i1_InvalidText ?it_InvalidText ?il_InvalidText ?ic_InvalidText ?ik_InvalidText ?no_InvalidText ?xf_BadText ?xf_InvalidText ?nf_BadText_position ?nf_InvalidText_value ?g1_BadText ?g2_BadText ?g3_BadText ?g4_BadText ?g5_BadText ?g6_BadText ?g7_BadText ?g8_BadText ?g1_InvalidText ?g2_InvalidText ?g3_InvalidText ?g4_InvalidText ?g5_InvalidText ?g6_InvalidText ?g7_InvalidText ?g8_InvalidText ?x1_BadText_BadText ?x2_BadText_BadText ?x1_BadText_ChangeError ?x2_BadText_ChangeError ?x1_BadText_InvalidText ?x2_BadText_InvalidText ?x1_InvalidText_BadText ?x2_InvalidText_BadText ?x1_InvalidText_ChangeError ?x2_InvalidText_ChangeError ?x1_InvalidText_InvalidText ?x2_InvalidText_InvalidText ?fa__law_pot ?fl__law_pot ?fc__law_pot ?fk__law_pot ?fa_is_run ?fl_is_run ?fc_is_run ?fk_is_run ?fa_is_short_big ?fl_is_short_big ?fc_is_short_big ?fk_is_short_big ?fa_is_digits ?fl_is_digits ?fc_is_digits ?fk_is_digits ?fa_is_short_name ?fl_is_short_name ?fc_is_short_name ?fk_is_short_name ?fa_run_end ?fl_run_end ?fc_run_end ?fk_run_end ?fa_run_token ?fl_run_token ?fc_run_token ?fk_run_token ?fa_token_at ?fl_token_at ?fc_token_at ?fk_token_at ?fa_line_end ?fl_line_end ?fc_line_end ?fk_line_end ?fa_tokens_of ?fl_tokens_of ?fc_tokens_of ?fk_tokens_of ?fa__law_words ?fl__law_words ?fc__law_words ?fk__law_words ?fa__law_run_kind ?fl__law_run_kind ?fc__law_run_kind ?fk__law_run_kind ?fa__law_is_alnum ?fl__law_is_alnum ?fc__law_is_alnum ?fk__law_is_alnum ?fa__law_run ?fl__law_run ?fc__law_run ?fk__law_run ?fa__law_token ?fl__law_token ?fc__law_token ?fk__law_token ?fa__law_tokens ?fl__law_tokens ?fc__law_tokens ?fk__law_tokens ?fa__law_heard ?fl__law_heard ?fc__law_heard ?fk__law_heard ?fa__law_draw ?fl__law_draw ?fc__law_draw ?fk__law_draw ?fa__law_pick ?fl__law_pick ?fc__law_pick ?fk__law_pick ?fa__law_piece ?fl__law_piece ?fc__law_piece ?fk__law_piece ?fa__law_text ?fl__law_text ?fc__law_text ?fk__law_text ?fa__law_right ?fl__law_right ?fc__law_right ?fk__law_right ?fa_law ?fl_law ?fc_law ?fk_law
    (case z_abs => k_is)
    (case z_all => k_is)
    (case z_divmod => k_is)
    (case z_int => k_is)
    (case z_isinstance => k_is)
    (case z_len => k_is)
    (case z_max => k_is)
    (case z_range => k_is)
    (case z_repr => k_is)
    (case z_str => k_is)
    (case a_GREATEST => k_is)
    (case a_KEYWORDS => k_is)
    (case l_KEYWORDS => k_is)
    (case e_KEYWORDS => first | rfl | decide +kernel | k_is)
    (case a_LONGEST_NAME => k_is)
    (case a_LONGEST_NUMBER => k_is)
    (case a_SIGNS => k_is)
    (case l_SIGNS => k_is)
    (case e_SIGNS => first | rfl | decide +kernel | k_is)
    (case a_BadText => k_is)
    (case a_ChangeError => k_is)
    (case a_InvalidText => k_is)
    (case xL_BadText => k_is)
    (case rv_BadText => first | rfl | decide +kernel | k_is)
    (case sa_BadText => k_is)
    (case eC_BadText => k_is)
    (case tC_BadText => k_is)
    (case kC_BadText => k_is)
    (case i1_BadText => k_is)
    (case it_BadText => k_is)
    (case il_BadText => k_is)
    (case ic_BadText => k_is)
    (case ik_BadText => k_is)
    (case no_BadText => k_is)
    (case xL_InvalidText => k_is)
    (case rv_InvalidText => first | rfl | decide +kernel | k_is)
    (case sa_InvalidText => k_is)
    (case eC_InvalidText => k_is)
    (case tC_InvalidText => k_is)
    (case kC_InvalidText => k_is)
    (case i1_InvalidText => k_is)
    (case it_InvalidText => k_is)
    (case il_InvalidText => k_is)
    (case ic_InvalidText => k_is)
    (case ik_InvalidText => k_is)
    (case no_InvalidText => k_is)
    (case xf_BadText => first | k_is | rfl | decide +kernel)
    (case xf_InvalidText => first | k_is | rfl | decide +kernel)
    (case nf_BadText_position => k_is)
    (case nf_InvalidText_value => k_is)
    (case g1_BadText => k_is)
    (case g2_BadText => k_is)
    (case g3_BadText => k_is)
    (case g4_BadText => k_is)
    (case g5_BadText => k_is)
    (case g6_BadText => k_is)
    (case g7_BadText => k_is)
    (case g8_BadText => k_is)
    (case g1_InvalidText => k_is)
    (case g2_InvalidText => k_is)
    (case g3_InvalidText => k_is)
    (case g4_InvalidText => k_is)
    (case g5_InvalidText => k_is)
    (case g6_InvalidText => k_is)
    (case g7_InvalidText => k_is)
    (case g8_InvalidText => k_is)
    (case x1_BadText_BadText => first | k_is | rfl | decide +kernel)
    (case x2_BadText_BadText => first | k_is | rfl | decide +kernel)
    (case x1_BadText_ChangeError => first | k_is | rfl | decide +kernel)
    (case x2_BadText_ChangeError => first | k_is | rfl | decide +kernel)
    (case x1_BadText_InvalidText => first | k_is | rfl | decide +kernel)
    (case x2_BadText_InvalidText => first | k_is | rfl | decide +kernel)
    (case x1_InvalidText_BadText => first | k_is | rfl | decide +kernel)
    (case x2_InvalidText_BadText => first | k_is | rfl | decide +kernel)
    (case x1_InvalidText_ChangeError => first | k_is | rfl | decide +kernel)
    (case x2_InvalidText_ChangeError => first | k_is | rfl | decide +kernel)
    (case x1_InvalidText_InvalidText => first | k_is | rfl | decide +kernel)
    (case x2_InvalidText_InvalidText => first | k_is | rfl | decide +kernel)
    (case fa__law_pot => k_is)
    (case fl__law_pot => k_is)
    (case fc__law_pot => k_is)
    (case fk__law_pot => k_is)
    (case fa_is_run => k_is)
    (case fl_is_run => k_is)
    (case fc_is_run => k_is)
    (case fk_is_run => k_is)
    (case fa_is_short_big => k_is)
    (case fl_is_short_big => k_is)
    (case fc_is_short_big => k_is)
    (case fk_is_short_big => k_is)
    (case fa_is_digits => k_is)
    (case fl_is_digits => k_is)
    (case fc_is_digits => k_is)
    (case fk_is_digits => k_is)
    (case fa_is_short_name => k_is)
    (case fl_is_short_name => k_is)
    (case fc_is_short_name => k_is)
    (case fk_is_short_name => k_is)
    (case fa_run_end => k_is)
    (case fl_run_end => k_is)
    (case fc_run_end => k_is)
    (case fk_run_end => k_is)
    (case fa_run_token => k_is)
    (case fl_run_token => k_is)
    (case fc_run_token => k_is)
    (case fk_run_token => k_is)
    (case fa_token_at => k_is)
    (case fl_token_at => k_is)
    (case fc_token_at => k_is)
    (case fk_token_at => k_is)
    (case fa_line_end => k_is)
    (case fl_line_end => k_is)
    (case fc_line_end => k_is)
    (case fk_line_end => k_is)
    (case fa_tokens_of => k_is)
    (case fl_tokens_of => k_is)
    (case fc_tokens_of => k_is)
    (case fk_tokens_of => k_is)
    (case fa__law_words => k_is)
    (case fl__law_words => k_is)
    (case fc__law_words => k_is)
    (case fk__law_words => k_is)
    (case fa__law_run_kind => k_is)
    (case fl__law_run_kind => k_is)
    (case fc__law_run_kind => k_is)
    (case fk__law_run_kind => k_is)
    (case fa__law_is_alnum => k_is)
    (case fl__law_is_alnum => k_is)
    (case fc__law_is_alnum => k_is)
    (case fk__law_is_alnum => k_is)
    (case fa__law_run => k_is)
    (case fl__law_run => k_is)
    (case fc__law_run => k_is)
    (case fk__law_run => k_is)
    (case fa__law_token => k_is)
    (case fl__law_token => k_is)
    (case fc__law_token => k_is)
    (case fk__law_token => k_is)
    (case fa__law_tokens => k_is)
    (case fl__law_tokens => k_is)
    (case fc__law_tokens => k_is)
    (case fk__law_tokens => k_is)
    (case fa__law_heard => k_is)
    (case fl__law_heard => k_is)
    (case fc__law_heard => k_is)
    (case fk__law_heard => k_is)
    (case fa__law_draw => k_is)
    (case fl__law_draw => k_is)
    (case fc__law_draw => k_is)
    (case fk__law_draw => k_is)
    (case fa__law_pick => k_is)
    (case fl__law_pick => k_is)
    (case fc__law_pick => k_is)
    (case fk__law_pick => k_is)
    (case fa__law_piece => k_is)
    (case fl__law_piece => k_is)
    (case fc__law_piece => k_is)
    (case fk__law_piece => k_is)
    (case fa__law_text => k_is)
    (case fl__law_text => k_is)
    (case fc__law_text => k_is)
    (case fk__law_text => k_is)
    (case fa__law_right => k_is)
    (case fl__law_right => k_is)
    (case fc__law_right => k_is)
    (case fk__law_right => k_is)
    (case fa_law => k_is)
    (case fl_law => k_is)
    (case fc_law => k_is)
    (case fk_law => k_is)
#print axioms PySem.Challenge.cw_changedsame_k11_tokens_by_own_walk_holds
