import PyProof.Rows.All
import Wide.All
import OpenK.AllK
import Wide.FinOn
import HandS.ForMost
import HandS.ExcCtx
import HandS.HotCalls
import HandS.ExcInit
import HandS.ExcInitHot
import HandS.ExcField
import HandS.ExcIs
import HandS.IsInst
import HandS.Style
import HandS.Wide
import HandS.WideBits
import HandS.Defaults
import HandS.MakeKw
import HandS.CallSlots
import HandS.TupAny
import HandS.Conv
import HandS.SetFor
import HandS.SortInts
import HandS.Walk
import HandS.Iter
import HandS.TryOnly
import HandS.Zip
import PyProof.EnumMake
import KE.GoesMore
import KE.GoesZip
import PyProof.Draws
import KE.KDictZip
import KE.KItemsList
import PyProof.ListNew
import HandS.ListItems
import KE.KTupSum
import HandS.More
import HandS.TupMul
import HandS.Star
import HandS.OwnEq
import PyProof.InstNe
import PyProof.StrOps2
import PySem.Challenge.RW_noisebound_k25_rings_and_demands
set_option Elab.async false
set_option linter.all false
set_option maxRecDepth 100000
set_option maxHeartbeats 2000000
/-! Data as trees, changed objects as numbered cells: readings without the heap. -/
namespace DK
open PySem L2

/-- a value as a tree; a changed object by its cell's number -/
inductive D where
  | v (x : V)
  | lst (ds : List D)
  | tup (ds : List D)
  | rl (ds : List D)
  | loc (k : Nat)
  | err (C : Addr) (fs : List (Str × D))
  | dic (ks : List (Key × V))
  | ins (C : Addr) (ns : List Str) (ds : List D)

inductive Cell where
  | lst (ds : List D)
  | ins (C : Addr) (fs : List (Str × D))

abbrev Sto := List Cell

/-- a list of the written part -/
def KL (K : PySem.W.Frag) (a : Addr) (xs : List V) : Prop := ∃ (o : Obj) (its : Array Value) (n : Nat), K.lookup a = some o ∧ o.cls = .type "list" ∧ o.dict = none ∧ o.data = .seq its n ∧ its.size ≤ sizeLine ∧ Vals xs its.toList
def KT (K : PySem.W.Frag) (a : Addr) (xs : List V) : Prop := ∃ (o : Obj) (its : Array Value) (n : Nat), K.lookup a = some o ∧ o.cls = .type "tuple" ∧ o.data = .seq its n ∧ its.size ≤ sizeLine ∧ Vals xs its.toList

/-- what of the text a class of one's own must have: its instances' attributes, isinstance -/
structure CK (K : PySem.W.Frag) (C : Addr) : Prop where
  cl : Cls K C
  ha : PySem.W.findIn K (.ref C) "__class__" = some (some (.builtin "object.__class__"))
  hn : PySem.W.specialIn K (.builtin "object.__class__") "__get__" = some (some (.builtin "getset_descriptor.__get__"))
  htk : PySem.W.takesIn K (.builtin "object.__class__") = some true
  hm : PySem.W.mroIn K C (.type "object") = some true
  k1 : PySem.W.kitOne K (.ref C) (.type "int") = some false
  k2 : PySem.W.kitOne K (.ref C) (.type "bool") = some false
  k3 : PySem.W.kitOne K (.ref C) (.type "str") = some false
  k4 : PySem.W.kitOne K (.ref C) (.type "list") = some false
  k5 : PySem.W.kitOne K (.ref C) (.type "tuple") = some false
/-- an error's dict, none if it has no fields -/
def XdAt (θ : List Addr) (H : Hp) (dd : Option Addr) (fvs : List (Str × V)) : Prop := (∃ d, dd = some d ∧ H d = some (.xd fvs) ∧ d ∉ θ) ∨ (dd = none ∧ fvs = [])
section
variable (K : PySem.W.Frag) (pn : List (Addr × Obj)) (θ : List Addr) (H : Hp)
mutual
inductive Den : V → D → Prop
  | v {x : V} : Den x (.v x)
  | lst {a : Addr} {vs : List V} {ds : List D} (h : H a = some (.lst vs)) (n : a ∉ θ) (hs : Dens vs ds) : Den (.ref a) (.lst ds)
  | tup {a : Addr} {vs : List V} {ds : List D} (h : (H a = some (.tup vs) ∧ a ∉ θ) ∨ KT K a vs) (hs : Dens vs ds) : Den (.ref a) (.tup ds)
  | rl {a : Addr} {vs : List V} {ds : List D} (h : (Rd H a (.lst vs) ∧ a ∉ θ) ∨ KL K a vs) (hs : Dens vs ds) : Den (.ref a) (.rl ds)
  | loc {k : Nat} {p : Addr} (h : θ[k]? = some p) : Den (.ref p) (.loc k)
  | err {a : Addr} {oe : Obj} {C : Addr} {dd : Option Addr} {fvs : List (Str × V)} {fs : List (Str × D)} (hp : (a, oe) ∈ pn) (hz : L2N.Zn (.ref C) dd oe) (hd : ∃ fv, oe.data = .fields fv) (hx : XdAt θ H dd fvs) (hl : Denf fvs fs) : Den (.ref a) (.err C fs)
  | dic {a : Addr} {ks : List (Key × V)} (h : H a = some (.dK ks)) (n : a ∉ θ) : Den (.ref a) (.dic ks)
  | ins {a C dx : Addr} {ns : List Str} {vs : List V} {ds : List D} (hk : CK K C) (hf : ∀ f ∈ ns, NoAttr K C f) (h : H a = some (.ins C dx (ns.zip vs))) (n : a ∉ θ) (hl : ns.length = vs.length) (hs : Dens vs ds) : Den (.ref a) (.ins C ns ds)
inductive Dens : List V → List D → Prop
  | nil : Dens [] []
  | cons {x : V} {d : D} {vs : List V} {ds : List D} (h : Den x d) (t : Dens vs ds) : Dens (x :: vs) (d :: ds)
inductive Denf : List (Str × V) → List (Str × D) → Prop
  | nil : Denf [] []
  | cons {f : Str} {x : V} {d : D} {vs : List (Str × V)} {ds : List (Str × D)} (h : Den x d) (t : Denf vs ds) : Denf ((f, x) :: vs) ((f, d) :: ds)
end
end

/-- what a heap keeps of another one: all that is tracked and no cell; new cells were free -/
structure Le (θ : List Addr) (H : Hp) (θ' : List Addr) (H' : Hp) : Prop where
  keep : ∀ a o, H a = some o → a ∉ θ → H' a = some o
  ext : ∃ ex, θ' = θ ++ ex ∧ ∀ p ∈ ex, H p = none
  trk : ∀ p ∈ θ', ∃ o, H' p = some o
theorem Le.trans {θ θ1 θ2 : List Addr} {H H1 H2 : Hp} (l : Le θ H θ1 H1) (m : Le θ1 H1 θ2 H2) : Le θ H θ2 H2 := by
  obtain ⟨k1, ⟨ex1, e1, f1⟩, t1⟩ := l
  obtain ⟨k2, ⟨ex2, e2, f2⟩, t2⟩ := m
  have nin : ∀ a o, H a = some o → a ∉ θ → a ∉ θ1 := fun a o h n hm => by
    rw [e1] at hm
    rcases List.mem_append.mp hm with h1 | h1
    · exact n h1
    · rw [f1 a h1] at h
      cases h
  refine ⟨fun a o h n => k2 a o (k1 a o h n) (nin a o h n), ⟨ex1 ++ ex2, by rw [e2, e1, List.append_assoc], fun p hp => ?_⟩, t2⟩
  rcases List.mem_append.mp hp with h1 | h1
  · exact f1 p h1
  · cases q : H p with
    | none => rfl
    | some o =>
      have z := f2 p h1
      by_cases hm : p ∈ θ
      · obtain ⟨o', w⟩ := t1 p (by rw [e1]; exact List.mem_append_left _ hm)
        rw [z] at w
        cases w
      · rw [k1 p o q hm] at z
        cases z
theorem Le.nin {θ θ' : List Addr} {H H' : Hp} (l : Le θ H θ' H') {a : Addr} {o : HO} (h : H a = some o) (n : a ∉ θ) : a ∉ θ' := by
  obtain ⟨ex, rfl, e⟩ := l.ext
  intro hm
  rcases List.mem_append.mp hm with h1 | h1
  · exact n h1
  · rw [e a h1] at h
    cases h
theorem Le.get {θ θ' : List Addr} {H H' : Hp} (l : Le θ H θ' H') {k : Nat} {p : Addr} (h : θ[k]? = some p) : θ'[k]? = some p := by
  obtain ⟨ex, rfl, e⟩ := l.ext
  rw [List.getElem?_append_left (List.getElem?_eq_some_iff.mp h).1]
  exact h
theorem Le.sub {θ θ' : List Addr} {H H' : Hp} (l : Le θ H θ' H') {p : Addr} (h : p ∈ θ) : p ∈ θ' := by
  obtain ⟨ex, rfl, e⟩ := l.ext
  exact List.mem_append_left _ h

section
variable {K : PySem.W.Frag} {pn : List (Addr × Obj)} {θ θ' : List Addr} {H H' : Hp}
theorem rd_mono (l : Le θ H θ' H') {a : Addr} {u : HO} (h : Rd H a u ∧ a ∉ θ) : Rd H' a u ∧ a ∉ θ' := by
  obtain ⟨h | ⟨o, h⟩, n⟩ := h
  · exact ⟨.inl (l.keep _ _ h n), l.nin h n⟩
  · exact ⟨.inr ⟨o, l.keep _ _ h n⟩, l.nin h n⟩
theorem XdAt.mono (l : Le θ H θ' H') {dd : Option Addr} {fvs : List (Str × V)} (h : XdAt θ H dd fvs) : XdAt θ' H' dd fvs := by
  rcases h with ⟨d, e, h, n⟩ | h
  · exact .inl ⟨d, e, l.keep _ _ h n, l.nin h n⟩
  · exact .inr h
mutual
theorem Den.mono (l : Le θ H θ' H') : ∀ {x : V} {d : D}, Den K pn θ H x d → Den K pn θ' H' x d
  | _, _, .v => .v
  | _, _, .lst h n hs => .lst (l.keep _ _ h n) (l.nin h n) (Dens.mono l hs)
  | _, _, .tup h hs => .tup (h.imp (fun q => ⟨l.keep _ _ q.1 q.2, l.nin q.1 q.2⟩) id) (Dens.mono l hs)
  | _, _, .rl h hs => .rl (h.imp (rd_mono l) id) (Dens.mono l hs)
  | _, _, .loc h => .loc (l.get h)
  | _, _, .err hp hz hd hx hl => .err hp hz hd (XdAt.mono l hx) (Denf.mono l hl)
  | _, _, .dic h n => .dic (l.keep _ _ h n) (l.nin h n)
  | _, _, .ins hk hf h n hl hs => .ins hk hf (l.keep _ _ h n) (l.nin h n) hl (Dens.mono l hs)
theorem Dens.mono (l : Le θ H θ' H') : ∀ {x : List V} {d : List D}, Dens K pn θ H x d → Dens K pn θ' H' x d
  | _, _, .nil => .nil
  | _, _, .cons h t => .cons (Den.mono l h) (Dens.mono l t)
theorem Denf.mono (l : Le θ H θ' H') : ∀ {x : List (Str × V)} {d : List (Str × D)}, Denf K pn θ H x d → Denf K pn θ' H' x d
  | _, _, .nil => .nil
  | _, _, .cons h t => .cons (Den.mono l h) (Denf.mono l t)
end
end

/-! ### no exception within -/
mutual
def noErr : D → Bool
  | .v _ => true
  | .lst ds => noErrs ds
  | .tup ds => noErrs ds
  | .rl ds => noErrs ds
  | .loc _ => true
  | .err _ _ => false
  | .dic _ => true
  | .ins _ _ ds => noErrs ds
def noErrs : List D → Bool
  | [] => true
  | d :: ds => noErr d && noErrs ds
end
section
variable {K : PySem.W.Frag} {pn pn' : List (Addr × Obj)} {θ : List Addr} {H : Hp}
mutual
theorem Den.sub (s : ∀ p ∈ pn, p ∈ pn') : ∀ {x : V} {d : D}, Den K pn θ H x d → Den K pn' θ H x d
  | _, _, .v => .v
  | _, _, .lst h n hs => .lst h n (Dens.sub s hs)
  | _, _, .tup h hs => .tup h (Dens.sub s hs)
  | _, _, .rl h hs => .rl h (Dens.sub s hs)
  | _, _, .loc h => .loc h
  | _, _, .err hp hz hd hx hl => .err (s _ hp) hz hd hx (Denf.sub s hl)
  | _, _, .dic h n => .dic h n
  | _, _, .ins hk hf h n hl hs => .ins hk hf h n hl (Dens.sub s hs)
theorem Dens.sub (s : ∀ p ∈ pn, p ∈ pn') : ∀ {x : List V} {d : List D}, Dens K pn θ H x d → Dens K pn' θ H x d
  | _, _, .nil => .nil
  | _, _, .cons h t => .cons (Den.sub s h) (Dens.sub s t)
theorem Denf.sub (s : ∀ p ∈ pn, p ∈ pn') : ∀ {x : List (Str × V)} {d : List (Str × D)}, Denf K pn θ H x d → Denf K pn' θ H x d
  | _, _, .nil => .nil
  | _, _, .cons h t => .cons (Den.sub s h) (Denf.sub s t)
end
mutual
theorem Den.un : ∀ {x : V} {d : D}, Den K pn θ H x d → noErr d = true → Den K pn' θ H x d
  | _, _, .v, _ => .v
  | _, _, .lst h n hs, e => .lst h n (Dens.un hs e)
  | _, _, .tup h hs, e => .tup h (Dens.un hs e)
  | _, _, .rl h hs, e => .rl h (Dens.un hs e)
  | _, _, .loc h, _ => .loc h
  | _, _, .err .., e => nomatch e
  | _, _, .dic h n, _ => .dic h n
  | _, _, .ins hk hf h n hl hs, e => .ins hk hf h n hl (Dens.un hs e)
theorem Dens.un : ∀ {x : List V} {d : List D}, Dens K pn θ H x d → noErrs d = true → Dens K pn' θ H x d
  | _, _, .nil, _ => .nil
  | _, _, .cons h t, e => .cons (Den.un h (Bool.and_eq_true_iff.mp e).1) (Dens.un t (Bool.and_eq_true_iff.mp e).2)
end
end

/-! ### an instance's attributes -/
structure InsAt (K : PySem.W.Frag) (pn : List (Addr × Obj)) (θ : List Addr) (H : Hp) (C : Addr) (fvs : List (Str × V)) (fs : List (Str × D)) : Prop where
  den : Denf K pn θ H fvs fs
  ck : CK K C
  na : ∀ f ∈ fs.map (·.1), NoAttr K C f
  sm : fs.length < 1000
theorem InsAt.mono {K : PySem.W.Frag} {pn : List (Addr × Obj)} {θ θ' : List Addr} {H H' : Hp} {C : Addr} {fvs : List (Str × V)} {fs : List (Str × D)} (l : Le θ H θ' H') (h : InsAt K pn θ H C fvs fs) : InsAt K pn θ' H' C fvs fs := ⟨h.den.mono l, h.ck, h.na, h.sm⟩
theorem InsAt.sub {K : PySem.W.Frag} {pn pn' : List (Addr × Obj)} {θ : List Addr} {H : Hp} {C : Addr} {fvs : List (Str × V)} {fs : List (Str × D)} (s : ∀ p ∈ pn, p ∈ pn') (h : InsAt K pn θ H C fvs fs) : InsAt K pn' θ H C fvs fs := ⟨h.den.sub s, h.ck, h.na, h.sm⟩
theorem Denf.split {K : PySem.W.Frag} {pn : List (Addr × Obj)} {θ : List Addr} {H : Hp} : ∀ {fvs : List (Str × V)} {fs : List (Str × D)}, Denf K pn θ H fvs fs → fvs = (fs.map (·.1)).zip (fvs.map (·.2)) ∧ (fs.map (·.1)).length = (fvs.map (·.2)).length ∧ Dens K pn θ H (fvs.map (·.2)) (fs.map (·.2))
  | _, _, .nil => ⟨rfl, rfl, .nil⟩
  | _, _, .cons (f := f) (x := x) h t => by
    obtain ⟨a, b, c⟩ := Denf.split t
    refine ⟨?_, ?_, .cons h c⟩
    · rw [List.map_cons, List.map_cons, List.zip_cons_cons, ← a]
    · rw [List.map_cons, List.map_cons, List.length_cons, List.length_cons, b]
theorem InsAt.data {K : PySem.W.Frag} {pn : List (Addr × Obj)} {θ : List Addr} {H : Hp} {a C dx : Addr} {fvs : List (Str × V)} {fs : List (Str × D)} (h : InsAt K pn θ H C fvs fs) (e : H a = some (.ins C dx fvs)) (n : a ∉ θ) : Den K pn θ H (.ref a) (.ins C (fs.map (·.1)) (fs.map (·.2))) := by
  obtain ⟨a1, b1, c1⟩ := h.den.split
  rw [a1] at e
  exact .ins h.ck h.na e n b1 c1

/-! ### worlds -/
structure Wd where
  θ : List Addr
  H : Hp
  μ : Sto
section
variable (K : PySem.W.Frag)
/-- what stands at a cell's address -/
def CellAt (θ : List Addr) (H : Hp) (p : Addr) : Cell → Prop
  | .lst ds => ∃ vs, H p = some (.lst vs) ∧ Dens K [] θ H vs ds
  | .ins C fs => ∃ dx fvs, H p = some (.ins C dx fvs) ∧ InsAt K [] θ H C fvs fs
structure Ok (w : Wd) : Prop where
  nd : w.θ.Nodup
  len : w.θ.length = w.μ.length
  cell : ∀ (k : Nat) (p : Addr) (c : Cell), w.θ[k]? = some p → w.μ[k]? = some c → CellAt K w.θ w.H p c
/-- the slots -/
structure EnvR (pn : List (Addr × Obj)) (w : Wd) (σ : L2.St) (ρ : List (Option D)) : Prop where
  len : ρ.length = σ.length
  get : ∀ (i : Nat) (d : D), ρ[i]? = some (some d) → ∃ v, σ[i]? = some (some v) ∧ Den K pn w.θ w.H v d
end
abbrev WLe (w w' : Wd) : Prop := Le w.θ w.H w'.θ w'.H
section
variable {K : PySem.W.Frag} {pn : List (Addr × Obj)} {w w1 w2 : Wd} {σ : L2.St} {ρ : List (Option D)}
theorem Ok.trk (k : Ok K w) : ∀ p ∈ w.θ, ∃ o, w.H p = some o := fun p hp => by
  obtain ⟨i, hi⟩ := List.mem_iff_getElem?.mp hp
  have hl : i < w.μ.length := by rw [← k.len]; exact (List.getElem?_eq_some_iff.mp hi).1
  have hc := k.cell i p _ hi (List.getElem?_eq_getElem hl)
  cases q : w.μ[i] with
  | lst ds =>
    rw [q] at hc
    obtain ⟨vs, h, _⟩ := hc
    exact ⟨_, h⟩
  | ins C fs =>
    rw [q] at hc
    obtain ⟨_, vs, h, _⟩ := hc
    exact ⟨_, h⟩
theorem Ok.refl (k : Ok K w) : WLe w w := ⟨fun _ _ h _ => h, ⟨[], by simp, fun _ h => nomatch h⟩, k.trk⟩
theorem EnvR.mono (l : WLe w w1) (e : EnvR K pn w σ ρ) : EnvR K pn w1 σ ρ := ⟨e.len, fun i d h => by
  obtain ⟨v, h1, h2⟩ := e.get i d h
  exact ⟨v, h1, h2.mono l⟩⟩
theorem EnvR.set {i : Nat} {v : V} {d : D} (e : EnvR K pn w σ ρ) (h : Den K pn w.θ w.H v d) : EnvR K pn w (σ.set i (some v)) (ρ.set i (some d)) := ⟨by simp [e.len], fun j d' hj => by
  by_cases q : i = j
  · subst q
    by_cases hl : i < ρ.length
    · rw [List.getElem?_set_self hl] at hj
      cases hj
      rw [List.getElem?_set_self (by rw [← e.len]; exact hl)]
      exact ⟨v, rfl, h⟩
    · rw [List.getElem?_eq_none (by simpa using hl)] at hj
      cases hj
  · rw [List.getElem?_set_ne q] at hj ⊢
    exact e.get j d' hj⟩
/-- a slot that is emptied -/
theorem EnvR.wipe {i : Nat} {o : Option V} (e : EnvR K pn w σ ρ) : EnvR K pn w (σ.set i o) (ρ.set i none) := ⟨by simp [e.len], fun j d' hj => by
  by_cases q : i = j
  · subst q
    by_cases hl : i < ρ.length
    · rw [List.getElem?_set_self hl] at hj
      cases hj
    · rw [List.getElem?_eq_none (by simpa using hl)] at hj
      cases hj
  · rw [List.getElem?_set_ne q] at hj ⊢
    exact e.get j d' hj⟩
/-- cells stand behind a step that leaves them -/
theorem Ok.keep {H' : Hp} (k : Ok K w) (h : ∀ p ∈ w.θ, H' p = w.H p) (l : Le w.θ w.H w.θ H') : Ok K ⟨w.θ, H', w.μ⟩ := ⟨k.nd, k.len, fun i p c h1 h2 => by
  have hp : p ∈ w.θ := List.mem_iff_getElem?.mpr ⟨i, h1⟩
  have z := k.cell i p c h1 h2
  have e := h p hp
  cases c with
  | lst ds =>
    obtain ⟨vs, a, b⟩ := z
    exact ⟨vs, e.trans a, b.mono l⟩
  | ins C fs =>
    obtain ⟨dx, vs, a, b⟩ := z
    exact ⟨dx, vs, e.trans a, b.mono l⟩⟩
/-- a new object beside -/
theorem Ok.new {p : Addr} {o : HO} (k : Ok K w) (h : w.H p = none) : Le w.θ w.H w.θ (upd w.H p o) ∧ Ok K ⟨w.θ, upd w.H p o, w.μ⟩ ∧ p ∉ w.θ := by
  have hn : p ∉ w.θ := fun hp => by
    obtain ⟨u, hu⟩ := k.trk p hp
    rw [h] at hu
    cases hu
  have e : ∀ q ∈ w.θ, upd w.H p o q = w.H q := fun q hq => upd_ne fun z => hn (z ▸ hq)
  have l : Le w.θ w.H w.θ (upd w.H p o) := ⟨fun a u ha _ => by rw [upd_ne (ne_of_none ha h)]; exact ha, ⟨[], by simp, fun _ z => nomatch z⟩, fun q hq => by
    rw [e q hq]
    exact k.trk q hq⟩
  exact ⟨l, k.keep e l, hn⟩
end

/-! ### readings without the heap -/
structure Ex where
  C : Addr
  fs : List (Str × D)
abbrev QD := D → Sto → Prop
abbrev QX := Ex → Sto → Prop
abbrev Rho := List (Option D)
abbrev AE := Rho → Sto → QD → QX → Prop
abbrev AT := Rho → Sto → (Bool → Sto → Prop) → QX → Prop
abbrev AA := Rho → Sto → (List D → Sto → Prop) → QX → Prop
structure AEnds where
  nx : Rho → Sto → Prop
  rt : QD
  bk : Rho → Sto → Prop := fun _ _ => False
  ct : Rho → Sto → Prop := fun _ _ => False
  er : Ex → Rho → Sto → Prop := fun _ _ _ => False
abbrev AS := AEnds → Rho → Sto → Prop

section
variable (K : PySem.W.Frag) (pn : List (Addr × Obj))
def PQ (w : Wd) (Q : VK) (d : D) (μ' : Sto) : Prop := ∀ (v : V) (w' : Wd), w'.μ = μ' → WLe w w' → Ok K w' → Den K pn w'.θ w'.H v d → Q v w'.H
def PB (w : Wd) (Q : Bool → Hp → Prop) (b : Bool) (μ' : Sto) : Prop := ∀ (w' : Wd), w'.μ = μ' → WLe w w' → Ok K w' → Q b w'.H
def PL (w : Wd) (Q : List V → Hp → Prop) (d : List D) (μ' : Sto) : Prop := ∀ (v : List V) (w' : Wd), w'.μ = μ' → WLe w w' → Ok K w' → Dens K pn w'.θ w'.H v d → Q v w'.H
/-- an exception's class and dict -/
def DenX (θ : List Addr) (H : Hp) (cls : Value) (dd : Option Addr) (x : Ex) : Prop := cls = .ref x.C ∧ ∃ fvs : List (Str × V), XdAt θ H dd fvs ∧ Denf K pn θ H fvs x.fs
def PX (w : Wd) (E : XK) (x : Ex) (μ' : Sto) : Prop := ∀ (cls : Value) (dd : Option Addr) (w' : Wd), w'.μ = μ' → WLe w w' → Ok K w' → DenX K pn w'.θ w'.H cls dd x → E cls dd w'.H
def PR (w : Wd) (Q : L2.St → Hp → Prop) (ρ' : Rho) (μ' : Sto) : Prop := ∀ (σ' : L2.St) (w' : Wd), w'.μ = μ' → WLe w w' → Ok K w' → EnvR K pn w' σ' ρ' → Q σ' w'.H
structure SE (W : WX) (t : TE) (a : AE) : Prop where
  run : ∀ (w : Wd) (σ : L2.St) (ρ : Rho), Ok K w → EnvR K pn w σ ρ → ∀ (QA : QD) (XA : QX), a ρ w.μ QA XA → ∀ Q : VK, (∀ d μ', QA d μ' → PQ K pn w Q d μ') → (∀ x μ', XA x μ' → PX K pn w (fun c d H => W c d σ H) x μ') → t σ w.H Q
structure ST (W : WX) (t : TT) (a : AT) : Prop where
  run : ∀ (w : Wd) (σ : L2.St) (ρ : Rho), Ok K w → EnvR K pn w σ ρ → ∀ (QA : Bool → Sto → Prop) (XA : QX), a ρ w.μ QA XA → ∀ Q : Bool → Hp → Prop, (∀ d μ', QA d μ' → PB K w Q d μ') → (∀ x μ', XA x μ' → PX K pn w (fun c d H => W c d σ H) x μ') → t σ w.H Q
structure SA (W : WX) (t : TA) (a : AA) : Prop where
  run : ∀ (w : Wd) (σ : L2.St) (ρ : Rho), Ok K w → EnvR K pn w σ ρ → ∀ (QA : List D → Sto → Prop) (XA : QX), a ρ w.μ QA XA → ∀ Q : List V → Hp → Prop, (∀ d μ', QA d μ' → PL K pn w Q d μ') → (∀ x μ', XA x μ' → PX K pn w (fun c d H => W c d σ H) x μ') → t σ w.H Q
/-- what the ends of a statement want -/
structure EndR (W : WX) (w : Wd) (A : AEnds) (E : L2.Ends) : Prop where
  nx : ∀ ρ' μ', A.nx ρ' μ' → PR K pn w E.nx ρ' μ'
  rt : ∀ d μ', A.rt d μ' → PQ K pn w E.rt d μ'
  bk : ∀ ρ' μ', A.bk ρ' μ' → PR K pn w E.bk ρ' μ'
  ct : ∀ ρ' μ', A.ct ρ' μ' → PR K pn w E.ct ρ' μ'
  er : ∀ x ρ' μ', A.er x ρ' μ' → ∀ (σ' : L2.St) (cls : Value) (dd : Option Addr) (w' : Wd), w'.μ = μ' → WLe w w' → Ok K w' → EnvR K pn w' σ' ρ' → DenX K pn w'.θ w'.H cls dd x → W cls dd σ' w'.H
structure SS (W : WX) (t : TS) (a : AS) : Prop where
  run : ∀ (w : Wd) (σ : L2.St) (ρ : Rho), Ok K w → EnvR K pn w σ ρ → ∀ (A : AEnds), a A ρ w.μ → ∀ E : L2.Ends, EndR K pn W w A E → t E σ w.H
end
section
variable {K : PySem.W.Frag} {pn : List (Addr × Obj)} {w w1 : Wd} {W : WX}
theorem PQ.mono {Q : VK} {d : D} {μ' : Sto} (l : WLe w w1) (h : PQ K pn w Q d μ') : PQ K pn w1 Q d μ' := fun v w' e m k dn => h v w' e (l.trans m) k dn
theorem PX.mono {E : XK} {d : Ex} {μ' : Sto} (l : WLe w w1) (h : PX K pn w E d μ') : PX K pn w1 E d μ' := fun c dd w' e m k dn => h c dd w' e (l.trans m) k dn
theorem PR.mono {Q : L2.St → Hp → Prop} {d : Rho} {μ' : Sto} (l : WLe w w1) (h : PR K pn w Q d μ') : PR K pn w1 Q d μ' := fun v w' e m k dn => h v w' e (l.trans m) k dn
theorem EndR.mono {A : AEnds} {E : L2.Ends} (l : WLe w w1) (h : EndR K pn W w A E) : EndR K pn W w1 A E :=
  ⟨fun r m q => (h.nx r m q).mono l, fun r m q => (h.rt r m q).mono l, fun r m q => (h.bk r m q).mono l, fun r m q => (h.ct r m q).mono l, fun x r m q σ' c d w' e1 e2 e3 e4 e5 => h.er x r m q σ' c d w' e1 (l.trans e2) e3 e4 e5⟩
end
end DK
set_option Elab.async false
set_option linter.all false
set_option maxRecDepth 100000
set_option maxHeartbeats 2000000
namespace DK
open PySem L2 PyProof.Rows

abbrev F1 := D → Sto → QD → Prop
abbrev F2 := D → D → Sto → QD → Prop
abbrev FL := List D → Sto → QD → Prop
section
variable (K : PySem.W.Frag) (pn : List (Addr × Obj))
structure SR (r : R2) (f : F2) : Prop where
  run : ∀ (w : Wd) (x y : V) (dx dy : D), Ok K w → Den K pn w.θ w.H x dx → Den K pn w.θ w.H y dy → ∀ QA : QD, f dx dy w.μ QA → ∀ Q : VK, (∀ d μ', QA d μ' → PQ K pn w Q d μ') → r x y w.H Q
structure SU (r : V → Hp → VK → Prop) (f : F1) : Prop where
  run : ∀ (w : Wd) (x : V) (dx : D), Ok K w → Den K pn w.θ w.H x dx → ∀ QA : QD, f dx w.μ QA → ∀ Q : VK, (∀ d μ', QA d μ' → PQ K pn w Q d μ') → r x w.H Q
structure SC (r : List V → Hp → VK → Prop) (f : FL) : Prop where
  run : ∀ (w : Wd) (xs : List V) (ds : List D), Ok K w → Dens K pn w.θ w.H xs ds → ∀ QA : QD, f ds w.μ QA → ∀ Q : VK, (∀ d μ', QA d μ' → PQ K pn w Q d μ') → r xs w.H Q
end

/-! ### the readings' trees -/
/-- both branches -/
def bIf (c : Bool) (A B : Prop) : Prop := (c = true → A) ∧ (c = false → B)
def aVar (i : Nat) : AE := fun ρ μ Q _ => match ρ[i]? with | some (some d) => Q d μ | _ => False
def aV (d : D) : AE := fun _ μ Q _ => Q d μ
def aBin (f : F2) (a b : AE) : AE := fun ρ μ Q X => a ρ μ (fun x μ1 => b ρ μ1 (fun y μ2 => f x y μ2 Q) X) X
def aUn (f : F1) (a : AE) : AE := fun ρ μ Q X => a ρ μ (fun x μ1 => f x μ1 Q) X
def aNil : AA := fun _ μ Q _ => Q [] μ
def aCons (a : AE) (t : AA) : AA := fun ρ μ Q X => a ρ μ (fun x μ1 => t ρ μ1 (fun xs μ2 => Q (x :: xs) μ2) X) X
def aCB (f : FL) (t : AA) : AE := fun ρ μ Q X => t ρ μ (fun xs μ1 => f xs μ1 Q) X
def aTup (t : AA) : AE := fun ρ μ Q X => t ρ μ (fun xs μ1 => xs.length ≤ 10000 ∧ Q (.tup xs) μ1) X
def aLst (t : AA) : AE := fun ρ μ Q X => t ρ μ (fun xs μ1 => xs.length ≤ 10000 ∧ Q (.lst xs) μ1) X
/-- a display that will be changed -/
def aLstM (t : AA) : AE := fun ρ μ Q X => t ρ μ (fun xs μ1 => xs.length ≤ 10000 ∧ Q (.loc μ1.length) (μ1 ++ [.lst xs])) X
def aTest (a : AE) : AT := fun ρ μ Q X => a ρ μ (fun x μ1 => match x with | .v (.bl b) => Q b μ1 | _ => False) X
def aAnd (a b : AT) : AT := fun ρ μ Q X => a ρ μ (fun c μ1 => bIf c (b ρ μ1 Q X) (Q false μ1)) X
def aOr (a b : AT) : AT := fun ρ μ Q X => a ρ μ (fun c μ1 => bIf c (Q true μ1) (b ρ μ1 Q X)) X
def aNot (a : AT) : AT := fun ρ μ Q X => a ρ μ (fun c μ1 => Q (!c) μ1) X
def aAndV (a b : AE) : AE := fun ρ μ Q X => a ρ μ (fun x μ1 => match x with | .v (.bl c) => bIf c (b ρ μ1 Q X) (Q (.v (.bl false)) μ1) | _ => False) X
def aOrV (a b : AE) : AE := fun ρ μ Q X => a ρ μ (fun x μ1 => match x with | .v (.bl c) => bIf c (Q (.v (.bl true)) μ1) (b ρ μ1 Q X) | _ => False) X
def aNotV (a : AE) : AE := fun ρ μ Q X => a ρ μ (fun x μ1 => match x with | .v (.bl c) => Q (.v (.bl (!c))) μ1 | _ => False) X
def aIf (t : AT) (a b : AE) : AE := fun ρ μ Q X => t ρ μ (fun c μ1 => bIf c (a ρ μ1 Q X) (b ρ μ1 Q X)) X
def aChain (f g : F2) (a b c : AE) : AE := fun ρ μ Q X => a ρ μ (fun x μ1 => b ρ μ1 (fun y μ2 => f x y μ2 fun z μ3 => match z with | .v (.bl k) => bIf k (c ρ μ3 (fun u μ4 => g y u μ4 Q) X) (Q (.v (.bl false)) μ3) | _ => False) X) X

/-! ### operations -/
def fI0 (g : Int → Int → V) : F2 := fun x y μ Q => match x, y with | .v (.int i), .v (.int j) => Q (.v (g i j)) μ | _, _ => False
def fI (C : Int → Int → Prop) (g : Int → Int → V) : F2 := fun x y μ Q => match x, y with | .v (.int i), .v (.int j) => C i j ∧ Q (.v (g i j)) μ | _, _ => False
def fU (g : Int → V) : F1 := fun x μ Q => match x with | .v (.int i) => Q (.v (g i)) μ | _ => False
def fEq : F2 := fun x y μ Q => match x, y with | .v a, .v b => scal a b = true ∧ Q (.v (.bl (decide (a = b)))) μ | _, _ => False
def fNe : F2 := fun x y μ Q => match x, y with | .v a, .v b => scal a b = true ∧ Q (.v (.bl (!decide (a = b)))) μ | _, _ => False
/-- is None, is True, is False -/
def isV (x : D) (c : V) : Bool := match x with | .v a => decide (a = c) | _ => false
def fIs : F2 := fun x y μ Q => match y with | .v .non => Q (.v (.bl (isV x .non))) μ | .v (.bl b) => Q (.v (.bl (isV x (.bl b)))) μ | _ => False
def fIsN : F2 := fun x y μ Q => match y with | .v .non => Q (.v (.bl (!isV x .non))) μ | .v (.bl b) => Q (.v (.bl (!isV x (.bl b)))) μ | _ => False
def itemsOf (x : D) (μ : Sto) : Option (List D) := match x with
  | .lst ds => some ds
  | .tup ds => some ds
  | .rl ds => some ds
  | .loc k => match μ[k]? with | some (.lst ds) => some ds | _ => none
  | _ => none
/-- an item, by the number's own shape -/
def atD {α : Type} (xs : List α) (i : Int) : Option α := match i with
  | .ofNat n => xs[n]?
  | .negSucc n => atI xs (.negSucc n)
theorem atD_eq {α : Type} {xs : List α} {i : Int} : atD xs i = atI xs i := by
  cases i with
  | negSucc n => rfl
  | ofNat n =>
    show xs[n]? = atI xs (n : Int)
    unfold atI ixN
    rw [if_pos (Int.natCast_nonneg n)]
    by_cases h : n < xs.length
    · rw [if_pos (by omega)]
      rfl
    · rw [if_neg (by omega), List.getElem?_eq_none (by omega)]
      rfl
def fIx : F2 := fun x y μ Q => match itemsOf x μ, y with
  | some ds, .v (.int i) => (match atD ds i with | some d => Q d μ | none => False)
  | _, _ => False
def fCat : F2 := fun x y μ Q => match x, y with | .lst a, .lst b => a.length + b.length ≤ 1000000 ∧ Q (.lst (a ++ b)) μ | _, _ => False
def fLen : FL := fun xs μ Q => match xs with
  | [x] => (match itemsOf x μ with | some ds => Q (.v (.int ds.length)) μ | none => False)
  | _ => False
def fInt : FL := fun xs μ Q => match xs with
  | [.v (.int i)] => Q (.v (.int i)) μ
  | [.v (.bl b)] => Q (.v (.int (if b then 1 else 0))) μ
  | _ => False
def fMax : FL := fun xs μ Q => match xs with | [.v (.int i), .v (.int j)] => Q (.v (.int (if j > i then j else i))) μ | _ => False
def fMin : FL := fun xs μ Q => match xs with | [.v (.int i), .v (.int j)] => Q (.v (.int (if j < i then j else i))) μ | _ => False
/-- list(xs): a new list that nobody changes -/
def fList : FL := fun xs μ Q => match xs with
  | [x] => (match itemsOf x μ with | some ds => Q (.lst ds) μ | none => False)
  | _ => False
def tyD : D → Option String
  | .v .non => some "NoneType"
  | .v (.bl _) => some "bool"
  | .v (.int _) => some "int"
  | .v (.str _) => some "str"
  | .lst _ => some "list"
  | .tup _ => some "tuple"
  | .dic _ => some "dict"
  | .ins _ _ _ => some "own"
  | _ => none
def subT (t T : String) : Bool := t == T || (t == "bool" && T == "int")
def fIsi : FL := fun xs μ Q => match xs with
  | [x, .v (.ty T)] => (match tyD x with | some t => (T = "int" ∨ T = "bool" ∨ T = "str" ∨ T = "list" ∨ T = "tuple") ∧ Q (.v (.bl (subT t T))) μ | none => False)
  | [x, .tup [.v (.ty T), .v (.ty U)]] => (match tyD x with | some t => (T = "list" ∧ U = "tuple") ∧ Q (.v (.bl (subT t T || subT t U))) μ | none => False)
  | _ => False

/-! ### what denotes what -/
section
variable {K : PySem.W.Frag} {pn : List (Addr × Obj)} {w : Wd} {θ : List Addr} {H : Hp}
theorem Den.v_inv {x y : V} (h : Den K pn θ H x (.v y)) : x = y := by
  cases h
  rfl
theorem Dens.len : ∀ {vs : List V} {ds : List D}, Dens K pn θ H vs ds → vs.length = ds.length
  | _, _, .nil => rfl
  | _, _, .cons _ t => by rw [List.length_cons, List.length_cons, Dens.len t]
theorem Dens.get : ∀ {vs : List V} {ds : List D} {i : Nat} {d : D}, Dens K pn θ H vs ds → ds[i]? = some d → ∃ x, vs[i]? = some x ∧ Den K pn θ H x d
  | _, _, 0, d, .cons h _, e => ⟨_, rfl, by cases e; exact h⟩
  | _, _, i + 1, d, .cons _ t, e => Dens.get (i := i) t e
theorem Dens.at {vs : List V} {ds : List D} {i : Int} {d : D} (h : Dens K pn θ H vs ds) (e : atI ds i = some d) : ∃ x, atI vs i = some x ∧ Den K pn θ H x d := by
  unfold atI at e ⊢
  rw [h.len]
  cases q : ixN ds.length i with
  | none =>
    rw [q] at e
    cases e
  | some j =>
    rw [q] at e
    exact h.get e
theorem Dens.append : ∀ {vs us : List V} {ds es : List D}, Dens K pn θ H vs ds → Dens K pn θ H us es → Dens K pn θ H (vs ++ us) (ds ++ es)
  | _, _, _, _, .nil, h => h
  | _, _, _, _, .cons a t, h => .cons a (Dens.append t h)
theorem Dens.set : ∀ {vs : List V} {ds : List D} {x : V} {d : D} (i : Nat), Dens K pn θ H vs ds → Den K pn θ H x d → Dens K pn θ H (vs.set i x) (ds.set i d)
  | _, _, _, _, _, .nil, _ => .nil
  | _, _, _, _, 0, .cons _ t, h => .cons h t
  | _, _, _, _, i + 1, .cons a t, h => .cons a (Dens.set i t h)
theorem Dens.ints : ∀ {ns : List Int}, Dens K pn θ H (ns.map V.int) (ns.map fun n => D.v (.int n))
  | [] => .nil
  | _ :: _ => .cons .v Dens.ints
/-- a thing that has items -/
theorem items_sq {x : V} {d : D} {ds : List D} (k : Ok K w) (h : Den K pn w.θ w.H x d) (e : itemsOf d w.μ = some ds) :
    ∃ (p : Addr) (vs : List V), x = .ref p ∧ (SqL K w.H p vs ∨ SqT K w.H p vs) ∧ Dens K pn w.θ w.H vs ds := by
  cases h with
  | v => cases e
  | lst h n hs =>
    cases e
    exact ⟨_, _, rfl, .inl (.inl (.inl h)), hs⟩
  | tup h hs =>
    cases e
    exact ⟨_, _, rfl, .inr (h.imp (fun z => Rd.of z.1) id), hs⟩
  | rl h hs =>
    cases e
    exact ⟨_, _, rfl, .inl (h.imp (·.1) id), hs⟩
  | @loc j p h =>
    have e : (match w.μ[j]? with | some (.lst ds) => some ds | _ => none) = some ds := e
    cases q : w.μ[j]? with
    | none =>
      rw [q] at e
      cases e
    | some c =>
      rw [q] at e
      cases c with
      | lst es =>
        cases e
        obtain ⟨vs, a, b⟩ := k.cell _ _ _ h q
        exact ⟨p, vs, rfl, .inl (.inl (.inl a)), b.sub fun _ z => (List.not_mem_nil z).elim⟩
      | ins C fs => cases e
  | err => cases e
  | dic => cases e
  | ins => cases e
end

/-! ### operations hold -/
section
variable {K : PySem.W.Frag} {pn : List (Addr × Obj)}
theorem PQ.same {w : Wd} {Q : VK} {d : D} {v : V} (k : Ok K w) (h : PQ K pn w Q d w.μ) (hv : Den K pn w.θ w.H v d) : Q v w.H := h v w rfl k.refl k hv
theorem sr_I0 {g : Int → Int → V} : SR K pn (rI0 g) (fI0 g) := ⟨fun w x y dx dy k hx hy QA h Q hq => by
  unfold fI0 at h
  split at h
  · obtain rfl := hx.v_inv
    obtain rfl := hy.v_inv
    exact ⟨_, _, rfl, rfl, (hq _ _ h).same k .v⟩
  · exact h.elim⟩
theorem sr_I {C : Int → Int → Prop} {g : Int → Int → V} : SR K pn (rI C g) (fI C g) := ⟨fun w x y dx dy k hx hy QA h Q hq => by
  unfold fI at h
  split at h
  · obtain rfl := hx.v_inv
    obtain rfl := hy.v_inv
    exact ⟨_, _, rfl, rfl, h.1, (hq _ _ h.2).same k .v⟩
  · exact h.elim⟩
theorem su_U {g : Int → V} : SU K pn (rU g) (fU g) := ⟨fun w x dx k hx QA h Q hq => by
  unfold fU at h
  split at h
  · obtain rfl := hx.v_inv
    exact ⟨_, rfl, (hq _ _ h).same k .v⟩
  · exact h.elim⟩
theorem sr_eq : SR K pn rEq fEq := ⟨fun w x y dx dy k hx hy QA h Q hq => by
  unfold fEq at h
  split at h
  · obtain rfl := hx.v_inv
    obtain rfl := hy.v_inv
    exact ⟨h.1, (hq _ _ h.2).same k .v⟩
  · exact h.elim⟩
theorem sr_ne : SR K pn rNe fNe := ⟨fun w x y dx dy k hx hy QA h Q hq => by
  unfold fNe at h
  split at h
  · obtain rfl := hx.v_inv
    obtain rfl := hy.v_inv
    exact ⟨h.1, (hq _ _ h.2).same k .v⟩
  · exact h.elim⟩
/-- x is c, c None or a bool -/
def rIsC : R2 := fun x y H Q => (y = .non ∨ ∃ b, y = .bl b) ∧ Q (.bl (decide (x = y))) H
def rIsNC : R2 := fun x y H Q => (y = .non ∨ ∃ b, y = .bl b) ∧ Q (.bl (!decide (x = y))) H
theorem rel_bool {x : V} {b : Bool} (h : RelV x (.bool b)) : x = .bl b := by
  cases x with
  | bl c => cases (show Value.bool b = Value.bool c from h); rfl
  | non => cases (show Value.bool b = Value.none from h)
  | int i => obtain ⟨t, e⟩ := (show ∃ t, Value.bool b = Value.int i t from h); cases e
  | str i => obtain ⟨t, e⟩ := (show ∃ t, Value.bool b = Value.str i t from h); cases e
  | byt i => obtain ⟨t, e⟩ := (show ∃ t, Value.bool b = Value.bytes i t from h); cases e
  | flt i => obtain ⟨t, e⟩ := (show ∃ t, Value.bool b = Value.float i t from h); cases e
  | ref a => cases (show Value.bool b = Value.ref a from h)
  | ty n => cases (show Value.bool b = Value.type n from h)
theorem rel_builtin {x : V} {b : String} (h : RelV x (.builtin b)) : False := by
  cases x with
  | bl c => cases (show Value.builtin b = Value.bool c from h)
  | non => cases (show Value.builtin b = Value.none from h)
  | int i => obtain ⟨t, e⟩ := (show ∃ t, Value.builtin b = Value.int i t from h); cases e
  | str i => obtain ⟨t, e⟩ := (show ∃ t, Value.builtin b = Value.str i t from h); cases e
  | byt i => obtain ⟨t, e⟩ := (show ∃ t, Value.builtin b = Value.bytes i t from h); cases e
  | flt i => obtain ⟨t, e⟩ := (show ∃ t, Value.builtin b = Value.float i t from h); cases e
  | ref a => cases (show Value.builtin b = Value.ref a from h)
  | ty n => cases (show Value.builtin b = Value.type n from h)
theorem op_isC {X : Cx} : OpR X (compareOp .Is) rIsC := by
  intro pins s σ H x y v u Q I rx ry h
  obtain ⟨rfl | ⟨b, rfl⟩, q⟩ := h
  · exact L2.op_isN pins s σ H x .non v u Q I rx ry ⟨rfl, q⟩
  · cases (show u = Value.bool b from ry)
    by_cases e : x = .bl b
    · subst e
      cases (show v = Value.bool b from rx)
      exact wpAny_is_self (by cases b <;> rfl) ⟨.bl true, H, I, rfl, by simpa using q⟩
    · have ne : v ≠ Value.bool b := fun z => e (rel_bool (z ▸ rx))
      refine wpAny_is_other ?_ ne ⟨.bl false, H, I, rfl, by simpa [e] using q⟩
      cases v <;> first | rfl | exact (rel_builtin rx).elim
theorem op_isNC {X : Cx} : OpR X (compareOp .IsNot) rIsNC := by
  intro pins s σ H x y v u Q I rx ry h
  obtain ⟨rfl | ⟨b, rfl⟩, q⟩ := h
  · exact L2.op_notN pins s σ H x .non v u Q I rx ry ⟨rfl, q⟩
  · cases (show u = Value.bool b from ry)
    by_cases e : x = .bl b
    · subst e
      cases (show v = Value.bool b from rx)
      exact wpAny_isNot_self (by cases b <;> rfl) ⟨.bl false, H, I, rfl, by simpa using q⟩
    · have ne : v ≠ Value.bool b := fun z => e (rel_bool (z ▸ rx))
      refine wpAny_isNot_other ?_ ne ⟨.bl true, H, I, rfl, by simpa [e] using q⟩
      cases v <;> first | rfl | exact (rel_builtin rx).elim
theorem isV_den {θ : List Addr} {H : Hp} {x c : V} {d : D} (h : Den K pn θ H x d) (hc : c = .non ∨ ∃ b, c = .bl b) : decide (x = c) = isV d c := by
  cases h with
  | v => rfl
  | _ => rcases hc with rfl | ⟨b, rfl⟩ <;> rfl
theorem sr_is : SR K pn rIsC fIs := ⟨fun w x y dx dy k hx hy QA h Q hq => by
  unfold fIs at h
  split at h
  · obtain rfl := hy.v_inv
    refine ⟨.inl rfl, ?_⟩
    rw [isV_den hx (.inl rfl)]
    exact (hq _ _ h).same k .v
  · rename_i b
    obtain rfl := hy.v_inv
    refine ⟨.inr ⟨b, rfl⟩, ?_⟩
    rw [isV_den hx (.inr ⟨b, rfl⟩)]
    exact (hq _ _ h).same k .v
  · exact h.elim⟩
theorem sr_isN : SR K pn rIsNC fIsN := ⟨fun w x y dx dy k hx hy QA h Q hq => by
  unfold fIsN at h
  split at h
  · obtain rfl := hy.v_inv
    refine ⟨.inl rfl, ?_⟩
    rw [isV_den hx (.inl rfl)]
    exact (hq _ _ h).same k .v
  · rename_i b
    obtain rfl := hy.v_inv
    refine ⟨.inr ⟨b, rfl⟩, ?_⟩
    rw [isV_den hx (.inr ⟨b, rfl⟩)]
    exact (hq _ _ h).same k .v
  · exact h.elim⟩
theorem sr_ix : SR K pn (fun x y H Q => rIxL K x y H Q ∨ rIxT K x y H Q) fIx := ⟨fun w x y dx dy k hx hy QA h Q hq => by
  unfold fIx at h
  split at h
  · rename_i ds i e
    obtain rfl := hy.v_inv
    split at h
    · rename_i d ed
      rw [atD_eq] at ed
      obtain ⟨p, vs, rfl, hsq, hs⟩ := items_sq k hx e
      obtain ⟨z, ez, dz⟩ := hs.at ed
      rcases hsq with hsq | hsq
      · exact .inl ⟨p, vs, i, z, rfl, rfl, hsq, ez, (hq _ _ h).same k dz⟩
      · exact .inr ⟨p, vs, i, z, rfl, rfl, hsq, ez, (hq _ _ h).same k dz⟩
    · exact h.elim
  · exact h.elim⟩
theorem PQ.new {w : Wd} {Q : VK} {d : D} {p : Addr} {o : HO} (k : Ok K w) (hp : w.H p = none) (h : PQ K pn w Q d w.μ) (hv : Le w.θ w.H w.θ (upd w.H p o) → p ∉ w.θ → Den K pn w.θ (upd w.H p o) (.ref p) d) : Q (.ref p) (upd w.H p o) := by
  obtain ⟨l, k', n⟩ := k.new (o := o) hp
  exact h (.ref p) ⟨w.θ, upd w.H p o, w.μ⟩ rfl l k' (hv l n)
theorem sc_len : SC K pn (fun xs H Q => ∃ p ys, xs = [.ref p] ∧ (SqL K H p ys ∨ SqT K H p ys) ∧ Q (.int ys.length) H) fLen := ⟨fun w xs ds k hx QA h Q hq => by
  unfold fLen at h
  split at h
  · split at h
    · rename_i e
      cases hx with
      | cons h1 h2 =>
        cases h2
        obtain ⟨p, vs, rfl, hsq, hs⟩ := items_sq k h1 e
        refine ⟨p, vs, rfl, hsq, ?_⟩
        rw [hs.len]
        exact (hq _ _ h).same k .v
    · exact h.elim
  · exact h.elim⟩
theorem sc_int : SC K pn (fun xs H Q => (∃ i, xs = [.int i] ∧ Q (.int i) H) ∨ ∃ k, xs = [.bl k] ∧ Q (.int (if k then 1 else 0)) H) fInt := ⟨fun w xs ds k hx QA h Q hq => by
  unfold fInt at h
  split at h
  · cases hx with
    | cons h1 h2 =>
      cases h2
      obtain rfl := h1.v_inv
      exact .inl ⟨_, rfl, (hq _ _ h).same k .v⟩
  · cases hx with
    | cons h1 h2 =>
      cases h2
      obtain rfl := h1.v_inv
      exact .inr ⟨_, rfl, (hq _ _ h).same k .v⟩
  · exact h.elim⟩
theorem sc_max : SC K pn (fun xs H Q => ∃ i j, xs = [.int i, .int j] ∧ Q (.int (if j > i then j else i)) H) fMax := ⟨fun w xs ds k hx QA h Q hq => by
  unfold fMax at h
  split at h
  · cases hx with
    | cons h1 h2 =>
      cases h2 with
      | cons h3 h4 =>
        cases h4
        obtain rfl := h1.v_inv
        obtain rfl := h3.v_inv
        exact ⟨_, _, rfl, (hq _ _ h).same k .v⟩
  · exact h.elim⟩
theorem sc_min : SC K pn (fun xs H Q => ∃ i j, xs = [.int i, .int j] ∧ Q (.int (if j < i then j else i)) H) fMin := ⟨fun w xs ds k hx QA h Q hq => by
  unfold fMin at h
  split at h
  · cases hx with
    | cons h1 h2 =>
      cases h2 with
      | cons h3 h4 =>
        cases h4
        obtain rfl := h1.v_inv
        obtain rfl := h3.v_inv
        exact ⟨_, _, rfl, (hq _ _ h).same k .v⟩
  · exact h.elim⟩
theorem sc_list : SC K pn (fun xs H Q => ∃ p ys, xs = [.ref p] ∧ (SqL K H p ys ∨ SqT K H p ys) ∧ ∀ l, H l = none → Q (.ref l) (upd H l (.lst ys))) fList := ⟨fun w xs ds k hx QA h Q hq => by
  unfold fList at h
  split at h
  · split at h
    · rename_i e
      cases hx with
      | cons h1 h2 =>
        cases h2
        obtain ⟨p, vs, rfl, hsq, hs⟩ := items_sq k h1 e
        exact ⟨p, vs, rfl, hsq, fun q hp => (hq _ _ h).new k hp fun l n => .lst upd_same n (hs.mono l)⟩
    · exact h.elim
  · exact h.elim⟩
theorem kit_ty {t T : String} (ht : t = "NoneType" ∨ t = "bool" ∨ t = "int" ∨ t = "str" ∨ t = "list" ∨ t = "tuple" ∨ t = "dict") (hT : T = "int" ∨ T = "bool" ∨ T = "str" ∨ T = "list" ∨ T = "tuple") :
    PySem.W.kitOne K (.type t) (.type T) = some (subT t T) := by
  rcases ht with rfl | rfl | rfl | rfl | rfl | rfl | rfl <;> rcases hT with rfl | rfl | rfl | rfl | rfl <;> rfl
theorem kit_lt {t : String} (ht : t = "NoneType" ∨ t = "bool" ∨ t = "int" ∨ t = "str" ∨ t = "list" ∨ t = "tuple" ∨ t = "dict") :
    PySem.W.kitAny K (.type t) [.type "list", .type "tuple"] = some (subT t "list" || subT t "tuple") := by
  rcases ht with rfl | rfl | rfl | rfl | rfl | rfl | rfl <;> rfl
/-- what isinstance by a type's name answers -/
structure Kit (K : PySem.W.Frag) (t : String) (c : Value) : Prop where
  one : ∀ T, (T = "int" ∨ T = "bool" ∨ T = "str" ∨ T = "list" ∨ T = "tuple") → PySem.W.kitOne K c (.type T) = some (subT t T)
  lt : PySem.W.kitAny K c [.type "list", .type "tuple"] = some (subT t "list" || subT t "tuple")
theorem Kit.ty {K : PySem.W.Frag} {t : String} (ht : t = "NoneType" ∨ t = "bool" ∨ t = "int" ∨ t = "str" ∨ t = "list" ∨ t = "tuple" ∨ t = "dict") : Kit K t (.type t) := ⟨fun _ h => kit_ty ht h, kit_lt ht⟩
theorem Kit.own {K : PySem.W.Frag} {C : Addr} (h : CK K C) : Kit K "own" (.ref C) := ⟨fun T hT => by
  rcases hT with rfl | rfl | rfl | rfl | rfl
  · exact h.k1
  · exact h.k2
  · exact h.k3
  · exact h.k4
  · exact h.k5, by
  unfold PySem.W.kitAny
  rw [h.k4]
  show PySem.W.kitAny K (.ref C) [.type "tuple"] = _
  unfold PySem.W.kitAny
  rw [h.k5]
  rfl⟩
theorem CK.tyof {K : PySem.W.Frag} {H : Hp} {a C dx : Addr} {fs : List (Str × V)} (h : CK K C) (e : H a = some (.ins C dx fs)) : TyX K H (.ref a) (.ref C) := .base (.ins e h.cl h.ha h.hn h.htk h.hm)
theorem ty_den {θ : List Addr} {H : Hp} {x : V} {d : D} {t : String} (h : Den K pn θ H x d) (e : tyD d = some t) : ∃ c, TyX K H x c ∧ Kit K t c := by
  cases h with
  | v =>
    cases x with
    | non => cases e; exact ⟨_, .base .non, .ty (by simp)⟩
    | bl b => cases e; exact ⟨_, .base (.bl b), .ty (by simp)⟩
    | int b => cases e; exact ⟨_, .base (.int b), .ty (by simp)⟩
    | str b => cases e; exact ⟨_, .base (.str b), .ty (by simp)⟩
    | _ => cases e
  | lst h n hs => cases e; exact ⟨_, .base (.lst h), .ty (by simp)⟩
  | tup h hs =>
    cases e
    refine ⟨.type "tuple", ?_, .ty (by simp)⟩
    rcases h with ⟨h, n⟩ | ⟨o, its, n, h1, h2, _⟩
    · exact .base (.tup h)
    · exact .kTuple h1 h2
  | rl h hs => cases e
  | loc h => cases e
  | err => cases e
  | dic h n => cases e; exact ⟨_, .base (.dK h), .ty (by simp)⟩
  | ins hk hf h n hl hs => cases e; exact ⟨_, hk.tyof h, .own hk⟩
theorem sc_isi : SC K pn (fun xs H Q => rIsi K xs H Q ∨ rIsiT K xs H Q ∨ rIsiK K xs H Q) fIsi := ⟨fun w xs ds k hx QA h Q hq => by
  unfold fIsi at h
  split at h
  · split at h
    · rename_i t et
      cases hx with
      | cons h1 h2 =>
        cases h2 with
        | cons h3 h4 =>
          cases h4
          obtain rfl := h3.v_inv
          obtain ⟨c, a, b⟩ := ty_den h1 et
          exact .inl ⟨_, _, _, _, _, rfl, .ty _, a, b.one _ h.1, (hq _ _ h.2).same k .v⟩
    · exact h.elim
  · split at h
    · rename_i t et
      cases hx with
      | cons h1 h2 =>
        cases h2 with
        | cons h3 h4 =>
          cases h4
          obtain ⟨c, a, b⟩ := ty_den h1 et
          obtain ⟨⟨rfl, rfl⟩, h5⟩ := h
          cases h3 with
          | tup ht hs =>
            cases hs with
            | cons t1 t2 =>
              cases t2 with
              | cons t3 t4 =>
                cases t4
                obtain rfl := t1.v_inv
                obtain rfl := t3.v_inv
                rcases ht with ⟨ht, n⟩ | ⟨o, its, n, h1, h2, h3, h4, h6⟩
                · exact .inr (.inl ⟨_, _, _, _, _, _, rfl, ht, .cons (.ty _) (.cons (.ty _) .nil), a, b.lt, (hq _ _ h5).same k .v⟩)
                · have e : its.toList = [.type "list", .type "tuple"] := ClsV.all (.cons (.ty _) (.cons (.ty _) .nil)) h6
                  obtain ⟨oc, od, dt, sl⟩ := o
                  simp only at h2 h3
                  subst h2 h3
                  refine .inr (.inr ⟨_, _, od, its.toList, n, sl, _, _, rfl, by simpa using h1, a, ?_, (hq _ _ h5).same k .v⟩)
                  rw [e]
                  exact b.lt
    · exact h.elim
  · exact h.elim⟩
end
end DK
set_option Elab.async false
set_option linter.all false
set_option maxRecDepth 100000
set_option maxHeartbeats 2000000
namespace DK
open PySem L2 PyProof.Rows

/-! ### readings composed -/
section
variable {K : PySem.W.Frag} {pn : List (Addr × Obj)} {W : WX} {ta tb tc te : TE} {a b c e : AE} {r r' : R2} {f g : F2} {tt tu : TT} {t u : AT} {tl : TA} {l : AA}
theorem se_var {i : Nat} : SE K pn W (tVar i) (aVar i) := ⟨fun w σ ρ k e QA XA h Q hq hx => by
  unfold aVar at h
  split at h
  · rename_i d ed
    obtain ⟨v, hv, dn⟩ := e.get i d ed
    exact ⟨v, hv, (hq _ _ h).same k dn⟩
  · exact h.elim⟩
theorem se_c {x : V} : SE K pn W (tC x) (aV (.v x)) := ⟨fun w σ ρ k e QA XA h Q hq hx => (hq _ _ h).same k .v⟩
/-- a name of the module that holds a written tuple or list -/
theorem se_glob {x : V} {d : D} (hd : ∀ θ H, Den K pn θ H x d) : SE K pn W (tC x) (aV d) := ⟨fun w σ ρ k e QA XA h Q hq hx => (hq _ _ h).same k (hd _ _)⟩
theorem se_bin (hr : SR K pn r f) (ha : SE K pn W ta a) (hb : SE K pn W tb b) : SE K pn W (tOp r ta tb) (aBin f a b) := ⟨fun w σ ρ k e QA XA h Q hq hx =>
  ha.run w σ ρ k e _ XA h _ (fun dx μ1 h1 x w1 em l1 k1 d1 => by
    subst em
    refine hb.run w1 σ ρ k1 (e.mono l1) _ XA h1 _ (fun dy μ2 h2 y w2 em2 l2 k2 d2 => ?_) (fun x μ' q => (hx x μ' q).mono l1)
    subst em2
    exact hr.run w2 x y dx dy k2 (d1.mono l2) d2 QA h2 Q fun d μ' q => (hq d μ' q).mono (l1.trans l2)) hx⟩
theorem se_un {r : V → Hp → VK → Prop} {f : F1} (hr : SU K pn r f) (ha : SE K pn W ta a) : SE K pn W (tUn r ta) (aUn f a) := ⟨fun w σ ρ k e QA XA h Q hq hx =>
  ha.run w σ ρ k e _ XA h _ (fun dx μ1 h1 x w1 em l1 k1 d1 => by
    subst em
    exact hr.run w1 x dx k1 d1 QA h1 Q fun d μ' q => (hq d μ' q).mono l1) hx⟩
theorem sa_nil : SA K pn W tNil aNil := ⟨fun w σ ρ k e QA XA h Q hq hx => hq _ _ h [] w rfl k.refl k .nil⟩
theorem sa_cons (ha : SE K pn W ta a) (hl : SA K pn W tl l) : SA K pn W (tCons ta tl) (aCons a l) := ⟨fun w σ ρ k e QA XA h Q hq hx =>
  ha.run w σ ρ k e _ XA h _ (fun dx μ1 h1 x w1 em l1 k1 d1 => by
    subst em
    refine hl.run w1 σ ρ k1 (e.mono l1) _ XA h1 _ (fun ds μ2 h2 xs w2 em2 l2 k2 d2 => ?_) (fun x μ' q => (hx x μ' q).mono l1)
    exact hq _ _ h2 (x :: xs) w2 em2 (l1.trans l2) k2 (.cons (d1.mono l2) d2)) hx⟩
theorem se_cb {r : List V → Hp → VK → Prop} {f : FL} (hr : SC K pn r f) (hl : SA K pn W tl l) : SE K pn W (tCB r tl) (aCB f l) := ⟨fun w σ ρ k e QA XA h Q hq hx =>
  hl.run w σ ρ k e _ XA h _ (fun ds μ1 h1 xs w1 em l1 k1 d1 => by
    subst em
    exact hr.run w1 xs ds k1 d1 QA h1 Q fun d μ' q => (hq d μ' q).mono l1) hx⟩
theorem se_tup (hl : SA K pn W tl l) : SE K pn W (tTup tl) (aTup l) := ⟨fun w σ ρ k e QA XA h Q hq hx =>
  hl.run w σ ρ k e _ XA h _ (fun ds μ1 h1 xs w1 em l1 k1 d1 => by
    subst em
    refine ⟨?_, fun p hp => ((hq _ _ h1.2).mono l1).new k1 hp fun l n => .tup (.inl ⟨upd_same, n⟩) (d1.mono l)⟩
    rw [d1.len]
    exact Nat.le_trans h1.1 (by decide)) hx⟩
theorem se_lst (hl : SA K pn W tl l) : SE K pn W (tLst tl) (aLst l) := ⟨fun w σ ρ k e QA XA h Q hq hx =>
  hl.run w σ ρ k e _ XA h _ (fun ds μ1 h1 xs w1 em l1 k1 d1 => by
    subst em
    refine ⟨?_, fun p hp => ((hq _ _ h1.2).mono l1).new k1 hp fun l n => .lst upd_same n (d1.mono l)⟩
    rw [d1.len]
    exact Nat.le_trans h1.1 (by decide)) hx⟩
/-- a new cell -/
theorem Ok.cellL {w : Wd} {p : Addr} {vs : List V} {ds : List D} (k : Ok K w) (hp : w.H p = none) (hs : Dens K [] w.θ w.H vs ds) :
    WLe w ⟨w.θ ++ [p], upd w.H p (.lst vs), w.μ ++ [.lst ds]⟩ ∧ Ok K ⟨w.θ ++ [p], upd w.H p (.lst vs), w.μ ++ [.lst ds]⟩ := by
  have hn : p ∉ w.θ := fun hm => by
    obtain ⟨u, hu⟩ := k.trk p hm
    rw [hp] at hu
    cases hu
  have l : Le w.θ w.H (w.θ ++ [p]) (upd w.H p (.lst vs)) := ⟨fun a u ha _ => by rw [upd_ne (ne_of_none ha hp)]; exact ha, ⟨[p], rfl, fun q hq => by
    rw [List.mem_singleton.mp hq]
    exact hp⟩, fun q hq => by
    rcases List.mem_append.mp hq with hq | hq
    · have hqp : q ≠ p := fun z => hn (by rw [← z]; exact hq)
      rw [upd_ne hqp]
      exact k.trk q hq
    · rw [List.mem_singleton.mp hq]
      exact ⟨_, upd_same⟩⟩
  refine ⟨l, ⟨?_, by simp [k.len], fun i q c h1 h2 => ?_⟩⟩
  · refine List.nodup_append.mpr ⟨k.nd, by simp, fun a ha b hb => ?_⟩
    rw [List.mem_singleton.mp hb]
    exact fun z => hn (by rw [← z]; exact ha)
  · by_cases hi : i < w.θ.length
    · rw [List.getElem?_append_left hi] at h1
      rw [List.getElem?_append_left (by rw [← k.len]; exact hi)] at h2
      have z := k.cell i q c h1 h2
      have hq : q ∈ w.θ := List.mem_iff_getElem?.mpr ⟨i, h1⟩
      have e : upd w.H p (.lst vs) q = w.H q := upd_ne fun z => hn (by rw [← z]; exact hq)
      cases c with
      | lst ds =>
        obtain ⟨us, a, b⟩ := z
        exact ⟨us, e.trans a, b.mono l⟩
      | ins C fs =>
        obtain ⟨dx, us, a, b⟩ := z
        exact ⟨dx, us, e.trans a, b.mono l⟩
    · have hi' : i = w.θ.length := by
        have := (List.getElem?_eq_some_iff.mp h1).1
        simp at this
        omega
      subst hi'
      rw [List.getElem?_append_right (Nat.le_refl _)] at h1
      rw [List.getElem?_append_right (by rw [k.len]; exact Nat.le_refl _)] at h2
      rw [Nat.sub_self] at h1
      rw [k.len, Nat.sub_self] at h2
      cases h1
      cases h2
      exact ⟨vs, upd_same, hs.mono l⟩
theorem se_lstM (hl : SA K [] W tl l) : SE K [] W (tLst tl) (aLstM l) := ⟨fun w σ ρ k e QA XA h Q hq hx =>
  hl.run w σ ρ k e _ XA h _ (fun ds μ1 h1 xs w1 em l1 k1 d1 => by
    subst em
    refine ⟨?_, fun p hp => ?_⟩
    · rw [d1.len]
      exact Nat.le_trans h1.1 (by decide)
    · obtain ⟨l2, k2⟩ := k1.cellL hp d1
      refine hq _ _ h1.2 (.ref p) ⟨w1.θ ++ [p], upd w1.H p (.lst xs), w1.μ ++ [.lst ds]⟩ rfl (l1.trans l2) k2 (.loc ?_)
      show (w1.θ ++ [p])[w1.μ.length]? = some p
      rw [← k1.len, List.getElem?_append_right (Nat.le_refl _), Nat.sub_self]
      rfl) hx⟩
theorem st_test (ha : SE K pn W ta a) : ST K pn W (tTest ta) (aTest a) := ⟨fun w σ ρ k e QA XA h Q hq hx =>
  ha.run w σ ρ k e _ XA h _ (fun dx μ1 h1 x w1 em l1 k1 d1 => by
    split at h1
    · obtain rfl := d1.v_inv
      exact ⟨_, rfl, hq _ _ h1 w1 em l1 k1⟩
    · exact h1.elim) hx⟩
theorem st_B (ha : SE K pn W ta a) : ST K pn W (tB ta) (aTest a) := ⟨fun w σ ρ k e QA XA h Q hq hx =>
  ha.run w σ ρ k e _ XA h _ (fun dx μ1 h1 x w1 em l1 k1 d1 => by
    split at h1
    · obtain rfl := d1.v_inv
      exact ⟨_, rfl, hq _ _ h1 w1 em l1 k1⟩
    · exact h1.elim) hx⟩
theorem PB.mono {w w1 : Wd} {Q : Bool → Hp → Prop} {b : Bool} {μ' : Sto} (l : WLe w w1) (h : PB K w Q b μ') : PB K w1 Q b μ' := fun w' e m k => h w' e (l.trans m) k
theorem st_and (ha : ST K pn W tt t) (hb : ST K pn W tu u) : ST K pn W (tAnd tt tu) (aAnd t u) := ⟨fun w σ ρ k e QA XA h Q hq hx =>
  ha.run w σ ρ k e _ XA h _ (fun c μ1 h1 w1 em l1 k1 => by
    subst em
    cases c with
    | true => exact hb.run w1 σ ρ k1 (e.mono l1) _ XA (h1.1 rfl) _ (fun d μ' q => (hq d μ' q).mono l1) (fun x μ' q => (hx x μ' q).mono l1)
    | false => exact hq _ _ (h1.2 rfl) w1 rfl l1 k1) hx⟩
theorem st_or (ha : ST K pn W tt t) (hb : ST K pn W tu u) : ST K pn W (tOr tt tu) (aOr t u) := ⟨fun w σ ρ k e QA XA h Q hq hx =>
  ha.run w σ ρ k e _ XA h _ (fun c μ1 h1 w1 em l1 k1 => by
    subst em
    cases c with
    | false => exact hb.run w1 σ ρ k1 (e.mono l1) _ XA (h1.2 rfl) _ (fun d μ' q => (hq d μ' q).mono l1) (fun x μ' q => (hx x μ' q).mono l1)
    | true => exact hq _ _ (h1.1 rfl) w1 rfl l1 k1) hx⟩
theorem st_not (ha : ST K pn W tt t) : ST K pn W (tNot tt) (aNot t) := ⟨fun w σ ρ k e QA XA h Q hq hx =>
  ha.run w σ ρ k e _ XA h _ (fun c μ1 h1 w1 em l1 k1 => hq _ _ h1 w1 em l1 k1) hx⟩
theorem se_andV (ha : SE K pn W ta a) (hb : SE K pn W tb b) : SE K pn W (tAndV ta tb) (aAndV a b) := ⟨fun w σ ρ k e QA XA h Q hq hx =>
  ha.run w σ ρ k e _ XA h _ (fun dx μ1 h1 x w1 em l1 k1 d1 => by
    subst em
    split at h1
    · rename_i c
      obtain rfl := d1.v_inv
      refine ⟨c, rfl, ?_⟩
      cases c with
      | true => exact hb.run w1 σ ρ k1 (e.mono l1) _ XA (h1.1 rfl) _ (fun d μ' q => (hq d μ' q).mono l1) (fun x μ' q => (hx x μ' q).mono l1)
      | false => exact hq _ _ (h1.2 rfl) _ w1 rfl l1 k1 .v
    · exact h1.elim) hx⟩
theorem se_notV (ha : SE K pn W ta a) : SE K pn W (tNotV ta) (aNotV a) := ⟨fun w σ ρ k e QA XA h Q hq hx =>
  ha.run w σ ρ k e _ XA h _ (fun dx μ1 h1 x w1 em l1 k1 d1 => by
    split at h1
    · obtain rfl := d1.v_inv
      exact ⟨_, rfl, hq _ _ h1 _ w1 em l1 k1 .v⟩
    · exact h1.elim) hx⟩
theorem se_if (ht : ST K pn W tt t) (ha : SE K pn W ta a) (hb : SE K pn W tb b) : SE K pn W (tIf tt ta tb) (aIf t a b) := ⟨fun w σ ρ k e QA XA h Q hq hx =>
  ht.run w σ ρ k e _ XA h _ (fun c μ1 h1 w1 em l1 k1 => by
    subst em
    cases c with
    | true => exact ha.run w1 σ ρ k1 (e.mono l1) _ XA (h1.1 rfl) _ (fun d μ' q => (hq d μ' q).mono l1) (fun x μ' q => (hx x μ' q).mono l1)
    | false => exact hb.run w1 σ ρ k1 (e.mono l1) _ XA (h1.2 rfl) _ (fun d μ' q => (hq d μ' q).mono l1) (fun x μ' q => (hx x μ' q).mono l1)) hx⟩
theorem se_chain (hr : SR K pn r f) (hr' : SR K pn r' g) (ha : SE K pn W ta a) (hb : SE K pn W tb b) (hc : SE K pn W tc c) : SE K pn W (tChain r r' ta tb tc) (aChain f g a b c) := ⟨fun w σ ρ k e QA XA h Q hq hx =>
  ha.run w σ ρ k e _ XA h _ (fun dx μ1 h1 x w1 em l1 k1 d1 => by
    subst em
    refine hb.run w1 σ ρ k1 (e.mono l1) _ XA h1 _ (fun dy μ2 h2 y w2 em2 l2 k2 d2 => ?_) (fun x μ' q => (hx x μ' q).mono l1)
    subst em2
    refine hr.run w2 x y dx dy k2 (d1.mono l2) d2 _ h2 _ fun dz μ3 h3 z w3 em3 l3 k3 d3 => ?_
    subst em3
    split at h3
    · rename_i c
      obtain rfl := d3.v_inv
      refine ⟨c, rfl, ?_⟩
      have l13 := (l1.trans l2).trans l3
      cases c with
      | true =>
        refine hc.run w3 σ ρ k3 (e.mono l13) _ XA (h3.1 rfl) _ (fun du μ4 h4 u w4 em4 l4 k4 d4 => ?_) (fun x μ' q => (hx x μ' q).mono l13)
        subst em4
        exact hr'.run w4 y u dy du k4 (d2.mono (l3.trans l4)) d4 QA h4 Q fun d μ' q => (hq d μ' q).mono (l13.trans l4)
      | false => exact hq _ _ (h3.2 rfl) _ w3 rfl l13 k3 .v
    · exact h3.elim) hx⟩
end

/-! ### with the syntax -/
structure DE (X : Cx) (pn : List (Addr × Obj)) (W : WX) (e : Expr) (a : AE) : Prop where
  ex : ∃ t, PE X e t ∧ SE X.K pn W t a
structure DT (X : Cx) (pn : List (Addr × Obj)) (W : WX) (e : Expr) (a : AT) : Prop where
  ex : ∃ t, PT X e t ∧ ST X.K pn W t a
structure DW (X : Cx) (pn : List (Addr × Obj)) (W : WX) (e : Expr) (a : AT) : Prop where
  ex : ∃ t, PW X e t ∧ ST X.K pn W t a
structure DA (X : Cx) (pn : List (Addr × Obj)) (W : WX) (es : List Expr) (a : AA) : Prop where
  ex : ∃ t, PA X es t ∧ SA X.K pn W t a
structure DS (X : Cx) (pn : List (Addr × Obj)) (W : WX) (st : Stmt) (a : AS) : Prop where
  ex : ∃ t, PS X st t ∧ SS X.K pn W t a
structure DSs (X : Cx) (pn : List (Addr × Obj)) (W : WX) (st : List Stmt) (a : AS) : Prop where
  ex : ∃ t, PSs X st t ∧ SS X.K pn W t a
structure DOp (X : Cx) (pn : List (Addr × Obj)) (o : Value → Value → Sem Value) (f : F2) : Prop where
  ex : ∃ r, OpR X o r ∧ SR X.K pn r f
structure DUn (X : Cx) (pn : List (Addr × Obj)) (o : Value → Sem Value) (f : F1) : Prop where
  ex : ∃ r, UnR X o r ∧ SU X.K pn r f
structure DCl (X : Cx) (pn : List (Addr × Obj)) (v : Value) (f : FL) : Prop where
  ex : ∃ r, CallR X v r ∧ SC X.K pn r f
section
variable {X : Cx} {pn : List (Addr × Obj)} {W : WX} {e e1 e2 e3 : Expr} {es : List Expr} {a b c : AE} {t u : AT} {l : AA} {f g : F2} {pos pos' p : Pos} {x : Str}
theorem d_var (i : Nat) (hN : X.N[i]? = some x := by rfl) (hv : Vis X.env.scope x := by first | exact Or.inl rfl | exact Or.inr (Or.inl rfl) | exact Or.inr (Or.inr rfl)) (hd : (x == ("__debug__" : Str)) = false := by decide)
    (hcd : (x == ("__classdict__" : Str)) = false := by decide) : DE X pn W (.Name x pos) (aVar i) := ⟨_, pe_var hN hv hd hcd, se_var⟩
theorem d_int {i j} : DE X pn W (.Constant (.int i) j pos) (aV (.v (.int i))) := ⟨_, pe_int, se_c⟩
theorem d_bl {i j} : DE X pn W (.Constant (.bool i) j pos) (aV (.v (.bl i))) := ⟨_, pe_bl, se_c⟩
theorem d_non {j} : DE X pn W (.Constant .none j pos) (aV (.v .non)) := ⟨_, pe_non, se_c⟩
theorem d_str {i j} : DE X pn W (.Constant (.str i) j pos) (aV (.v (.str i))) := ⟨_, pe_str, se_c⟩
theorem d_glob {d : D} {v : V} {u : Value} (hm : X.mg x = some u) (r : RelV v u) (hd : ∀ θ H, Den X.K pn θ H v d) (hg : Gl X x := by rfl) (hdb : (x == ("__debug__" : Str)) = false := by decide) : DE X pn W (.Name x pos) (aV d) :=
  ⟨_, pe_glob hg hm r hdb, se_glob hd⟩
theorem d_globV {v : V} {u : Value} (hm : X.mg x = some u) (r : RelV v u) (hg : Gl X x := by rfl) (hdb : (x == ("__debug__" : Str)) = false := by decide) : DE X pn W (.Name x pos) (aV (.v v)) :=
  ⟨_, pe_glob hg hm r hdb, se_c⟩
/-- a builtin's name as a value (a type) -/
theorem d_ty {T : String} (hm : X.mg x = none) (hv : bootBuiltins x = some (.type T)) (hg : Gl X x := by rfl) (hn : x ≠ "__name__" := by decide) (hdb : (x == ("__debug__" : Str)) = false := by decide) : DE X pn W (.Name x pos) (aV (.v (.ty T))) :=
  ⟨_, pe_bltn (v := .ty T) hg hm hv rfl hn hdb, se_c⟩
theorem d_bin {op : Operator} (o : DOp X pn (binaryOp op) f) (ha : DE X pn W e1 a) (hb : DE X pn W e2 b) : DE X pn W (.BinOp e1 op e2 pos) (aBin f a b) := by
  obtain ⟨r, o1, o2⟩ := o.ex
  obtain ⟨ta, a1, a2⟩ := ha.ex
  obtain ⟨tb, b1, b2⟩ := hb.ex
  exact ⟨_, pe_op o1 a1 b1, se_bin o2 a2 b2⟩
theorem d_un {op : UnaryOp} {f : F1} (o : DUn X pn (unaryOp op) f) (ha : DE X pn W e1 a) (hs : (op == .Not) = false := by rfl) : DE X pn W (.UnaryOp op e1 pos) (aUn f a) := by
  obtain ⟨r, o1, o2⟩ := o.ex
  obtain ⟨ta, a1, a2⟩ := ha.ex
  exact ⟨_, pe_un o1 a1, se_un o2 a2⟩
theorem d_cmp {op : CmpOp} (o : DOp X pn (compareOp op) f) (ha : DE X pn W e1 a) (hb : DE X pn W e2 b) (hm : behindInMarks op e2 = false := by first | exact nobehind _ (by decide) (by decide) | with_unfolding_all rfl) : DE X pn W (.Compare e1 [op] [e2] pos) (aBin f a b) := by
  obtain ⟨r, o1, o2⟩ := o.ex
  obtain ⟨ta, a1, a2⟩ := ha.ex
  obtain ⟨tb, b1, b2⟩ := hb.ex
  exact ⟨_, pe_cmpR o1 a1 b1 hm, se_bin o2 a2 b2⟩
theorem d_tcmp {op : CmpOp} (o : DOp X pn (compareOp op) f) (ha : DE X pn W e1 a) (hb : DE X pn W e2 b) (hm : behindInMarks op e2 = false := by first | exact nobehind _ (by decide) (by decide) | with_unfolding_all rfl) : DT X pn W (.Compare e1 [op] [e2] pos) (aTest (aBin f a b)) := by
  obtain ⟨r, o1, o2⟩ := o.ex
  obtain ⟨ta, a1, a2⟩ := ha.ex
  obtain ⟨tb, b1, b2⟩ := hb.ex
  exact ⟨_, pt_cmpR o1 a1 b1 hm, st_test (se_bin o2 a2 b2)⟩
theorem d_chain {op op' : CmpOp} (o : DOp X pn (compareOp op) f) (o' : DOp X pn (compareOp op') g) (ha : DE X pn W e1 a) (hb : DE X pn W e2 b) (hc : DE X pn W e3 c) (hm : lastMarks [op, op'] [e2, e3] = false := by with_unfolding_all rfl) : DE X pn W (.Compare e1 [op, op'] [e2, e3] pos) (aChain f g a b c) := by
  obtain ⟨r, o1, o2⟩ := o.ex
  obtain ⟨r', o1', o2'⟩ := o'.ex
  obtain ⟨ta, a1, a2⟩ := ha.ex
  obtain ⟨tb, b1, b2⟩ := hb.ex
  obtain ⟨tc, c1, c2⟩ := hc.ex
  exact ⟨_, pe_chain o1 o1' a1 b1 c1 hm, se_chain o2 o2' a2 b2 c2⟩
theorem d_and (ha : DE X pn W e1 a) (hb : DE X pn W (.BoolOp .And (e2 :: es) pos) b) : DE X pn W (.BoolOp .And (e1 :: e2 :: es) pos) (aAndV a b) := by
  obtain ⟨ta, a1, a2⟩ := ha.ex
  obtain ⟨tb, b1, b2⟩ := hb.ex
  exact ⟨_, pe_and a1 b1, se_andV a2 b2⟩
theorem d_one {op} (ha : DE X pn W e1 a) : DE X pn W (.BoolOp op [e1] pos) a := by
  obtain ⟨ta, a1, a2⟩ := ha.ex
  exact ⟨_, pe_one a1, a2⟩
theorem d_not (ha : DE X pn W e1 a) : DE X pn W (.UnaryOp .Not e1 pos) (aNotV a) := by
  obtain ⟨ta, a1, a2⟩ := ha.ex
  exact ⟨_, pe_not a1, se_notV a2⟩
theorem d_if (ht : DT X pn W e1 t) (ha : DE X pn W e2 a) (hb : DE X pn W e3 b) : DE X pn W (.IfExp e1 e2 e3 pos) (aIf t a b) := by
  obtain ⟨tt, t1, t2⟩ := ht.ex
  obtain ⟨ta, a1, a2⟩ := ha.ex
  obtain ⟨tb, b1, b2⟩ := hb.ex
  exact ⟨_, pe_ifExp t1 a1 b1, se_if t2 a2 b2⟩
/-! tests -/
theorem d_tval (ha : DE X pn W e a) (he : ∀ whole, isTrue e X.env whole = (do let v ← whole; standAt e.pos; holding [v] (truthy v)) := by intro _; rfl) : DT X pn W e (aTest a) := by
  obtain ⟨ta, a1, a2⟩ := ha.ex
  exact ⟨_, pt_val a1 he, st_B a2⟩
theorem d_tw (h : DW X pn W e t) : DT X pn W e t := by
  obtain ⟨tt, t1, t2⟩ := h.ex
  exact ⟨_, t1.pt, t2⟩
theorem d_tnot (h : DT X pn W e t) : DT X pn W (.UnaryOp .Not e pos) (aNot t) := by
  obtain ⟨tt, t1, t2⟩ := h.ex
  exact ⟨_, pt_not t1, st_not t2⟩
theorem d_wand (ha : DT X pn W e1 t) (hb : DW X pn W (.BoolOp .And (e2 :: es) pos) u) : DW X pn W (.BoolOp .And (e1 :: e2 :: es) pos) (aAnd t u) := by
  obtain ⟨ta, a1, a2⟩ := ha.ex
  obtain ⟨tb, b1, b2⟩ := hb.ex
  exact ⟨_, pw_and a1 b1, st_and a2 b2⟩
theorem d_wor (ha : DT X pn W e1 t) (hb : DW X pn W (.BoolOp .Or (e2 :: es) pos) u) : DW X pn W (.BoolOp .Or (e1 :: e2 :: es) pos) (aOr t u) := by
  obtain ⟨ta, a1, a2⟩ := ha.ex
  obtain ⟨tb, b1, b2⟩ := hb.ex
  exact ⟨_, pw_or a1 b1, st_or a2 b2⟩
theorem d_wand1 (ha : DT X pn W e1 t) : DW X pn W (.BoolOp .And [e1] pos) t := by
  obtain ⟨ta, a1, a2⟩ := ha.ex
  exact ⟨_, pw_and1 a1, a2⟩
theorem d_wor1 (ha : DT X pn W e1 t) : DW X pn W (.BoolOp .Or [e1] pos) t := by
  obtain ⟨ta, a1, a2⟩ := ha.ex
  exact ⟨_, pw_or1 a1, a2⟩
/-! arguments, displays, calls of built-ins, items -/
theorem d_nil : DA X pn W [] aNil := ⟨_, pa_nil, sa_nil⟩
theorem d_cons (ha : DE X pn W e a) (hl : DA X pn W es l) (hs : starEach (e :: es) X.env = (false, eval e X.env) :: starEach es X.env := by rfl) : DA X pn W (e :: es) (aCons a l) := by
  obtain ⟨ta, a1, a2⟩ := ha.ex
  obtain ⟨tl, l1, l2⟩ := hl.ex
  exact ⟨_, pa_cons a1 l1 hs, sa_cons a2 l2⟩
theorem d_tup {k1 : Nat} (hl : DA X pn W es l) : DE X pn W (.Tuple es k1 pos) (aTup l) := by
  obtain ⟨tl, l1, l2⟩ := hl.ex
  exact ⟨_, pe_tup l1, se_tup l2⟩
theorem d_lst (hl : DA X pn W es l) : DE X pn W (.List es pos) (aLst l) := by
  obtain ⟨tl, l1, l2⟩ := hl.ex
  exact ⟨_, pe_lst l1, se_lst l2⟩
theorem d_lstM (hl : DA X [] W es l) : DE X [] W (.List es pos) (aLstM l) := by
  obtain ⟨tl, l1, l2⟩ := hl.ex
  exact ⟨_, pe_lst l1, se_lstM l2⟩
theorem d_cb {id : String} {f : FL} (hc : DCl X pn (.builtin id) f) (hm : X.mg x = none) (hv : bootBuiltins x = some (.builtin id)) (ha : DA X pn W (e :: es) l) (hg : Gl X x := by rfl) (hn : x ≠ "__name__" := by decide) (hdb : (x == ("__debug__" : Str)) = false := by decide)
    (he : starEach (e :: es) X.env = (false, eval e X.env) :: starEach es X.env := by rfl) (hpl : (backTo pos (starEach es X.env)).any (·.1) = false := by rfl) : DE X pn W (.Call (.Name x p) (e :: es) [] pos) (aCB f l) := by
  obtain ⟨r, c1, c2⟩ := hc.ex
  obtain ⟨tl, l1, l2⟩ := ha.ex
  exact ⟨_, pe_callB c1 hg hm hv l1 hn hdb he hpl, se_cb c2 l2⟩
theorem d_ct {T : String} {f : FL} (hc : DCl X pn (.type T) f) (hm : X.mg x = none) (hv : bootBuiltins x = some (.type T)) (ha : DA X pn W (e :: es) l) (hg : Gl X x := by rfl) (hn : x ≠ "__name__" := by decide) (hdb : (x == ("__debug__" : Str)) = false := by decide)
    (he : starEach (e :: es) X.env = (false, eval e X.env) :: starEach es X.env := by rfl) (hpl : (backTo pos (starEach es X.env)).any (·.1) = false := by rfl) : DE X pn W (.Call (.Name x p) (e :: es) [] pos) (aCB f l) := by
  obtain ⟨r, c1, c2⟩ := hc.ex
  obtain ⟨tl, l1, l2⟩ := ha.ex
  exact ⟨_, pe_callTy c1 hg hm hv l1 hn hdb he hpl, se_cb c2 l2⟩
theorem d_ix (ha : DE X pn W e1 a) (hb : DE X pn W e2 b) (hs : PlainIx e2 := by exact fun _ _ => rfl) : DE X pn W (.Subscript e1 e2 pos) (aBin fIx a b) := by
  obtain ⟨ta, a1, a2⟩ := ha.ex
  obtain ⟨tb, b1, b2⟩ := hb.ex
  exact ⟨_, pe_ix (ix_list.or ix_tup) a1 b1 hs, se_bin sr_ix a2 b2⟩
/-! the operations -/
theorem o_sub : DOp X pn (binaryOp .Sub) (fI0 fun i j => .int (i - j)) := ⟨_, op_sub, sr_I0⟩
def CM (i j : Int) : Prop := CMul i j ∨ CMulX i j
theorem op_mulC : OpR X (binaryOp .Mult) (rI CM fun i j => .int (i * j)) := opI fun _ _ _ _ _ _ _ hc q => mul_int q (hc.elim CMul.ok CMulX.ok)
theorem o_mul : DOp X pn (binaryOp .Mult) (fI CM fun i j => .int (i * j)) := ⟨_, op_mulC, sr_I⟩
theorem o_div : DOp X pn (binaryOp .FloorDiv) (fI CDivW fun i j => .int (i / j)) := ⟨_, op_fdivW, sr_I⟩
theorem o_mod : DOp X pn (binaryOp .Mod) (fI (fun _ j => 0 < j) fun i j => .int (i % j)) := ⟨_, op_mod, sr_I⟩
theorem o_pow : DOp X pn (binaryOp .Pow) (fI CPow fun i j => .int (i ^ j.toNat)) := ⟨_, op_pow, sr_I⟩
theorem o_shl : DOp X pn (binaryOp .LShift) (fI CShl fun i j => .int (i * 2 ^ j.toNat)) := ⟨_, op_shlW, sr_I⟩
theorem o_shr : DOp X pn (binaryOp .RShift) (fI (fun _ j => 0 ≤ j) fun i j => .int (i / 2 ^ j.toNat)) := ⟨_, op_shr, sr_I⟩
theorem o_and : DOp X pn (binaryOp .BitAnd) (fI0 fun i j => .int (Builtin.bitAnd i j)) := ⟨_, op_and, sr_I0⟩
theorem o_xor : DOp X pn (binaryOp .BitXor) (fI0 fun i j => .int (Builtin.bitXor i j)) := ⟨_, op_xor, sr_I0⟩
theorem o_neg : DUn X pn (unaryOp .USub) (fU fun i => .int (-i)) := ⟨_, un_neg, su_U⟩
theorem o_eq : DOp X pn (compareOp .Eq) fEq := ⟨_, op_eq, sr_eq⟩
theorem o_ne : DOp X pn (compareOp .NotEq) fNe := ⟨_, op_ne, sr_ne⟩
theorem o_lt : DOp X pn (compareOp .Lt) (fI0 fun i j => .bl (decide (i < j))) := ⟨_, op_lt, sr_I0⟩
theorem o_le : DOp X pn (compareOp .LtE) (fI0 fun i j => .bl (decide (i ≤ j))) := ⟨_, op_le, sr_I0⟩
theorem o_gt : DOp X pn (compareOp .Gt) (fI0 fun i j => .bl (decide (j < i))) := ⟨_, op_gt, sr_I0⟩
theorem o_ge : DOp X pn (compareOp .GtE) (fI0 fun i j => .bl (decide (j ≤ i))) := ⟨_, op_ge, sr_I0⟩
theorem o_is : DOp X pn (compareOp .Is) fIs := ⟨_, op_isC, sr_is⟩
theorem o_isn : DOp X pn (compareOp .IsNot) fIsN := ⟨_, op_isNC, sr_isN⟩
theorem c_len : DCl X pn (.builtin "len") fLen := ⟨_, call_len_seq, sc_len⟩
theorem c_int : DCl X pn (.type "int") fInt := ⟨_, call_int1, sc_int⟩
theorem c_list : DCl X pn (.type "list") fList := ⟨_, call_list_of, sc_list⟩
theorem c_max (hc : X.calm = true) : DCl X pn (.builtin "max") fMax := ⟨_, call_max2 hc, sc_max⟩
theorem c_min (hc : X.calm = true) : DCl X pn (.builtin "min") fMin := ⟨_, call_min2 hc, sc_min⟩
theorem CallR.or {v : Value} {r r' : List V → Hp → VK → Prop} (h : CallR X v r) (h' : CallR X v r') : CallR X v (fun xs H Q => r xs H Q ∨ r' xs H Q) := by
  intro pins s σ H xs us Q I rr q
  rcases q with q | q
  · exact h pins s σ H xs us Q I rr q
  · exact h' pins s σ H xs us Q I rr q
theorem c_isi : DCl X pn (.builtin "isinstance") fIsi := ⟨_, CallR.or call_isi (CallR.or call_isiT call_isiK), sc_isi⟩
end
end DK
set_option Elab.async false
set_option linter.all false
set_option maxRecDepth 100000
set_option maxHeartbeats 2000000
namespace DK
open PySem L2 PyProof.Rows

/-! ### statements -/
def sNext : AS := fun A ρ μ => A.nx ρ μ
def sSeq (a b : AS) : AS := fun A ρ μ => a { A with nx := b A } ρ μ
def sBreak : AS := fun A ρ μ => A.bk ρ μ
def sCont : AS := fun A ρ μ => A.ct ρ μ
def sDrop (e : AE) : AS := fun A ρ μ => e ρ μ (fun _ μ1 => A.nx ρ μ1) (fun x μ1 => A.er x ρ μ1)
def sRet (e : AE) : AS := fun A ρ μ => e ρ μ A.rt (fun x μ1 => A.er x ρ μ1)
def sRetN : AS := fun A _ μ => A.rt (.v .non) μ
def sIf (t : AT) (a b : AS) : AS := fun A ρ μ => t ρ μ (fun c μ1 => bIf c (a A ρ μ1) (b A ρ μ1)) (fun x μ1 => A.er x ρ μ1)
def sSet (i : Nat) (e : AE) : AS := fun A ρ μ => e ρ μ (fun d μ1 => A.nx (ρ.set i (some d)) μ1) (fun x μ1 => A.er x ρ μ1)
/-- o[i] = e, o a changed list -/
def setIt (x y d : D) (μ : Sto) (Q : Sto → Prop) : Prop := match x, y with
  | .loc k, .v (.int j) => (match μ[k]? with | some (.lst ds) => (match ixN ds.length j with | some n => Q (μ.set k (.lst (ds.set n d))) | none => False) | _ => False)
  | _, _ => False
def sSetIx (o i e : AE) : AS := fun A ρ μ => e ρ μ (fun d μ1 => o ρ μ1 (fun x μ2 => i ρ μ2 (fun y μ3 => setIt x y d μ3 fun μ4 => A.nx ρ μ4) (fun x μ1 => A.er x ρ μ1)) (fun x μ1 => A.er x ρ μ1)) (fun x μ1 => A.er x ρ μ1)
/-- the turns of a walk over the items ds -/
def loopL (ds : List D) (i : Nat) (b : AS) : AS := fun A ρ μ => ∃ I : Nat → Rho → Sto → Prop, I 0 ρ μ ∧
  (∀ n ρ' μ' d, ds[n]? = some d → I n ρ' μ' → b { A with nx := I (n + 1), ct := I (n + 1), bk := A.nx } (ρ'.set i (some d)) μ') ∧ ∀ ρ' μ', I ds.length ρ' μ' → A.nx ρ' μ'
/-- for x in a list that stays (a tuple), by a word of the turn -/
def sForL (e : AE) (i : Nat) (b : AS) : AS := fun A ρ μ => e ρ μ (fun d μ1 => ∃ ds, (d = .lst ds ∨ d = .rl ds) ∧ loopL ds i b A ρ μ1) (fun x μ1 => A.er x ρ μ1)
def sForT (e : AE) (i : Nat) (b : AS) : AS := fun A ρ μ => e ρ μ (fun d μ1 => ∃ ds, d = .tup ds ∧ loopL ds i b A ρ μ1) (fun x μ1 => A.er x ρ μ1)
def sForR (lo : Int) (hi : Int) (i : Nat) (b : AS) : AS := fun A ρ μ => ∃ I : Nat → Rho → Sto → Prop, I 0 ρ μ ∧
  (∀ (n : Nat) ρ' μ', lo + (n : Int) < hi → I n ρ' μ' → b { A with nx := I (n + 1), ct := I (n + 1), bk := A.nx } (ρ'.set i (some (.v (.int (lo + (n : Int)))))) μ') ∧ ∀ ρ' μ', I (hi - lo).toNat ρ' μ' → A.nx ρ' μ'
def sForR1 (l : AA) (i : Nat) (b : AS) : AS := fun A ρ μ => l ρ μ (fun ds μ1 => match ds with
  | [.v (.int n)] => (-(2 ^ 62) ≤ n ∧ n < 2 ^ 62) ∧ sForR 0 n i b A ρ μ1
  | _ => False) (fun x μ1 => A.er x ρ μ1)
def sForR2 (l : AA) (i : Nat) (b : AS) : AS := fun A ρ μ => l ρ μ (fun ds μ1 => match ds with
  | [.v (.int m), .v (.int n)] => ((-(2 ^ 62) ≤ m ∧ m < 2 ^ 62) ∧ (-(2 ^ 62) ≤ n ∧ n < 2 ^ 62)) ∧ sForR m n i b A ρ μ1
  | _ => False) (fun x μ1 => A.er x ρ μ1)
def sWhile (t : AT) (b : AS) : AS := fun A ρ μ => ∃ I : Nat → Rho → Sto → Prop, (∃ m, I m ρ μ) ∧ ∀ m ρ' μ', I m ρ' μ' →
  t ρ' μ' (fun c μ1 => bIf c (b { A with nx := fun r s => ∃ m', m' < m ∧ I m' r s, ct := fun r s => ∃ m', m' < m ∧ I m' r s, bk := A.nx } ρ' μ1) (A.nx ρ' μ1)) (fun x μ1 => A.er x ρ' μ1)

section
variable {K : PySem.W.Frag} {pn : List (Addr × Obj)} {W : WX} {te to ti : TE} {e o i : AE} {tt : TT} {t : AT} {ta tb : TS} {a b : AS} {tl : TA} {l : AA} {w w1 : Wd} {σ : L2.St} {ρ : Rho} {A : AEnds} {E : L2.Ends}
theorem PR.same {Q : L2.St → Hp → Prop} (k : Ok K w) (e : EnvR K pn w σ ρ) (h : PR K pn w Q ρ w.μ) : Q σ w.H := h σ w rfl k.refl k e
/-- an exception out of an expression -/
theorem EndR.ex (h : EndR K pn W w A E) (e : EnvR K pn w σ ρ) : ∀ x μ', A.er x ρ μ' → PX K pn w (fun c d H => W c d σ H) x μ' := fun x μ' q c dd w' em l k dx => h.er x ρ μ' q σ c dd w' em l k (e.mono l) dx
theorem ss_next : SS K pn W tNext sNext := ⟨fun w σ ρ k e A h E hE => (hE.nx _ _ h).same k e⟩
theorem ss_break : SS K pn W tBreak sBreak := ⟨fun w σ ρ k e A h E hE => (hE.bk _ _ h).same k e⟩
theorem ss_seq (ha : SS K pn W ta a) (hb : SS K pn W tb b) : SS K pn W (tSeq ta tb) (sSeq a b) := ⟨fun w σ ρ k e A h E hE =>
  ha.run w σ ρ k e _ h _ ⟨fun ρ' μ' q σ' w' em l k' e' => by
    subst em
    exact hb.run w' σ' ρ' k' e' A q E (hE.mono l), hE.rt, hE.bk, hE.ct, hE.er⟩⟩
theorem ss_drop (he : SE K pn W te e) : SS K pn W (tDrop te) (sDrop e) := ⟨fun w σ ρ k er A h E hE =>
  he.run w σ ρ k er _ _ h _ (fun d μ1 h1 v w1 em l k1 dn => by
    subst em
    exact ((hE.nx _ _ h1).mono l).same k1 (er.mono l)) (hE.ex er)⟩
theorem ss_ret (he : SE K pn W te e) : SS K pn W (tRet te) (sRet e) := ⟨fun w σ ρ k er A h E hE => he.run w σ ρ k er _ _ h _ (fun d μ1 h1 => hE.rt _ _ h1) (hE.ex er)⟩
theorem ss_if (ht : ST K pn W tt t) (ha : SS K pn W ta a) (hb : SS K pn W tb b) : SS K pn W (tIfS tt ta tb) (sIf t a b) := ⟨fun w σ ρ k er A h E hE =>
  ht.run w σ ρ k er _ _ h _ (fun c μ1 h1 w1 em l k1 => by
    subst em
    cases c with
    | true => exact ha.run w1 σ ρ k1 (er.mono l) A (h1.1 rfl) E (hE.mono l)
    | false => exact hb.run w1 σ ρ k1 (er.mono l) A (h1.2 rfl) E (hE.mono l)) (hE.ex er)⟩
theorem ss_set {i : Nat} (he : SE K pn W te e) : SS K pn W (tAsg te (gName i)) (sSet i e) := ⟨fun w σ ρ k er A h E hE =>
  he.run w σ ρ k er _ _ h _ (fun d μ1 h1 v w1 em l k1 dn => by
    subst em
    exact ((hE.nx _ _ h1).mono l).same k1 ((er.mono l).set dn)) (hE.ex er)⟩
theorem nd_ix {α : Type} {l : List α} (h : l.Nodup) {i j : Nat} {x : α} (a : l[i]? = some x) (b : l[j]? = some x) : i = j := by
  obtain ⟨hi, ei⟩ := List.getElem?_eq_some_iff.mp a
  obtain ⟨hj, ej⟩ := List.getElem?_eq_some_iff.mp b
  rcases Nat.lt_trichotomy i j with c | c | c
  · exact absurd (ei.trans ej.symm) (List.pairwise_iff_getElem.mp h i j hi hj c)
  · exact c
  · exact absurd (ej.trans ei.symm) (List.pairwise_iff_getElem.mp h j i hj hi c)
/-- a cell's list written anew -/
theorem Ok.writeL {p : Addr} {j : Nat} {vs : List V} {ds : List D} (k : Ok K w) (hj : w.θ[j]? = some p) (hs : Dens K [] w.θ w.H vs ds) :
    WLe w ⟨w.θ, upd w.H p (.lst vs), w.μ.set j (.lst ds)⟩ ∧ Ok K ⟨w.θ, upd w.H p (.lst vs), w.μ.set j (.lst ds)⟩ := by
  have hp : p ∈ w.θ := List.mem_iff_getElem?.mpr ⟨j, hj⟩
  have l : Le w.θ w.H w.θ (upd w.H p (.lst vs)) := ⟨fun a u ha n => by rw [upd_ne fun z => n (by rw [z]; exact hp)]; exact ha, ⟨[], by simp, fun _ z => (List.not_mem_nil z).elim⟩, fun q hq => by
    by_cases z : q = p
    · rw [z]
      exact ⟨_, upd_same⟩
    · rw [upd_ne z]
      exact k.trk q hq⟩
  refine ⟨l, ⟨k.nd, by simp [k.len], fun i q c h1 h2 => ?_⟩⟩
  by_cases hi : j = i
  · subst hi
    have e : q = p := Option.some.inj (h1.symm.trans hj)
    subst e
    by_cases hl : j < w.μ.length
    · rw [List.getElem?_set_self hl] at h2
      cases h2
      exact ⟨vs, upd_same, hs.mono l⟩
    · rw [List.getElem?_eq_none (by simpa using hl)] at h2
      cases h2
  · rw [List.getElem?_set_ne hi] at h2
    have z := k.cell i q c h1 h2
    have ne : q ≠ p := fun y => by
      subst y
      exact hi (nd_ix k.nd hj h1)
    have e : upd w.H p (.lst vs) q = w.H q := upd_ne ne
    cases c with
    | lst ds =>
      obtain ⟨us, a, b⟩ := z
      exact ⟨us, e.trans a, b.mono l⟩
    | ins C fs =>
      obtain ⟨dx, us, a, b⟩ := z
      exact ⟨dx, us, e.trans a, b.mono l⟩
theorem ss_setIx (he : SE K [] W te e) (ho : SE K [] W to o) (hi : SE K [] W ti i) : SS K [] W (tAsg te (gSub to ti rSetL)) (sSetIx o i e) := ⟨fun w σ ρ k er A h E hE =>
  he.run w σ ρ k er _ _ h _ (fun d μ1 h1 v w1 em l k1 dn => by
    subst em
    refine ho.run w1 σ ρ k1 (er.mono l) _ _ h1 _ (fun dx μ2 h2 x w2 em2 l2 k2 d2 => ?_) ((hE.mono l).ex (er.mono l))
    subst em2
    refine hi.run w2 σ ρ k2 ((er.mono l).mono l2) _ _ h2 _ (fun dy μ3 h3 y w3 em3 l3 k3 d3 => ?_) (((hE.mono l).mono l2).ex ((er.mono l).mono l2))
    subst em3
    have l13 := (l.trans l2).trans l3
    unfold setIt at h3
    split at h3
    · rename_i j n
      split at h3
      · rename_i ds em
        split at h3
        · rename_i n hn
          obtain rfl := d3.v_inv
          cases (d2.mono l3) with
          | @loc _ p hp =>
            obtain ⟨vs, a, b⟩ := k3.cell _ _ _ hp em
            obtain ⟨l4, k4⟩ := k3.writeL hp (b.set n (dn.mono (l2.trans l3)))
            refine ⟨p, vs, _, n, rfl, rfl, a, by rw [b.len]; exact hn, ?_⟩
            exact hE.nx _ _ h3 σ ⟨w3.θ, upd w3.H p (.lst (vs.set n v)), w3.μ.set j (.lst (ds.set n d))⟩ rfl (l13.trans l4) k4 ((er.mono l13).mono l4)
        · exact h3.elim
      · exact h3.elim
    · exact h3.elim) (hE.ex er)⟩
/-- a word of the turn, over the heap -/
def WI (K : PySem.W.Frag) (pn : List (Addr × Obj)) (w : Wd) (I : Nat → Rho → Sto → Prop) (n : Nat) (σ : L2.St) (H : Hp) : Prop := ∃ (w' : Wd) (ρ' : Rho), w'.H = H ∧ WLe w w' ∧ Ok K w' ∧ EnvR K pn w' σ ρ' ∧ I n ρ' w'.μ
theorem pr_wi {I : Nat → Rho → Sto → Prop} {n : Nat} {w0 : Wd} (l0 : WLe w0 w) : ∀ ρ' μ', I n ρ' μ' → PR K pn w (WI K pn w0 I n) ρ' μ' := fun ρ' μ' q σ' w' em l k e => ⟨w', ρ', rfl, l0.trans l, k, e, by subst em; exact q⟩
theorem ss_forL {i : Nat} (he : SE K pn W te e) (hb : SS K pn W tb b) : SS K pn W (tFor (iList K te) (gName i) tb) (sForL e i b) := ⟨fun w σ ρ k er A h E hE =>
  he.run w σ ρ k er _ _ h _ (fun d μ1 h1 v w1 em l k1 dn => by
    subst em
    obtain ⟨ds, hd, I, i0, hs, hn⟩ := h1
    have key : ∃ a vs, v = .ref a ∧ (∀ w2, WLe w1 w2 → SqL K w2.H a vs) ∧ Dens K pn w1.θ w1.H vs ds := by
      rcases hd with rfl | rfl
      · cases dn with
        | @lst a vs _ ha n hs => exact ⟨a, vs, rfl, fun w2 l2 => .inl (.inl (l2.keep _ _ ha n)), hs⟩
      · cases dn with
        | @rl a vs _ ha hs => exact ⟨a, vs, rfl, fun w2 l2 => (ha.imp (fun z => (rd_mono l2 z).1) id), hs⟩
    obtain ⟨a, vs, rfl, hsq, hds⟩ := key
    refine ⟨a, rfl, ⟨vs, hsq w1 k1.refl⟩, for_list (xs := vs) (WI K pn w1 I) ⟨w1, ρ, rfl, k1.refl, k1, er.mono l, i0⟩ (fun n σ' H' _ q => ?_) (fun n x σ' H' hx q => ?_) (fun σ' H' q => ?_)⟩
    · obtain ⟨w2, ρ2, rfl, l2, _⟩ := q
      exact hsq w2 l2
    · obtain ⟨w2, ρ2, rfl, l2, k2, e2, q⟩ := q
      obtain ⟨dx, ed⟩ : ∃ dx, ds[n]? = some dx := ⟨_, List.getElem?_eq_getElem (by rw [← hds.len]; exact (List.getElem?_eq_some_iff.mp hx).1)⟩
      obtain ⟨x', ex, dxn⟩ := hds.get ed
      cases (ex.symm.trans hx)
      have l02 := l.trans l2
      exact hb.run w2 _ _ k2 (e2.set (dxn.mono l2)) _ (hs n ρ2 w2.μ dx ed q) _ ⟨pr_wi l2, fun d m z => (hE.rt d m z).mono l02, fun r m z => (hE.nx r m z).mono l02, pr_wi l2, (hE.mono l02).er⟩
    · obtain ⟨w2, ρ2, rfl, l2, k2, e2, q⟩ := q
      rw [hds.len] at q
      exact ((hE.nx _ _ (hn _ _ q)).mono (l.trans l2)).same k2 e2) (hE.ex er)⟩
theorem forR_run {lo hi : Int} {i : Nat} (hb : SS K pn W tb b) (k : Ok K w) (er : EnvR K pn w σ ρ) (h : sForR lo hi i b A ρ w.μ) (hE : EndR K pn W w A E) :
    ∃ W : Nat → Nat → L2.St → Hp → Prop, (∃ m, W 0 m σ w.H) ∧ ∀ i' m σ H, W i' m σ H → ((Itr lo (hi - lo).toNat).stop i' H ∧ E.nx σ H) ∨ ((Itr lo (hi - lo).toNat).go i' H ∧ ∃ N : L2.St → Hp → Prop, (∀ σ' H', N σ' H' → ∃ m', m' < m ∧ W (i' + 1) m' σ' H') ∧
      ∀ x H', (Itr lo (hi - lo).toNat).yld i' H x H' → gName i x σ H' fun σ2 H2 => tb { E with nx := N, ct := N, bk := E.nx } σ2 H2) := by
  obtain ⟨I, i0, hs, hn⟩ := h
  refine for_range (lo := lo) (n := (hi - lo).toNat) (g := gName i) (tb := tb) (D := E) (WI K pn w I) ⟨w, ρ, rfl, k.refl, k, er, i0⟩ (fun n σ' H' hx q => ?_) (fun σ' H' q => ?_)
  · obtain ⟨w2, ρ2, rfl, l2, k2, e2, q⟩ := q
    exact hb.run w2 _ _ k2 (e2.set .v) _ (hs n ρ2 w2.μ (by omega) q) _ ⟨pr_wi l2, fun d m z => (hE.rt d m z).mono l2, fun r m z => (hE.nx r m z).mono l2, pr_wi l2, (hE.mono l2).er⟩
  · obtain ⟨w2, ρ2, rfl, l2, k2, e2, q⟩ := q
    exact ((hE.nx _ _ (hn _ _ q)).mono l2).same k2 e2
theorem ss_forR1 {i : Nat} (hl : SA K pn W tl l) (hb : SS K pn W tb b) : SS K pn W (tFor (iRng1 tl) (gName i) tb) (sForR1 l i b) := ⟨fun w σ ρ k er A h E hE =>
  hl.run w σ ρ k er _ _ h _ (fun ds μ1 h1 vs w1 em l k1 dn => by
    subst em
    split at h1
    · cases dn with
      | cons d1 d2 =>
        cases d2
        obtain rfl := d1.v_inv
        have z := forR_run hb k1 (er.mono l) h1.2 (hE.mono l)
        rw [Int.sub_zero] at z
        exact ⟨_, rfl, h1.1.1, h1.1.2, z⟩
    · exact h1.elim) (hE.ex er)⟩
theorem ss_forR2 {i : Nat} (hl : SA K pn W tl l) (hb : SS K pn W tb b) : SS K pn W (tFor (iRng2 tl) (gName i) tb) (sForR2 l i b) := ⟨fun w σ ρ k er A h E hE =>
  hl.run w σ ρ k er _ _ h _ (fun ds μ1 h1 vs w1 em l k1 dn => by
    subst em
    split at h1
    · cases dn with
      | cons d1 d2 =>
        cases d2 with
        | cons d2 d3 =>
          cases d3
          obtain rfl := d1.v_inv
          obtain rfl := d2.v_inv
          exact ⟨_, _, rfl, ⟨h1.1.1.1, h1.1.1.2, h1.1.2.1, h1.1.2.2⟩, forR_run hb k1 (er.mono l) h1.2 (hE.mono l)⟩
    · exact h1.elim) (hE.ex er)⟩
theorem ss_while (ht : ST K pn W tt t) (hb : SS K pn W tb b) : SS K pn W (tWhile tt tb) (sWhile t b) := ⟨fun w σ ρ k er A h E hE => by
  obtain ⟨I, ⟨m0, i0⟩, hs⟩ := h
  refine ⟨WI K pn w I, ⟨m0, w, ρ, rfl, k.refl, k, er, i0⟩, fun m σ' H' q => ?_⟩
  obtain ⟨w2, ρ2, rfl, l2, k2, e2, q⟩ := q
  refine ht.run w2 σ' ρ2 k2 e2 _ _ (hs m ρ2 w2.μ q) _ (fun c μ1 h1 w3 em l3 k3 => ?_) ((hE.mono l2).ex e2)
  subst em
  cases c with
  | true =>
    refine ⟨fun σ4 H4 => ∃ m', m' < m ∧ WI K pn w I m' σ4 H4, fun σ4 H4 z => z, ?_⟩
    have nx : ∀ ρ' μ', (∃ m', m' < m ∧ I m' ρ' μ') → PR K pn w3 (fun σ4 H4 => ∃ m', m' < m ∧ WI K pn w I m' σ4 H4) ρ' μ' := fun ρ' μ' ⟨m', hm, q⟩ σ5 w5 em5 l5 k5 e5 => ⟨m', hm, w5, ρ', rfl, (l2.trans l3).trans l5, k5, e5, by subst em5; exact q⟩
    exact hb.run w3 σ' ρ2 k3 (e2.mono l3) _ (h1.1 rfl) _ ⟨nx, fun d m z => (hE.rt d m z).mono (l2.trans l3), fun r m z => (hE.nx r m z).mono (l2.trans l3), nx, (hE.mono (l2.trans l3)).er⟩
  | false => exact ((hE.nx _ _ (h1.2 rfl)).mono (l2.trans l3)).same k3 (e2.mono l3)⟩
end

/-! ### what a body's context has -/
structure Bd (X : Cx) (W : WX) (k : Nat) : Prop where
  tk : L2N.Takes X W
  own : PassesOwn (model X.prog X.w) X.A X.env X.xe
  calm : X.calm = true
  room : Room k X.A
  nd : X.N.Nodup
section
variable {X : Cx} {pn : List (Addr × Obj)} {W : WX} {k : Nat} {e tg o i' : Expr} {st : Stmt} {sts body : List Stmt} {a : AE} {ao ai : AE} {t : AT} {b c : AS} {l : AA} {pos pos' p : Pos} {x : Str}
theorem d_snil : DSs X pn W [] sNext := ⟨_, pss_nil, ss_next⟩
theorem d_scons (h : DS X pn W st b) (h2 : DSs X pn W sts c) : DSs X pn W (st :: sts) (sSeq b c) := by
  obtain ⟨_, h, h'⟩ := h.ex
  obtain ⟨_, h2, h2'⟩ := h2.ex
  exact ⟨_, pss_cons h h2, ss_seq h' h2'⟩
theorem d_sone (h : DS X pn W st b) : DSs X pn W [st] b := by
  obtain ⟨_, h, h'⟩ := h.ex
  exact ⟨_, pss_one h, h'⟩
theorem d_break : DS X pn W (.Break pos) sBreak := ⟨_, ps_break, ss_break⟩
theorem d_expr (h : DE X pn W e a) (hs : swapsWith e none pos.line X.env = pure false := by rfl) : DS X pn W (.Expr e pos) (sDrop a) := by
  obtain ⟨_, h, h'⟩ := h.ex
  exact ⟨_, ps_expr h hs, ss_drop h'⟩
theorem d_ret (h : DE X pn W e a) : DS X pn W (.Return (some e) pos) (sRet a) := by
  obtain ⟨_, h, h'⟩ := h.ex
  exact ⟨_, ps_ret h, ss_ret h'⟩
theorem d_sif {bd ed : List Stmt} (ht : DT X pn W e t) (hb : DSs X pn W bd b) (hc : DSs X pn W ed c) : DS X pn W (.If e bd ed pos) (sIf t b c) := by
  obtain ⟨_, h, h'⟩ := ht.ex
  obtain ⟨_, h2, h2'⟩ := hb.ex
  obtain ⟨_, h3, h3'⟩ := hc.ex
  exact ⟨_, ps_if h h2 h3, ss_if h' h2' h3'⟩
theorem d_set (i : Nat) (B : X.N.Nodup) (h : DE X pn W e a) (hi : X.N[i]? = some x := by rfl) (hx : Loc X.env.scope x := by first | exact Or.inl rfl | exact Or.inr rfl) (hs : swapsWith e (some (.Name x pos')) pos.line X.env = pure false := by rfl)
    (hf : X.fn x = true ∨ X.env.scope.names.lookup x = some .local := by first | exact .inl rfl | exact .inr rfl) : DS X pn W (.Assign [.Name x pos'] e pos) (sSet i a) := by
  obtain ⟨_, h, h'⟩ := h.ex
  exact ⟨_, ps_set B hi hx h hs hf, ss_set h'⟩
theorem d_setIx (he : DE X [] W e a) (ho : DE X [] W o ao) (hi : DE X [] W i' ai)
    (ha : ∀ v, assign (.Subscript o i' p) X.env v = (do
      let ov ← holding [v] (eval o X.env)
      let iv ← holding [v, ov] (eval i' X.env)
      standAt p
      holding [v, ov, iv] (setItem ov iv v)
      release [v, ov, iv] []) := by intro _; rfl)
    (hs : swapsWithSole [.Subscript o i' p] e pos.line X.env = pure false := by rfl) (hw : swappedStores [.Subscript o i' p] e X.env = pure none := by rfl)
    (h1 : (assignEach [.Subscript o i' p] X.env).map (·.2) = [assign (.Subscript o i' p) X.env] := by rfl) : DS X [] W (.Assign [.Subscript o i' p] e pos) (sSetIx ao ai a) := by
  obtain ⟨_, h, h'⟩ := he.ex
  obtain ⟨_, h2, h2'⟩ := ho.ex
  obtain ⟨_, h3, h3'⟩ := hi.ex
  exact ⟨_, ps_asg h (pg_sub h2 h3 set_list ha) hs hw h1, ss_setIx h' h2' h3'⟩
theorem d_forL (i : Nat) (B : Bd X W k) (h : DE X pn W e a) (hb : DSs X pn W body b) (hi : X.N[i]? = some x := by rfl) (hx : Loc X.env.scope x := by first | exact Or.inl rfl | exact Or.inr rfl)
    (hf : X.fn x = true ∨ X.env.scope.names.lookup x = some .local := by first | exact .inl rfl | exact .inr rfl) (hfs : ∀ v : Value, foldedSetIterable e X.env v = pure v := by intro _; rfl) : DS X pn W (.For (.Name x p) e body [] pos) (sForL a i b) := by
  obtain ⟨_, h, h'⟩ := h.ex
  obtain ⟨_, h2, h2'⟩ := hb.ex
  exact ⟨_, ps_for B.own B.calm (pi_list h) (pg_name B.nd hi hx hf) h2 hfs, ss_forL h' h2'⟩
theorem d_forR1 {e : Expr} {p1 p2 : Pos} (i : Nat) (B : Bd X W k) (hm : X.mg "range" = none) (hl : DA X pn W [e] l) (hb : DSs X pn W body b) (hg : Gl X "range" := by rfl) (hi : X.N[i]? = some x := by rfl) (hx : Loc X.env.scope x := by first | exact Or.inl rfl | exact Or.inr rfl)
    (hf : X.fn x = true ∨ X.env.scope.names.lookup x = some .local := by first | exact .inl rfl | exact .inr rfl) (hs : starEach [e] X.env = [(false, eval e X.env)] := by rfl) (hfs : ∀ v : Value, foldedSetIterable (.Call (.Name "range" p1) [e] [] p2) X.env v = pure v := by intro _; rfl) :
    DS X pn W (.For (.Name x p) (.Call (.Name "range" p1) [e] [] p2) body [] pos) (sForR1 l i b) := by
  obtain ⟨_, h, h'⟩ := hl.ex
  obtain ⟨_, h2, h2'⟩ := hb.ex
  exact ⟨_, ps_for B.own B.calm (pi_range1 hg hm h hs) (pg_name B.nd hi hx hf) h2 hfs, ss_forR1 h' h2'⟩
theorem d_forR2 {e e' : Expr} {p1 p2 : Pos} (i : Nat) (B : Bd X W k) (hm : X.mg "range" = none) (hl : DA X pn W [e, e'] l) (hb : DSs X pn W body b) (hg : Gl X "range" := by rfl) (hi : X.N[i]? = some x := by rfl) (hx : Loc X.env.scope x := by first | exact Or.inl rfl | exact Or.inr rfl)
    (hf : X.fn x = true ∨ X.env.scope.names.lookup x = some .local := by first | exact .inl rfl | exact .inr rfl) (hs : starEach [e, e'] X.env = [(false, eval e X.env), (false, eval e' X.env)] := by rfl) (hs2 : starEach [e'] X.env = [(false, eval e' X.env)] := by rfl)
    (hfs : ∀ v : Value, foldedSetIterable (.Call (.Name "range" p1) [e, e'] [] p2) X.env v = pure v := by intro _; rfl) :
    DS X pn W (.For (.Name x p) (.Call (.Name "range" p1) [e, e'] [] p2) body [] pos) (sForR2 l i b) := by
  obtain ⟨_, h, h'⟩ := hl.ex
  obtain ⟨_, h2, h2'⟩ := hb.ex
  exact ⟨_, ps_for B.own B.calm (pi_range2 hg hm h hs hs2) (pg_name B.nd hi hx hf) h2 hfs, ss_forR2 h' h2'⟩
theorem d_while (B : Bd X W k) (ht : DT X pn W e t) (hb : DSs X pn W body b) : DS X pn W (.While e body [] pos) (sWhile t b) := by
  obtain ⟨_, h, h'⟩ := ht.ex
  obtain ⟨_, h2, h2'⟩ := hb.ex
  exact ⟨_, ps_while B.own h h2, ss_while h' h2'⟩
end
end DK
set_option Elab.async false
set_option linter.all false
set_option maxRecDepth 100000
set_option maxHeartbeats 2000000
namespace DK
open PySem L2 PyProof.Rows

/-- what a def does, on data: arguments, cells, what is wanted of the answer, of an exception -/
abbrev FD := List D → Sto → QD → QX → Prop
/-- as a promise -/
def spD (K : PySem.W.Frag) (n : Nat) (F : FD) : Sp := fun vs H Q E => ∃ (θ : List Addr) (μ : Sto) (ds : List D) (QA : QD) (XA : QX), Ok K ⟨θ, H, μ⟩ ∧ Dens K [] θ H vs ds ∧ ds.length = n ∧ F ds μ QA XA ∧
  (∀ d μ', QA d μ' → PQ K [] ⟨θ, H, μ⟩ Q d μ') ∧ (∀ x μ', XA x μ' → PX K [] ⟨θ, H, μ⟩ E x μ')
abbrev FnD (P : Program) (w : World) (K : PySem.W.Frag) (mg : Str → Option Value) (base : Heap) (k : Nat) (f : Addr) (fd : FuncData) (ps : List Str) (F : FD) : Prop := FnOk P w K mg base (L2N.CX P w) k f fd ps (spD K ps.length F)
def startD (n : Nat) (ds : List D) : Rho := ds.map some ++ List.replicate (n - ds.length) none
theorem start_env {K : PySem.W.Frag} {pn : List (Addr × Obj)} {w : Wd} {N : List Str} {vs : List V} {ds : List D} (h : Dens K pn w.θ w.H vs ds) (hl : vs.length ≤ N.length) : EnvR K pn w (L2.start N vs) (startD N.length ds) := by
  have hl' := h.len
  refine ⟨by simp [startD, L2.start, hl'], fun i d e => ?_⟩
  unfold startD at e
  unfold L2.start
  by_cases hi : i < ds.length
  · rw [List.getElem?_append_left (by simpa using hi), List.getElem?_map] at e
    rw [List.getElem?_append_left (by simpa [hl'] using hi), List.getElem?_map]
    cases q : ds[i]? with
    | none =>
      rw [q] at e
      cases e
    | some d' =>
      rw [q] at e
      cases e
      obtain ⟨x, ex, dx⟩ := h.get q
      exact ⟨x, by rw [ex]; rfl, dx⟩
  · rw [List.getElem?_append_right (by simpa using Nat.le_of_not_lt hi)] at e
    rw [List.getElem?_replicate] at e
    split at e <;> cases e
/-- the ends of a def's body -/
def dEnds (Q : QD) (X : QX) : AEnds := { nx := fun _ μ => Q (.v .non) μ, rt := Q, er := fun x _ μ => X x μ }
def aCall (F : FD) (n : Nat) (l : AA) : AE := fun ρ μ Q X => l ρ μ (fun ds μ1 => ds.length = n ∧ F ds μ1 Q X) X
def aCall0 (F : FD) : AE := fun _ μ Q _ => F [] μ Q (fun _ _ => False)

theorem takesN {P : Program} {w : World} {K : PySem.W.Frag} {mg : Str → Option Value} {base : Heap} {N : List Str} {qual : Str} {scope : Scope} {f : Addr} {cd : Value} {A : Around} {outer : List Env} {s : Shared} {H : Hp} {E : XK} :
    L2N.Takes (cxOf (L2N.CX P w) P w K mg base N qual scope f cd A outer s H E) (fun cls d _ H => E cls d H) := L2N.takes_of rfl rfl rfl rfl
abbrev cxN (P : Program) (w : World) (K : PySem.W.Frag) (mg : Str → Option Value) (base : Heap) (N : List Str) (qual : Str) (scope : Scope) (f : Addr) (cd : Value) (A : Around) (outer : List Env) (s : Shared) (H : Hp) (E : XK) : Cx := cxOf (L2N.CX P w) P w K mg base N qual scope f cd A outer s H E
abbrev wxN (E : XK) : WX := fun cls d _ H => E cls d H
section
variable {P : Program} {w : World} {K : PySem.W.Frag} {mg : Str → Option Value} {base : Heap}
/-- THE RULE for a def on data -/
theorem fnD {x qual : Str} {st : Stmt} {f : Addr} {fd : FuncData} {N ps : List Str} {k : Nat} {F : FD} (b : AS) (Fn : Fun K x qual st f fd) (S : FnScope N ps (defScope st))
    (hbody : ∀ (cd : Value) (A : Around) (outer : List Env) (s : Shared) (H : Hp) (E : XK), Bd (cxN P w K mg base N qual (defScope st) f cd A outer s H E) (wxN E) k → DSs (cxN P w K mg base N qual (defScope st) f cd A outer s H E) [] (wxN E) (defBody st) b)
    (hread : ∀ (ds : List D) (μ : Sto) (QA : QD) (XA : QX), ds.length = ps.length → F ds μ QA XA → b (dEnds QA XA) (startD N.length ds) μ) : FnD P w K mg base (k + 1) f fd ps F := by
  obtain ⟨oc, od, kV, doc, pm, an, cdv, ct, osl, rfl, lk, hcd⟩ := Fn.ex
  refine fn_of lk hcd S (fun vs H Q E h => ?_) fun A outer s H vs Q E hr hsp => ?_
  · obtain ⟨θ, μ, ds, QA, XA, ok, hd, hl, _⟩ := h
    rw [hd.len, hl]
  · obtain ⟨θ, μ, ds, QA, XA, ok, hd, hl, hF, hq, hx⟩ := hsp
    obtain ⟨t, h, h'⟩ := (hbody cdv A outer s H E ⟨takesN, L2.passes_of rfl, rfl, hr, S.nd⟩).ex
    refine ⟨t, h, ?_⟩
    have hpl : ps.length ≤ N.length := by have := congrArg List.length S.pre; rw [List.length_take] at this; omega
    refine h'.run ⟨θ, H, μ⟩ _ _ ok (start_env hd (by rw [hd.len, hl]; exact hpl)) _ (hread ds μ QA XA hl hF) _ ⟨fun ρ' μ' q σ' w' em l k' e' => ?_, fun d μ' q => hq d μ' q, fun _ _ q => q.elim, fun _ _ q => q.elim, fun x ρ' μ' q σ' cls dd w' em l k' e' dx => ?_⟩
    · exact hq _ _ q .non w' em l k' .v
    · exact hx x μ' q cls dd w' em l k' dx
end
section
variable {X : Cx} {W : WX} {k k' : Nat} {f : Addr} {fd : FuncData} {ps : List Str} {F : FD} {x : Str} {e : Expr} {es : List Expr} {l : AA} {p pos : Pos}
/-- f(e, ..) -/
theorem d_call (B : Bd X W k) (G : FnD X.prog X.w X.K X.mg X.base k' f fd ps F) (hk' : k' ≤ k) (hm : X.mg x = some (.ref f)) (hk : PySem.W.keepIn X.K (.ref f) = true) (hb : Binds X.K fd ps []) (ha : DA X [] W (e :: es) l)
    (hg : Gl X x := by rfl) (hdb : (x == ("__debug__" : Str)) = false := by decide) (he : starEach (e :: es) X.env = (false, eval e X.env) :: starEach es X.env := by rfl) (hpl : (backTo pos (starEach es X.env)).any (·.1) = false := by rfl) :
    DE X [] W (.Call (.Name x p) (e :: es) [] pos) (aCall F ps.length l) := by
  obtain ⟨tl, l1, l2⟩ := ha.ex
  refine ⟨_, pe_callS G (B.room.mono hk') hg hm hk hb (fun σ => L2N.passAt B.tk σ) l1 hdb he hpl, ⟨fun w σ ρ ok er QA XA h Q hq hx => ?_⟩⟩
  refine l2.run w σ ρ ok er _ XA h _ (fun ds μ1 h1 vs w1 em l1 k1 dn => ?_) hx
  subst em
  exact ⟨w1.θ, w1.μ, ds, QA, XA, k1, dn, h1.1, h1.2, fun d μ' q => (hq d μ' q).mono l1, fun x μ' q => (hx x μ' q).mono l1⟩
end
end DK
set_option Elab.async false
set_option linter.all false
set_option maxRecDepth 100000
set_option maxHeartbeats 2000000
namespace DK
open PySem L2 PyProof.Rows

/-! ### own errors: made and raised -/
/-- what __init__ leaves of a new error at a: its fields, the last one ahead -/
def spInit (C : Addr) (fs : List Str) : Sp := fun vs H Q _ => ∃ (a : Addr) (us : List V), vs = .ref a :: us ∧ us.length = fs.length ∧ H a = some (exo a C none) ∧
  ∀ (H' : Hp) (dx : Addr), H dx = none → dx ≠ a → H' a = some (exo a C (some dx)) → H' dx = some (exd dx (fs.zip us).reverse) → (∀ b, b ≠ a → b ≠ dx → H' b = H b) → Q .non H'
/-- C(e, ..) with its own __init__, nothing being handled: the error's context is None -/
theorem pmkN {X : Cx} {x : Str} {C fI : Addr} {k : Nat} {fd : FuncData} {ps : List Str} {sp : Sp} {e : Expr} {es : List Expr} {ta : TA} {p pos : Pos}
    (T : OexC X.K C) (iC : PySem.W.findIn X.K (.ref C) "__init__" = some (some (.ref fI))) (tI : PySem.W.typeIn X.K (.ref fI) = some (.type "function"))
    (F1 : FnOk X.prog X.w X.K X.mg X.base CX0 k fI fd ps sp) (hr : Room (k + 1) X.A) (hb : Binds X.K fd ps [])
    (hg : Gl X x) (hm : X.mg x = some (.ref C)) (ha : PA X (e :: es) ta) (hdb : (x == ("__debug__" : Str)) = false)
    (he : starEach (e :: es) X.env = (false, eval e X.env) :: starEach es X.env) (hpl : (backTo pos (starEach es X.env)).any (·.1) = false) :
    L2N.PMk X (.Call (.Name x p) (e :: es) [] pos) (tMkO C sp [] ta) := by
  intro pins s σ H Q I h
  obtain ⟨nm, q, N, bs, bm, sn, sub, ab, col, dd, k0, k1, k2, k3, k5, hC, hbm⟩ := T.cls
  refine wpAny_Call_Name_kw (ld_glob I hg hm ?_ hdb)
  refine PySem.W.callWith_K (h₀ := X.base) I.ok.mod.kin T.kC (thn (ha.run pos pins s σ H _ I h) fun us s1 hus => ?_) he hpl
  obtain ⟨vs, H1, I1, r1, hz, q1⟩ := hus
  refine ⟨I1.kIn, ?_⟩
  show wpAny _ _ (call (.ref C) us) _ _ _
  obtain ⟨hp, g, dr, tk, os⟩ := s1
  generalize hA : hp.objs.size + 1 = a
  have hsz : hp.objs.size ≤ a := by omega
  have hn : H1 a = none := I1.hok.fresh hsz
  have hq := q1 a hn
  have kk : ∀ b o, hp.get? b = some o → ((hp.push (PySem.W.kdv_tup us)).push (PySem.HandSPX.excO C hp.objs.size)).get? b = some o :=
    fun b o z => Heap.get?_push_of_some _ (Heap.get?_push_of_some _ z)
  have hget : ((hp.push (PySem.W.kdv_tup us)).push (PySem.HandSPX.excO C hp.objs.size)).get? a = some (PySem.HandSPX.excO C hp.objs.size) := by
    rw [← hA]
    heap_get
  have I2 := I1.laid (t' := tk) (a := a) (o := exo a C none) (h' := (hp.push (PySem.W.kdv_tup us)).push (PySem.HandSPX.excO C hp.objs.size)) kk hsz (exo_ok hget)
  have r2 : Vals (V.ref a :: (vs ++ [])) (Value.ref a :: us) := by
    rw [List.append_nil]
    exact .cons rfl r1
  have hl : (Value.ref a :: us ++ []).length = ps.length := by
    have z := r2.length
    rw [F1.len _ _ _ _ hq] at z
    rw [List.append_nil]
    exact z.symm
  have b2 := hb { heap := (hp.push (PySem.W.kdv_tup us)).push (PySem.HandSPX.excO C hp.objs.size), gens := g, drawn := dr, toks := tk, os := os } (Value.ref a :: us) I2.kIn hl
  rw [List.append_nil] at b2
  have hus : us.length ≤ sizeLine := by
    rw [← Paired.length r1, sizeLine_eq]
    omega
  refine wpAny_call (PySem.HandSPX.call_own F.excBase_ValueError (fun Y => PySem.HandSPX.refsVE_contains Y bm hbm) (I1.kIn _ _ hC) (PySem.W.looks_findIn I1.kIn iC) (fun self => PySem.W.bind_fn I1.kIn self tI) hus ?_)
  rw [hA]
  refine codeAny_mono (F1.run _ X.stack _ _ ⟨Value.ref a :: us, []⟩ (Value.ref a :: us) _ _ (fun _ _ _ => False) (hr.make C us []) (I2.env0.make C us []) b2 r2 hq) fun r s' hq' => ?_
  cases r with
  | error er => exact hq'.elim
  | ok fl =>
    cases fl with
    | ret u =>
      obtain ⟨v, H2, os2, bare2, un2, hok2, rv, ev, d, fs, ea, ed, hd1, q2⟩ := hq'
      subst ev
      obtain ⟨h2, g2, d2, t2, os'⟩ := s'
      obtain ⟨t0, G, J, kG, ge, hoe, na⟩ := mk_end0 (d2 := d2) (t2 := t2) I1 hsz kk un2 hok2 os2 bare2 ea ed hd1
      refine ⟨rv, a, _, _, ⟨G, g2, d2, t2, os'⟩, _, .ref C, some d, rfl, J, kG, ge, hoe, ⟨rfl, rfl, fun vs hv => ?_⟩, rfl, rfl, na, rfl, bare2, raises_own T.exC T.tyC, q2⟩
      cases hv
      rfl
    | next => exact hq'.elim
    | brk => exact hq'.elim
    | cont => exact hq'.elim

/-- raise C(e, ..) -/
def sRaise (C : Addr) (fs : List Str) (l : AA) : AS := fun A ρ μ => l ρ μ (fun ds μ1 => ds.length = fs.length ∧ fs.length ≤ 9 ∧ A.er ⟨C, (fs.zip ds).reverse⟩ ρ μ1) (fun x μ1 => A.er x ρ μ1)
section
variable {K : PySem.W.Frag} {pn : List (Addr × Obj)} {θ : List Addr} {H : Hp}
theorem Denf.zip : ∀ {fs : List Str} {us : List V} {ds : List D}, Dens K pn θ H us ds → Denf K pn θ H (fs.zip us) (fs.zip ds)
  | [], _, _, _ => .nil
  | _ :: _, _, _, .nil => .nil
  | _ :: _, _, _, .cons h t => .cons h (Denf.zip t)
theorem Denf.append : ∀ {a b : List (Str × V)} {c d : List (Str × D)}, Denf K pn θ H a c → Denf K pn θ H b d → Denf K pn θ H (a ++ b) (c ++ d)
  | _, _, _, _, .nil, h => h
  | _, _, _, _, .cons x t, h => .cons x (Denf.append t h)
theorem Denf.rev : ∀ {a : List (Str × V)} {c : List (Str × D)}, Denf K pn θ H a c → Denf K pn θ H a.reverse c.reverse
  | _, _, .nil => .nil
  | _, _, .cons x t => by
    rw [List.reverse_cons, List.reverse_cons]
    exact Denf.append (Denf.rev t) (.cons x .nil)
end
/-- what an own error's class says -/
structure ErC (K : PySem.W.Frag) (mg : Str → Option Value) (x : Str) (C fI : Addr) : Prop where
  oex : OexC K C
  iC : PySem.W.findIn K (.ref C) "__init__" = some (some (.ref fI))
  tI : PySem.W.typeIn K (.ref fI) = some (.type "function")
  m : mg x = some (.ref C)
section
variable {X : Cx} {W : WX} {k k' : Nat} {C fI : Addr} {fd : FuncData} {fs : List Str} {x : Str} {e : Expr} {es : List Expr} {l : AA} {p pos pos2 : Pos}
theorem d_raise (B : Bd X W k) (T : ErC X.K X.mg x C fI) (G : FnOk X.prog X.w X.K X.mg X.base CX0 k' fI fd ("self" :: fs) (spInit C fs)) (hk' : k' + 1 ≤ k) (hb : Binds X.K fd ("self" :: fs) []) (ha : DA X [] W (e :: es) l)
    (hg : Gl X x := by rfl) (hdb : (x == ("__debug__" : Str)) = false := by decide) (he : starEach (e :: es) X.env = (false, eval e X.env) :: starEach es X.env := by rfl) (hpl : (backTo pos (starEach es X.env)).any (·.1) = false := by rfl) :
    DS X [] W (.Raise (some (.Call (.Name x p) (e :: es) [] pos)) none pos2) (sRaise C fs l) := by
  obtain ⟨tl, l1, l2⟩ := ha.ex
  refine ⟨_, L2N.ps_raise B.calm B.tk (pmkN T.oex T.iC T.tI G (B.room.mono hk') hb hg T.m l1 hdb he hpl), ⟨fun w σ ρ ok er A h E hE => ?_⟩⟩
  refine l2.run w σ ρ ok er _ _ h _ (fun ds μ1 h1 vs w1 em l1 k1 dn => ?_) (hE.ex er)
  subst em
  obtain ⟨hl, h9, h1⟩ := h1
  refine ⟨by rw [dn.len]; omega, fun a hn => ⟨a, vs ++ [], rfl, by simp [dn.len, hl], upd_same, fun H' dx hdx hne ea ed hb => ⟨rfl, dx, _, ea, ed, ?_, ?_⟩⟩⟩
  · rw [upd_ne hne] at hdx
    exact hdx
  · rw [upd_ne hne] at hdx
    rw [List.append_nil] at ed ⊢
    have e1 : upd (L2.del H' a) dx (.xd (fs.zip vs).reverse) = upd w1.H dx (.xd (fs.zip vs).reverse) := by
      funext b
      by_cases h1 : b = dx
      · rw [h1, upd_same, upd_same]
      · rw [upd_ne h1, upd_ne h1]
        by_cases h2 : b = a
        · rw [h2, L2.del_same, hn]
        · rw [L2.del_ne h2, hb b h2 h1, upd_ne h2]
    rw [e1]
    obtain ⟨l3, k3, n3⟩ := k1.new (o := .xd (fs.zip vs).reverse) hdx
    exact hE.er _ _ _ h1 σ (.ref C) (some dx) ⟨w1.θ, upd w1.H dx (.xd (fs.zip vs).reverse), w1.μ⟩ rfl (l1.trans l3) k3 ((er.mono l1).mono l3) ⟨rfl, _, .inl ⟨dx, rfl, upd_same, n3⟩, ((Denf.zip dn).rev).mono l3⟩
end

/-! ### try: .. except X as n: .. -/
/-- the suite runs with the error in slot i; nothing leaves it -/
def sTryAs (sub : Addr → Option Bool) (i : Nat) (b : AS) (su : AS) : AS := fun A ρ μ => b { A with er := fun x ρ' μ' => match sub x.C with
  | some true => su { nx := fun r m => A.nx (r.set i none) m, rt := fun d m => noErr d = true ∧ A.rt d m, bk := fun r m => A.bk (r.set i none) m, ct := fun r m => A.ct (r.set i none) m } (ρ'.set i (some (.err x.C x.fs))) μ'
  | some false => A.er x ρ' μ'
  | none => False } ρ μ
theorem EnvR.sub {K : PySem.W.Frag} {pn pn' : List (Addr × Obj)} {w : Wd} {σ : L2.St} {ρ : Rho} (e : EnvR K pn w σ ρ) (h : ∀ p ∈ pn, p ∈ pn') : EnvR K pn' w σ ρ := ⟨e.len, fun i d q => by
  obtain ⟨v, a, b⟩ := e.get i d q
  exact ⟨v, a, b.sub h⟩⟩
/-- a suite that ends with a return, always -/
def sTryRet (sub : Addr → Option Bool) (i : Nat) (b : AS) (su : AS) : AS := fun A ρ μ => b { A with er := fun x ρ' μ' => match sub x.C with
  | some true => su { nx := fun _ _ => False, rt := fun d m => noErr d = true ∧ A.rt d m } (ρ'.set i (some (.err x.C x.fs))) μ'
  | some false => A.er x ρ' μ'
  | none => False } ρ μ
section
variable {X : Cx} {W : WX} {k : Nat} {x n : Str} {c : Value} {i : Nat} {body suite : List Stmt} {b₀ : Stmt} {np pos pos' : Pos} {b su : AS} {sub : Addr → Option Bool}
theorem d_tryRet (i : Nat) (B : Bd X W k) (sub : Addr → Option Bool) (hc : Names X x c) (hsub : ∀ (C : Addr) (v : Bool), sub C = some v → PySem.W.exmOne X.K (.ref C) c = some v)
    (hb : ∀ (W' : WX) (pn : List (Addr × Obj)) (xe : Value → Shared → Prop), Bd (X.tr pn xe) W' k → DSs (X.tr pn xe) [] W' body b)
    (hsu : ∀ (a : Addr) (oe : Obj) (cls : Value) (d : Option Addr) (pn : List (Addr × Obj)), L2N.Zn cls d oe → (∃ vs, oe.data = .fields vs) → DSs (X.suite a ((a, oe) :: pn)) [(a, oe)] (fun _ _ _ _ => False) (b₀ :: suite) su)
    (hs : X.stack = X.env :: X.outer := by rfl) (hf : X.env.frame = some X.env.locals := by rfl) (hi : X.N[i]? = some n := by rfl) (hln : X.env.kindOf n = some .local := by rfl) :
    DS X [] W (.Try body [.ExceptHandler (some (.Name x np)) (some n) (b₀ :: suite) pos'] [] [] pos) (sTryRet sub i b su) := by
  have hb' := fun (W' : WX) (pn : List (Addr × Obj)) (xe : Value → Shared → Prop) (tk : L2N.Takes (X.tr pn xe) W') (ow : PassesOwn (model X.prog X.w) X.A X.env xe) => (hb W' pn xe ⟨tk, ow, B.calm, B.room, B.nd⟩).ex
  have hsu' := fun (a : Addr) (oe : Obj) (cls : Value) (d : Option Addr) (pn : List (Addr × Obj)) (z : L2N.Zn cls d oe) (f : ∃ vs, oe.data = .fields vs) => (hsu a oe cls d pn z f).ex
  refine ⟨_, L2N.ps_try_as (i := i) (tb := fun W' D σ H => ∀ pn xe tk ow, (hb' W' pn xe tk ow).choose D σ H) (ts := fun a cls d D σ H => ∀ oe pn z f, (hsu' a oe cls d pn z f).choose D σ H) (Wout := W) hs hf B.nd hi hln hc B.tk
    (fun W' pn xe tk ow => ⟨fun pins s σ H D I h => (hb' W' pn xe tk ow).choose_spec.1.run pins s σ H D I (h pn xe tk ow)⟩)
    (fun a oe cls d pn z f => ⟨fun pins s σ H D I h => (hsu' a oe cls d pn z f).choose_spec.1.run pins s σ H D I (h oe pn z f)⟩), ⟨fun w σ ρ ok er A h E hE pn xe tk ow => ?_⟩⟩
  refine (hb' _ pn xe tk ow).choose_spec.2.run w σ ρ ok er _ h E ⟨hE.nx, hE.rt, hE.bk, hE.ct, fun y ρ' μ' q σ' cls dd w' em l k' e' dx => ?_⟩
  subst em
  obtain ⟨rfl, fvs, hd, hf'⟩ := dx
  have q : (match sub y.C with
    | some true => su { nx := fun _ _ => False, rt := fun d m => noErr d = true ∧ A.rt d m } (ρ'.set i (some (.err y.C y.fs))) w'.μ
    | some false => A.er y ρ' w'.μ
    | none => False) := q
  cases hsy : sub y.C with
  | none =>
    rw [hsy] at q
    exact q.elim
  | some v =>
    rw [hsy] at q
    refine ⟨v, hsub _ _ hsy, fun hv a ha oe pn' z f => ?_, fun hv => ?_⟩
    · subst hv
      have es : EnvR X.K [(a, oe)] w' (σ'.set i (some (.ref a))) (ρ'.set i (some (.err y.C y.fs))) :=
        (e'.sub fun _ z => (List.not_mem_nil z).elim).set (.err List.mem_cons_self z f hd (hf'.sub fun _ z => (List.not_mem_nil z).elim))
      refine (hsu' a oe _ _ pn' z f).choose_spec.2.run w' _ _ k' es _ q _ ⟨fun _ _ z => z.elim, fun d' m z v' w2 em l2 k2 d2 => ?_, fun _ _ z => z.elim, fun _ _ z => z.elim, fun _ _ _ z => z.elim⟩
      exact hE.rt _ _ z.2 v' w2 em (l.trans l2) k2 (d2.un z.1)
    · subst hv
      exact hE.er _ _ _ q σ' _ _ w' rfl l k' e' ⟨rfl, fvs, hd, hf'⟩
end
end DK
set_option Elab.async false
set_option linter.all false
set_option maxRecDepth 100000
set_option maxHeartbeats 4000000
/-! an error that is handled, as an argument -/
namespace PySem.W
open PySem PySem.Spec PySem.Calls PyProof.Rows
/-- what isinstance asks of an error's class -/
structure ErrK (K : Frag) (D : Addr) : Prop where
  ga : findIn K (.ref D) "__getattribute__" = some (some (.builtin "BaseException.__getattribute__"))
  gg : findIn K (.ref D) "__getattr__" = some none
  ex : subIn K (.ref D) (.type "BaseException") = some true
  hd : hasDictIn K D = true
  cl : findIn K (.ref D) "__class__" = some (some (.builtin "object.__class__"))
  sg : specialIn K (.builtin "object.__class__") "__get__" = some (some (.builtin "getset_descriptor.__get__"))
  tk : takesIn K (.builtin "object.__class__") = some true
  ob : mroIn K D (.type "object") = some true
section
variable {prog : Program} {w : World} {K : Frag} {x D : Addr} {ox od : Obj}
theorem ErrK.find (k : ErrK K D) : findObj K D (some od) "__class__" = some (.bind (.builtin "getset_descriptor.__get__") (.builtin "object.__class__")) := by
  refine findObj_data ?_ k.cl k.sg k.tk
  obtain ⟨cd, hc, _⟩ := any_some k.hd
  rw [hc]
  rfl
/-- its __class__, read by isinstance; the error has a dict -/
theorem ErrK.klass {A : Around} {E : Value → Shared → Prop} {Q : Option Value → Shared → Prop} {s : Shared} (k : ErrK K D) (X : K.In s.heap) (I : InstAt s.heap x ox D (some od))
    (h : Q (some (.ref D)) { s with toks := s.toks + 1 }) : wpAny (model prog w) A (getAttr? (.ref x) "__class__") Q E s := by
  obtain ⟨hp, g, dr, tk, os⟩ := s
  have lT := I.type (M := model prog w)
  have lG := looks_findIn (M := model prog w) X k.ga
  have lN := looks_findIn (M := model prog w) X k.gg
  have lF := looks_find (M := model prog w) X I k.find
  have lS : Looks (model prog w) hp (isInstance (.ref x) (.type "BaseException")) true := lT.andThen (looks_subIn X k.ex)
  have c0 : (false && onTheHeap (Value.builtin "BaseException.__getattribute__")) = false := rfl
  have c2 : (Value.builtin "BaseException.__getattribute__" == Value.builtin "object.__getattribute__") = false := by decide +kernel
  have c1 : (onTheHeap (Value.ref D) && Value.builtin "BaseException.__getattribute__" == Value.builtin "object.__getattribute__") = false := by
    rw [c2]
    rfl
  unfold getAttr? getAttrBy? getAttrBy
  refine wpAny_bind (wpAny_mkText (wpAny_bind (wpAny_attempt (wpAny_holding (wpAny_bind (lT.at (wpAny_bind (lG.at ?_))))))))
  show wpAny _ _ (if (onTheHeap (Value.ref D) && Value.builtin "BaseException.__getattribute__" == Value.builtin "object.__getattribute__") = true then _ else _) _ _ _
  rw [c1, if_neg (by decide)]
  unfold getAttrByItsOwn hookBefore
  refine wpAny_bind ?_
  rw [if_pos (show onTheHeap (Value.ref D) = true by rfl)]
  refine lN.at (wpAny_bind (wpAny_attempt (wpAny_holding ?_)))
  unfold callGetattribute
  rw [c0, if_neg (by decide)]
  unfold boundAndCalled
  rw [PySem.F.excAttr_ValueError.ga.bind (.ref x)]
  refine wpAny_bind (wpAny_pure ?_)
  show wpAny _ _ (call (.builtin "BaseException.__getattribute__") [.ref x, .str "__class__" tk]) _ _ _
  refine wpAny_call (codeAny_call_builtin PySem.F.excAttr_ValueError.ga.plain PySem.F.entry_bexc_ga ?_)
  refine @check_slot (model prog w) _ _ ⟨hp, g, dr, tk + 1, os⟩ "BaseException.__getattribute__" "BaseException" "__getattribute__" (.ref x)
    [.str "__class__" tk] [] _ (by decide +kernel) (by decide +kernel) lS (PySem.F.args_bexc_ga (.ref x) (.str "__class__" tk)) ?_
  unfold Builtin.«object.__getattribute__»
  refine wpAny_bind (wpAny_of_eq (a := ((Value.ref x : Value), [Value.str "__class__" tk])) (by first | rfl | (simp only [slotArgs]; rfl)) ?_)
  refine wpAny_bind (wpAny_pure (wpAny_bind (lT.at (wpAny_bind (lF.at ?_)))))
  show wpAny _ _ (holding [Value.builtin "object.__class__"] (call (.builtin "getset_descriptor.__get__") [.builtin "object.__class__", .ref x, .ref D]) >>= ret) _ _ _
  refine wpAny_bind (wpAny_holding (wpAny_call (class_get (s := ⟨hp, g, dr, tk + 1, os⟩) (ox := ox) (od := some od) X I k.ob ?_)))
  refine wpAny_pure ?_
  show wpAny _ _ (handedOut (.ref D)) _ _ _
  rw [handedOut_of (v := .ref D) rfl]
  first
    | exact wpAny_pure (wpAny_pure h)
    | exact wpAny_pure h
    | exact wpAny_pure (wpAny_bind (wpAny_pure (wpAny_pure h)))
theorem ErrK.kit (k : ErrK K D) : KitX K (.ref x) (.ref D) (fun h => InstAt h x ox D (some od)) where
  ty := fun _ _ _ I => I.type
  it := fun _ h X _ => by
    obtain ⟨cdD, hcD, _⟩ := any_some k.hd
    unfold clsIn at hcD
    split at hcD
    · rename_i c' d' cd' sl' ho
      intro A' Q' E' s' kp q
      unfold isType loadHead
      refine wpAny_bind (wpAny_loadPart (kp _ _ (X _ _ ho)) (wpAny_pure q))
    · cases hcD
  ne := fun h tp dd its n sl X htp => by
    obtain ⟨cdD, hcD, _⟩ := any_some k.hd
    refine Bool.eq_false_iff.mpr fun q => ?_
    obtain rfl : D = tp := Value.ref.inj (beq_iff_eq.mp q)
    unfold clsIn at hcD
    split at hcD
    · rename_i c' d' cd' sl' ho
      have z := (X _ _ ho).symm.trans htp
      cases z
    · cases hcD
  ca := fun X I h => k.klass X I h
end
end PySem.W

namespace DK
open PySem L2 L2H PyProof.Rows
/-! ### defs called while an error is handled -/
structure FnP (P : Program) (w : World) (K : PySem.W.Frag) (mg : Str → Option Value) (base : Heap) (k : Nat) (f : Addr) (fd : FuncData) (ps : List Str) (sp : Addr × Obj → Sp) : Prop where
  len : ∀ p vs H Q E, sp p vs H Q E → vs.length = ps.length
  run : ∀ (p : Addr × Obj) (A : Around) (outer : List Env) (s : Shared) (H : Hp) (args : Args) (us : List Value) (vs : List V) (Q : VK) (E : XK), RoomH k A → Hot1 A p → PinOk outer H s p → Env0 P w K mg base A outer s H →
    BindsTo s fd args (ps.zip us) → Vals vs us → sp p vs H Q E → codeAny (model P w) A (.call (.ref f) args) (CR CX0 outer P w H s Q E) s
abbrev cxP (P : Program) (w : World) (K : PySem.W.Frag) (mg : Str → Option Value) (base : Heap) (N : List Str) (qual : Str) (scope : Scope) (f : Addr) (cd : Value) (A : Around) (outer : List Env) (s : Shared) (H : Hp) (E : XK) (p : Addr × Obj) : Cx :=
  cxH CX0 P w K mg base N qual scope f cd A outer s H E p
structure BdH (X : Cx) (p : Addr × Obj) (k : Nat) : Prop where
  hot : Hot1 X.A p
  mem : p ∈ X.pn
  room : RoomH k X.A
  nd : X.N.Nodup
def spP (K : PySem.W.Frag) (n : Nat) (F : FD) (p : Addr × Obj) : Sp := fun vs H Q _ => ∃ (θ : List Addr) (μ : Sto) (ds : List D) (QA : QD), Ok K ⟨θ, H, μ⟩ ∧ Dens K [p] θ H vs ds ∧ ds.length = n ∧ F ds μ QA (fun _ _ => False) ∧ ∀ d μ', QA d μ' → PQ K [] ⟨θ, H, μ⟩ Q d μ'
abbrev FnQ (P : Program) (w : World) (K : PySem.W.Frag) (mg : Str → Option Value) (base : Heap) (k : Nat) (f : Addr) (fd : FuncData) (ps : List Str) (F : FD) : Prop := FnP P w K mg base k f fd ps (spP K ps.length F)
def pEnds (Q : QD) : AEnds := { nx := fun _ μ => Q (.v .non) μ, rt := fun d μ => noErr d = true ∧ Q d μ }
abbrev w0 : WX := fun _ _ _ _ => False
def aCallH (F : FD) (n : Nat) (l : AA) : AE := fun ρ μ Q X => l ρ μ (fun ds μ1 => ds.length = n ∧ F ds μ1 Q (fun _ _ => False)) X
section
variable {P : Program} {w : World} {K : PySem.W.Frag} {mg : Str → Option Value} {base : Heap}
/-- THE RULE for such a def on data -/
theorem fnQ {x qual : Str} {st : Stmt} {f : Addr} {fd : FuncData} {N ps : List Str} {k : Nat} {F : FD} (b : AS) (Fn : Fun K x qual st f fd) (S : FnScope N ps (defScope st))
    (hbody : ∀ (cd : Value) (A : Around) (outer : List Env) (s : Shared) (H : Hp) (E : XK) (p : Addr × Obj), BdH (cxP P w K mg base N qual (defScope st) f cd A outer s H E p) p k → DSs (cxP P w K mg base N qual (defScope st) f cd A outer s H E p) [p] w0 (defBody st) b)
    (hread : ∀ (ds : List D) (μ : Sto) (QA : QD), ds.length = ps.length → F ds μ QA (fun _ _ => False) → b (pEnds QA) (startD N.length ds) μ) : FnQ P w K mg base (k + 1) f fd ps F := by
  obtain ⟨oc, od, kV, doc, pm, an, cdv, ct, osl, rfl, lk, hcd⟩ := Fn.ex
  have hlen : ∀ (p : Addr × Obj) vs H Q E, spP K ps.length F p vs H Q E → vs.length = ps.length := fun p vs H Q E h => by
    obtain ⟨θ, μ, ds, QA, ok, hd, hl, _⟩ := h
    rw [hd.len, hl]
  refine ⟨hlen, fun p A outer s H args us vs Q E hr hot hpin e0 hb r hsp => ?_⟩
  have hl := hlen p _ _ _ _ hsp
  have KX : K.In s.heap := e0.mod.kin.keeps fun a o e => (e0.bs a o e).1
  have lim : s.heap.NoLimit := e0.mod.nolimit.keeps fun a o e => (e0.bs a o e).1
  have kinds : ∀ y ∈ ps.zip us, (defScope st).names.lookup y.1 = some .local ∨ ((defScope st).names.lookup y.1 = some .cell ∧ ((cellsFrom (s.heap.objs.size + 1) (defScope st).names []).lookup y.1).isSome = true) := by
    intro ⟨n, v⟩ hy
    rcases S.par n (List.of_mem_zip hy).1 with q | q
    · exact .inl q
    · exact .inr ⟨q, PySem.W.cellsFrom_some _ _ _ (.inl q)⟩
  refine codeAny_call_function hr.depth (KX _ _ lk) rfl S.co S.gen rfl (PySem.W.codeRec_of KX hcd) (hb _ _ _ _ (wpAny_newFunctionEnv_cells S.kind kinds fun env he s1 x1 => ?_))
  subst he
  refine ⟨lim.keeps x1.toInCall.keep, codeAny_func ?_⟩
  obtain ⟨θ, μ, ds, QA, ok, hd, hn, hF, hq⟩ := hsp
  obtain ⟨t, ht, ht'⟩ := (hbody cdv A outer s H E p ⟨hot, List.mem_singleton.mpr rfl, hr.deeper _, S.nd⟩).ex
  have hpl : ps.length ≤ N.length := by have := congrArg List.length S.pre; rw [List.length_take] at this; omega
  have I : Inv (cxP P w K mg base N qual (defScope st) f cdv A outer s H E p) [] (L2.start N vs) H s1 := inv_startH S hpin e0 hl r x1
  refine wpAny_mono (ht.run [] s1 (L2.start N vs) H { nx := fun _ H' => Q .non H', rt := Q } I ?_) (fun fl s' hs => ?_) fun _ _ hs => hs
  · refine ht'.run ⟨θ, H, μ⟩ _ _ ok (start_env hd (by rw [hd.len, hn]; exact hpl)) _ (hread ds μ QA hn hF) _ ⟨fun ρ' μ' q σ' w' em l k' e' => ?_, fun d μ' q v w' em l k' dn => ?_, fun _ _ q => q.elim, fun _ _ q => q.elim, fun _ _ _ q => q.elim⟩
    · exact hq _ _ q .non w' em l k' .v
    · exact hq _ _ q.2 v w' em l k' (dn.un q.1)
  · have fin : ∀ {σ' : L2.St} {H' : Hp} {v : V} {u : Value}, Inv (cxP P w K mg base N qual (defScope st) f cdv A outer s H E p) [] σ' H' s' → RelV v u → Q v H' → CE outer P w H s Q u s' :=
      fun {σ' H' v u} J rv q => ⟨v, H', J.os, J.bare, J.base, J.hok, rv, q⟩
    cases fl with
    | ret u =>
      obtain ⟨v, σ', H', J, rv, q⟩ := hs
      exact fin J rv q
    | next =>
      obtain ⟨σ', H', J, q⟩ := hs
      exact fin (v := V.non) (u := Value.none) J rfl q
    | brk =>
      obtain ⟨_, _, _, q⟩ := hs
      exact q.elim
    | cont =>
      obtain ⟨_, _, _, q⟩ := hs
      exact q.elim
end
section
variable {X : Cx} {W : WX} {p : Addr × Obj} {k k' : Nat} {f : Addr} {fd : FuncData} {ps : List Str} {F : FD} {x : Str} {e : Expr} {es : List Expr} {l : AA} {q pos : Pos}
/-- f(e, ..) while p's error is handled -/
theorem d_callH (B : BdH X p k) (G : FnQ X.prog X.w X.K X.mg X.base k' f fd ps F) (hk' : k' ≤ k) (hm : X.mg x = some (.ref f)) (hk : PySem.W.keepIn X.K (.ref f) = true) (hb : Binds X.K fd ps []) (ha : DA X [p] W (e :: es) l)
    (hg : Gl X x := by rfl) (hdb : (x == ("__debug__" : Str)) = false := by decide) (he : starEach (e :: es) X.env = (false, eval e X.env) :: starEach es X.env := by rfl) (hpl : (backTo pos (starEach es X.env)).any (·.1) = false := by rfl) :
    DE X [p] W (.Call (.Name x q) (e :: es) [] pos) (aCallH F ps.length l) := by
  obtain ⟨tl, l1, l2⟩ := ha.ex
  refine ⟨fun σ H Q => tl σ H fun vs H1 => spP X.K ps.length F p vs H1 Q (fun _ _ _ => False), ⟨fun pins s σ H Q I h => ?_⟩, ⟨fun w σ ρ ok er QA XA h Q hq hx => ?_⟩⟩
  · refine wpAny_Call_Name_kw (ld_glob I hg hm ?_ hdb)
    refine PySem.W.callWith_K (h₀ := X.base) I.ok.mod.kin hk (thn (l1.run pos pins s σ H _ I h) fun us s1 hus => ?_) he hpl
    obtain ⟨vs, H1, I1, r, hs⟩ := hus
    refine ⟨I1.kIn, ?_⟩
    have hl : us.length = ps.length := by rw [← r.length]; exact G.len p _ _ _ _ hs
    have b := hb s1 us I1.kIn (by rw [List.append_nil]; exact hl)
    rw [List.append_nil] at b
    have P1 := I1.pin p (List.mem_append_left _ B.mem)
    have hpin : PinOk X.stack H1 s1 p := ⟨P1.1, P1.2.1, fun hm => (List.mem_cons.mp (I1.stkSub p.1 hm)).elim P1.2.2.1 P1.2.2.2.1, P1.2.2.2.2⟩
    refine wpAny_call (codeAny_mono (G.run p X.A X.stack s1 H1 ⟨us, []⟩ us vs Q (fun _ _ _ => False) (B.room.mono hk') B.hot hpin I1.env0 b r hs) fun r s' hq => ?_)
    cases r with
    | error e => exact hq.elim
    | ok fl =>
      cases fl with
      | ret u => exact I1.after hq
      | next => exact hq.elim
      | brk => exact hq.elim
      | cont => exact hq.elim
  · refine l2.run w σ ρ ok er _ XA h _ (fun ds μ1 h1 vs w1 em l1 k1 dn => ?_) hx
    subst em
    exact ⟨w1.θ, w1.μ, ds, QA, k1, dn, h1.1, h1.2, fun d μ' q v w' em l k dn => hq d μ' q v w' em (l1.trans l) k (dn.sub fun _ z => (List.not_mem_nil z).elim)⟩
end
end DK
set_option Elab.async false
set_option linter.all false
set_option maxRecDepth 100000
set_option maxHeartbeats 4000000
namespace DK
open PySem L2 L2H PyProof.Rows

/-! ### numbers of cells within -/
mutual
def lb (n : Nat) : D → Bool
  | .v _ => true
  | .lst ds => lbs n ds
  | .tup ds => lbs n ds
  | .rl ds => lbs n ds
  | .loc k => decide (k < n)
  | .err _ _ => true
  | .dic _ => true
  | .ins _ _ ds => lbs n ds
def lbs (n : Nat) : List D → Bool
  | [] => true
  | d :: ds => lb n d && lbs n ds
end
section
variable {K : PySem.W.Frag} {pn : List (Addr × Obj)} {θ ex : List Addr} {H : Hp}
mutual
theorem Den.lb : ∀ {x : V} {d : D}, Den K pn θ H x d → lb θ.length d = true
  | _, _, .v => rfl
  | _, _, .lst _ _ hs => Dens.lbs hs
  | _, _, .tup _ hs => Dens.lbs hs
  | _, _, .rl _ hs => Dens.lbs hs
  | _, _, .loc h => decide_eq_true (List.getElem?_eq_some_iff.mp h).1
  | _, _, .err .. => rfl
  | _, _, .dic _ _ => rfl
  | _, _, .ins _ _ _ _ _ hs => Dens.lbs hs
theorem Dens.lbs : ∀ {x : List V} {d : List D}, Dens K pn θ H x d → lbs θ.length d = true
  | _, _, .nil => rfl
  | _, _, .cons h t => Bool.and_eq_true_iff.mpr ⟨Den.lb h, Dens.lbs t⟩
end
theorem nin_app {a : Addr} (h : a ∉ θ ++ ex) : a ∉ θ := fun z => h (List.mem_append_left _ z)
mutual
theorem Den.cut : ∀ {x : V} {d : D}, Den K pn (θ ++ ex) H x d → DK.lb θ.length d = true → noErr d = true → Den K pn θ H x d
  | _, _, .v, _, _ => .v
  | _, _, .lst h n hs, e, f => .lst h (nin_app n) (Dens.cut hs e f)
  | _, _, .tup h hs, e, f => .tup (h.imp (fun z => ⟨z.1, nin_app z.2⟩) id) (Dens.cut hs e f)
  | _, _, .rl h hs, e, f => .rl (h.imp (fun z => ⟨z.1, nin_app z.2⟩) id) (Dens.cut hs e f)
  | _, _, .loc h, e, _ => .loc (by rw [List.getElem?_append_left (of_decide_eq_true e)] at h; exact h)
  | _, _, .err .., _, f => nomatch f
  | _, _, .dic h n, _, _ => .dic h (nin_app n)
  | _, _, .ins hk hf h n hl hs, e, f => .ins hk hf h (nin_app n) hl (Dens.cut hs e f)
theorem Dens.cut : ∀ {x : List V} {d : List D}, Dens K pn (θ ++ ex) H x d → DK.lbs θ.length d = true → noErrs d = true → Dens K pn θ H x d
  | _, _, .nil, _, _ => .nil
  | _, _, .cons h t, e, f => .cons (Den.cut h (Bool.and_eq_true_iff.mp e).1 (Bool.and_eq_true_iff.mp f).1) (Dens.cut t (Bool.and_eq_true_iff.mp e).2 (Bool.and_eq_true_iff.mp f).2)
end
theorem Dens.noErr0 : ∀ {x : List V} {d : List D}, Dens K [] θ H x d → noErrs d = true := by
  intro x d h
  refine Dens.rec (motive_1 := fun x d _ => noErr d = true) (motive_2 := fun x d _ => noErrs d = true) (motive_3 := fun _ _ _ => True) ?_ ?_ ?_ ?_ ?_ ?_ ?_ ?_ ?_ ?_ ?_ ?_ h
  · intro x; rfl
  · intro a vs ds _ _ _ q; exact q
  · intro a vs ds _ _ q; exact q
  · intro a vs ds _ _ q; exact q
  · intro k p _; rfl
  · intro a oe C d fvs fs hp; exact (List.not_mem_nil hp).elim
  · intro a ks _ _; rfl
  · intro a C dx ns vs ds _ _ _ _ _ _ q; exact q
  · rfl
  · intro x d vs ds _ _ q1 q2; exact Bool.and_eq_true_iff.mpr ⟨q1, q2⟩
  · trivial
  · intros; trivial
end
section
variable {K : PySem.W.Frag} {pn : List (Addr × Obj)} {θ ex : List Addr} {H : Hp}
theorem Denf.lbs : ∀ {x : List (Str × V)} {d : List (Str × D)}, Denf K pn θ H x d → DK.lbs θ.length (d.map (·.2)) = true
  | _, _, .nil => rfl
  | _, _, .cons h t => Bool.and_eq_true_iff.mpr ⟨h.lb, Denf.lbs t⟩
theorem Den.noErr0 {x : V} {d : D} (h : Den K [] θ H x d) : noErr d = true := by
  have z := Dens.noErr0 (.cons h .nil)
  exact (Bool.and_eq_true_iff.mp z).1
theorem Denf.noErr0 : ∀ {x : List (Str × V)} {d : List (Str × D)}, Denf K [] θ H x d → noErrs (d.map (·.2)) = true
  | _, _, .nil => rfl
  | _, _, .cons h t => Bool.and_eq_true_iff.mpr ⟨h.noErr0, Denf.noErr0 t⟩
theorem Denf.cut : ∀ {x : List (Str × V)} {d : List (Str × D)}, Denf K pn (θ ++ ex) H x d → DK.lbs θ.length (d.map (·.2)) = true → noErrs (d.map (·.2)) = true → Denf K pn θ H x d
  | _, _, .nil, _, _ => .nil
  | _, _, .cons h t, e, f => .cons (Den.cut h (Bool.and_eq_true_iff.mp e).1 (Bool.and_eq_true_iff.mp f).1) (Denf.cut t (Bool.and_eq_true_iff.mp e).2 (Bool.and_eq_true_iff.mp f).2)
end
theorem InsAt.lbs {K : PySem.W.Frag} {pn : List (Addr × Obj)} {θ : List Addr} {H : Hp} {C : Addr} {fvs : List (Str × V)} {fs : List (Str × D)} (h : InsAt K pn θ H C fvs fs) : DK.lbs θ.length (fs.map (·.2)) = true := h.den.lbs
theorem InsAt.noErr0 {K : PySem.W.Frag} {θ : List Addr} {H : Hp} {C : Addr} {fvs : List (Str × V)} {fs : List (Str × D)} (h : InsAt K [] θ H C fvs fs) : noErrs (fs.map (·.2)) = true := h.den.noErr0
theorem InsAt.cut {K : PySem.W.Frag} {pn : List (Addr × Obj)} {θ ex : List Addr} {H : Hp} {C : Addr} {fvs : List (Str × V)} {fs : List (Str × D)} (h : InsAt K pn (θ ++ ex) H C fvs fs) (e : DK.lbs θ.length (fs.map (·.2)) = true) (f : noErrs (fs.map (·.2)) = true) : InsAt K pn θ H C fvs fs := ⟨h.den.cut e f, h.ck, h.na, h.sm⟩
/-- the last cell is let go: its list stands as data -/
theorem Ok.drop {K : PySem.W.Frag} {w w' : Wd} {p : Addr} {ds : List D} (k : Ok K w) (k' : Ok K w') (l : WLe w w') (hθ : w'.θ = w.θ ++ [p]) (hμ : w'.μ = w.μ ++ [.lst ds]) (hp : w.H p = none) :
    WLe w ⟨w.θ, w'.H, w.μ⟩ ∧ Ok K ⟨w.θ, w'.H, w.μ⟩ := by
  have l2 : Le w.θ w.H w.θ w'.H := ⟨l.keep, ⟨[], by simp, fun _ z => (List.not_mem_nil z).elim⟩, fun q hq => l.trk q (l.sub hq)⟩
  refine ⟨l2, ⟨k.nd, k.len, fun i q c h1 h2 => ?_⟩⟩
  have z := k.cell i q c h1 h2
  have z' := k'.cell i q c (l.get h1) (by rw [hμ, List.getElem?_append_left (List.getElem?_eq_some_iff.mp h2).1]; exact h2)
  rw [hθ] at z'
  cases c with
  | lst es =>
    obtain ⟨vs, a, b⟩ := z
    obtain ⟨vs', a', b'⟩ := z'
    exact ⟨vs', a', b'.cut b.lbs b.noErr0⟩
  | ins C fs =>
    obtain ⟨dx, vs, a, b⟩ := z
    obtain ⟨dx', vs', a', b'⟩ := z'
    exact ⟨dx', vs', a', b'.cut b.lbs b.noErr0⟩

/-! ### list comprehensions -/
def wipeD (ρ : Rho) (i : Nat) : Rho := ρ.set i none
def aTurn (i : Nat) (t : AT) (e : AE) (ρ : Rho) (acc : List D) (μ : Sto) (x : D) (N : List D → Prop) : Prop :=
  t (ρ.set i (some x)) (μ ++ [.lst acc]) (fun b μ1 => μ1 = μ ++ [.lst acc] ∧ bIf b (e (ρ.set i (some x)) (μ ++ [.lst acc]) (fun d μ2 => μ2 = μ ++ [.lst acc] ∧ (noErr d = true ∧ lb μ.length d = true) ∧ N (acc ++ [d])) (fun _ _ => False)) (N acc)) (fun _ _ => False)
abbrev ASrc := Rho → Sto → (List D → Sto → Prop) → QX → Prop
def aLc (src : ASrc) (i : Nat) (t : AT) (e : AE) : AE := fun ρ μ Q X => src ρ μ (fun xs μ1 => xs.length ≤ 500000 ∧ ∃ I : Nat → List D → Prop, I 0 [] ∧ (∀ n acc x, xs[n]? = some x → I n acc → aTurn i t e (wipeD ρ i) acc μ1 x (I (n + 1))) ∧ ∀ acc, I xs.length acc → Q (.lst acc) μ1) X
def rR1 (l : AA) : ASrc := fun ρ μ Q X => l ρ μ (fun ds μ1 => match ds with
  | [.v (.int n)] => (-(2 ^ 62) ≤ n ∧ n < 2 ^ 62) ∧ Q ((List.range n.toNat).map fun (k : Nat) => .v (.int (k : Int))) μ1
  | _ => False) X
def rR2 (l : AA) : ASrc := fun ρ μ Q X => l ρ μ (fun ds μ1 => match ds with
  | [.v (.int m), .v (.int n)] => ((-(2 ^ 62) ≤ m ∧ m < 2 ^ 62) ∧ (-(2 ^ 62) ≤ n ∧ n < 2 ^ 62)) ∧ Q ((List.range (n - m).toNat).map fun (k : Nat) => .v (.int (m + (k : Int)))) μ1
  | _ => False) X
def rL (e : AE) : ASrc := fun ρ μ Q X => e ρ μ (fun d μ1 => match d with | .lst ds => Q ds μ1 | .rl ds => Q ds μ1 | _ => False) X
def rT (e : AE) : ASrc := fun ρ μ Q X => e ρ μ (fun d μ1 => match d with | .tup ds => Q ds μ1 | _ => False) X
/-- the turns one by one, for written lengths -/
def aGo (i : Nat) (t : AT) (e : AE) (ρ : Rho) (μ : Sto) : List D → List D → (List D → Prop) → Prop
  | [], acc, Q => Q acc
  | x :: xs, acc, Q => aTurn i t e ρ acc μ x fun acc' => aGo i t e ρ μ xs acc' Q
theorem go_lc {i : Nat} {t : AT} {e : AE} {ρ : Rho} {μ : Sto} {xs : List D} {Q : List D → Prop} (h : aGo i t e ρ μ xs [] Q) :
    ∃ I : Nat → List D → Prop, I 0 [] ∧ (∀ n acc x, xs[n]? = some x → I n acc → aTurn i t e ρ acc μ x (I (n + 1))) ∧ ∀ acc, I xs.length acc → Q acc := by
  refine ⟨fun n acc => aGo i t e ρ μ (xs.drop n) acc Q, h, fun n acc x hx q => ?_, fun acc q => ?_⟩
  · have hl := (List.getElem?_eq_some_iff.mp hx)
    have ed : xs.drop n = x :: xs.drop (n + 1) := by
      rw [List.drop_eq_getElem_cons hl.1, hl.2]
    have q : aGo i t e ρ μ (xs.drop n) acc Q := q
    rw [ed] at q
    exact q
  · have q : aGo i t e ρ μ (xs.drop xs.length) acc Q := q
    rw [List.drop_length] at q
    exact q
section
variable {K : PySem.W.Frag} {pn : List (Addr × Obj)} {W : WX} {tl : TA} {l : AA} {tt : TT} {t : AT} {te tx : TE} {e x : AE} {i : Nat}
theorem wipe_set {σ : L2.St} {x : V} : wipe ((wipe σ [i]).set i (some x)) [i] = wipe σ [i] := by
  show ((σ.set i none).set i (some x)).set i none = σ.set i none
  rw [List.set_set, List.set_set]
/-- what is true between two turns, the new list at p -/
def LcP (K : PySem.W.Frag) (pn : List (Addr × Obj)) (w : Wd) (p : Addr) (I : Nat → List D → Prop) (n : Nat) (H : Hp) : Prop :=
  ∃ (w' : Wd) (acc : List D), w'.H = H ∧ WLe w w' ∧ Ok K w' ∧ w'.θ = w.θ ++ [p] ∧ w'.μ = w.μ ++ [.lst acc] ∧ acc.length ≤ n ∧ noErrs acc = true ∧ lbs w.θ.length acc = true ∧ I n acc
theorem noErrs_app : ∀ {a b : List D}, noErrs (a ++ b) = (noErrs a && noErrs b)
  | [], _ => rfl
  | d :: a, b => by
    show (noErr d && noErrs (a ++ b)) = (noErr d && noErrs a && noErrs b)
    rw [noErrs_app, Bool.and_assoc]
theorem lbs_app {n : Nat} : ∀ {a b : List D}, lbs n (a ++ b) = (lbs n a && lbs n b)
  | [], _ => rfl
  | d :: a, b => by
    show (lb n d && lbs n (a ++ b)) = (lb n d && lbs n a && lbs n b)
    rw [lbs_app, Bool.and_assoc]
theorem lc_turn {w : Wd} {σ : L2.St} {ρ : Rho} {p : Addr} {I : Nat → List D → Prop} {n : Nat} {H : Hp} {xv : V} {xd : D} (hp : w.H p = none) (er : EnvR K pn w σ ρ) (ht : ST K pn w0 tt t) (he : SE K pn w0 te e) (hn : n < 500000)
    (q : LcP K pn w p I n H) (hx : ∀ w', WLe w w' → Den K pn w'.θ w'.H xv xd) (hs : ∀ acc, I n acc → aTurn i t e (wipeD ρ i) acc w.μ xd (I (n + 1))) :
    gName i xv (wipe σ [i]) H fun σ2 H2 => wipe σ2 [i] = wipe σ [i] ∧ tt σ2 H2 fun b H3 => if b = true then te σ2 H3 fun y H4 => ∃ acc, H4 p = some (.lst acc) ∧ acc.length < sizeLine ∧ LcP K pn w p I (n + 1) (upd H4 p (.lst (acc ++ [y]))) else LcP K pn w p I (n + 1) H3 := by
  obtain ⟨w1, acc, rfl, l1, k1, hθ, hμ, hal, hne, hlb, hI⟩ := q
  refine ⟨wipe_set, ?_⟩
  have h := hs acc hI
  have hj : w1.θ[w.θ.length]? = some p := by
    rw [hθ, List.getElem?_append_right (Nat.le_refl _), Nat.sub_self]
    rfl
  have hlen : w.θ.length = w.μ.length := by
    have a := k1.len
    rw [hθ, hμ, List.length_append, List.length_append, List.length_singleton, List.length_singleton] at a
    omega
  have e1 : EnvR K pn w1 ((wipe σ [i]).set i (some xv)) ((wipeD ρ i).set i (some xd)) := ((er.mono l1).wipe (i := i)).set (hx w1 l1)
  unfold aTurn at h
  rw [← hμ] at h
  refine ht.run w1 _ _ k1 e1 _ _ h _ (fun b μ' hb w2 em l2 k2 => ?_) fun _ _ z => z.elim
  subst em
  obtain ⟨em, hb⟩ := hb
  have same : ∀ {w3 : Wd}, WLe w1 w3 → w3.μ = w1.μ → Ok K w3 → w3.θ = w.θ ++ [p] := fun {w3} l3 e3 k3 => by
    obtain ⟨ex, hex, _⟩ := l3.ext
    have a := k3.len
    rw [e3, hex, List.length_append, k1.len] at a
    have hx0 : ex = [] := List.length_eq_zero_iff.mp (by omega)
    rw [hex, hx0, List.append_nil, hθ]
  cases b with
  | false => exact ⟨w2, acc, rfl, l1.trans l2, k2, same l2 em k2, by rw [em, hμ], by omega, hne, hlb, hb.2 rfl⟩
  | true =>
    have hb' := hb.1 rfl
    rw [← em] at hb'
    refine he.run w2 _ _ k2 (e1.mono l2) _ _ hb' _ (fun d μ' hd y w3 em3 l3 k3 dn => ?_) fun _ _ z => z.elim
    subst em3
    obtain ⟨em3, ⟨hd1, hd2⟩, hd⟩ := hd
    have m3 : w3.μ = w1.μ := em3.trans em
    have t3 := same (l2.trans l3) m3 k3
    have hj3 : w3.θ[w.θ.length]? = some p := by
      rw [t3, List.getElem?_append_right (Nat.le_refl _), Nat.sub_self]
      rfl
    have hm3 : w3.μ[w.θ.length]? = some (.lst acc) := by
      rw [m3, hμ, hlen, List.getElem?_append_right (Nat.le_refl _), Nat.sub_self]
      rfl
    obtain ⟨us, hu, hus⟩ := k3.cell _ _ _ hj3 hm3
    obtain ⟨l4, k4⟩ := k3.writeL hj3 (hus.append (.cons (dn.un hd1) .nil))
    refine ⟨us, hu, ?_, ?_⟩
    · rw [hus.len]
      exact Nat.lt_of_le_of_lt hal (Nat.lt_trans hn (by decide))
    · refine ⟨⟨w3.θ, upd w3.H p (.lst (us ++ [y])), w3.μ.set w.θ.length (.lst (acc ++ [d]))⟩, acc ++ [d], rfl, ((l1.trans l2).trans l3).trans l4, k4, t3, ?_, ?_, ?_, ?_, hd⟩
      · show w3.μ.set w.θ.length (.lst (acc ++ [d])) = w.μ ++ [.lst (acc ++ [d])]
        rw [m3, hμ, hlen, List.set_append_right _ _ (Nat.le_refl _), Nat.sub_self]
        rfl
      · rw [List.length_append, List.length_singleton]
        omega
      · rw [noErrs_app, hne]
        show (true && (noErr d && true)) = true
        rw [hd1]
        rfl
      · rw [lbs_app, hlb]
        show (true && (lb _ d && true)) = true
        rw [hlen, hd2]
        rfl
theorem lc_start {w : Wd} {p : Addr} {I : Nat → List D → Prop} (k : Ok K w) (hp : w.H p = none) (h : I 0 []) : LcP K pn w p I 0 (upd w.H p (.lst [])) := by
  obtain ⟨l2, k2⟩ := k.cellL hp (.nil (K := K))
  exact ⟨⟨w.θ ++ [p], upd w.H p (.lst []), w.μ ++ [.lst []]⟩, [], rfl, l2, k2, rfl, rfl, Nat.le_refl _, rfl, rfl, h⟩
theorem lc_end {w : Wd} {p : Addr} {I : Nat → List D → Prop} {n : Nat} {H : Hp} {Q : VK} {QA : QD} (k : Ok K w) (hp : w.H p = none) (q : LcP K pn w p I n H) (hI : ∀ acc, I n acc → QA (.lst acc) w.μ) (hq : ∀ d μ', QA d μ' → PQ K pn w Q d μ') : Q (.ref p) H := by
  obtain ⟨w1, acc, rfl, l1, k1, hθ, hμ, hal, hne, hlb, hi⟩ := q
  obtain ⟨l2, k2⟩ := k.drop k1 l1 hθ hμ hp
  have hlen := k.len
  obtain ⟨us, hu, hus⟩ := k1.cell w.θ.length p (.lst acc) (by rw [hθ, List.getElem?_append_right (Nat.le_refl _), Nat.sub_self]; rfl) (by rw [hμ, hlen, List.getElem?_append_right (Nat.le_refl _), Nat.sub_self]; rfl)
  rw [hθ] at hus
  have np : p ∉ w.θ := fun hm => by
    obtain ⟨o, ho⟩ := k.trk p hm
    rw [hp] at ho
    cases ho
  exact hq _ _ (hI acc hi) (.ref p) ⟨w.θ, w1.H, w.μ⟩ rfl l2 k2 (.lst hu np ((hus.cut hlb hne).sub fun _ z => (List.not_mem_nil z).elim))
theorem se_lcR1 (hl : SA K pn W tl l) (ht : ST K pn w0 tt t) (he : SE K pn w0 te e) : SE K pn W (tLc (iRng1 tl) (gName i) tt te [i]) (aLc (rR1 l) i t e) := ⟨fun w σ ρ k er QA XA h Q hq hx =>
  hl.run w σ ρ k er _ XA h _ (fun ds μ1 h1 vs w1 em l1 k1 dn => by
    subst em
    split at h1
    · rename_i n
      cases dn with
      | cons d1 d2 =>
        cases d2
        obtain rfl := d1.v_inv
        obtain ⟨hb, hlen, I, i0, hs, hn⟩ := h1
        rw [List.length_map, List.length_range] at hlen hn
        refine ⟨n, rfl, hb.1, hb.2, fun p hp => lc_range (LcP K pn w1 p I) (lc_start k1 hp i0) (fun m H hm q => ?_) (fun H q => lc_end k1 hp q hn fun d μ' z => (hq d μ' z).mono l1)⟩
        have e0 : (0 : Int) + (m : Int) = (m : Int) := Int.zero_add _
        rw [e0]
        exact lc_turn hp (er.mono l1) ht he (Nat.lt_of_lt_of_le hm hlen) q (fun _ _ => .v) (fun acc z => hs m acc _ (by rw [List.getElem?_map, List.getElem?_range hm]; rfl) z)
    · exact h1.elim) hx⟩
theorem se_lcL (hx0 : SE K pn W tx x) (ht : ST K pn w0 tt t) (he : SE K pn w0 te e) : SE K pn W (tLc (iList K tx) (gName i) tt te [i]) (aLc (rL x) i t e) := ⟨fun w σ ρ k er QA XA h Q hq hx =>
  hx0.run w σ ρ k er _ XA h _ (fun d μ1 h1 v w1 em l1 k1 dn => by
    subst em
    have key : ∃ a vs ds, v = .ref a ∧ (∀ w2, WLe w1 w2 → SqL K w2.H a vs) ∧ Dens K pn w1.θ w1.H vs ds ∧ ds.length ≤ 500000 ∧ ∃ I : Nat → List D → Prop, I 0 [] ∧ (∀ n acc x, ds[n]? = some x → I n acc → aTurn i t e (wipeD ρ i) acc w1.μ x (I (n + 1))) ∧ ∀ acc, I ds.length acc → QA (.lst acc) w1.μ := by
      split at h1
      · cases dn with
        | @lst a vs _ ha n hs => exact ⟨a, vs, _, rfl, fun w2 l2 => .inl (.inl (l2.keep _ _ ha n)), hs, h1⟩
      · cases dn with
        | @rl a vs _ ha hs => exact ⟨a, vs, _, rfl, fun w2 l2 => (ha.imp (fun z => (rd_mono l2 z).1) id), hs, h1⟩
      · exact h1.elim
    obtain ⟨a, vs, ds, rfl, hsq, hds, hlen, I, i0, hs, hn⟩ := key
    rw [← hds.len] at hlen hn
    refine ⟨a, rfl, ⟨vs, hsq w1 k1.refl⟩, fun p hp => lc_list (xs := vs) (LcP K pn w1 p I) (lc_start k1 hp i0) (fun n H _ q => ?_) (fun n y H hy q => ?_) (fun H q => lc_end k1 hp q hn fun d μ' z => (hq d μ' z).mono l1)⟩
    · obtain ⟨w2, _, rfl, l2, _⟩ := q
      exact hsq w2 l2
    · have hln := (List.getElem?_eq_some_iff.mp hy).1
      obtain ⟨dx, ed⟩ : ∃ dx, ds[n]? = some dx := ⟨_, List.getElem?_eq_getElem (by rw [← hds.len]; exact hln)⟩
      obtain ⟨y', ey, dy⟩ := hds.get ed
      cases (ey.symm.trans hy)
      exact lc_turn hp (er.mono l1) ht he (Nat.lt_of_lt_of_le hln hlen) q (fun w2 l2 => dy.mono l2) (fun acc z => hs n acc dx ed z)) hx⟩
theorem se_lcT (hx0 : SE K pn W tx x) (ht : ST K pn w0 tt t) (he : SE K pn w0 te e) : SE K pn W (tLc (iTup K tx) (gName i) tt te [i]) (aLc (rT x) i t e) := ⟨fun w σ ρ k er QA XA h Q hq hx =>
  hx0.run w σ ρ k er _ XA h _ (fun d μ1 h1 v w1 em l1 k1 dn => by
    subst em
    split at h1
    · rename_i ds
      have key : ∃ a vs, v = .ref a ∧ (∀ w2, WLe w1 w2 → SqT K w2.H a vs) ∧ Dens K pn w1.θ w1.H vs ds := by
        cases dn with
        | @tup a vs _ ha hs => exact ⟨a, vs, rfl, fun w2 l2 => (ha.imp (fun z => Rd.of (l2.keep _ _ z.1 z.2)) id), hs⟩
      obtain ⟨a, vs, rfl, hsq, hds⟩ := key
      obtain ⟨hlen, I, i0, hs, hn⟩ := h1
      rw [← hds.len] at hlen hn
      refine ⟨a, rfl, ⟨vs, hsq w1 k1.refl⟩, fun p hp => lc_tup (xs := vs) (LcP K pn w1 p I) (lc_start k1 hp i0) (fun n H _ q => ?_) (fun n y H hy q => ?_) (fun H q => lc_end k1 hp q hn fun d μ' z => (hq d μ' z).mono l1)⟩
      · obtain ⟨w2, _, rfl, l2, _⟩ := q
        exact hsq w2 l2
      · have hln := (List.getElem?_eq_some_iff.mp hy).1
        obtain ⟨dx, ed⟩ : ∃ dx, ds[n]? = some dx := ⟨_, List.getElem?_eq_getElem (by rw [← hds.len]; exact hln)⟩
        obtain ⟨y', ey, dy⟩ := hds.get ed
        cases (ey.symm.trans hy)
        exact lc_turn hp (er.mono l1) ht he (Nat.lt_of_lt_of_le hln hlen) q (fun w2 l2 => dy.mono l2) (fun acc z => hs n acc dx ed z)
    · exact h1.elim) hx⟩
end
end DK
set_option Elab.async false
set_option linter.all false
set_option maxRecDepth 100000
set_option maxHeartbeats 4000000
namespace DK
open PySem PySem.Spec PyProof.Rows L2 L2H

/-! ### a comprehension while an error is handled -/
abbrev blkP (X : Cx) (s : Shared) (H : Hp) (scope : Scope) (cenv : Env) (fp : List Addr) (p : Addr × Obj) : Cx := { X.blk s H scope cenv fp with pn := [p] }
section
variable {X : Cx}
theorem pe_lcP {p : Addr × Obj} {elt tg iter : Expr} {ifs : List Expr} {scope : Scope} {own : List (Str × Nat)} {pos : Pos} {wi : TI} {g : TG} {tt : TT} {te : TE} (hot : Hot1 X.A p) (hp : p ∈ X.pn) (hN : X.N.Nodup) (hi : PIH X tg iter wi)
    (ok : BlkOk X.N X.env.scope scope own)
    (hg : ∀ (s : Shared) (H : Hp) (C : Addr) (cl : List (Str × Addr)) (fp : List Addr), PG (blkP X s H scope (compEnvC scope cl C X.env) fp p) tg g)
    (ht : ∀ (s : Shared) (H : Hp) (C : Addr) (cl : List (Str × Addr)) (fp : List Addr), PTs (blkP X s H scope (compEnvC scope cl C X.env) fp p) ifs tt)
    (he : ∀ (s : Shared) (H : Hp) (C : Addr) (cl : List (Str × Addr)) (fp : List Addr), PE (blkP X s H scope (compEnvC scope cl C X.env) fp p) elt te)
    (hs : ∀ x, foldedSetIterable iter X.env x = pure x := by intro _; rfl) :
    PE X (.ListComp elt [⟨tg, iter, ifs, 0⟩] scope pos) (tLc wi g tt te (own.map (·.2))) := by
  refine ⟨fun pins s σ H Q I h => ?_⟩
  rw [eval_ListComp]
  have free0 : ∀ y ∈ scope.names, y.2 = .free → ∃ c, X.env.cells.lookup y.1 = some c := by
    intro y hy e
    rcases ok.free y hy e with q | q
    · exact I.ok.has _ (.inl q)
    · exact I.ok.has _ (.inr q)
  refine wpAny_comprehension_free (use := none) rfl hs (closure_ok free0) ok.kind (fun y hy e => by rw [ok.uniq y hy, e]) (thn (hi.run pins s σ H _ I h) fun xv s1 hx => thn hx fun itv s2 h2 => ?_)
  obtain ⟨it, fp, tn, J, H2, e, I2, T, st2, f2, q⟩ := h2
  subst e
  refine wpAny_newObj_type (newEnv_comp ?_) (by show 0 ≤ sizeLine; decide)
  generalize hD : s2.heap.objs.size = L
  obtain ⟨Wd, ⟨m0, start0⟩, turn⟩ := q L (I2.hok.fresh (Nat.le_of_eq hD))
  generalize hs3 : ({ s2 with heap := s2.heap.push { cls := .type "list", data := .seq ([] : List Value).toArray } } : Shared) = s3
  have h3 : s3.heap = s2.heap.push { cls := .type "list", data := .seq ([] : List Value).toArray } := by rw [← hs3]
  have I3 : Inv X pins σ (upd H2 L (.lst [])) s3 := by
    rw [← hs3]
    refine I2.laid (t' := s2.toks) (fun b o z => Heap.get?_push_of_some _ z) (Nat.le_of_eq hD) ⟨Nat.zero_le _, [], 0, .nil, ?_⟩
    rw [← hD]
    exact Heap.get?_push_size _ rfl
  have low : ∀ b ∈ fp, b < s2.heap.objs.size := by
    intro b hb
    obtain ⟨o, z, _⟩ := T.obj _ _ st2 b hb
    exact Heap.lt_size z
  have f3 : ∀ b ∈ fp, FpOk X pins (upd H2 L (.lst [])) b ∧ b < s3.heap.objs.size := by
    intro b hb
    have hlt := low b hb
    refine ⟨⟨?_, (f2 b hb).2⟩, by rw [h3, Heap.size_push]; exact Nat.lt_succ_of_lt hlt⟩
    rw [upd_ne (by rw [← hD]; exact Nat.ne_of_lt hlt)]
    exact (f2 b hb).1
  have st3 : tn 0 s3.heap := T.keep _ _ _ st2 fun b _ o z => by
    rw [h3]
    exact Heap.get?_push_of_some _ z
  have I4 := block_start I3 ok hN f3
  have pg := hg s3 (upd H2 L (.lst [])) s3.heap.objs.size (cellsFrom (s3.heap.objs.size + 1) scope.names (cloFrom X.env.cells scope.names [])) fp
  have pt := ht s3 (upd H2 L (.lst [])) s3.heap.objs.size (cellsFrom (s3.heap.objs.size + 1) scope.names (cloFrom X.env.cells scope.names [])) fp
  have pe := he s3 (upd H2 L (.lst [])) s3.heap.objs.size (cellsFrom (s3.heap.objs.size + 1) scope.names (cloFrom X.env.cells scope.names [])) fp
  generalize hce : compEnvC scope (cellsFrom (s3.heap.objs.size + 1) scope.names (cloFrom X.env.cells scope.names [])) s3.heap.objs.size X.env = ce at I4 pg pt pe
  have cL : ce.locals = s3.heap.objs.size := by
    subst hce
    rfl
  have P1 := I3.pin p (List.mem_append_left _ hp)
  generalize hH3 : upd H2 L (.lst []) = H3 at I3 I4 pg pt pe start0 f3 P1
  generalize hs4 : ({ s3 with heap := pushCells (s3.heap.push { cls := .type "dict", data := .dict #[] }) scope.names } : Shared) = s4 at I4
  have keep4 : ∀ b o, s3.heap.get? b = some o → s4.heap.get? b = some o := fun b o z => by
    rw [← hs4]
    exact pushCells_keeps _ _ _ _ (Heap.get?_push_of_some _ z)
  have st4 : tn 0 s4.heap := T.keep _ _ _ st3 fun b _ o z => keep4 b o z
  -- the block's context bears the error that is handled
  have okP : (blkP X s3 H3 scope ce fp p).Ok := by
    have o := I4.ok
    exact ⟨o.mod, o.kind, o.glob, o.blt, o.above, o.inj, o.has, o.cab, o.hd, o.frames, o.stk, o.exf, o.bs, o.bsz, o.noex, o.exfs, o.funs, o.frf⟩
  have I4' : Inv (blkP X s3 H3 scope ce fp p) [] (wipe σ (own.map (·.2))) H3 s4 :=
    ⟨okP, I4.os, I4.bare, I4.base, I4.loc, I4.cell, I4.free, I4.freeC, fun r hr => by
      have hr' : r ∈ [p] ++ ([] : List (Addr × Obj)) := hr
      rw [List.append_nil] at hr'
      rw [List.mem_singleton.mp hr']
      refine ⟨keep4 _ _ P1.1, P1.2.1, ?_, fun hm => (List.mem_cons.mp (I3.stkSub p.1 hm)).elim P1.2.2.1 P1.2.2.2.1, P1.2.2.2.2⟩
      show p.1 ≠ ce.locals
      rw [cL]
      exact Nat.ne_of_lt (Heap.lt_size P1.1), I4.hok, I4.len⟩
  have nfp : ∀ b ∈ fp, H3 b = none := fun b hb => (f3 b hb).1.1
  have hotP : HotC (blkP X s3 H3 scope ce fp p) := ⟨p, hot, List.mem_singleton.mpr rfl⟩
  have stat : ∀ {σ' : L2.St} {H' : Hp} {s' : Shared}, Inv (blkP X s3 H3 scope ce fp p) [] σ' H' s' → (∀ b ∈ fp, H' b = none) → ∀ b ∈ fp, FpOk (blkP X s3 H3 scope ce fp p) [] H' b := by
    intro σ' H' s' I' hn b hb
    refine ⟨hn b hb, (I'.ok.exf b hb).1, I'.ok.exfs b hb, .inl hb, fun x c z => (I'.ok.exf b hb).2 x c z, fun r hr => ?_⟩
    have hr' : r ∈ [p] ++ ([] : List (Addr × Obj)) := hr
    rw [List.append_nil] at hr'
    rw [List.mem_singleton.mp hr']
    exact (f3 b hb).1.2.2.2.2.2 p (List.mem_append_left _ hp)
  have loop : codeAny (model X.prog X.w) X.A (.compLoop (.ListComp elt [⟨tg, iter, ifs, 0⟩] scope pos) 0 (.ref it) (.ref L) ce) (compPost (model X.prog X.w) X.A X.xe none (EP X pins σ Q) (.ref L) s3.heap.objs.size) s4 := by
    refine compLoop_any (fun n s' => ∃ i H', Inv (blkP X s3 H3 scope ce fp p) [] (wipe σ (own.map (·.2))) H' s' ∧ tn i s'.heap ∧ (∀ b ∈ fp, H' b = none) ∧ Wd i n H') ?_ m0 ⟨0, H3, I4', st4, nfp, start0⟩
    rintro n s5 ⟨i, H5, I5, st5, n5, w5⟩
    rcases turn i n H5 w5 with ⟨stop, qq⟩ | ⟨go, Nx, hNx, step⟩
    · refine thnF (T.done (blkP X s3 H3 scope ce fp p) rfl rfl rfl hotP i [] s5 _ H5 (fun _ _ => False) I5 (stat I5 n5) st5 stop) fun r s6 hr6 => ?_
      obtain ⟨hr, I6⟩ := hr6
      subst hr
      have I7 : Inv X pins σ H5 s6 := I3.call' (ch := fp) I6.os I6.base I6.hok I6.bare fun b hb => ⟨(f3 b hb).1.2.2.2.1, (f3 b hb).1.2.1, (f3 b hb).1.2.2.2.2.1, (f3 b hb).1.2.2.2.2.2⟩
      have nC : H5 s3.heap.objs.size = none := by
        have z : H5 ce.locals = none := I6.free
        rwa [cL] at z
      obtain ⟨m, hn, _⟩ := I6.loc
      have hn : s6.heap.Ns ce.locals m := hn
      rw [cL] at hn
      obtain ⟨g0, g1, g2, g3, g4, g5⟩ := I3.fpOk (Nat.le_refl _) nC
      exact ⟨m, hn, fun h'' sb => ⟨.ref L, H5, I7.turned (t' := s6.toks) (fun b o hb z => (sb.2 b hb).trans z) g0 g1 g3 g4 g5, rfl, qq⟩⟩
    · refine thnF (T.item (blkP X s3 H3 scope ce fp p) rfl rfl rfl hotP i [] s5 _ H5 (fun _ _ => False) I5 (stat I5 n5) st5 go) fun r s6 h6 => ?_
      obtain ⟨u, hr, h6⟩ := h6
      subst hr
      refine thnF h6 fun _ s7 h7 => ?_
      obtain ⟨x, H7, I7, r7, y7, st7, n7⟩ := h7
      have I7' := I7.pinned (stat I7 n7) (T.obj _ _ st7)
      refine thnF (pg.run _ s7 _ H7 x u _ I7' r7 (step x H7 y7)) fun _ s8 h8 => ?_
      obtain ⟨σ8, H8, I8, hw8, q8⟩ := h8
      refine thnF (pt.run _ s8 σ8 H8 _ I8 q8) fun b s9 h9 => ?_
      obtain ⟨H9, I9, q9⟩ := h9
      have fin : ∀ {s' : Shared} {H' : Hp}, Inv (blkP X s3 H3 scope ce fp p) ([] ++ pinsAt fp s7.heap) σ8 H' s' → Nx H' →
          ∃ m, m < n ∧ ∃ i H', Inv (blkP X s3 H3 scope ce fp p) [] (wipe σ (own.map (·.2))) H' s' ∧ tn i s'.heap ∧ (∀ b ∈ fp, H' b = none) ∧ Wd i m H' := by
        intro s' H' I' nx
        obtain ⟨m', hm, w'⟩ := hNx H' nx
        have pin' : ∀ b ∈ fp, ∀ o, s7.heap.get? b = some o → s'.heap.get? b = some o ∧ H' b = none := fun b hb o z =>
          let y := I'.pin (b, o) (List.mem_append_right _ (List.mem_append_right _ (mem_pinsAt hb z)))
          ⟨y.1, y.2.1⟩
        have hl : (wipe σ (own.map (·.2))).length = σ8.length := by rw [← hw8, wipe_length]
        refine ⟨m', hm, i + 1, H', (I'.unpinned (pins := [])).weak hl (fun j v z => ?_), T.keep _ _ _ st7 fun b hb o z => (pin' b hb o z).1, fun b hb => ?_, w'⟩
        · rw [← hw8] at z
          exact (wipe_some z).1
        · obtain ⟨o, z, _⟩ := T.obj _ _ st7 b hb
          exact (pin' b hb o z).2
      cases b with
      | false =>
        simp only [Bool.false_eq_true, if_false] at q9 ⊢
        exact fin I9 q9
      | true =>
        simp only [if_true] at q9 ⊢
        refine thnF (pe.run _ s9 σ8 H9 _ I9 q9) fun z s10 h10 => ?_
        obtain ⟨yv, H10, I10, r10, acc, hD10, hz10, nx⟩ := h10
        exact app_ok (X := blkP X s3 H3 scope ce fp p) I10 hD10 hz10 r10 fun s11 I11 => fin I11 nx
  have fin := codeAny_compStart_list loop (T.self X.A 0 _ _ _ st4 loop)
  rw [← hce] at fin
  exact fin
end
end DK
set_option Elab.async false
set_option linter.all false
set_option maxRecDepth 100000
set_option maxHeartbeats 4000000
namespace DK
open PySem PySem.Spec PyProof.Rows L2 L2H

/-! ### comprehensions, with the syntax -/
theorem takesB {X : Cx} : L2N.Takes X w0 := fun u s' x => by
  obtain ⟨_, _, _, _, _, _, _, _, _, _, _, _, _, _, _, _, z⟩ := x
  exact z.elim
theorem Bd.blk {X : Cx} {W : WX} {k : Nat} (B : Bd X W k) (s : Shared) (H : Hp) (scope : Scope) (cenv : Env) (fp : List Addr) : Bd (X.blk s H scope cenv fp) w0 k :=
  ⟨takesB, PassesOwn.never, B.calm, B.room, B.nd⟩
structure DTs (X : Cx) (pn : List (Addr × Obj)) (W : WX) (es : List Expr) (a : AT) : Prop where
  ex : ∃ t, PTs X es t ∧ ST X.K pn W t a
def aYes : AT := fun _ μ Q _ => Q true μ
section
variable {X : Cx} {pn : List (Addr × Obj)} {W : WX} {k : Nat} {e elt : Expr} {ifs : List Expr} {scope : Scope} {l : AA} {t : AT} {a x : AE} {pos p1 p2 p3 : Pos} {y : Str}
theorem d_ifs0 : DTs X pn W [] aYes := ⟨_, pts_nil, ⟨fun w σ ρ k e QA XA h Q hq hx => hq _ _ h w rfl k.refl k⟩⟩
theorem d_ifs1 (h : DT X pn W e t) : DTs X pn W [e] t := by
  obtain ⟨_, h, h'⟩ := h.ex
  exact ⟨_, pts_one h, h'⟩
/-- the element's and the test's parts, one reading for all blocks -/
theorem lc_parts {X : Cx} (blk : Shared → Hp → Addr → List (Str × Addr) → List Addr → Cx) (hK : ∀ s H C cl fp, (blk s H C cl fp).K = X.K)
    (he : ∀ s H C cl fp, DE (blk s H C cl fp) pn w0 elt a) (ht : ∀ s H C cl fp, DTs (blk s H C cl fp) pn w0 ifs t) :
    ∃ (te : TE) (tt : TT), (∀ s H C cl fp, PE (blk s H C cl fp) elt te) ∧ (∀ s H C cl fp, PTs (blk s H C cl fp) ifs tt) ∧ SE X.K pn w0 te a ∧ ST X.K pn w0 tt t := by
  have he' : ∀ s H C cl fp, ∃ te, PE (blk s H C cl fp) elt te ∧ SE X.K pn w0 te a := fun s H C cl fp => by
    obtain ⟨te, a, b⟩ := (he s H C cl fp).ex
    rw [hK] at b
    exact ⟨te, a, b⟩
  have ht' : ∀ s H C cl fp, ∃ tt, PTs (blk s H C cl fp) ifs tt ∧ ST X.K pn w0 tt t := fun s H C cl fp => by
    obtain ⟨tt, a, b⟩ := (ht s H C cl fp).ex
    rw [hK] at b
    exact ⟨tt, a, b⟩
  refine ⟨fun σ H0 Q => ∀ s H C cl fp, (he' s H C cl fp).choose σ H0 Q, fun σ H0 Q => ∀ s H C cl fp, (ht' s H C cl fp).choose σ H0 Q, fun s H C cl fp => ?_, fun s H C cl fp => ?_, ?_, ?_⟩
  · exact ⟨fun pins s' σ H0 Q I h => (he' s H C cl fp).choose_spec.1.run pins s' σ H0 Q I (h s H C cl fp)⟩
  · exact ⟨fun pins s' σ H0 Q I h => (ht' s H C cl fp).choose_spec.1.run pins s' σ H0 Q I (h s H C cl fp)⟩
  · refine ⟨fun w σ ρ k e QA XA h Q hq hx s H C cl fp => ?_⟩
    exact (he' s H C cl fp).choose_spec.2.run w σ ρ k e QA XA h Q hq hx
  · refine ⟨fun w σ ρ k e QA XA h Q hq hx s H C cl fp => ?_⟩
    exact (ht' s H C cl fp).choose_spec.2.run w σ ρ k e QA XA h Q hq hx
abbrev nblk (X : Cx) (scope : Scope) : Shared → Hp → Addr → List (Str × Addr) → List Addr → Cx := fun s H C cl fp => X.blk s H scope (compEnvC scope cl C X.env) fp
abbrev hblk (X : Cx) (scope : Scope) (p : Addr × Obj) : Shared → Hp → Addr → List (Str × Addr) → List Addr → Cx := fun s H C cl fp => blkP X s H scope (compEnvC scope cl C X.env) fp p
theorem d_lcL (i : Nat) (B : Bd X W k) (hx : DE X pn W e x) (ht : ∀ s H C cl fp, DTs (nblk X scope s H C cl fp) pn w0 ifs t) (he : ∀ s H C cl fp, Bd (nblk X scope s H C cl fp) w0 k → DE (nblk X scope s H C cl fp) pn w0 elt a)
    (hok : blkC X.N X.env.scope scope [(y, i)] = true) (hpg : ∀ s H C cl fp, PG (nblk X scope s H C cl fp) (.Name y p3) (gName i)) (hfs : ∀ v : Value, foldedSetIterable e X.env v = pure v := by intro _; rfl) :
    DE X pn W (.ListComp elt [⟨.Name y p3, e, ifs, 0⟩] scope pos) (aLc (rL x) i t a) := by
  obtain ⟨te, tt, e1, e2, e3, e4⟩ := lc_parts (X := X) (nblk X scope) (fun _ _ _ _ _ => rfl) (fun s H C cl fp => he s H C cl fp (B.blk ..)) ht
  obtain ⟨tx, x1, x2⟩ := hx.ex
  exact ⟨_, pe_lc (own := [(y, i)]) B.calm B.nd (pi_list x1) (blkOk_by hok) hpg e2 e1 hfs, se_lcL x2 e4 e3⟩
theorem d_lcT (i : Nat) (B : Bd X W k) (hx : DE X pn W e x) (ht : ∀ s H C cl fp, DTs (nblk X scope s H C cl fp) pn w0 ifs t) (he : ∀ s H C cl fp, Bd (nblk X scope s H C cl fp) w0 k → DE (nblk X scope s H C cl fp) pn w0 elt a)
    (hok : blkC X.N X.env.scope scope [(y, i)] = true) (hpg : ∀ s H C cl fp, PG (nblk X scope s H C cl fp) (.Name y p3) (gName i)) (hfs : ∀ v : Value, foldedSetIterable e X.env v = pure v := by intro _; rfl) :
    DE X pn W (.ListComp elt [⟨.Name y p3, e, ifs, 0⟩] scope pos) (aLc (rT x) i t a) := by
  obtain ⟨te, tt, e1, e2, e3, e4⟩ := lc_parts (X := X) (nblk X scope) (fun _ _ _ _ _ => rfl) (fun s H C cl fp => he s H C cl fp (B.blk ..)) ht
  obtain ⟨tx, x1, x2⟩ := hx.ex
  exact ⟨_, pe_lc (own := [(y, i)]) B.calm B.nd (pi_tup x1) (blkOk_by hok) hpg e2 e1 hfs, se_lcT x2 e4 e3⟩
theorem d_lcR1H {p : Addr × Obj} (i : Nat) (B : BdH X p k) (hm : X.mg "range" = none) (hl : DA X pn W [e] l) (ht : ∀ s H C cl fp, DTs (hblk X scope p s H C cl fp) pn w0 ifs t) (he : ∀ s H C cl fp, DE (hblk X scope p s H C cl fp) pn w0 elt a)
    (hok : blkC X.N X.env.scope scope [(y, i)] = true) (hpg : ∀ s H C cl fp, PG (hblk X scope p s H C cl fp) (.Name y p3) (gName i)) (hg : Gl X "range" := by rfl) (hs : starEach [e] X.env = [(false, eval e X.env)] := by rfl) :
    DE X pn W (.ListComp elt [⟨.Name y p3, .Call (.Name "range" p1) [e] [] p2, ifs, 0⟩] scope pos) (aLc (rR1 l) i t a) := by
  obtain ⟨te, tt, e1, e2, e3, e4⟩ := lc_parts (X := X) (hblk X scope p) (fun _ _ _ _ _ => rfl) he ht
  obtain ⟨tl, l1, l2⟩ := hl.ex
  exact ⟨_, pe_lcP (own := [(y, i)]) B.hot B.mem B.nd (pi_range1H hg hm l1 hs) (blkOk_by hok) hpg e2 e1, se_lcR1 l2 e4 e3⟩
end

/-! ### the error that is handled: isinstance, attributes -/
/-- an error's dict as it stands, or none -/
def XdH (H : Hp) (dd : Option Addr) (fvs : List (Str × V)) : Prop := (∃ d, dd = some d ∧ H d = some (.xd fvs)) ∨ dd = none
theorem XdAt.h {θ : List Addr} {H : Hp} {dd : Option Addr} {fvs : List (Str × V)} (h : XdAt θ H dd fvs) : XdH H dd fvs := by
  rcases h with ⟨d, e, h, _⟩ | ⟨e, _⟩
  · exact .inl ⟨d, e, h⟩
  · exact .inr e
theorem inst_of {X : Cx} {pins : List (Addr × Obj)} {s : Shared} {σ : L2.St} {H : Hp} {a D : Addr} {oe : Obj} {dd : Option Addr} {fvs : List (Str × V)} (I : Inv X pins σ H s) (hget : s.heap.get? a = some oe) (hz : L2N.Zn (.ref D) dd oe) (hf : ∃ fv, oe.data = .fields fv) (hd : XdH H dd fvs) : ∃ od, PySem.W.InstAt s.heap a oe D od := by
  obtain ⟨fv, hfv⟩ := hf
  rcases hd with ⟨d, rfl, hd⟩ | rfl
  · obtain ⟨mA, hns, hr⟩ := (show ObjOk X.prog X.w H s.heap d (.xd fvs) from I.hok d _ hd)
    obtain ⟨od, ho, _⟩ := lookIn_ns hns
    exact ⟨some od, hget, hz.1, by unfold PySem.W.notCls; rw [hfv] <;> rfl, by rw [hz.2.1]; exact ho⟩
  · exact ⟨none, hget, hz.1, by unfold PySem.W.notCls; rw [hfv] <;> rfl, by rw [hz.2.1]; trivial⟩
def fIsE (K : PySem.W.Frag) : FL := fun xs μ Q => match xs with
  | [.err D _, .v c] => ∃ (cv : Value) (b : Bool), ClsV c cv ∧ PySem.W.kitOne K (.ref D) cv = some b ∧ PySem.W.ErrK K D ∧ Q (.v (.bl b)) μ
  | _ => fIsi xs μ Q
end DK
namespace PySem.W
theorem ErrK.kitA {K : Frag} {x D : Addr} {ox : Obj} (k : ErrK K D) : ∀ {od : Option Obj}, KitX K (.ref x) (.ref D) (fun h => InstAt h x ox D od)
  | some _ => k.kit
  | none => handS_kitx_exc k.ga k.gg k.ex k.hd k.cl k.sg k.tk k.ob
end PySem.W
namespace DK
open PySem PySem.Spec PyProof.Rows L2 L2H
section
variable {X : Cx} {pn : List (Addr × Obj)} {W : WX} {e : Expr} {a : AE} {pos : Pos} {n : Str}
theorem c_isE {K : PySem.W.Frag} (hK : X.K = K) (hpn : ∀ r ∈ pn, r ∈ X.pn) : DCl X pn (.builtin "isinstance") (fIsE K) := by
  subst hK
  refine ⟨fun xs H Q => (∃ (a D : Addr) (d : Option Addr) (oe : Obj) (fvs : List (Str × V)) (c : V) (cv : Value) (b : Bool), xs = [.ref a, c] ∧ (a, oe) ∈ X.pn ∧ L2N.Zn (.ref D) d oe ∧ (∃ fv, oe.data = .fields fv) ∧ XdH H d fvs ∧ ClsV c cv ∧ PySem.W.kitOne X.K (.ref D) cv = some b ∧ PySem.W.ErrK X.K D ∧ Q (.bl b) H) ∨
    (rIsi X.K xs H Q ∨ rIsiT X.K xs H Q ∨ rIsiK X.K xs H Q), CallR.or (fun pins s σ H xs us Q I r h => ?_) (CallR.or call_isi (CallR.or call_isiT call_isiK)), ⟨fun w xs ds k hx QA h Q hq => ?_⟩⟩
  · obtain ⟨a, D, d, oe, fvs, c, cv, b, rfl, hp, hz, hf, hd, hc, hk, hE, q⟩ := h
    cases r with
    | cons rx rr =>
      cases rr with
      | cons rt rr =>
        cases rr
        cases rx
        obtain rfl := hc.eq rt
        obtain ⟨hget, _⟩ := I.pin (a, oe) (List.mem_append_left _ hp)
        obtain ⟨od, J⟩ := inst_of I hget hz hf hd
        exact PySem.W.kia_one hE.kitA I.kIn J hk (fun z => nomatch z) fun tk => ⟨.bl b, H, I.tok tk, rfl, q⟩
  · unfold fIsE at h
    split at h
    · obtain ⟨cv, b, hc, hk, hE, h⟩ := h
      cases hx with
      | cons h1 h2 =>
        cases h2 with
        | cons h3 h4 =>
          cases h4
          obtain rfl := h3.v_inv
          cases h1 with
          | err hp hz hd hx hl => exact .inl ⟨_, _, _, _, _, _, cv, b, rfl, hpn _ hp, hz, hd, hx.h, hc, hk, hE, (hq _ _ h).same k .v⟩
    · exact .inr (sc_isi.run w xs ds k hx QA h Q hq)
/-- err.n -/
def fFld (n : Str) : F1 := fun x μ Q => match x with
  | .err _ fs => (match fs.lookup n with | some d => Q d μ | none => False)
  | _ => False
def aFldE (K : PySem.W.Frag) (n : Str) (a : AE) : AE := fun ρ μ Q X => a ρ μ (fun x μ1 => (∃ C fs, x = .err C fs ∧ XfC K C ∧ PySem.W.findIn K (.ref C) n = some none) ∧ fFld n x μ1 Q) X
theorem Denf.look {K : PySem.W.Frag} {θ : List Addr} {H : Hp} : ∀ {fvs : List (Str × V)} {fs : List (Str × D)} {d : D}, Denf K pn θ H fvs fs → fs.lookup n = some d → ∃ v, fvs.lookup n = some v ∧ Den K pn θ H v d
  | _, _, d, .cons (f := f) h t, e => by
    by_cases q : n = f
    · subst q
      rw [List.lookup_cons_self] at e
      cases e
      exact ⟨_, List.lookup_cons_self, h⟩
    · have qb : (n == f) = false := by simpa using q
      simp only [List.lookup_cons, qb] at e ⊢
      exact Denf.look t e
theorem d_fldE {K : PySem.W.Frag} (hK : X.K = K) (hpn : ∀ r ∈ pn, r ∈ X.pn) (h : DE X pn W e a) (hb : attributeBase e n X.env (eval e X.env) = eval e X.env := by rfl) : DE X pn W (.Attribute e n pos) (aFldE K n a) := by
  subst hK
  obtain ⟨t, h1, h2⟩ := h.ex
  refine ⟨fun σ H Q => t σ H fun x H1 => ∃ (a C d : Addr) (oe : Obj) (fvs : List (Str × V)) (v : V), x = .ref a ∧ (a, oe) ∈ X.pn ∧ L2N.Zn (.ref C) (some d) oe ∧ (∃ fv, oe.data = .fields fv) ∧ H1 d = some (.xd fvs) ∧ XfC X.K C ∧ PySem.W.findIn X.K (.ref C) n = some none ∧ fvs.lookup n = some v ∧ Q v H1,
    ⟨fun pins s σ H Q I h => ?_⟩, ⟨fun w σ ρ k e QA XA h Q hq hx => ?_⟩⟩
  · refine attr_of hb (thn (h1.run pins s σ H _ I h) fun u s1 hh => ?_)
    obtain ⟨x, H1, I1, rx, a, C, d, oe, fvs, v, rfl, hp, hz, hf, ea, hX, hno, l, q⟩ := hh
    obtain rfl : u = Value.ref a := rx
    obtain ⟨ha, _⟩ := I1.pin (a, oe) (List.mem_append_left _ hp)
    obtain ⟨vs, hd⟩ := hf
    obtain ⟨mA, hns, hr⟩ := (show ObjOk X.prog X.w H1 s1.heap d (.xd fvs) from I1.hok d _ ea)
    obtain ⟨od, ho, hl⟩ := lookIn_ns hns
    obtain ⟨u, hu, ru⟩ := RelO.some_of (v := v) (o := mA n) (by rw [← l]; exact hr n)
    have J : PySem.W.InstAt s1.heap a oe C (some od) := ⟨ha, hz.1, by unfold PySem.W.notCls; rw [hd] <;> rfl, by rw [hz.2.1]; exact ho⟩
    exact HandSPX.exc_get I1.kIn J hX.ga hX.gg hX.exC (PySem.W.findObj_own hX.hdC hno rfl (by rw [hl, hu])) (handed_of ru) ⟨v, H1, I1.tok _, ru, q⟩
  · refine h2.run w σ ρ k e _ XA h _ (fun dx μ1 hd x w1 em l1 k1 dn => ?_) hx
    subst em
    obtain ⟨⟨C, fs, rfl, hX, hno⟩, hd⟩ := hd
    have hd : (match fs.lookup n with | some d => QA d w1.μ | none => False) := hd
    split at hd
    · rename_i d el
      cases dn with
      | err hp hz hf hx' hl =>
        obtain ⟨v, ev, dv⟩ := hl.look el
        rcases hx' with ⟨dx, rfl, hx', _⟩ | ⟨_, rfl⟩
        · exact ⟨_, _, _, _, _, v, rfl, hpn _ hp, hz, hf, hx', hX, hno, ev, ((hq _ _ hd).mono l1).same k1 dv⟩
        · cases ev
    · exact hd.elim
end
end DK
set_option Elab.async false
set_option linter.all false
set_option maxRecDepth 100000
set_option maxHeartbeats 4000000
namespace DK
open PySem PySem.Spec PyProof.Rows L2 L2H

/-! ### calls by keywords alone -/
structure DK1 (X : Cx) (pn : List (Addr × Obj)) (W : WX) (kws : List Keyword) (a : AA) : Prop where
  ex : ∃ t, PK X kws t ∧ SA X.K pn W t a
def aCallK (F : FD) (n : Nat) (g : List D → List D) (l : AA) : AE := fun ρ μ Q X => l ρ μ (fun ds μ1 => (g ds).length = n ∧ F (g ds) μ1 Q X) X
section
variable {X : Cx} {pn : List (Addr × Obj)} {W : WX} {k k' : Nat} {f : Addr} {fd : FuncData} {ps ks : List Str} {F : FD} {x : Str} {e : Expr} {kws : List Keyword} {a : AE} {l : AA} {p pos kpos : Pos} {nm : Option Str}
theorem dk_nil : DK1 X pn W [] aNil := ⟨_, pk_nil, sa_nil⟩
theorem dk_cons (ha : DE X pn W e a) (hl : DK1 X pn W kws l) : DK1 X pn W (⟨nm, e, kpos⟩ :: kws) (aCons a l) := by
  obtain ⟨ta, a1, a2⟩ := ha.ex
  obtain ⟨tl, l1, l2⟩ := hl.ex
  exact ⟨_, pk_cons a1 l1, sa_cons a2 l2⟩
/-- values put in another order -/
structure Perm (g : List Value → List Value) (gV : List V → List V) (gD : List D → List D) : Prop where
  val : ∀ {vs us}, Vals vs us → Vals (gV vs) (g us)
  den : ∀ {K pn θ H vs ds}, Dens K pn θ H vs ds → Dens K pn θ H (gV vs) (gD ds)
/-- how such a call binds -/
def KB0 (K : PySem.W.Frag) (fd : FuncData) (ps ks : List Str) (g : List Value → List Value) : Prop := ∀ (s : Shared) (ws : List Value), K.In s.heap → (g ws).length = ps.length → BindsTo s fd ⟨[], ks.zip ws⟩ (ps.zip (g ws))
theorem d_callK0 {g : List Value → List Value} {gV : List V → List V} {gD : List D → List D} (B : Bd X W k) (G : FnD X.prog X.w X.K X.mg X.base k' f fd ps F) (hk' : k' ≤ k) (hm : X.mg x = some (.ref f)) (hk : PySem.W.keepIn X.K (.ref f) = true) (hb : KB0 X.K fd ps ks g) (pm : Perm g gV gD) (ha : DK1 X [] W kws l)
    (hg : Gl X x := by rfl) (hdb : (x == ("__debug__" : Str)) = false := by decide) (hall : (backToKw pos (keywordEach kws X.env)).all (·.1.isSome) = true := by rfl) (hks : (backToKw pos (keywordEach kws X.env)).filterMap (·.1) = ks := by rfl)
    (hpl : ((backTo pos (starEach [] X.env)).any (·.1) || (backToKw pos (keywordEach kws X.env)).any (·.1.isNone)) = false := by rfl) :
    DE X [] W (.Call (.Name x p) [] kws pos) (aCallK F ps.length gD l) := by
  obtain ⟨tl, l1, l2⟩ := ha.ex
  refine ⟨fun σ H Q => tl σ H fun vs H1 => spD X.K ps.length F (gV vs) H1 Q (WE W σ), ⟨fun pins s σ H Q I h => ?_⟩, ⟨fun w σ ρ ok er QA XA h Q hq hx => ?_⟩⟩
  · refine wpAny_Call_Name_kw (ld_glob I hg hm ?_ hdb)
    refine PySem.W.callWith_KW0 (h₀ := X.base) I.ok.mod.kin hk hall ?_ hpl
    refine thn (l1.run pos pins s σ H _ I h) fun ws s2 ⟨zs, H2, I2, rz, q2⟩ => ⟨I2.kIn, ?_⟩
    rw [hks]
    have r2 := pm.val rz
    refine wpAny_call (codeAny_mono (G.run X.A X.stack s2 H2 ⟨[], ks.zip ws⟩ (g ws) (gV zs) Q (WE W σ) (B.room.mono hk') I2.env0 (hb s2 ws I2.kIn (by rw [← r2.length]; exact G.len _ _ _ _ q2)) r2 q2) fun r s' hq => ?_)
    cases r with
    | error e => exact L2N.passAt B.tk σ pins H2 s2 e s' I2 hq
    | ok fl =>
      cases fl with
      | ret u => exact I2.after hq
      | next => exact hq.elim
      | brk => exact hq.elim
      | cont => exact hq.elim
  · refine l2.run w σ ρ ok er _ XA h _ (fun ds μ1 h1 vs w1 em l1 k1 dn => ?_) hx
    subst em
    exact ⟨w1.θ, w1.μ, gD ds, QA, XA, k1, pm.den dn, h1.1, h1.2, fun d μ' q => (hq d μ' q).mono l1, fun x μ' q => (hx x μ' q).mono l1⟩
end
def swap2 {α : Type} : List α → List α | [a, b] => [b, a] | _ => []
/-! ### + of any kind -/
def fAddU : F2 := fun x y μ Q => match x, y with
  | .v (.int i), .v (.int j) => Q (.v (.int (i + j))) μ
  | .v (.str i), .v (.str j) => i.length + j.length ≤ 1000000 ∧ Q (.v (.str (i ++ j))) μ
  | .lst a, .lst b => a.length + b.length ≤ 1000000 ∧ Q (.lst (a ++ b)) μ
  | .tup a, .tup b => a.length + b.length ≤ 1000000 ∧ Q (.tup (a ++ b)) μ
  | _, _ => False
section
variable {X : Cx} {pn : List (Addr × Obj)} {K : PySem.W.Frag}
theorem o_addU : DOp X pn (binaryOp .Add) fAddU := by
  refine ⟨_, OpR.or op_add (OpR.or op_add_str (OpR.or op_cat op_catA)), ⟨fun w x y dx dy k hx hy QA h Q hq => ?_⟩⟩
  unfold fAddU at h
  split at h
  · obtain rfl := hx.v_inv
    obtain rfl := hy.v_inv
    exact .inl ⟨_, _, rfl, rfl, (hq _ _ h).same k .v⟩
  · obtain rfl := hx.v_inv
    obtain rfl := hy.v_inv
    exact .inr (.inl ⟨_, _, rfl, rfl, Nat.le_trans h.1 (by decide), (hq _ _ h.2).same k .v⟩)
  · cases hx with
    | lst ha na sa =>
      cases hy with
      | lst hb nb sb =>
        refine .inr (.inr (.inl ⟨_, _, _, _, rfl, rfl, ha, hb, ?_, fun p hp => (hq _ _ h.2).new k hp fun l n => .lst upd_same n ((sa.append sb).mono l)⟩))
        rw [sa.len, sb.len]
        exact Nat.le_trans h.1 (by decide)
  · cases hx with
    | @tup a vs _ ha sa =>
      cases hy with
      | @tup b us _ hb sb =>
        have qa : SqT X.K w.H a vs := ha.imp (fun z => Rd.of z.1) id
        have qb : SqT X.K w.H b us := hb.imp (fun z => Rd.of z.1) id
        refine .inr (.inr (.inr ⟨a, b, vs, us, rfl, rfl, qa, qb, ?_, fun e => ?_, fun _ e => ?_, fun _ _ p hp => (hq _ _ h.2).new k hp fun l n => .tup (.inl ⟨upd_same, n⟩) ((sa.append sb).mono l)⟩))
        · rw [sa.len, sb.len]
          exact Nat.le_trans h.1 (by decide)
        · subst e
          cases sa
          exact (hq _ _ h.2).same k (.tup hb sb)
        · subst e
          cases sb
          have z := h.2
          rw [List.append_nil] at z
          exact (hq _ _ z).same k (.tup ha sa)
  · exact h.elim
/-- a call that is never reached -/
def fNo : FL := fun _ _ _ => False
/-- tuple(xs) -/
def fTuple : FL := fun xs μ Q => match xs with
  | [.lst ds] => Q (.tup ds) μ
  | [.rl ds] => Q (.tup ds) μ
  | [.tup ds] => Q (.tup ds) μ
  | _ => False
theorem c_tuple : DCl X pn (.type "tuple") fTuple := by
  refine ⟨_, call_tuple_of, ⟨fun w xs ds k hx QA h Q hq => ?_⟩⟩
  unfold fTuple at h
  split at h
  · cases hx with
    | cons h1 h2 =>
      cases h2
      cases h1 with
      | lst ha na sa => exact ⟨_, _, rfl, .inl ⟨.inl (.inl ha), fun q hp => (hq _ _ h).new k hp fun l n => .tup (.inl ⟨upd_same, n⟩) (sa.mono l)⟩⟩
  · cases hx with
    | cons h1 h2 =>
      cases h2
      cases h1 with
      | rl ha sa => exact ⟨_, _, rfl, .inl ⟨ha.imp (·.1) id, fun q hp => (hq _ _ h).new k hp fun l n => .tup (.inl ⟨upd_same, n⟩) (sa.mono l)⟩⟩
  · cases hx with
    | cons h1 h2 =>
      cases h2
      cases h1 with
      | tup ha sa => exact ⟨_, _, rfl, .inr ⟨ha.imp (fun z => Rd.of z.1) id, (hq _ _ h).same k (.tup ha sa)⟩⟩
  · exact h.elim
end

theorem kb0_of {K : PySem.W.Frag} {x qual : Str} {st : Stmt} {f : Addr} {fd : FuncData} {ps ks : List Str} {g : List Value → List Value} (F : Fun K x qual st f fd)
    (h : ∀ (kV doc pm : Value) (an : Option Addr) (cdv ct : Value) (ws : List Value), (g ws).length = ps.length → bindArgs (PySem.W.fnOf x qual (defArgs st) (defBody st) (defScope st) .none kV doc pm an cdv ct) ⟨[], ks.zip ws⟩ = pure (ps.zip (g ws))) : KB0 K fd ps ks g := by
  obtain ⟨oc, od, kV, doc, pm, an, cdv, ct, osl, rfl, lk, hcd⟩ := F.ex
  exact fun s ws _ hl => .of_eq (h kV doc pm an cdv ct ws hl)

/-! ### an error's own __init__: its arguments become its fields -/
def tIns (K : PySem.W.Frag) : Nat → List Str → TS
  | _, [] => tNext
  | i, [f] => tOst K f (tVar 0) (tVar i)
  | i, f :: g :: r => tSeq (tOst K f (tVar 0) (tVar i)) (tIns K (i + 1) (g :: r))
theorem ins_old {K : PySem.W.Frag} {C a dx : Addr} (T : OexC K C) (hne : dx ≠ a) {D : L2.Ends} {σ : L2.St} (h0 : σ[0]? = some (some (.ref a))) : ∀ (rest : List Str) (i : Nat) (ws : List V) (fs : List (Str × V)) (H : Hp),
    ws.length = rest.length → (∀ j u, ws[j]? = some u → σ[i + j]? = some (some u)) → (∀ f ∈ rest, PySem.W.findIn K (.ref C) f = some none) → H a = some (exo a C (some dx)) → H dx = some (exd dx fs) → fs.length + rest.length ≤ 900 →
    (∀ H' : Hp, H' a = some (exo a C (some dx)) → H' dx = some (exd dx ((rest.zip ws).reverse ++ fs)) → (∀ b, b ≠ a → b ≠ dx → H' b = H b) → D.nx σ H') → tIns K i rest D σ H
  | [], i, ws, fs, H, _, _, _, ha, hd, _, k => k H ha hd fun _ _ _ => rfl
  | [f], i, [w], fs, H, _, hs, hno, ha, hd, hl, k => by
    refine ⟨w, hs 0 w rfl, .ref a, h0, a, C, rfl, T, hno f List.mem_cons_self, .inr ⟨dx, fs, ha, hd, by simp at hl; omega, ?_⟩⟩
    exact k _ ((upd_ne hne.symm).trans ha) upd_same fun b _ h2 => upd_ne h2
  | f :: g :: r, i, w :: ws, fs, H, hw, hs, hno, ha, hd, hl, k => by
    refine ⟨w, hs 0 w rfl, .ref a, h0, a, C, rfl, T, hno f List.mem_cons_self, .inr ⟨dx, fs, ha, hd, by simp at hl; omega, ?_⟩⟩
    refine ins_old T hne h0 (g :: r) (i + 1) ws ((f, w) :: fs) _ (by simpa using hw) (fun j u e => ?_) (fun f' hf => hno f' (List.mem_cons_of_mem _ hf)) ((upd_ne hne.symm).trans ha) upd_same (by simp at hl ⊢; omega) fun H' e1 e2 e3 => ?_
    · have z := hs (j + 1) u e
      rw [show i + 1 + j = i + (j + 1) by omega]
      exact z
    · refine k H' e1 ?_ fun b h1 h2 => (e3 b h1 h2).trans (upd_ne h2)
      rw [e2]
      simp
theorem init_run {K : PySem.W.Frag} {C : Addr} (T : OexC K C) {f : Str} {r : List Str} (h9 : (f :: r).length ≤ 9) (hno : ∀ g ∈ f :: r, PySem.W.findIn K (.ref C) g = some none) {vs : List V} {H : Hp} {Q : VK} {E : XK} (h : spInit C (f :: r) vs H Q E) :
    tIns K 1 (f :: r) { nx := fun _ H' => Q .non H', rt := Q } (L2.start ("self" :: f :: r) vs) H := by
  obtain ⟨a, us, rfl, hl, ha, k⟩ := h
  have es : L2.start ("self" :: f :: r) (.ref a :: us) = (V.ref a :: us).map some := by
    unfold L2.start
    simp [hl]
  rw [es]
  match us, hl with
  | u :: us, hl =>
    have first : ∀ (D : L2.Ends), (∀ dx, H dx = none → dx ≠ a → D.nx ((V.ref a :: u :: us).map some) (upd (upd H dx (exd dx [(f, u)])) a (exo a C (some dx)))) → tOst K f (tVar 0) (tVar 1) D ((V.ref a :: u :: us).map some) H := fun D q =>
      ⟨u, rfl, .ref a, rfl, a, C, rfl, T, hno f List.mem_cons_self, .inl ⟨ha, q⟩⟩
    match r, hno, hl, h9, k with
    | [], hno, hl, h9, k =>
      refine first _ fun dx n ne => k _ dx n ne upd_same ?_ fun b h1 h2 => ?_
      · rw [upd_ne ne, upd_same]
        rfl
      · rw [upd_ne h1, upd_ne h2]
    | g :: r, hno, hl, h9, k =>
      refine first _ fun dx n ne => ?_
      refine ins_old T ne rfl (g :: r) 2 us [(f, u)] _ (by simpa using hl) (fun j v e => ?_) (fun f' hf => hno f' (List.mem_cons_of_mem _ hf)) upd_same ((upd_ne ne).trans upd_same) (by simp at h9 ⊢; omega) fun H' e1 e2 e3 => ?_
      · show ((V.ref a :: u :: us).map some)[2 + j]? = _
        rw [show 2 + j = j + 1 + 1 by omega]
        show (us.map some)[j]? = _
        rw [List.getElem?_map, e]
        rfl
      · refine k H' dx n ne e1 ?_ fun b h1 h2 => ?_
        · rw [e2]
          simp
        · rw [e3 b h1 h2, upd_ne h1, upd_ne h2]
/-- the class's facts for that -/
structure InC (K : PySem.W.Frag) (C : Addr) (fs : List Str) : Prop where
  oex : OexC K C
  no : ∀ g ∈ fs, PySem.W.findIn K (.ref C) g = some none
theorem ok_init {P : Program} {w : World} {K : PySem.W.Frag} {mg : Str → Option Value} {base : Heap} {C fI : Addr} {fd : FuncData} {qual f : Str} {r : List Str} {st : Stmt} (Fn : Fun K "__init__" qual st fI fd) (S : FnScope ("self" :: f :: r) ("self" :: f :: r) (defScope st)) (T : InC K C (f :: r)) (h9 : (f :: r).length ≤ 9)
    (hb : ∀ (cdv : Value) (A : Around) (outer : List Env) (s : Shared) (H : Hp) (E : XK), PSs (cxOf CX0 P w K mg base ("self" :: f :: r) qual (defScope st) fI cdv A outer s H E).nox (defBody st) (tIns K 1 (f :: r))) :
    FnOk P w K mg base CX0 1 fI fd ("self" :: f :: r) (spInit C (f :: r)) := by
  refine Fn.ok S (fun vs H Q E h => ?_) (fun cdv A outer s H vs Q E hr h => ⟨_, hb cdv A outer s H E, init_run T.oex h9 T.no h⟩)
  obtain ⟨a, us, rfl, hl, _⟩ := h
  simp [hl]

/-! ### the suite of an except, its context -/
theorem bd_suite {X : Cx} {W : WX} {k : Nat} (B : Bd X W k) {a : Addr} {oe : Obj} {cls : Value} {d : Option Addr} {pn : List (Addr × Obj)} (z : L2N.Zn cls d oe) (hf : ∃ vs, oe.data = .fields vs) : BdH (X.suite a ((a, oe) :: pn)) (a, oe) k := by
  obtain ⟨vs, hv⟩ := hf
  refine ⟨⟨rfl, vs, hv, z.2.2 vs hv⟩, List.mem_cons_self, ⟨B.room.dp, B.room.un⟩, B.nd⟩

theorem fnD_no {P : Program} {w : World} {K : PySem.W.Frag} {mg : Str → Option Value} {base : Heap} {k : Nat} {f : Addr} {fd : FuncData} {ps : List Str} {F : FD} (h : ∀ ds μ Q X, ¬ F ds μ Q X) : FnD P w K mg base k f fd ps F := by
  refine ⟨fun vs H Q E q => ?_, fun A outer s H args us vs Q E _ _ _ _ q => ?_⟩
  · obtain ⟨_, _, _, _, _, _, _, _, z, _⟩ := q
    exact (h _ _ _ _ z).elim
  · obtain ⟨_, _, _, _, _, _, _, _, z, _⟩ := q
    exact (h _ _ _ _ z).elim
def meth (st : Stmt) (j : Nat) : Stmt := match st with
  | .ClassDef _ _ _ b _ _ _ _ _ _ _ => b.getD j (.Pass ⟨0, 0, 0, 0⟩)
  | s => s

/-! ### classes asked by isinstance and except -/
theorem kit_ref {K : PySem.W.Frag} {D C : Addr} {b : Bool} (hs : PySem.W.subIn K (.ref D) (.ref D) = some true) (hb : PySem.W.subIn K (.ref D) (.ref C) = some b) (h1 : PySem.W.isClsIn K C = true) (h2 : PySem.W.typeIn K (.ref C) = some (.type "type")) : PySem.W.kitOne K (.ref D) (.ref C) = some b := by
  have k : PySem.W.kitCls K (.ref D) (.ref C) = some b := by
    have e2 : ((PySem.W.clsIn K C).isSome && PySem.W.typeIn K (.ref C) == some (.type "type")) = true := by
      have h1' : (PySem.W.clsIn K C).isSome = true := h1
      rw [h1', h2]
      rfl
    show (if ((PySem.W.clsIn K C).isSome && PySem.W.typeIn K (.ref C) == some (.type "type")) = true then PySem.W.subIn K (.ref D) (.ref C) else none) = some b
    rw [if_pos e2]
    exact hb
  unfold PySem.W.kitOne
  by_cases q : (Value.ref D == Value.ref C) = true
  · rw [if_pos q]
    have e : D = C := Value.ref.inj (beq_iff_eq.mp q)
    subst e
    rw [← hb, hs]
  · rw [if_neg q]
    exact k
theorem exm_ref {K : PySem.W.Frag} {D C : Addr} {b : Bool} (hx : PySem.W.subIn K (.ref C) (.type "BaseException") = some true) (hb : PySem.W.subIn K (.ref D) (.ref C) = some b) (h1 : PySem.W.isClsIn K C = true) (h2 : PySem.W.typeIn K (.ref C) = some (.type "type")) : PySem.W.exmOne K (.ref D) (.ref C) = some b := by
  have e1 : (PySem.W.subIn K (.ref C) (.type "BaseException") == some true) = true := by rw [hx]; rfl
  have e2 : ((PySem.W.clsIn K C).isSome && PySem.W.typeIn K (.ref C) == some (.type "type")) = true := by
    have h1' : (PySem.W.clsIn K C).isSome = true := h1
    rw [h1', h2]
    rfl
  show (if (PySem.W.subIn K (.ref C) (.type "BaseException") == some true) = true then (if ((PySem.W.clsIn K C).isSome && PySem.W.typeIn K (.ref C) == some (.type "type")) = true then PySem.W.subIn K (.ref D) (.ref C) else none) else none) = some b
  rw [if_pos e1, if_pos e2]
  exact hb
theorem kit_ve {K : PySem.W.Frag} {D : Addr} (hb : PySem.W.subIn K (.ref D) (.type "ValueError") = some true) : PySem.W.kitOne K (.ref D) (.type "ValueError") = some true := by
  have q : (Value.ref D == Value.type "ValueError") = false := by rfl
  have e : PySem.W.kitOne K (.ref D) (.type "ValueError") = PySem.W.subIn K (.ref D) (.type "ValueError") := by
    unfold PySem.W.kitOne
    rw [q]
    rfl
  rw [e]
  exact hb
end DK
set_option Elab.async false
set_option linter.all false
set_option maxRecDepth 100000
set_option maxHeartbeats 4000000
namespace DK
open PySem PySem.Spec PyProof.Rows L2 L2H

/-! ### list comprehensions whose elements change cells (draws) -/
def lbC (n : Nat) : Cell → Bool
  | .lst ds => lbs n ds
  | .ins _ fs => lbs n (fs.map (·.2))
def aTurnW (i : Nat) (t : AT) (e : AE) (ρ : Rho) (acc : List D) (μ : Sto) (x : D) (N : List D → Sto → Prop) : Prop :=
  t (ρ.set i (some x)) (μ ++ [.lst acc]) (fun b μ1 => μ1 = μ ++ [.lst acc] ∧ bIf b (e (ρ.set i (some x)) (μ ++ [.lst acc]) (fun d μ2 => ∃ m', (μ2 = m' ++ [.lst acc] ∧ m'.length = μ.length) ∧ (∀ c ∈ m', lbC μ.length c = true) ∧ (noErr d = true ∧ lb μ.length d = true) ∧ N (acc ++ [d]) m') (fun _ _ => False)) (N acc μ)) (fun _ _ => False)
def aLcW (src : ASrc) (i : Nat) (t : AT) (e : AE) : AE := fun ρ μ Q X => src ρ μ (fun xs μ1 => (xs.length ≤ 500000 ∧ ∀ c ∈ μ1, lbC μ1.length c = true) ∧ ∃ I : Nat → List D → Sto → Prop, I 0 [] μ1 ∧ (∀ n acc x m, xs[n]? = some x → m.length = μ1.length → I n acc m → aTurnW i t e (wipeD ρ i) acc m x (I (n + 1))) ∧ ∀ acc m, I xs.length acc m → Q (.lst acc) m) X
def aGoW (i : Nat) (t : AT) (e : AE) (ρ : Rho) : Sto → List D → List D → (List D → Sto → Prop) → Prop
  | μ, [], acc, Q => Q acc μ
  | μ, x :: xs, acc, Q => aTurnW i t e ρ acc μ x fun acc' μ' => aGoW i t e ρ μ' xs acc' Q
section
variable {K : PySem.W.Frag} {pn : List (Addr × Obj)} {W : WX} {tl : TA} {l : AA} {tt : TT} {t : AT} {te tx : TE} {e x : AE} {i : Nat}
/-- the last cell let go, the others as they stand now -/
theorem Ok.dropW {w w' : Wd} {p : Addr} {ds : List D} {m : Sto} (k : Ok K w) (k' : Ok K w') (l : WLe w w') (hθ : w'.θ = w.θ ++ [p]) (hμ : w'.μ = m ++ [.lst ds]) (hm : m.length = w.θ.length) (hb : ∀ c ∈ m, lbC w.θ.length c = true) :
    WLe w ⟨w.θ, w'.H, m⟩ ∧ Ok K ⟨w.θ, w'.H, m⟩ := by
  have l2 : Le w.θ w.H w.θ w'.H := ⟨l.keep, ⟨[], by simp, fun _ z => (List.not_mem_nil z).elim⟩, fun q hq => l.trk q (l.sub hq)⟩
  refine ⟨l2, ⟨k.nd, hm.symm, fun i q c h1 h2 => ?_⟩⟩
  have z' := k'.cell i q c (l.get h1) (by rw [hμ, List.getElem?_append_left (List.getElem?_eq_some_iff.mp h2).1]; exact h2)
  have hc := hb c (List.mem_of_getElem? h2)
  rw [hθ] at z'
  cases c with
  | lst es =>
    obtain ⟨vs', a', b'⟩ := z'
    exact ⟨vs', a', b'.cut hc b'.noErr0⟩
  | ins C fs =>
    obtain ⟨dx', vs', a', b'⟩ := z'
    exact ⟨dx', vs', a', b'.cut hc b'.noErr0⟩
def LcW (K : PySem.W.Frag) (pn : List (Addr × Obj)) (w : Wd) (p : Addr) (I : Nat → List D → Sto → Prop) (n : Nat) (H : Hp) : Prop :=
  ∃ (w' : Wd) (acc : List D) (m : Sto), w'.H = H ∧ WLe w w' ∧ Ok K w' ∧ w'.θ = w.θ ++ [p] ∧ (w'.μ = m ++ [.lst acc] ∧ m.length = w.μ.length ∧ ∀ c ∈ m, lbC w.θ.length c = true) ∧ acc.length ≤ n ∧ noErrs acc = true ∧ lbs w.θ.length acc = true ∧ I n acc m
theorem lcW_turn {w : Wd} {σ : L2.St} {ρ : Rho} {p : Addr} {I : Nat → List D → Sto → Prop} {n : Nat} {H : Hp} {xv : V} {xd : D} (hk : w.θ.length = w.μ.length) (er : EnvR K pn w σ ρ) (ht : ST K pn w0 tt t) (he : SE K pn w0 te e) (hn : n < 500000)
    (q : LcW K pn w p I n H) (hx : ∀ w', WLe w w' → Den K pn w'.θ w'.H xv xd) (hs : ∀ acc m, m.length = w.μ.length → I n acc m → aTurnW i t e (wipeD ρ i) acc m xd (I (n + 1))) :
    gName i xv (wipe σ [i]) H fun σ2 H2 => wipe σ2 [i] = wipe σ [i] ∧ tt σ2 H2 fun b H3 => if b = true then te σ2 H3 fun y H4 => ∃ acc, H4 p = some (.lst acc) ∧ acc.length < sizeLine ∧ LcW K pn w p I (n + 1) (upd H4 p (.lst (acc ++ [y]))) else LcW K pn w p I (n + 1) H3 := by
  obtain ⟨w1, acc, m, rfl, l1, k1, hθ, ⟨hμ, hml, hmb⟩, hal, hne, hlb, hI⟩ := q
  refine ⟨wipe_set, ?_⟩
  have h := hs acc m hml hI
  have e1 : EnvR K pn w1 ((wipe σ [i]).set i (some xv)) ((wipeD ρ i).set i (some xd)) := ((er.mono l1).wipe (i := i)).set (hx w1 l1)
  unfold aTurnW at h
  rw [← hμ] at h
  refine ht.run w1 _ _ k1 e1 _ _ h _ (fun b μ' hb w2 em l2 k2 => ?_) fun _ _ z => z.elim
  subst em
  obtain ⟨em, hb⟩ := hb
  have same : ∀ {w3 : Wd}, WLe w1 w3 → w3.μ.length = w1.μ.length → Ok K w3 → w3.θ = w.θ ++ [p] := fun {w3} l3 e3 k3 => by
    obtain ⟨ex, hex, _⟩ := l3.ext
    have a := k3.len
    rw [e3, hex, List.length_append, k1.len] at a
    have hx0 : ex = [] := List.length_eq_zero_iff.mp (by omega)
    rw [hex, hx0, List.append_nil, hθ]
  cases b with
  | false => exact ⟨w2, acc, m, rfl, l1.trans l2, k2, same l2 (by rw [em]) k2, ⟨by rw [em, hμ], hml, hmb⟩, by omega, hne, hlb, hb.2 rfl⟩
  | true =>
    have hb' := hb.1 rfl
    rw [← em] at hb'
    refine he.run w2 _ _ k2 (e1.mono l2) _ _ hb' _ (fun d μ' hd y w3 em3 l3 k3 dn => ?_) fun _ _ z => z.elim
    subst em3
    obtain ⟨m', ⟨em3, ml'⟩, mb', ⟨hd1, hd2⟩, hd⟩ := hd
    have t3 := same (l2.trans l3) (by rw [em3, hμ, List.length_append, List.length_append, ml']) k3
    have hj3 : w3.θ[w.θ.length]? = some p := by
      rw [t3, List.getElem?_append_right (Nat.le_refl _), Nat.sub_self]
      rfl
    have hjm : m'.length = w.θ.length := by omega
    have hm3 : w3.μ[w.θ.length]? = some (.lst acc) := by
      rw [em3, ← hjm, List.getElem?_append_right (Nat.le_refl _), Nat.sub_self]
      rfl
    obtain ⟨us, hu, hus⟩ := k3.cell _ _ _ hj3 hm3
    obtain ⟨l4, k4⟩ := k3.writeL hj3 (hus.append (.cons (dn.un hd1) .nil))
    refine ⟨us, hu, ?_, ?_⟩
    · rw [hus.len]
      exact Nat.lt_of_le_of_lt hal (Nat.lt_trans hn (by decide))
    · refine ⟨⟨w3.θ, upd w3.H p (.lst (us ++ [y])), w3.μ.set w.θ.length (.lst (acc ++ [d]))⟩, acc ++ [d], m', rfl, ((l1.trans l2).trans l3).trans l4, k4, t3, ⟨?_, by omega, fun c hc => ?_⟩, ?_, ?_, ?_, hd⟩
      · show w3.μ.set w.θ.length (.lst (acc ++ [d])) = m' ++ [.lst (acc ++ [d])]
        rw [em3, ← hjm, List.set_append_right _ _ (Nat.le_refl _), Nat.sub_self]
        rfl
      · have z := mb' c hc
        rw [hml, ← hk] at z
        exact z
      · rw [List.length_append, List.length_singleton]
        omega
      · rw [noErrs_app, hne]
        show (true && (noErr d && true)) = true
        rw [hd1]
        rfl
      · rw [lbs_app, hlb]
        show (true && (lb _ d && true)) = true
        rw [hk, ← hml, hd2]
        rfl
theorem lcW_start {w : Wd} {p : Addr} {I : Nat → List D → Sto → Prop} (k : Ok K w) (hp : w.H p = none) (hb : ∀ c ∈ w.μ, lbC w.μ.length c = true) (h : I 0 [] w.μ) : LcW K pn w p I 0 (upd w.H p (.lst [])) := by
  obtain ⟨l2, k2⟩ := k.cellL hp (.nil (K := K))
  exact ⟨⟨w.θ ++ [p], upd w.H p (.lst []), w.μ ++ [.lst []]⟩, [], w.μ, rfl, l2, k2, rfl, ⟨rfl, rfl, fun c hc => by rw [k.len]; exact hb c hc⟩, Nat.le_refl _, rfl, rfl, h⟩
theorem lcW_end {w : Wd} {p : Addr} {I : Nat → List D → Sto → Prop} {n : Nat} {H : Hp} {Q : VK} {QA : QD} (k : Ok K w) (hp : w.H p = none) (q : LcW K pn w p I n H) (hI : ∀ acc m, I n acc m → QA (.lst acc) m) (hq : ∀ d μ', QA d μ' → PQ K pn w Q d μ') : Q (.ref p) H := by
  obtain ⟨w1, acc, m, rfl, l1, k1, hθ, ⟨hμ, hml, hmb⟩, hal, hne, hlb, hi⟩ := q
  have hlen := k.len
  obtain ⟨l2, k2⟩ := k.dropW k1 l1 hθ hμ (by omega) hmb
  obtain ⟨us, hu, hus⟩ := k1.cell w.θ.length p (.lst acc) (by rw [hθ, List.getElem?_append_right (Nat.le_refl _), Nat.sub_self]; rfl) (by rw [hμ, hlen, ← hml, List.getElem?_append_right (Nat.le_refl _), Nat.sub_self]; rfl)
  rw [hθ] at hus
  have np : p ∉ w.θ := fun hm => by
    obtain ⟨o, ho⟩ := k.trk p hm
    rw [hp] at ho
    cases ho
  exact hq _ _ (hI acc m hi) (.ref p) ⟨w.θ, w1.H, m⟩ rfl l2 k2 (.lst hu np ((hus.cut hlb hne).sub fun _ z => (List.not_mem_nil z).elim))
theorem seW_lcR1 (hl : SA K pn W tl l) (ht : ST K pn w0 tt t) (he : SE K pn w0 te e) : SE K pn W (tLc (iRng1 tl) (gName i) tt te [i]) (aLcW (rR1 l) i t e) := ⟨fun w σ ρ k er QA XA h Q hq hx =>
  hl.run w σ ρ k er _ XA h _ (fun ds μ1 h1 vs w1 em l1 k1 dn => by
    subst em
    split at h1
    · rename_i n
      cases dn with
      | cons d1 d2 =>
        cases d2
        obtain rfl := d1.v_inv
        obtain ⟨hb, ⟨hlen, hcb⟩, I, i0, hs, hn⟩ := h1
        rw [List.length_map, List.length_range] at hlen hn
        refine ⟨n, rfl, hb.1, hb.2, fun p hp => lc_range (LcW K pn w1 p I) (lcW_start k1 hp hcb i0) (fun m H hm q => ?_) (fun H q => lcW_end k1 hp q hn fun d μ' z => (hq d μ' z).mono l1)⟩
        have e0 : (0 : Int) + (m : Int) = (m : Int) := Int.zero_add _
        rw [e0]
        exact lcW_turn k1.len (er.mono l1) ht he (Nat.lt_of_lt_of_le hm hlen) q (fun _ _ => .v) (fun acc m2 e2 z => hs m acc _ m2 (by rw [List.getElem?_map, List.getElem?_range hm]; rfl) e2 z)
    · exact h1.elim) hx⟩
end
/-! with the syntax -/
section
variable {X : Cx} {pn : List (Addr × Obj)} {W : WX} {k : Nat} {e elt : Expr} {ifs : List Expr} {scope : Scope} {l : AA} {t : AT} {a x : AE} {pos p1 p2 p3 : Pos} {y : Str}
end
/-! ### a changed list: xs.append(e), [e] * n as a new cell, items of a module's tuple -/
def appIt (x d : D) (μ : Sto) (Q : Sto → Prop) : Prop := match x with
  | .loc k => (match μ[k]? with | some (.lst ds) => ds.length ≤ 1000000 ∧ Q (μ.set k (.lst (ds ++ [d]))) | _ => False)
  | _ => False
def isL (x : D) (μ : Sto) : Bool := match x with | .loc k => (match μ[k]? with | some (.lst _) => true | _ => false) | _ => false
def aApp (o e : AE) : AE := fun ρ μ Q X => o ρ μ (fun x μ1 => isL x μ1 = true ∧ e ρ μ1 (fun d μ2 => appIt x d μ2 fun μ3 => Q (.v .non) μ3) X) X
section
variable {X : Cx} {W : WX} {o e : Expr} {a b : AE} {apos pos : Pos}
theorem d_append (ha : DE X [] W o a) (hb : DE X [] W e b) (hbase : attributeBase o "append" X.env (eval o X.env) = eval o X.env := by rfl)
    (hfew : ((backTo pos (starEach [e] X.env)).all (fun x => !x.1) && (backToKw pos (keywordEach [] X.env)).all (fun x => x.1.isSome)
      && decide (([e] : List Expr).length + ([] : List Keyword).length + (if ([] : List Keyword).isEmpty then 0 else 1) < 30)) = true := by rfl)
    (hline : (apos.endLine == pos.line) = true := by rfl) (hs : starEach [e] X.env = [(false, eval e X.env)] := by rfl) :
    DE X [] W (.Call (.Attribute o "append" apos) [e] [] pos) (aApp a b) := by
  obtain ⟨ta, a1, a2⟩ := ha.ex
  obtain ⟨tb, b1, b2⟩ := hb.ex
  refine ⟨_, pe_bm PySem.F.plainAttrs_list PySem.F.slot_list_append PySem.F.type_list_append mt_append a1 (pa_cons b1 pa_nil (by rw [hs] <;> rfl)) hbase hfew hline (by rw [hs] <;> rfl), ⟨fun w σ ρ ok er QA XA h Q hq hx => ?_⟩⟩
  refine a2.run w σ ρ ok er _ XA h _ (fun dx μ1 h1 x w1 em l1 k1 d1 => ?_) hx
  subst em
  obtain ⟨hL, h1⟩ := h1
  unfold isL at hL
  split at hL
  · rename_i k
    split at hL
    · rename_i ds0 hm0
      cases d1 with
      | @loc _ p hp =>
        obtain ⟨vs0, hv0, _⟩ := k1.cell _ _ _ hp hm0
        refine ⟨.inl ⟨rfl, vs0, .inl (.inl hv0)⟩, ?_⟩
        refine b2.run w1 σ ρ k1 (er.mono l1) _ XA h1 _ (fun d μ2 h2 y w2 em2 l2 k2 dn => ?_) (fun z μ' q => (hx z μ' q).mono l1)
        subst em2
        have h2 : (match w2.μ[k]? with | some (.lst ds) => ds.length ≤ 1000000 ∧ QA (.v .non) (w2.μ.set k (.lst (ds ++ [d]))) | _ => False) := h2
        split at h2
        · rename_i ds hm
          have hp2 := l2.get hp
          obtain ⟨vs, hv, hs'⟩ := k2.cell _ _ _ hp2 hm
          obtain ⟨l3, k3⟩ := k2.writeL hp2 (hs'.append (.cons dn .nil))
          refine ⟨p, vs, y, rfl, rfl, hv, ?_, ?_⟩
          · rw [hs'.len]
            exact Nat.lt_of_le_of_lt h2.1 (by decide)
          · exact hq _ _ h2.2 .non ⟨w2.θ, upd w2.H p (.lst (vs ++ [y])), w2.μ.set k (.lst (ds ++ [d]))⟩ rfl ((l1.trans l2).trans l3) k3 .v
        · exact h2.elim
    · cases hL
  · cases hL
end

/-- xs * n: data, or a new cell -/
def fRep : F2 := fun x y μ Q => match x, y with
  | .lst ds, .v (.int n) => (-(2 ^ 63) ≤ n ∧ n < 2 ^ 63) ∧ ds.length * n.toNat ≤ 1000000 ∧ Q (.lst (List.replicate n.toNat ds).flatten) μ
  | _, _ => False
def fRepM : F2 := fun x y μ Q => match x, y with
  | .lst ds, .v (.int n) => (-(2 ^ 63) ≤ n ∧ n < 2 ^ 63) ∧ ds.length * n.toNat ≤ 1000000 ∧ Q (.loc μ.length) (μ ++ [.lst (List.replicate n.toNat ds).flatten])
  | _, _ => False
section
variable {X : Cx} {pn : List (Addr × Obj)}
end
/-! ### a written tuple of ints, a name of the module -/
theorem den_ktup {K : PySem.W.Frag} {a : Addr} {ns : List Int} (h : KT K a (ns.map V.int)) (pn : List (Addr × Obj)) (θ : List Addr) (H : Hp) : Den K pn θ H (.ref a) (.tup (ns.map fun n => .v (.int n))) := .tup (.inr h) .ints
/-- calls by one keyword -/
def same1 {α : Type} : List α → List α := fun l => l
end DK
set_option Elab.async false
set_option linter.all false
set_option maxRecDepth 100000
set_option maxHeartbeats 4000000
/-! several targets, slices, `in`, abs, bit_length, count, list(range), more keywords, displays of dicts -/
namespace DK
open PySem PySem.Spec PyProof.Rows L2 L2H

/-! ### a, b = x, y -/
def sPar (i j : Nat) (l : AA) : AS := fun A ρ μ => l ρ μ (fun ds μ1 => match ds with | [a, b] => A.nx ((ρ.set i (some a)).set j (some b)) μ1 | _ => False) (fun x μ1 => A.er x ρ μ1)
def sUnp2 (i j : Nat) (e : AE) : AS := fun A ρ μ => e ρ μ (fun d μ1 => match d with | .tup [a, b] => A.nx ((ρ.set i (some a)).set j (some b)) μ1 | _ => False) (fun x μ1 => A.er x ρ μ1)
section
variable {K : PySem.W.Frag} {pn : List (Addr × Obj)} {W : WX} {tl : TA} {l : AA} {te : TE} {e : AE} {i j : Nat}
end
section
variable {X : Cx} {pn : List (Addr × Obj)} {W : WX} {k : Nat} {e : Expr} {a b : Expr} {ae : AE} {l : AA} {pos px py pt p p2 p3 : Pos} {x y : Str} {kt k2 : Nat} {pt2 : Pos}
end

/-! ### `in` a row of plain values -/
def flatD : D → Bool | .v x => flatV x | _ => false
def vOf : D → V | .v x => x | _ => .non
def fIn (neg : Bool) : F2 := fun x y μ Q => match x, itemsOf y μ with
  | .v a, some ds => (flatV a = true ∧ ds.all flatD = true) ∧ Q (.v (.bl (if neg then !inV a (ds.map vOf) else inV a (ds.map vOf)))) μ
  | _, _ => False
section
variable {K : PySem.W.Frag} {pn : List (Addr × Obj)} {X : Cx}
theorem Dens.flat {θ : List Addr} {H : Hp} : ∀ {vs : List V} {ds : List D}, Dens K pn θ H vs ds → ds.all flatD = true → vs = ds.map vOf ∧ vs.all flatV = true
  | _, _, .nil, _ => ⟨rfl, rfl⟩
  | _, _, .cons (d := d) h t, e => by
    rw [List.all_cons, Bool.and_eq_true] at e
    obtain ⟨e1, e2⟩ := Dens.flat t e.2
    cases d with
    | v y =>
      obtain rfl := h.v_inv
      exact ⟨by rw [List.map_cons, ← e1]; rfl, by rw [List.all_cons, e2, Bool.and_true]; exact e.1⟩
    | _ => cases e.1
theorem sr_in {neg : Bool} : SR K pn (rIn K neg) (fIn neg) := ⟨fun w x y dx dy k hx hy QA h Q hq => by
  unfold fIn at h
  split at h
  · rename_i a ds e
    obtain rfl := hx.v_inv
    obtain ⟨p, vs, rfl, hsq, hs⟩ := items_sq k hy e
    obtain ⟨e1, e2⟩ := hs.flat h.1.2
    refine ⟨p, vs, rfl, hsq, h.1.1, e2, ?_⟩
    rw [e1]
    exact (hq _ _ h.2).same k .v
  · exact h.elim⟩
theorem o_in : DOp X pn (compareOp .In) (fIn false) := ⟨_, op_in_seq, sr_in⟩

/-! ### abs -/
def fAbs : FL := fun xs μ Q => match xs with | [.v (.int i)] => Q (.v (.int (if i < 0 then -i else i))) μ | _ => False
end

/-! ### slices -/
abbrev AO := Rho → Sto → (Option Int → Sto → Prop) → QX → Prop
def aNoPart : AO := fun _ μ Q _ => Q none μ
def aPart (e : AE) : AO := fun ρ μ Q X => e ρ μ (fun d μ1 => match d with | .v (.int i) => Q (some i) μ1 | _ => False) X
def cutD (xs : List D) (lo hi : Option Int) : List D := (xs.drop (HT.sIx xs.length 0 lo)).take (HT.sIx xs.length xs.length hi - HT.sIx xs.length 0 lo)
def fSl (x : D) (lo hi : Option Int) (μ : Sto) (Q : QD) : Prop := match x with
  | .lst ds => Q (.lst (cutD ds lo hi)) μ
  | .rl ds => Q (.lst (cutD ds lo hi)) μ
  | .tup ds => Q (.tup (cutD ds lo hi)) μ
  | .loc k => match μ[k]? with | some (.lst ds) => Q (.lst (cutD ds lo hi)) μ | _ => False
  | _ => False
def aSl (e : AE) (lo hi : AO) : AE := fun ρ μ Q X => e ρ μ (fun x μ1 => lo ρ μ1 (fun l μ2 => hi ρ μ2 (fun h μ3 => fSl x l h μ3 Q) X) X) X
structure SO (K : PySem.W.Frag) (pn : List (Addr × Obj)) (W : WX) (t : TO) (a : AO) : Prop where
  run : ∀ (w : Wd) (σ : L2.St) (ρ : Rho), Ok K w → EnvR K pn w σ ρ → ∀ (QA : Option Int → Sto → Prop) (XA : QX), a ρ w.μ QA XA → ∀ Q : Option Int → Hp → Prop,
    (∀ o μ', QA o μ' → ∀ w' : Wd, w'.μ = μ' → WLe w w' → Ok K w' → Q o w'.H) → (∀ x μ', XA x μ' → PX K pn w (fun c d H => W c d σ H) x μ') → t σ w.H Q
structure DO (X : Cx) (pn : List (Addr × Obj)) (W : WX) (e : Option Expr) (a : AO) : Prop where
  ex : ∃ t, PO X e t ∧ SO X.K pn W t a
section
variable {K : PySem.W.Frag} {pn : List (Addr × Obj)} {X : Cx} {W : WX} {te : TE} {tl th : TO} {e : AE} {lo hi : AO}
theorem Dens.drop {θ : List Addr} {H : Hp} : ∀ {vs : List V} {ds : List D} (n : Nat), Dens K pn θ H vs ds → Dens K pn θ H (vs.drop n) (ds.drop n)
  | _, _, 0, h => h
  | _, _, _ + 1, .nil => .nil
  | _, _, n + 1, .cons _ t => Dens.drop n t
theorem Dens.take {θ : List Addr} {H : Hp} : ∀ {vs : List V} {ds : List D} (n : Nat), Dens K pn θ H vs ds → Dens K pn θ H (vs.take n) (ds.take n)
  | _, _, 0, h => by simp only [List.take_zero]; exact .nil
  | _, _, _ + 1, .nil => .nil
  | _, _, n + 1, .cons a t => .cons a (Dens.take n t)
theorem Dens.slc {θ : List Addr} {H : Hp} {vs : List V} {ds : List D} {lo hi : Option Int} (h : Dens K pn θ H vs ds) : Dens K pn θ H (cutV vs lo hi) (cutD ds lo hi) := by
  unfold cutV cutD
  rw [h.len]
  exact (h.drop _).take _
theorem so_no : SO K pn W tNoPart aNoPart := ⟨fun w σ ρ k e QA XA h Q hq hx => hq _ _ h w rfl k.refl k⟩
theorem so_some (ha : SE K pn W te e) : SO K pn W (tPart te) (aPart e) := ⟨fun w σ ρ k er QA XA h Q hq hx =>
  ha.run w σ ρ k er _ XA h _ (fun dx μ1 h1 x w1 em l1 k1 d1 => by
    split at h1
    · obtain rfl := d1.v_inv
      exact ⟨_, rfl, hq _ _ h1 w1 em l1 k1⟩
    · exact h1.elim) hx⟩
def rSlD (K : PySem.W.Frag) : V → Option Int → Option Int → Hp → VK → Prop := fun x lo hi H Q => rSlL K x lo hi H Q ∨ rSlA K x lo hi H Q
theorem sl_D : SlR X (rSlD X.K) := SlR.or sl_list sl_tupA
theorem cut_whole {xs : List V} {lo hi : Option Int} (h : HT.sIx xs.length 0 lo = 0 ∧ HT.sIx xs.length xs.length hi = xs.length) : cutV xs lo hi = xs := by
  unfold cutV
  rw [h.1, h.2, List.drop_zero, Nat.sub_zero, List.take_length]
theorem fsl_run {w : Wd} {x : V} {d : D} {lo hi : Option Int} {QA : QD} {Q : VK} (k : Ok K w) (hx : Den K pn w.θ w.H x d) (h : fSl d lo hi w.μ QA) (hq : ∀ d μ', QA d μ' → PQ K pn w Q d μ') : rSlD K x lo hi w.H Q := by
  unfold fSl at h
  split at h
  · cases hx with
    | lst ha n hs => exact .inl ⟨_, _, rfl, .inl (.inl ha), fun p hp => (hq _ _ h).new k hp fun l n => .lst upd_same n (hs.slc.mono l)⟩
  · cases hx with
    | rl ha hs => exact .inl ⟨_, _, rfl, ha.imp (·.1) id, fun p hp => (hq _ _ h).new k hp fun l n => .lst upd_same n (hs.slc.mono l)⟩
  · cases hx with
    | tup ha hs =>
      refine .inr ⟨_, _, rfl, ha.imp (fun z => Rd.of z.1) id, fun hw => ?_, fun _ p hp => (hq _ _ h).new k hp fun l n => .tup (.inl ⟨upd_same, n⟩) (hs.slc.mono l)⟩
      have hc := hs.slc (lo := lo) (hi := hi)
      rw [cut_whole hw] at hc
      exact (hq _ _ h).same k (.tup ha hc)
  · split at h
    · rename_i j ds e
      cases hx with
      | loc hp =>
        obtain ⟨vs, a, b⟩ := k.cell _ _ _ hp e
        exact .inl ⟨_, _, rfl, .inl (.inl a), fun p hp => (hq _ _ h).new k hp fun l n => .lst upd_same n (((b.sub fun _ z => (List.not_mem_nil z).elim).slc).mono l)⟩
    · exact h.elim
  · exact h.elim
theorem se_sl (he : SE K pn W te e) (hl : SO K pn W tl lo) (hh : SO K pn W th hi) : SE K pn W (tSl (rSlD K) te tl th) (aSl e lo hi) := ⟨fun w σ ρ k er QA XA h Q hq hx =>
  he.run w σ ρ k er _ XA h _ (fun dx μ1 h1 x w1 em l1 k1 d1 => by
    subst em
    refine hl.run w1 σ ρ k1 (er.mono l1) _ XA h1 _ (fun o μ2 h2 w2 em2 l2 k2 => ?_) (fun x μ' q => (hx x μ' q).mono l1)
    subst em2
    refine hh.run w2 σ ρ k2 ((er.mono l1).mono l2) _ XA h2 _ (fun o2 μ3 h3 w3 em3 l3 k3 => ?_) (fun x μ' q => (hx x μ' q).mono (l1.trans l2))
    subst em3
    exact fsl_run k3 (d1.mono (l2.trans l3)) h3 fun d μ' q => (hq d μ' q).mono ((l1.trans l2).trans l3)) hx⟩
end
section
variable {X : Cx} {pn : List (Addr × Obj)} {W : WX} {e x : Expr} {oe : Option Expr} {a : AE} {lo hi : Option Expr} {al ah : AO} {p2 pos : Pos}
theorem d_no : DO X pn W none aNoPart := ⟨_, po_none, so_no⟩
theorem d_part (h : DE X pn W x a) : DO X pn W (some x) (aPart a) := by
  obtain ⟨_, h, h'⟩ := h.ex
  exact ⟨_, po_some h, so_some h'⟩
theorem d_slice (h : DE X pn W e a) (hl : DO X pn W lo al) (hh : DO X pn W hi ah) : DE X pn W (.Subscript e (.Slice lo hi none p2) pos) (aSl a al ah) := by
  obtain ⟨_, h, h'⟩ := h.ex
  obtain ⟨_, h2, h2'⟩ := hl.ex
  obtain ⟨_, h3, h3'⟩ := hh.ex
  exact ⟨_, pe_slice sl_D h h2 h3, se_sl h' h2' h3'⟩
end
/-! ### xs[::-1] -/
def fRev (x : D) (μ : Sto) (Q : QD) : Prop := match itemsL x μ with | some ds => Q (.lst ds.reverse) μ | none => False
where itemsL (x : D) (μ : Sto) : Option (List D) := match x with
  | .lst ds => some ds
  | .rl ds => some ds
  | .loc k => match μ[k]? with | some (.lst ds) => some ds | _ => none
  | _ => none
def aRev (e : AE) : AE := fun ρ μ Q X => e ρ μ (fun x μ1 => fRev x μ1 Q) X
section
variable {K : PySem.W.Frag} {X : Cx} {pn : List (Addr × Obj)} {W : WX} {e : Expr} {a : AE} {w : Wd}
end
end DK
set_option Elab.async false
set_option linter.all false
set_option maxRecDepth 100000
set_option maxHeartbeats 4000000
/-! bit_length, count, list(range), dicts of one pair, isinstance of an error in a tuple of classes, calls by three keywords -/
namespace DK
open PySem PySem.Spec PyProof.Rows L2 L2H

/-! ### n.bit_length() -/
def aBits (e : AE) : AE := fun ρ μ Q X => e ρ μ (fun d μ1 => match d with | .v (.int i) => Q (.v (.int (Builtin.Int.intBits i : Nat))) μ1 | _ => False) X
section
variable {X : Cx} {pn : List (Addr × Obj)} {W : WX} {k : Nat} {e o : Expr} {a ae : AE} {l : AA} {apos pos p p1 : Pos} {x : Str}
/-! ### xs.count(x) -/
def rCntF (K : PySem.W.Frag) : V → List V → Hp → VK → Prop := fun x xs H Q => ∃ (p : Addr) (ns : List V) (k : V), x = .ref p ∧ xs = [k] ∧ SqL K H p ns ∧ flatV k = true ∧ ns.all flatV = true ∧ Q (.int (ns.countP fun y => eqV y k : Nat)) H
def cntD (x : D) (μ : Sto) (k : D) (Q : QD) : Prop := match fRev.itemsL x μ, k with
  | some ds, .v k => (flatV k = true ∧ ds.all flatD = true) ∧ Q (.v (.int ((ds.map vOf).countP fun y => eqV y k : Nat))) μ
  | _, _ => False
def hasL (x : D) (μ : Sto) : Bool := (fRev.itemsL x μ).isSome
def aCnt (o e : AE) : AE := fun ρ μ Q X => o ρ μ (fun x μ1 => hasL x μ1 = true ∧ e ρ μ1 (fun k μ2 => cntD x μ2 k Q) X) X
/-! ### list(range(..)) -/
def rgD (a b : Int) : List D := (List.range (b - a).toNat).map fun i => D.v (.int (a + (i : Nat)))
def aLsR1 (l : AE) : AE := fun ρ μ Q X => l ρ μ (fun d μ1 => match d with | .v (.int n) => RgOk 0 n ∧ Q (.lst (rgD 0 n)) μ1 | _ => False) X
def aLsR2 (a b : AE) : AE := fun ρ μ Q X => a ρ μ (fun d μ1 => b ρ μ1 (fun c μ2 => match d, c with | .v (.int m), .v (.int n) => RgOk m n ∧ Q (.lst (rgD m n)) μ2 | _, _ => False) X) X
/-! ### {k: v}, both written -/
/-! ### isinstance(err, (C, ..)) -/
inductive ClsL : List D → List Value → Prop
  | nil : ClsL [] []
  | cons {c : V} {u : Value} {cs : List D} {us : List Value} (h : ClsV c u) (t : ClsL cs us) : ClsL (.v c :: cs) (u :: us)
theorem ClsL.vals {K : PySem.W.Frag} {θ : List Addr} {H : Hp} : ∀ {cs : List D} {us : List Value} {vs : List V}, ClsL cs us → Dens K pn θ H vs cs → Paired ClsV vs us
  | _, _, _, .nil, .nil => .nil
  | _, _, _, .cons h t, .cons d r => by
    obtain rfl := d.v_inv
    exact .cons h (ClsL.vals t r)
def fIsF (K : PySem.W.Frag) : FL := fun xs μ Q => match xs with
  | [.err D _, .tup cs] => ∃ (us : List Value) (b : Bool), ClsL cs us ∧ PySem.W.kitAny K (.ref D) us = some b ∧ PySem.W.ErrK K D ∧ Q (.v (.bl b)) μ
  | [.err D _, .v c] => ∃ (cv : Value) (b : Bool), ClsV c cv ∧ PySem.W.kitOne K (.ref D) cv = some b ∧ PySem.W.ErrK K D ∧ Q (.v (.bl b)) μ
  | _ => False
theorem c_isF {K : PySem.W.Frag} (hK : X.K = K) (hpn : ∀ r ∈ pn, r ∈ X.pn) : DCl X pn (.builtin "isinstance") (fIsF K) := by
  subst hK
  obtain ⟨r, c1, c2⟩ := (c_isE (X := X) (pn := pn) rfl hpn).ex
  refine ⟨fun xs H Q => (∃ (a D : Addr) (d : Option Addr) (oe : Obj) (fvs : List (Str × V)) (tp : Addr) (cs : List V) (us : List Value) (b : Bool), xs = [.ref a, .ref tp] ∧ (a, oe) ∈ X.pn ∧ L2N.Zn (.ref D) d oe ∧ (∃ fv, oe.data = .fields fv) ∧ XdH H d fvs ∧ SqT X.K H tp cs ∧ Paired ClsV cs us ∧ PySem.W.kitAny X.K (.ref D) us = some b ∧ PySem.W.ErrK X.K D ∧ Q (.bl b) H) ∨
    r xs H Q, CallR.or (fun pins s σ H xs us Q I r h => ?_) c1, ⟨fun w xs ds k hx QA h Q hq => ?_⟩⟩
  · obtain ⟨a, D, d, oe, fvs, tp, cs, ws, b, rfl, hp, hz, hf, hd, ht, hc, hk, hE, q⟩ := h
    cases r with
    | cons rx rr =>
      cases rr with
      | cons rt rr =>
        cases rr
        cases rx
        cases rt
        obtain ⟨hget, _⟩ := I.pin (a, oe) (List.mem_append_left _ hp)
        obtain ⟨od, J⟩ := inst_of I hget hz hf hd
        obtain ⟨its, rv, ⟨⟨cls, dd, data, sl⟩, h1, h2, n, h3⟩, _⟩ := I.tuple ht
        simp only at h2 h3
        subst h2 h3
        have e3 := ClsV.all hc rv
        subst e3
        exact PySem.W.kia_tup hE.kitA I.kIn J h1 hk (fun z => nomatch z) fun tk => ⟨.bl b, H, I.tok tk, rfl, q⟩
  · unfold fIsF at h
    split at h
    · obtain ⟨us, b, hc, hk, hE, h⟩ := h
      cases hx with
      | cons h1 h2 =>
        cases h2 with
        | cons h3 h4 =>
          cases h4
          cases h1 with
          | err hp hz hd hx hl =>
            cases h3 with
            | tup ht hs => exact .inl ⟨_, _, _, _, _, _, _, us, b, rfl, hpn _ hp, hz, hd, hx.h, ht.imp (fun z => Rd.of z.1) _root_.id, hc.vals hs, hk, hE, (hq _ _ h).same k .v⟩
    · exact .inr (c2.run w xs _ k hx QA h Q hq)
    · exact h.elim
end

/-! ### three keywords, in any order -/
def pm012 {α : Type} : List α → List α | [a, b, c] => [a, b, c] | _ => []
theorem perm_pm012 : Perm pm012 pm012 pm012 := by
  refine ⟨fun {vs us} h => ?_, fun {K pn θ H vs ds} h => ?_⟩
  · match h with
    | .nil => exact .nil
    | .cons _ .nil => exact .nil
    | .cons _ (.cons _ .nil) => exact .nil
    | .cons a (.cons b (.cons c .nil)) => exact .cons a (.cons b (.cons c .nil))
    | (.cons _ (.cons _ (.cons _ (.cons _ _)))) => exact .nil
  · match h with
    | .nil => exact .nil
    | .cons _ .nil => exact .nil
    | .cons _ (.cons _ .nil) => exact .nil
    | .cons a (.cons b (.cons c .nil)) => exact .cons a (.cons b (.cons c .nil))
    | (.cons _ (.cons _ (.cons _ (.cons _ _)))) => exact .nil
def pm021 {α : Type} : List α → List α | [a, b, c] => [a, c, b] | _ => []
def pm102 {α : Type} : List α → List α | [a, b, c] => [b, a, c] | _ => []
def pm120 {α : Type} : List α → List α | [a, b, c] => [b, c, a] | _ => []
theorem perm_pm120 : Perm pm120 pm120 pm120 := by
  refine ⟨fun {vs us} h => ?_, fun {K pn θ H vs ds} h => ?_⟩
  · match h with
    | .nil => exact .nil
    | .cons _ .nil => exact .nil
    | .cons _ (.cons _ .nil) => exact .nil
    | .cons a (.cons b (.cons c .nil)) => exact .cons b (.cons c (.cons a .nil))
    | (.cons _ (.cons _ (.cons _ (.cons _ _)))) => exact .nil
  · match h with
    | .nil => exact .nil
    | .cons _ .nil => exact .nil
    | .cons _ (.cons _ .nil) => exact .nil
    | .cons a (.cons b (.cons c .nil)) => exact .cons b (.cons c (.cons a .nil))
    | (.cons _ (.cons _ (.cons _ (.cons _ _)))) => exact .nil
def pm201 {α : Type} : List α → List α | [a, b, c] => [c, a, b] | _ => []
theorem perm_pm201 : Perm pm201 pm201 pm201 := by
  refine ⟨fun {vs us} h => ?_, fun {K pn θ H vs ds} h => ?_⟩
  · match h with
    | .nil => exact .nil
    | .cons _ .nil => exact .nil
    | .cons _ (.cons _ .nil) => exact .nil
    | .cons a (.cons b (.cons c .nil)) => exact .cons c (.cons a (.cons b .nil))
    | (.cons _ (.cons _ (.cons _ (.cons _ _)))) => exact .nil
  · match h with
    | .nil => exact .nil
    | .cons _ .nil => exact .nil
    | .cons _ (.cons _ .nil) => exact .nil
    | .cons a (.cons b (.cons c .nil)) => exact .cons c (.cons a (.cons b .nil))
    | (.cons _ (.cons _ (.cons _ (.cons _ _)))) => exact .nil
def pm210 {α : Type} : List α → List α | [a, b, c] => [c, b, a] | _ => []
end DK
set_option Elab.async false
set_option linter.all false
set_option maxRecDepth 100000
set_option maxHeartbeats 4000000
/-! items by a number that is not written, the last item -/
namespace DK
open PySem PySem.Spec PyProof.Rows L2 L2H
def fIxV : F2 := fun x y μ Q => match itemsOf x μ, y with
  | some ds, .v (.int i) => ∃ d, atI ds i = some d ∧ Q d μ
  | _, _ => False
section
variable {X : Cx} {pn : List (Addr × Obj)} {W : WX} {K : PySem.W.Frag} {e1 e2 : Expr} {a b : AE} {pos : Pos}
theorem sr_ixV : SR K pn (fun x y H Q => rIxL K x y H Q ∨ rIxT K x y H Q) fIxV := ⟨fun w x y dx dy k hx hy QA h Q hq => by
  unfold fIxV at h
  split at h
  · rename_i ds i e
    obtain rfl := hy.v_inv
    obtain ⟨d, ed, h⟩ := h
    obtain ⟨p, vs, rfl, hsq, hs⟩ := items_sq k hx e
    obtain ⟨z, ez, dz⟩ := hs.at ed
    rcases hsq with hsq | hsq
    · exact .inl ⟨p, vs, i, z, rfl, rfl, hsq, ez, (hq _ _ h).same k dz⟩
    · exact .inr ⟨p, vs, i, z, rfl, rfl, hsq, ez, (hq _ _ h).same k dz⟩
  · exact h.elim⟩
theorem d_ixV (ha : DE X pn W e1 a) (hb : DE X pn W e2 b) (hs : PlainIx e2 := by exact fun _ _ => rfl) : DE X pn W (.Subscript e1 e2 pos) (aBin fIxV a b) := by
  obtain ⟨ta, a1, a2⟩ := ha.ex
  obtain ⟨tb, b1, b2⟩ := hb.ex
  exact ⟨_, pe_ix (ix_list.or ix_tup) a1 b1 hs, se_bin sr_ixV a2 b2⟩
end
theorem atI_nat {α : Type} {xs : List α} {i : Int} {d : α} (h0 : 0 ≤ i) (h : xs[i.toNat]? = some d) : atI xs i = some d := by
  have hl := (List.getElem?_eq_some_iff.mp h).1
  unfold atI ixN
  rw [if_pos h0, if_pos (by omega)]
  exact h
end DK
set_option Elab.async false
set_option linter.all false
set_option maxRecDepth 100000
set_option maxHeartbeats 4000000
/-! comprehensions whose list stays a cell; ranges with a step; walks over a cell; isinstance of a cell -/
namespace DK
open PySem PySem.Spec PyProof.Rows L2 L2H

/-! ### comprehensions, the list a cell -/
def aTurnV (i j : Nat) (t : AT) (e : AE) (ρ : Rho) (m : Sto) (x : D) (N : Sto → Prop) : Prop :=
  t (ρ.set i (some x)) m (fun b m1 => bIf b (e (ρ.set i (some x)) m1 (fun d m2 => noErr d = true ∧ appIt (.loc j) d m2 N) (fun _ _ => False)) (N m1)) (fun _ _ => False)
def aLcV (src : ASrc) (i : Nat) (t : AT) (e : AE) : AE := fun ρ μ Q X => src ρ μ (fun xs μ1 => xs.length ≤ 500000 ∧ ∃ I : Nat → Sto → Prop, I 0 (μ1 ++ [.lst []]) ∧ (∀ n x m, xs[n]? = some x → I n m → aTurnV i μ1.length t e (wipeD ρ i) m x (I (n + 1))) ∧ ∀ m, I xs.length m → Q (.loc μ1.length) m) X
def LcV (K : PySem.W.Frag) (w : Wd) (p : Addr) (I : Nat → Sto → Prop) (n : Nat) (H : Hp) : Prop :=
  ∃ w' : Wd, w'.H = H ∧ WLe w w' ∧ Ok K w' ∧ w'.θ[w.μ.length]? = some p ∧ I n w'.μ
section
variable {K : PySem.W.Frag} {pn : List (Addr × Obj)} {W : WX} {tl : TA} {l : AA} {tt : TT} {t : AT} {te tx : TE} {e x : AE} {i : Nat}
theorem lcV_turn {w : Wd} {σ : L2.St} {ρ : Rho} {p : Addr} {I : Nat → Sto → Prop} {n : Nat} {H : Hp} {xv : V} {xd : D} (er : EnvR K pn w σ ρ) (ht : ST K pn w0 tt t) (he : SE K pn w0 te e)
    (q : LcV K w p I n H) (hx : ∀ w', WLe w w' → Den K pn w'.θ w'.H xv xd) (hs : ∀ m, I n m → aTurnV i w.μ.length t e (wipeD ρ i) m xd (I (n + 1))) :
    gName i xv (wipe σ [i]) H fun σ2 H2 => wipe σ2 [i] = wipe σ [i] ∧ tt σ2 H2 fun b H3 => if b = true then te σ2 H3 fun y H4 => ∃ acc, H4 p = some (.lst acc) ∧ acc.length < sizeLine ∧ LcV K w p I (n + 1) (upd H4 p (.lst (acc ++ [y]))) else LcV K w p I (n + 1) H3 := by
  obtain ⟨w1, rfl, l1, k1, hp1, hI⟩ := q
  refine ⟨wipe_set, ?_⟩
  have h := hs w1.μ hI
  have e1 : EnvR K pn w1 ((wipe σ [i]).set i (some xv)) ((wipeD ρ i).set i (some xd)) := ((er.mono l1).wipe (i := i)).set (hx w1 l1)
  unfold aTurnV at h
  refine ht.run w1 _ _ k1 e1 _ _ h _ (fun b μ' hb w2 em l2 k2 => ?_) fun _ _ z => z.elim
  subst em
  cases b with
  | false => exact ⟨w2, rfl, l1.trans l2, k2, l2.get hp1, hb.2 rfl⟩
  | true =>
    have hb' := hb.1 rfl
    refine he.run w2 _ _ k2 (e1.mono l2) _ _ hb' _ (fun d μ' hd y w3 em3 l3 k3 dn => ?_) fun _ _ z => z.elim
    subst em3
    obtain ⟨hd1, hd⟩ := hd
    have hj3 := l3.get (l2.get hp1)
    have hd : (match w3.μ[w.μ.length]? with | some (.lst ds) => ds.length ≤ 1000000 ∧ I (n + 1) (w3.μ.set w.μ.length (.lst (ds ++ [d]))) | _ => False) := hd
    split at hd
    · rename_i ds hm3
      obtain ⟨us, hu, hus⟩ := k3.cell _ _ _ hj3 hm3
      obtain ⟨l4, k4⟩ := k3.writeL hj3 (hus.append (.cons (dn.un hd1) .nil))
      refine ⟨us, hu, ?_, ?_⟩
      · rw [hus.len]
        exact Nat.lt_of_le_of_lt hd.1 (by decide)
      · exact ⟨⟨w3.θ, upd w3.H p (.lst (us ++ [y])), w3.μ.set w.μ.length (.lst (ds ++ [d]))⟩, rfl, ((l1.trans l2).trans l3).trans l4, k4, hj3, hd.2⟩
    · exact hd.elim
theorem lc_rangeC {lo c : Int} {n : Nat} {g : TG} {tt : TT} {te : TE} {vs : List Nat} {σ : L2.St} {H1 : Hp} {D : Addr} {Qd : Hp → Prop} (Pv : Nat → Hp → Prop) (h0 : Pv 0 (upd H1 D (.lst [])))
    (hs : ∀ i H, i < n → Pv i H → g (.int (lo + (i : Nat) * c)) (wipe σ vs) H fun σ2 H2 => wipe σ2 vs = wipe σ vs ∧ tt σ2 H2 fun b H3 =>
      if b = true then te σ2 H3 fun y H4 => ∃ acc, H4 D = some (.lst acc) ∧ acc.length < sizeLine ∧ Pv (i + 1) (upd H4 D (.lst (acc ++ [y]))) else Pv (i + 1) H3) (hd : ∀ H, Pv n H → Qd H) :
    ∃ W : Nat → Nat → Hp → Prop, (∃ m, W 0 m (upd H1 D (.lst []))) ∧ ∀ i m H, W i m H →
      ((Itc lo c n).stop i H ∧ Qd H) ∨ ((Itc lo c n).go i H ∧ ∃ Nx : Hp → Prop, (∀ H', Nx H' → ∃ m', m' < m ∧ W (i + 1) m' H') ∧ ∀ x H', (Itc lo c n).yld i H x H' → g x (wipe σ vs) H' fun σ2 H2 => wipe σ2 vs = wipe σ vs ∧ tt σ2 H2 fun b H3 =>
        if b = true then te σ2 H3 fun y H4 => ∃ acc, H4 D = some (.lst acc) ∧ acc.length < sizeLine ∧ Nx (upd H4 D (.lst (acc ++ [y]))) else Nx H3) := by
  refine ⟨fun i m H => m = n - i ∧ i ≤ n ∧ Pv i H, ⟨n, by simp, Nat.zero_le _, h0⟩, ?_⟩
  rintro i m H ⟨rfl, hi, p⟩
  by_cases hlt : i < n
  · refine .inr ⟨hlt, Pv (i + 1), fun H' p' => ⟨n - (i + 1), by omega, rfl, hlt, p'⟩, fun x H' y => ?_⟩
    obtain ⟨e, y⟩ := y
    subst e y
    exact hs i _ hlt p
  · have e : i = n := by omega
    subst e
    exact .inl ⟨Nat.le_refl _, hd H p⟩
/-- range(a, b, c), n items -/
def rR3 (l : AA) : ASrc := fun ρ μ Q X => l ρ μ (fun ds μ1 => match ds with
  | [.v (.int a), .v (.int b), .v (.int c)] => ∃ n : Nat, RgC a b c n ∧ Q ((List.range n).map fun (k : Nat) => .v (.int (a + (k : Int) * c))) μ1
  | _ => False) X
theorem se_lcR3 (hl : SA K pn W tl l) (ht : ST K pn w0 tt t) (he : SE K pn w0 te e) : SE K pn W (tLc (iRng3 tl) (gName i) tt te [i]) (aLcW (rR3 l) i t e) := ⟨fun w σ ρ k er QA XA h Q hq hx =>
  hl.run w σ ρ k er _ XA h _ (fun ds μ1 h1 vs w1 em l1 k1 dn => by
    subst em
    split at h1
    · rename_i a b c
      cases dn with
      | cons d1 d2 =>
        cases d2 with
        | cons d2 d3 =>
          cases d3 with
          | cons d3 d4 =>
            cases d4
            obtain rfl := d1.v_inv
            obtain rfl := d2.v_inv
            obtain rfl := d3.v_inv
            obtain ⟨n, hr, ⟨hlen, hcb⟩, I, i0, hs, hn⟩ := h1
            rw [List.length_map, List.length_range] at hlen hn
            refine ⟨a, b, c, n, rfl, hr, fun p hp => lc_rangeC (LcW K pn w1 p I) (lcW_start k1 hp hcb i0) (fun j H hj q => ?_) (fun H q => lcW_end k1 hp q hn fun d μ' z => (hq d μ' z).mono l1)⟩
            exact lcW_turn k1.len (er.mono l1) ht he (Nat.lt_of_lt_of_le hj hlen) q (fun _ _ => .v) (fun acc m2 e2 z => hs j acc _ m2 (by rw [List.getElem?_map, List.getElem?_range hj]; rfl) e2 z)
    · exact h1.elim) hx⟩
/-! ### for x in a cell of plain values that stays -/
/-- the turns of a walk over a cell's items -/
def loopC (k : Nat) (ds : List D) (i : Nat) (b : AS) : AS := fun A ρ μ => ∃ I : Nat → Rho → Sto → Prop, I 0 ρ μ ∧ (∀ n ρ' μ', I n ρ' μ' → μ'[k]? = some (.lst ds)) ∧
    (∀ n ρ' μ' d, ds[n]? = some d → I n ρ' μ' → b { A with nx := I (n + 1), ct := I (n + 1), bk := A.nx } (ρ'.set i (some d)) μ') ∧ ∀ ρ' μ', I ds.length ρ' μ' → A.nx ρ' μ'
def sForC (e : AE) (i : Nat) (b : AS) : AS := fun A ρ μ => e ρ μ (fun d μ1 => match d with
  | .loc k => ∃ ds, (ds.all flatD = true) ∧ loopC k ds i b A ρ μ1
  | _ => False) (fun x μ1 => A.er x ρ μ1)
/-! ### for x in range(a, b, c) -/
def sForR3 (l : AA) (i : Nat) (b : AS) : AS := fun A ρ μ => l ρ μ (fun ds μ1 => match ds with
  | [.v (.int lo), .v (.int hi), .v (.int c)] => ∃ n : Nat, RgC lo hi c n ∧ ∃ I : Nat → Rho → Sto → Prop, I 0 ρ μ1 ∧
      (∀ (k : Nat) ρ' μ', k < n → I k ρ' μ' → b { A with nx := I (k + 1), ct := I (k + 1), bk := A.nx } (ρ'.set i (some (.v (.int (lo + (k : Int) * c))))) μ') ∧ ∀ ρ' μ', I n ρ' μ' → A.nx ρ' μ'
  | _ => False) (fun x μ1 => A.er x ρ μ1)
end
/-! ### isinstance of a cell -/
def tyM (μ : Sto) (d : D) : Option String := match d with
  | .loc k => (match μ[k]? with | some (.lst _) => some "list" | some (.ins _ _) => some "own" | _ => none)
  | d => tyD d
def fIsiM : FL := fun xs μ Q => match xs with
  | [x, .v (.ty T)] => (match tyM μ x with | some t => (T = "int" ∨ T = "bool" ∨ T = "str" ∨ T = "list" ∨ T = "tuple") ∧ Q (.v (.bl (subT t T))) μ | none => False)
  | [x, .tup [.v (.ty T), .v (.ty U)]] => (match tyM μ x with | some t => (T = "list" ∧ U = "tuple") ∧ Q (.v (.bl (subT t T || subT t U))) μ | none => False)
  | _ => False
section
variable {K : PySem.W.Frag} {pn : List (Addr × Obj)} {X : Cx}
theorem ty_denM {w : Wd} (k : Ok K w) {x : V} {d : D} {t : String} (h : Den K pn w.θ w.H x d) (e : tyM w.μ d = some t) : ∃ c, TyX K w.H x c ∧ Kit K t c := by
  cases d with
  | loc j =>
    have e : (match w.μ[j]? with | some (.lst _) => some "list" | some (.ins _ _) => some "own" | _ => none) = some t := e
    split at e
    · rename_i ds em
      cases e
      cases h with
      | loc hp =>
        obtain ⟨vs, a, b⟩ := k.cell _ _ _ hp em
        exact ⟨_, .base (.lst a), .ty (by simp)⟩
    · rename_i C fs em
      cases e
      cases h with
      | loc hp =>
        obtain ⟨dx, vs, a, b⟩ := k.cell _ _ _ hp em
        exact ⟨_, b.ck.tyof a, .own b.ck⟩
    · cases e
  | v y => exact ty_den h e
  | lst y => exact ty_den h e
  | tup y => exact ty_den h e
  | rl y => exact ty_den h e
  | err y z => exact ty_den h e
  | dic y => exact ty_den h e
  | ins a b c => exact ty_den h e
theorem c_isiM : DCl X pn (.builtin "isinstance") fIsiM := ⟨_, CallR.or call_isi (CallR.or call_isiT call_isiK), ⟨fun w xs ds k hx QA h Q hq => by
  unfold fIsiM at h
  split at h
  · split at h
    · rename_i t et
      cases hx with
      | cons h1 h2 =>
        cases h2 with
        | cons h3 h4 =>
          cases h4
          obtain rfl := h3.v_inv
          obtain ⟨c, a, b⟩ := ty_denM k h1 et
          exact .inl ⟨_, _, _, _, _, rfl, .ty _, a, b.one _ h.1, (hq _ _ h.2).same k .v⟩
    · exact h.elim
  · split at h
    · rename_i t et
      cases hx with
      | cons h1 h2 =>
        cases h2 with
        | cons h3 h4 =>
          cases h4
          obtain ⟨c, a, b⟩ := ty_denM k h1 et
          obtain ⟨⟨rfl, rfl⟩, h5⟩ := h
          cases h3 with
          | tup ht hs =>
            cases hs with
            | cons t1 t2 =>
              cases t2 with
              | cons t3 t4 =>
                cases t4
                obtain rfl := t1.v_inv
                obtain rfl := t3.v_inv
                rcases ht with ⟨ht, n⟩ | ⟨o, its, n, h1, h2, h3, h4, h6⟩
                · exact .inr (.inl ⟨_, _, _, _, _, _, rfl, ht, .cons (.ty _) (.cons (.ty _) .nil), a, b.lt, (hq _ _ h5).same k .v⟩)
                · have e : its.toList = [.type "list", .type "tuple"] := ClsV.all (.cons (.ty _) (.cons (.ty _) .nil)) h6
                  obtain ⟨oc, od, dt, sl⟩ := o
                  simp only at h2 h3
                  subst h2 h3
                  refine .inr (.inr ⟨_, _, od, its.toList, n, sl, _, _, rfl, by simpa using h1, a, ?_, (hq _ _ h5).same k .v⟩)
                  rw [e]
                  exact b.lt
    · exact h.elim
  · exact h.elim⟩⟩
end
/-! with the syntax -/
section
variable {X : Cx} {pn : List (Addr × Obj)} {W : WX} {k : Nat} {e e' e'' elt : Expr} {ifs : List Expr} {body : List Stmt} {scope : Scope} {l : AA} {t : AT} {a x : AE} {b : AS} {pos p p1 p2 p3 : Pos} {y : Str}
end
end DK
set_option Elab.async false
set_option linter.all false
set_option maxRecDepth 100000
set_option maxHeartbeats 4000000
/-! name = [comprehension] -/
namespace DK
open PySem PySem.Spec PyProof.Rows L2 L2H
section
variable {X : Cx} {pn : List (Addr × Obj)} {W : WX} {k : Nat} {e e' e'' elt : Expr} {ifs : List Expr} {scope : Scope} {l : AA} {t : AT} {a x : AE} {pos spos py p1 p2 p3 : Pos} {y z : Str}
theorem d_slcR1 (j : Nat) (i : Nat) (B : Bd X W k) (hm : X.mg "range" = none) (hl : DA X pn W [e] l) (ht : ∀ s H C cl fp, DTs (nblk X scope s H C cl fp) pn w0 ifs t) (he : ∀ s H C cl fp, Bd (nblk X scope s H C cl fp) w0 k → DE (nblk X scope s H C cl fp) pn w0 elt a)
    (hok : blkC X.N X.env.scope scope [(y, i)] = true) (hpg : ∀ s H C cl fp, PG (nblk X scope s H C cl fp) (.Name y p3) (gName i)) (hg : Gl X "range" := by rfl) (hs : starEach [e] X.env = [(false, eval e X.env)] := by rfl)
    (hy : X.N[j]? = some z := by rfl) (hyl : X.env.scope.names.lookup z = some .local := by rfl) (hk : X.env.scope.kind = .function := by rfl) (hln : (py.line == pos.line) = true := by rfl) (hna : (scope.names.any fun (n, k) => n == z && (k == .local || k == .cell)) = false := by decide +kernel) :
    DS X pn W (.Assign [.Name z py] (.ListComp elt [⟨.Name y p3, .Call (.Name "range" p1) [e] [] p2, ifs, 0⟩] scope pos) spos) (sSet j (aLc (rR1 l) i t a)) := by
  obtain ⟨te, tt, e1, e2, e3, e4⟩ := lc_parts (X := X) (nblk X scope) (fun _ _ _ _ _ => rfl) (fun s H C cl fp => he s H C cl fp (B.blk ..)) ht
  obtain ⟨tl, l1, l2⟩ := hl.ex
  exact ⟨_, ps_setLc (own := [(y, i)]) B.calm B.nd hy hyl (sw_true hk hyl hln hna) (pi_range1 hg hm l1 hs) (blkOk_by hok) hpg e2 e1, ss_set (se_lcR1 l2 e4 e3)⟩
theorem d_slcL (j : Nat) (i : Nat) (B : Bd X W k) (hx : DE X pn W e x) (ht : ∀ s H C cl fp, DTs (nblk X scope s H C cl fp) pn w0 ifs t) (he : ∀ s H C cl fp, Bd (nblk X scope s H C cl fp) w0 k → DE (nblk X scope s H C cl fp) pn w0 elt a)
    (hok : blkC X.N X.env.scope scope [(y, i)] = true) (hpg : ∀ s H C cl fp, PG (nblk X scope s H C cl fp) (.Name y p3) (gName i)) (hfs : ∀ v : Value, foldedSetIterable e X.env v = pure v := by intro _; rfl)
    (hy : X.N[j]? = some z := by rfl) (hyl : X.env.scope.names.lookup z = some .local := by rfl) (hk : X.env.scope.kind = .function := by rfl) (hln : (py.line == pos.line) = true := by rfl) (hna : (scope.names.any fun (n, k) => n == z && (k == .local || k == .cell)) = false := by decide +kernel) :
    DS X pn W (.Assign [.Name z py] (.ListComp elt [⟨.Name y p3, e, ifs, 0⟩] scope pos) spos) (sSet j (aLc (rL x) i t a)) := by
  obtain ⟨te, tt, e1, e2, e3, e4⟩ := lc_parts (X := X) (nblk X scope) (fun _ _ _ _ _ => rfl) (fun s H C cl fp => he s H C cl fp (B.blk ..)) ht
  obtain ⟨tx, x1, x2⟩ := hx.ex
  exact ⟨_, ps_setLc (own := [(y, i)]) B.calm B.nd hy hyl (sw_true hk hyl hln hna) (pi_list x1) (blkOk_by hok) hpg e2 e1 hfs, ss_set (se_lcL x2 e4 e3)⟩
theorem d_slcR1W (j : Nat) (i : Nat) (B : Bd X W k) (hm : X.mg "range" = none) (hl : DA X pn W [e] l) (ht : ∀ s H C cl fp, DTs (nblk X scope s H C cl fp) pn w0 ifs t) (he : ∀ s H C cl fp, Bd (nblk X scope s H C cl fp) w0 k → DE (nblk X scope s H C cl fp) pn w0 elt a)
    (hok : blkC X.N X.env.scope scope [(y, i)] = true) (hpg : ∀ s H C cl fp, PG (nblk X scope s H C cl fp) (.Name y p3) (gName i)) (hg : Gl X "range" := by rfl) (hs : starEach [e] X.env = [(false, eval e X.env)] := by rfl)
    (hy : X.N[j]? = some z := by rfl) (hyl : X.env.scope.names.lookup z = some .local := by rfl) (hk : X.env.scope.kind = .function := by rfl) (hln : (py.line == pos.line) = true := by rfl) (hna : (scope.names.any fun (n, k) => n == z && (k == .local || k == .cell)) = false := by decide +kernel) :
    DS X pn W (.Assign [.Name z py] (.ListComp elt [⟨.Name y p3, .Call (.Name "range" p1) [e] [] p2, ifs, 0⟩] scope pos) spos) (sSet j (aLcW (rR1 l) i t a)) := by
  obtain ⟨te, tt, e1, e2, e3, e4⟩ := lc_parts (X := X) (nblk X scope) (fun _ _ _ _ _ => rfl) (fun s H C cl fp => he s H C cl fp (B.blk ..)) ht
  obtain ⟨tl, l1, l2⟩ := hl.ex
  exact ⟨_, ps_setLc (own := [(y, i)]) B.calm B.nd hy hyl (sw_true hk hyl hln hna) (pi_range1 hg hm l1 hs) (blkOk_by hok) hpg e2 e1, ss_set (seW_lcR1 l2 e4 e3)⟩
theorem d_slcR3W (j : Nat) (i : Nat) (B : Bd X W k) (hm : X.mg "range" = none) (hl : DA X pn W [e, e', e''] l) (ht : ∀ s H C cl fp, DTs (nblk X scope s H C cl fp) pn w0 ifs t) (he : ∀ s H C cl fp, Bd (nblk X scope s H C cl fp) w0 k → DE (nblk X scope s H C cl fp) pn w0 elt a)
    (hok : blkC X.N X.env.scope scope [(y, i)] = true) (hpg : ∀ s H C cl fp, PG (nblk X scope s H C cl fp) (.Name y p3) (gName i)) (hg : Gl X "range" := by rfl) (hs : starEach [e, e', e''] X.env = (false, eval e X.env) :: starEach [e', e''] X.env := by rfl) (hpl : (backTo p2 (starEach [e', e''] X.env)).any (·.1) = false := by rfl)
    (hy : X.N[j]? = some z := by rfl) (hyl : X.env.scope.names.lookup z = some .local := by rfl) (hk : X.env.scope.kind = .function := by rfl) (hln : (py.line == pos.line) = true := by rfl) (hna : (scope.names.any fun (n, k) => n == z && (k == .local || k == .cell)) = false := by decide +kernel) :
    DS X pn W (.Assign [.Name z py] (.ListComp elt [⟨.Name y p3, .Call (.Name "range" p1) [e, e', e''] [] p2, ifs, 0⟩] scope pos) spos) (sSet j (aLcW (rR3 l) i t a)) := by
  obtain ⟨te, tt, e1, e2, e3, e4⟩ := lc_parts (X := X) (nblk X scope) (fun _ _ _ _ _ => rfl) (fun s H C cl fp => he s H C cl fp (B.blk ..)) ht
  obtain ⟨tl, l1, l2⟩ := hl.ex
  exact ⟨_, ps_setLc (own := [(y, i)]) B.calm B.nd hy hyl (sw_true hk hyl hln hna) (pi_range3 hg hm l1 hs hpl) (blkOk_by hok) hpg e2 e1, ss_set (se_lcR3 l2 e4 e3)⟩
end
end DK
set_option Elab.async false
set_option linter.all false
set_option maxRecDepth 100000
set_option maxHeartbeats 4000000
/-! == and != of lists and tuples; sorted and sum of ints -/
namespace DK
open PySem PySem.Spec PyProof.Rows L2 L2H

/-! ### == of any data -/
mutual
def pyO : D → Option PyData
  | .v .non => some .none
  | .v (.bl b) => some (.bool b)
  | .v (.int i) => some (.int i)
  | .v (.str s) => some (.str s)
  | .lst ds => (pyOs ds).map .list
  | .rl ds => (pyOs ds).map .list
  | .tup ds => (pyOs ds).map .tuple
  | _ => none
def pyOs : List D → Option (List PyData)
  | [] => some []
  | d :: ds => match pyO d, pyOs ds with | some x, some xs => some (x :: xs) | _, _ => none
end
def pyT (x : D) (μ : Sto) : Option PyData := match x with
  | .loc k => match μ[k]? with | some (.lst ds) => (pyOs ds).map .list | _ => none
  | _ => pyO x
def fEqU (neg : Bool) : F2 := fun x y μ Q => match x, y with
  | .v a, .v b => scal a b = true ∧ Q (.v (.bl (if neg then !decide (a = b) else decide (a = b)))) μ
  | _, _ => ∃ d e, pyT x μ = some d ∧ pyT y μ = some e ∧ SeqAt.shaped d = true ∧ SeqAt.shaped e = true ∧ Q (.v (.bl (if neg then !PyData.eqv d e else PyData.eqv d e))) μ
section
variable {K : PySem.W.Frag} {pn : List (Addr × Obj)} {θ : List Addr} {H : Hp}
mutual
theorem pyO_dp : ∀ (d : D) {x : V} {e : PyData}, Den K pn θ H x d → pyO d = some e → Dp K H x e
  | .v y, x, e, h, q => by
    obtain rfl := h.v_inv
    cases x <;> simp only [pyO, Option.some.injEq, reduceCtorEq] at q <;> subst q
    · exact .non
    · exact .bl _
    · exact .int _
    · exact .str _
  | .lst ds, x, e, h, q => by
    cases h with
    | lst h n hs =>
      simp only [pyO, Option.map_eq_some_iff] at q
      obtain ⟨es, q, rfl⟩ := q
      exact .lst (.inl (.inl h)) (pyOs_dp ds hs q)
  | .rl ds, x, e, h, q => by
    cases h with
    | rl h hs =>
      simp only [pyO, Option.map_eq_some_iff] at q
      obtain ⟨es, q, rfl⟩ := q
      exact .lst (h.imp (·.1) id) (pyOs_dp ds hs q)
  | .tup ds, x, e, h, q => by
    cases h with
    | tup h hs =>
      simp only [pyO, Option.map_eq_some_iff] at q
      obtain ⟨es, q, rfl⟩ := q
      exact .tup (h.imp (fun z => Rd.of z.1) id) (pyOs_dp ds hs q)
  | .loc _, _, _, _, q => by simp [pyO] at q
  | .err _ _, _, _, _, q => by simp [pyO] at q
  | .dic _, _, _, _, q => by simp [pyO] at q
  | .ins _ _ _, _, _, _, q => by simp [pyO] at q
theorem pyOs_dp : ∀ (ds : List D) {xs : List V} {es : List PyData}, Dens K pn θ H xs ds → pyOs ds = some es → DpAll K H xs es
  | [], _, _, h, q => by
    cases h
    simp only [pyOs, Option.some.injEq] at q
    subst q
    exact .nil
  | d :: ds, _, _, h, q => by
    cases h with
    | cons h1 h2 =>
      unfold pyOs at q
      split at q
      · rename_i x xs e1 e2
        cases q
        exact .cons (pyO_dp d h1 e1) (pyOs_dp ds h2 e2)
      · cases q
end
theorem pyT_dp {w : Wd} {x : V} {d : D} {e : PyData} (k : Ok K w) (h : Den K pn w.θ w.H x d) (q : pyT d w.μ = some e) : Dp K w.H x e := by
  unfold pyT at q
  split at q
  · split at q
    · rename_i em
      simp only [Option.map_eq_some_iff] at q
      obtain ⟨es, q, rfl⟩ := q
      cases h with
      | loc hp =>
        obtain ⟨vs, a, b⟩ := k.cell _ _ _ hp em
        exact .lst (.inl (.inl a)) (pyOs_dp _ b q)
    · cases q
  · exact pyO_dp _ h q
end
section
variable {X : Cx} {pn : List (Addr × Obj)} {W : WX} {k : Nat}
theorem o_eqU (B : Bd X W k) : DOp X pn (compareOp .Eq) (fEqU false) := by
  refine ⟨_, OpR.or op_eq (op_eqD B.room.units), ⟨fun w x y dx dy k hx hy QA h Q hq => ?_⟩⟩
  unfold fEqU at h
  split at h
  · obtain rfl := hx.v_inv
    obtain rfl := hy.v_inv
    exact .inl ⟨h.1, (hq _ _ h.2).same k .v⟩
  · obtain ⟨d, e, h1, h2, h3, h4, h5⟩ := h
    exact .inr ⟨d, e, pyT_dp k hx h1, pyT_dp k hy h2, h3, h4, (hq _ _ h5).same k .v⟩
end
/-! lists of ints -/
theorem pyOs_ints : ∀ xs : List Int, pyOs (xs.map fun z => D.v (.int z)) = some (xs.map .int)
  | [] => rfl
  | x :: xs => by
    rw [List.map_cons]
    unfold pyOs
    rw [pyOs_ints xs]
    rfl
theorem eqv_ints : ∀ xs ys : List Int, PyData.eqvAll (xs.map .int) (ys.map .int) = decide (xs = ys)
  | [], [] => rfl
  | [], y :: ys => by simp [PyData.eqvAll]
  | x :: xs, [] => by simp [PyData.eqvAll]
  | x :: xs, y :: ys => by
    rw [List.map_cons, List.map_cons]
    unfold PyData.eqvAll
    rw [eqv_ints xs ys]
    unfold PyData.eqv
    by_cases h : x = y
    · subst h
      by_cases g : xs = ys
      · simp [g]
      · simp [g]
    · simp [h]
theorem lay_ints : ∀ xs : List Int, PyData.canLayAll0 (xs.map .int) = true
  | [] => rfl
  | x :: xs => by
    rw [List.map_cons]
    unfold PyData.canLayAll0
    rw [lay_ints xs]
    rfl
theorem dep_ints : ∀ xs : List Int, PyData.depthAll (xs.map .int) = 0
  | [] => rfl
  | x :: xs => by
    rw [List.map_cons]
    unfold PyData.depthAll
    rw [dep_ints xs]
    rfl
theorem shaped_ints (xs : List Int) : SeqAt.shaped (.list (xs.map .int)) = true := by
  unfold SeqAt.shaped
  rw [show PyData.canLay0 (.list (xs.map .int)) = PyData.canLayAll0 (xs.map .int) by unfold PyData.canLay0; rfl, lay_ints, show PyData.depth (.list (xs.map .int)) = PyData.depthAll (xs.map .int) + 1 by unfold PyData.depth; rfl, dep_ints]
  rfl
theorem eqU_ints {neg : Bool} {a b : List Int} {μ : Sto} {Q : QD} (h : Q (.v (.bl (if neg then !decide (a = b) else decide (a = b)))) μ) : fEqU neg (.lst (a.map fun z => .v (.int z))) (.lst (b.map fun z => .v (.int z))) μ Q := by
  refine ⟨.list (a.map .int), .list (b.map .int), ?_, ?_, shaped_ints a, shaped_ints b, ?_⟩
  · show (pyOs _).map _ = _
    rw [pyOs_ints]
    rfl
  · show (pyOs _).map _ = _
    rw [pyOs_ints]
    rfl
  · rw [show PyData.eqv (.list (a.map .int)) (.list (b.map .int)) = PyData.eqvAll (a.map .int) (b.map .int) by unfold PyData.eqv; rfl, eqv_ints]
    exact h
theorem eqU_int0 {a b : List Int} {μ : Sto} {Q : QD} (h : Q (.v (.bl (decide (a = b)))) μ) : fEqU false (.lst (a.map fun z => .v (.int z))) (.lst (b.map fun z => .v (.int z))) μ Q := eqU_ints h
/-! ### sorted, sum -/
def fSorted : FL := fun xs μ Q => match xs with
  | [x] => ∃ ns : List Int, fRev.itemsL x μ = some (ns.map fun z => .v (.int z)) ∧ ∀ ns' : List Int, ns'.Perm ns → ns'.Pairwise (· ≤ ·) → Q (.lst (ns'.map fun z => .v (.int z))) μ
  | _ => False
def fSum : FL := fun xs μ Q => match xs with
  | [x] => ∃ ns : List Int, fRev.itemsL x μ = some (ns.map fun z => .v (.int z)) ∧ Q (.v (.int ns.sum)) μ
  | _ => False
section
variable {K : PySem.W.Frag} {pn : List (Addr × Obj)} {θ : List Addr} {H : Hp} {X : Cx}
end
end DK
set_option Elab.async false
set_option linter.all false
set_option maxRecDepth 100000
set_option maxHeartbeats 4000000
/-! walks over enumerate(items); a new list let go as plain data -/
namespace DK
open PySem PySem.Spec PyProof.Rows L2 L2H

/-! ### what is walked: a list that stays -/
def staysD (d : D) (ds : List D) (μ : Sto) : Prop := match d with
  | .lst es => es = ds
  | .rl es => es = ds
  | .loc k => ds.all flatD = true ∧ μ[k]? = some (.lst ds)
  | _ => False
section
variable {K : PySem.W.Frag} {pn : List (Addr × Obj)} {W : WX} {tl : TA} {l : AA} {tt : TT} {t : AT} {te tx : TE} {e x : AE} {i j : Nat} {tb : TS} {b : AS}
/-- for i, j in enumerate(items) -/
def loopE (d : D) (ds : List D) (i j : Nat) (b : AS) : AS := fun A ρ μ => ∃ I : Nat → Rho → Sto → Prop, I 0 ρ μ ∧ (∀ n ρ' μ', I n ρ' μ' → staysD d ds μ') ∧
    (∀ n ρ' μ' x, ds[n]? = some x → I n ρ' μ' → b { A with nx := I (n + 1), ct := I (n + 1), bk := A.nx } ((ρ'.set i (some (.v (.int (n : Nat))))).set j (some x)) μ') ∧ ∀ ρ' μ', I ds.length ρ' μ' → A.nx ρ' μ'
def sForE (l : AA) (i j : Nat) (b : AS) : AS := fun A ρ μ => l ρ μ (fun ds0 μ1 => match ds0 with
  | [d] => ∃ ds, staysD d ds μ1 ∧ loopE d ds i j b A ρ μ1
  | _ => False) (fun x μ1 => A.er x ρ μ1)
/-! ### comprehensions over enumerate(items) -/
def aTurn2 (i j : Nat) (t : AT) (e : AE) (ρ : Rho) (acc : List D) (μ : Sto) (x y : D) (N : List D → Prop) : Prop :=
  t ((ρ.set i (some x)).set j (some y)) (μ ++ [.lst acc]) (fun b μ1 => μ1 = μ ++ [.lst acc] ∧ bIf b (e ((ρ.set i (some x)).set j (some y)) (μ ++ [.lst acc]) (fun d μ2 => μ2 = μ ++ [.lst acc] ∧ (noErr d = true ∧ lb μ.length d = true) ∧ N (acc ++ [d])) (fun _ _ => False)) (N acc)) (fun _ _ => False)
def aLcE (l : AA) (i j : Nat) (t : AT) (e : AE) : AE := fun ρ μ Q X => l ρ μ (fun ds0 μ1 => match ds0 with
  | [d] => ∃ ds, staysD d ds μ1 ∧ ds.length ≤ 500000 ∧ ∃ I : Nat → List D → Prop, I 0 [] ∧ (∀ n acc x, ds[n]? = some x → I n acc → aTurn2 i j t e (wipeD (wipeD ρ j) i) acc μ1 (.v (.int (n : Nat))) x (I (n + 1))) ∧ ∀ acc, I ds.length acc → Q (.lst acc) μ1
  | _ => False) X
end
/-! with the syntax -/
section
variable {X : Cx} {pn : List (Addr × Obj)} {W : WX} {k : Nat} {e elt : Expr} {ifs : List Expr} {body : List Stmt} {scope : Scope} {l : AA} {t : AT} {a : AE} {b : AS} {pos p p1 p2 px py pt : Pos} {x y : Str} {kt : Nat}
end

/-! ### new lists let go as plain data -/
mutual
def fz (μ : Sto) (j : Nat) : D → Option D
  | .v x => some (.v x)
  | .lst ds => match fzs μ j ds with | some es => some (.lst es) | none => none
  | .tup ds => match fzs μ j ds with | some es => some (.tup es) | none => none
  | .rl ds => match fzs μ j ds with | some es => some (.rl es) | none => none
  | .loc k => if k < j then some (.loc k) else match μ[k]? with | some (.lst ds) => if lbs j ds && noErrs ds then some (.lst ds) else none | some (.ins C fs) => if lbs j (fs.map (·.2)) && noErrs (fs.map (·.2)) then some (.ins C (fs.map (·.1)) (fs.map (·.2))) else none | _ => none
  | .err _ _ => none
  | .dic ks => some (.dic ks)
  | .ins C ns ds => match fzs μ j ds with | some es => some (.ins C ns es) | none => none
def fzs (μ : Sto) (j : Nat) : List D → Option (List D)
  | [] => some []
  | d :: ds => match fz μ j d, fzs μ j ds with | some x, some xs => some (x :: xs) | _, _ => none
end
/-- the value as it is, or with its new lists as plain data, the store cut back -/
def aFz (e : AE) : AE := fun ρ μ Q X => e ρ μ (fun d μ2 => Q d μ2 ∨ ∃ d' μc ex, fz μ2 μ.length d = some d' ∧ μ2 = μc ++ ex ∧ μc.length = μ.length ∧ (∀ c ∈ μc, lbC μ.length c = true) ∧ Q d' μc) X
section
variable {K : PySem.W.Frag} {pn : List (Addr × Obj)} {W : WX} {te : TE} {e : AE}
/-- the last cells let go -/
theorem Ok.dropN {w w' : Wd} {ex : List Addr} {xs : Sto} {m : Sto} (k : Ok K w) (k' : Ok K w') (l : WLe w w') (hθ : w'.θ = w.θ ++ ex) (hμ : w'.μ = m ++ xs) (hm : m.length = w.θ.length) (hb : ∀ c ∈ m, lbC w.θ.length c = true) :
    WLe w ⟨w.θ, w'.H, m⟩ ∧ Ok K ⟨w.θ, w'.H, m⟩ := by
  have l2 : Le w.θ w.H w.θ w'.H := ⟨l.keep, ⟨[], by simp, fun _ z => (List.not_mem_nil z).elim⟩, fun q hq => l.trk q (l.sub hq)⟩
  refine ⟨l2, ⟨k.nd, hm.symm, fun i q c h1 h2 => ?_⟩⟩
  have z' := k'.cell i q c (l.get h1) (by rw [hμ, List.getElem?_append_left (List.getElem?_eq_some_iff.mp h2).1]; exact h2)
  have hc := hb c (List.mem_of_getElem? h2)
  rw [hθ] at z'
  cases c with
  | lst es =>
    obtain ⟨vs', a', b'⟩ := z'
    exact ⟨vs', a', b'.cut hc b'.noErr0⟩
  | ins C fs =>
    obtain ⟨dx', vs', a', b'⟩ := z'
    exact ⟨dx', vs', a', b'.cut hc b'.noErr0⟩
section
variable {θ : List Addr} {ex : List Addr} {H : Hp} {μ2 : Sto} {j : Nat}
theorem nin_new {p : Addr} {k : Nat} (nd : (θ ++ ex).Nodup) (h : (θ ++ ex)[k]? = some p) (hk : ¬ k < θ.length) : p ∉ θ := by
  intro hm
  obtain ⟨i, hi, e⟩ := List.mem_iff_getElem.mp hm
  have h2 : (θ ++ ex)[i]? = some p := by
    rw [List.getElem?_append_left hi, List.getElem?_eq_getElem hi, e]
  obtain ⟨a1, a2⟩ := List.getElem?_eq_some_iff.mp h
  obtain ⟨b1, b2⟩ := List.getElem?_eq_some_iff.mp h2
  have := (List.getElem_inj (h₀ := a1) (h₁ := b1) nd).mp (a2.trans b2.symm)
  omega
mutual
theorem fz_den (nd : (θ ++ ex).Nodup) (hc : ∀ (k : Nat) (p : Addr) (ds : List D), (θ ++ ex)[k]? = some p → μ2[k]? = some (Cell.lst ds) → ∃ vs, H p = some (.lst vs) ∧ Dens K [] (θ ++ ex) H vs ds) (hi : ∀ (k : Nat) (p : Addr) (C : Addr) (fs : List (Str × D)), (θ ++ ex)[k]? = some p → μ2[k]? = some (Cell.ins C fs) → ∃ dx fvs, H p = some (.ins C dx fvs) ∧ InsAt K [] (θ ++ ex) H C fvs fs) :
    ∀ (d : D) {x : V} {d' : D}, Den K pn (θ ++ ex) H x d → fz μ2 θ.length d = some d' → Den K pn θ H x d'
  | .v y, x, d', h, q => by
    simp only [fz, Option.some.injEq] at q
    subst q
    obtain rfl := h.v_inv
    exact .v
  | .lst ds, x, d', h, q => by
    unfold fz at q
    split at q
    · rename_i es e
      cases q
      cases h with
      | lst h n hs => exact .lst h (nin_app n) (fzs_den nd hc hi ds hs e)
    · cases q
  | .tup ds, x, d', h, q => by
    unfold fz at q
    split at q
    · rename_i es e
      cases q
      cases h with
      | tup h hs => exact .tup (h.imp (fun z => ⟨z.1, nin_app z.2⟩) id) (fzs_den nd hc hi ds hs e)
    · cases q
  | .rl ds, x, d', h, q => by
    unfold fz at q
    split at q
    · rename_i es e
      cases q
      cases h with
      | rl h hs => exact .rl (h.imp (fun z => ⟨z.1, nin_app z.2⟩) id) (fzs_den nd hc hi ds hs e)
    · cases q
  | .loc k, x, d', h, q => by
    unfold fz at q
    cases h with
    | @loc _ p hp =>
      split at q
      · rename_i hk
        cases q
        exact .loc (by rw [List.getElem?_append_left hk] at hp; exact hp)
      · rename_i hk
        split at q
        · rename_i ds hm
          split at q
          · rename_i hb
            cases q
            obtain ⟨vs, a, b⟩ := hc k p ds hp hm
            rw [Bool.and_eq_true] at hb
            exact .lst a (nin_new nd hp hk) ((b.cut hb.1 hb.2).sub fun _ z => (List.not_mem_nil z).elim)
          · cases q
        · rename_i C fs hm
          split at q
          · rename_i hb
            cases q
            obtain ⟨dx, fvs, a, b⟩ := hi k p C fs hp hm
            rw [Bool.and_eq_true] at hb
            exact ((b.cut hb.1 hb.2).sub fun _ z => (List.not_mem_nil z).elim).data a (nin_new nd hp hk)
          · cases q
        · cases q
  | .err _ _, _, _, _, q => by simp [fz] at q
  | .dic ks, x, d', h, q => by
    simp only [fz, Option.some.injEq] at q
    subst q
    cases h with
    | dic h n => exact .dic h (nin_app n)
  | .ins C ns ds, x, d', h, q => by
    unfold fz at q
    split at q
    · rename_i es e
      cases q
      cases h with
      | ins hk hf h n hl hs => exact .ins hk hf h (nin_app n) hl (fzs_den nd hc hi ds hs e)
    · cases q
theorem fzs_den (nd : (θ ++ ex).Nodup) (hc : ∀ (k : Nat) (p : Addr) (ds : List D), (θ ++ ex)[k]? = some p → μ2[k]? = some (Cell.lst ds) → ∃ vs, H p = some (.lst vs) ∧ Dens K [] (θ ++ ex) H vs ds) (hi : ∀ (k : Nat) (p : Addr) (C : Addr) (fs : List (Str × D)), (θ ++ ex)[k]? = some p → μ2[k]? = some (Cell.ins C fs) → ∃ dx fvs, H p = some (.ins C dx fvs) ∧ InsAt K [] (θ ++ ex) H C fvs fs) :
    ∀ (ds : List D) {xs : List V} {es : List D}, Dens K pn (θ ++ ex) H xs ds → fzs μ2 θ.length ds = some es → Dens K pn θ H xs es
  | [], _, _, h, q => by
    simp only [fzs, Option.some.injEq] at q
    subst q
    cases h
    exact .nil
  | d :: ds, _, _, h, q => by
    unfold fzs at q
    split at q
    · rename_i x xs e1 e2
      cases q
      cases h with
      | cons h1 h2 => exact .cons (fz_den nd hc hi d h1 e1) (fzs_den nd hc hi ds h2 e2)
    · cases q
end
end
end
section
variable {X : Cx} {pn : List (Addr × Obj)} {W : WX} {e : Expr} {a : AE}
end
end DK
set_option Elab.async false
set_option linter.all false
set_option maxRecDepth 100000
set_option maxHeartbeats 4000000
/-! calls where defaults fill up; calls by places and keywords -/
namespace DK
open PySem PySem.Spec PyProof.Rows L2 L2H

/-- f(e, ..), the last parameters by their defaults -/
def aCallD (F : FD) (n : Nat) (dvs : List V) (l : AA) : AE := fun ρ μ Q X => l ρ μ (fun ds μ1 => (ds ++ dvs.map D.v).length = n ∧ F (ds ++ dvs.map D.v) μ1 Q X) X
/-- f(e, .., k = v, ..) -/
def aCallN (F : FD) (n m j : Nat) (g : List D → List D → List D) (l l2 : AA) : AE := fun ρ μ Q X => l ρ μ (fun ds μ1 => l2 ρ μ1 (fun es μ2 => (ds.length = m ∧ es.length = j ∧ (g ds es).length = n) ∧ F (g ds es) μ2 Q X) X) X
structure PermN (g : List Value → List Value → List Value) (gV : List V → List V → List V) (gD : List D → List D → List D) : Prop where
  val : ∀ {vs us zs ws}, Vals vs us → Vals zs ws → Vals (gV vs zs) (g us ws)
  den : ∀ {K pn θ H vs ds zs es}, Dens K pn θ H vs ds → Dens K pn θ H zs es → Dens K pn θ H (gV vs zs) (gD ds es)
/-- how such a call binds -/
def KBN (K : PySem.W.Frag) (fd : FuncData) (ps : List Str) (n : Nat) (ks : List Str) (g : List Value → List Value → List Value) : Prop := ∀ (s : Shared) (us ws : List Value), K.In s.heap → us.length = n → ws.length = ks.length → BindsTo s fd ⟨us, ks.zip ws⟩ (ps.zip (g us ws))
section
variable {X : Cx} {W : WX} {k k' : Nat} {f : Addr} {fd : FuncData} {ps ks : List Str} {F : FD} {x : Str} {e : Expr} {es : List Expr} {kws : List Keyword} {l lk : AA} {p pos : Pos} {dvs : List V} {n : Nat}
end
/-! ### list(xs), the new list a cell -/
def fListM : FL := fun xs μ Q => match xs with
  | [x] => (match itemsOf x μ with | some ds => Q (.loc μ.length) (μ ++ [.lst ds]) | none => False)
  | _ => False
theorem c_listM {X : Cx} : DCl X [] (.type "list") fListM := ⟨_, call_list_of, ⟨fun w xs ds k hx QA h Q hq => by
  unfold fListM at h
  split at h
  · split at h
    · rename_i e
      cases hx with
      | cons h1 h2 =>
        cases h2
        obtain ⟨p, vs, rfl, hsq, hs⟩ := items_sq k h1 e
        refine ⟨p, vs, rfl, hsq, fun q hp => ?_⟩
        obtain ⟨l2, k2⟩ := k.cellL hp hs
        refine hq _ _ h (.ref q) ⟨w.θ ++ [q], upd w.H q (.lst _), w.μ ++ [.lst _]⟩ rfl l2 k2 (.loc ?_)
        show (w.θ ++ [q])[w.μ.length]? = some q
        rw [← k.len, List.getElem?_append_right (Nat.le_refl _), Nat.sub_self]
        rfl
    · exact h.elim
  · exact h.elim⟩⟩
end DK
set_option Elab.async false
set_option linter.all false
set_option maxRecDepth 100000
set_option maxHeartbeats 4000000
/-! xs.extend(ys); a, b, c = a list; + as a new cell -/
namespace DK
open PySem PySem.Spec PyProof.Rows L2 L2H

def extIt (x d : D) (μ : Sto) (Q : Sto → Prop) : Prop := match x, d with
  | .loc k, .lst es => (match μ[k]? with | some (.lst ds) => ds.length + es.length ≤ 1000000 ∧ Q (μ.set k (.lst (ds ++ es))) | _ => False)
  | _, _ => False
def aExt (o e : AE) : AE := fun ρ μ Q X => o ρ μ (fun x μ1 => isL x μ1 = true ∧ e ρ μ1 (fun d μ2 => extIt x d μ2 fun μ3 => Q (.v .non) μ3) X) X
section
variable {X : Cx} {W : WX} {o e : Expr} {a b : AE} {apos pos : Pos}
end

/-! ### a, b, c = a list -/
def setAll : Rho → List Nat → List D → Rho
  | ρ, i :: is, d :: ds => setAll (ρ.set i (some d)) is ds
  | ρ, _, _ => ρ
def sUnpL (is : List Nat) (e : AE) : AS := fun A ρ μ => e ρ μ (fun d μ1 => match d with | .lst ds => ds.length = is.length ∧ A.nx (setAll ρ is ds) μ1 | _ => False) (fun x μ1 => A.er x ρ μ1)
def gNs : List Nat → TGs
  | [] => gNil
  | i :: is => gCons (gName i) (gNs is)
section
variable {K : PySem.W.Frag} {pn : List (Addr × Obj)} {W : WX} {te : TE} {e : AE}
def setAllV : L2.St → List Nat → List V → L2.St
  | σ, i :: is, v :: vs => setAllV (σ.set i (some v)) is vs
  | σ, _, _ => σ
end
section
variable {X : Cx} {pn : List (Addr × Obj)} {W : WX} {k : Nat} {e : Expr} {ae : AE} {pos pt : Pos} {es : List Expr}
end

/-! ### + as a new cell -/
def fAddM : F2 := fun x y μ Q => match x, y with
  | .lst a, .lst b => a.length + b.length ≤ 1000000 ∧ Q (.loc μ.length) (μ ++ [.lst (a ++ b)])
  | _, _ => False
section
variable {X : Cx}
theorem o_addM : DOp X [] (binaryOp .Add) fAddM := by
  refine ⟨_, op_cat, ⟨fun w x y dx dy k hx hy QA h Q hq => ?_⟩⟩
  unfold fAddM at h
  split at h
  · cases hx with
    | lst ha na sa =>
      cases hy with
      | lst hb nb sb =>
        refine ⟨_, _, _, _, rfl, rfl, ha, hb, ?_, fun p hp => ?_⟩
        · rw [sa.len, sb.len]
          exact Nat.le_trans h.1 (by decide)
        · obtain ⟨l2, k2⟩ := k.cellL hp (sa.append sb)
          refine hq _ _ h.2 (.ref p) ⟨w.θ ++ [p], upd w.H p (.lst _), w.μ ++ [.lst _]⟩ rfl l2 k2 (.loc ?_)
          show (w.θ ++ [p])[w.μ.length]? = some p
          rw [← k.len, List.getElem?_append_right (Nat.le_refl _), Nat.sub_self]
          rfl
  · exact h.elim
end
end DK
set_option Elab.async false
set_option linter.all false
set_option maxRecDepth 100000
set_option maxHeartbeats 4000000
/-! statements whose new cells are plain data behind them -/
namespace DK
open PySem PySem.Spec PyProof.Rows L2 L2H

def fzO (μ : Sto) (j : Nat) : Option D → Option (Option D)
  | none => some none
  | some d => match fz μ j d with | some x => some (some x) | none => none
def fzR (μ : Sto) (j : Nat) : Rho → Option Rho
  | [] => some []
  | o :: ρ => match fzO μ j o, fzR μ j ρ with | some x, some xs => some (x :: xs) | _, _ => none
def sFz (b : AS) : AS := fun A ρ μ => b { A with nx := fun ρ2 μ2 => ∃ ρ' μc ex, fzR μ2 μ.length ρ2 = some ρ' ∧ μ2 = μc ++ ex ∧ μc.length = μ.length ∧ (∀ c ∈ μc, lbC μ.length c = true) ∧ A.nx ρ' μc } ρ μ
section
variable {K : PySem.W.Frag} {pn : List (Addr × Obj)} {W : WX} {t : TS} {b : AS}
end
section
variable {X : Cx} {pn : List (Addr × Obj)} {W : WX} {st st2 st3 : Stmt} {sts : List Stmt} {a b c d : AS}
end
end DK
set_option Elab.async false
set_option linter.all false
set_option maxRecDepth 100000
set_option maxHeartbeats 4000000
/-! + where a list may be a cell; how calls by places and keywords bind -/
namespace DK
open PySem PySem.Spec PyProof.Rows L2 L2H

def lstOf (x : D) (μ : Sto) : Option (List D) := match x with
  | .lst ds => some ds
  | .loc k => (match μ[k]? with | some (.lst ds) => some ds | _ => none)
  | _ => none
def fAddX : F2 := fun x y μ Q => match lstOf x μ, lstOf y μ with
  | some a, some b => a.length + b.length ≤ 1000000 ∧ Q (.lst (a ++ b)) μ
  | _, _ => False
def fAddMX : F2 := fun x y μ Q => match lstOf x μ, lstOf y μ with
  | some a, some b => a.length + b.length ≤ 1000000 ∧ Q (.loc μ.length) (μ ++ [.lst (a ++ b)])
  | _, _ => False
section
variable {X : Cx} {K : PySem.W.Frag} {pn : List (Addr × Obj)}
end
theorem kbn_of {K : PySem.W.Frag} {x qual : Str} {st : Stmt} {f : Addr} {fd : FuncData} {ps ks : List Str} {n : Nat} {g : List Value → List Value → List Value} (F : Fun K x qual st f fd)
    (h : ∀ (kV doc pm : Value) (an : Option Addr) (cdv ct : Value) (us ws : List Value), us.length = n → ws.length = ks.length → bindArgs (PySem.W.fnOf x qual (defArgs st) (defBody st) (defScope st) .none kV doc pm an cdv ct) ⟨us, ks.zip ws⟩ = pure (ps.zip (g us ws))) : KBN K fd ps n ks g := by
  obtain ⟨oc, od, kV, doc, pm, an, cdv, ct, osl, rfl, lk, hcd⟩ := F.ex
  exact fun s us ws _ h1 h2 => .of_eq (h kV doc pm an cdv ct us ws h1 h2)
end DK
set_option Elab.async false
set_option linter.all false
set_option maxRecDepth 100000
set_option maxHeartbeats 4000000
/-! for x in e, where e is a list, a cell or a tuple -/
namespace DK
open PySem PySem.Spec PyProof.Rows L2 L2H

def iOr (a b : TI) : TI := fun σ H R => a σ H R ∨ b σ H R
def sForU (e : AE) (i : Nat) (b : AS) : AS := fun A ρ μ => sForC e i b A ρ μ ∨ sForL e i b A ρ μ ∨ sForT e i b A ρ μ
section
variable {K : PySem.W.Frag} {pn : List (Addr × Obj)} {W : WX} {te : TE} {e : AE} {tb : TS} {b : AS} {i : Nat}
end
section
variable {X : Cx} {pn : List (Addr × Obj)} {W : WX} {k : Nat} {e : Expr} {body : List Stmt} {a : AE} {b : AS} {pos p : Pos} {y : Str}
end
end DK
set_option Elab.async false
set_option linter.all false
set_option maxRecDepth 100000
set_option maxHeartbeats 4000000
/-! [e for x, y in zip(xs, ys)], two lists -/
namespace DK
open PySem PySem.Spec PyProof.Rows L2 L2H

def aLcZ (l : AA) (i j : Nat) (t : AT) (e : AE) : AE := fun ρ μ Q X => l ρ μ (fun ds0 μ1 => match ds0 with
  | [d, d'] => ∃ ds es, staysD d ds μ1 ∧ staysD d' es μ1 ∧ ds.length ≤ 500000 ∧ ∃ I : Nat → List D → Prop, I 0 [] ∧ (∀ n acc x y, ds[n]? = some x → es[n]? = some y → I n acc → aTurn2 i j t e (wipeD (wipeD ρ j) i) acc μ1 x y (I (n + 1))) ∧ ∀ acc, I (min ds.length es.length) acc → Q (.lst acc) μ1
  | _ => False) X
section
variable {K : PySem.W.Frag} {pn : List (Addr × Obj)} {W : WX} {tl : TA} {l : AA} {tt : TT} {t : AT} {te : TE} {e : AE} {i j : Nat}
end
section
variable {X : Cx} {pn : List (Addr × Obj)} {W : WX} {k : Nat} {e e' elt : Expr} {ifs : List Expr} {scope : Scope} {l : AA} {t : AT} {a : AE} {pos p p1 p2 px py pt : Pos} {x y : Str} {kt : Nat}
end
end DK
set_option Elab.async false
set_option linter.all false
set_option maxRecDepth 100000
set_option maxHeartbeats 4000000
/-! [e for x, y in zip(xs, ys)], two lists, the new list a cell -/
namespace DK
open PySem PySem.Spec PyProof.Rows L2 L2H

/-- the scope of a comprehension within, read from the one around -/
def scopeIn (scope es : Scope) : Scope := { scope with names := scope.names.map fun z => if (z.2 == NameKind.free && es.kind == .function && es.names.lookup z.1 == some .cell) = true then (z.1, NameKind.cell) else z }
def aTurnV2 (i j c : Nat) (t : AT) (e : AE) (ρ : Rho) (m : Sto) (x y : D) (N : Sto → Prop) : Prop :=
  t ((ρ.set i (some x)).set j (some y)) m (fun b m1 => bIf b (e ((ρ.set i (some x)).set j (some y)) m1 (fun d m2 => noErr d = true ∧ appIt (.loc c) d m2 N) (fun _ _ => False)) (N m1)) (fun _ _ => False)
def aLcZV (l : AA) (i j : Nat) (t : AT) (e : AE) : AE := fun ρ μ Q X => l ρ μ (fun ds0 μ1 => match ds0 with
  | [d, d'] => ∃ ds es, staysD d ds μ1 ∧ staysD d' es μ1 ∧ ds.length ≤ 500000 ∧ ∃ I : Nat → Sto → Prop, I 0 (μ1 ++ [.lst []]) ∧ (∀ n m, I n m → staysD d ds m ∧ staysD d' es m) ∧ (∀ n x y m, ds[n]? = some x → es[n]? = some y → I n m → aTurnV2 i j μ1.length t e (wipeD (wipeD ρ j) i) m x y (I (n + 1))) ∧ ∀ m, I (min ds.length es.length) m → Q (.loc μ1.length) m
  | _ => False) X
section
variable {K : PySem.W.Frag} {pn : List (Addr × Obj)} {W : WX} {tl : TA} {l : AA} {tt : TT} {t : AT} {te tx : TE} {e x : AE} {i j : Nat}
end
section
variable {X : Cx} {pn : List (Addr × Obj)} {W : WX} {k : Nat} {e e' elt : Expr} {ifs : List Expr} {scope : Scope} {l : AA} {t : AT} {a : AE} {pos p p1 p2 px py pt : Pos} {x y : Str} {kt : Nat}
end

/-! ### a block whose new cells are plain data behind it; slots may be let go -/
inductive FzS (μ : Sto) (j : Nat) : Rho → Rho → Prop
  | nil : FzS μ j [] []
  | drop {o : Option D} {ρ ρ' : Rho} (h : FzS μ j ρ ρ') : FzS μ j (o :: ρ) (none :: ρ')
  | keep {d d' : D} {ρ ρ' : Rho} (e : fz μ j d = some d') (h : FzS μ j ρ ρ') : FzS μ j (some d :: ρ) (some d' :: ρ')
def sFy (b : AS) : AS := fun A ρ μ => b { A with nx := fun ρ2 μ2 => ∃ ρ' μc ex, FzS μ2 μ.length ρ2 ρ' ∧ μ2 = μc ++ ex ∧ μc.length = μ.length ∧ (∀ c ∈ μc, lbC μ.length c = true) ∧ A.nx ρ' μc } ρ μ
section
variable {K : PySem.W.Frag} {pn : List (Addr × Obj)} {W : WX} {t : TS} {b : AS}
end
end DK
set_option Elab.async false
set_option linter.all false
set_option maxRecDepth 100000
set_option maxHeartbeats 4000000
/-! zip of a list and a tuple -/
namespace DK
open PySem PySem.Spec PyProof.Rows L2 L2H
section
variable {prog : Program} {w : World} {A : Around} {E : Value → Shared → Prop} {s : Shared}
/-- what a turn leaves alone -/
abbrev Rest4 (g g' : Heap) (z o p q : Addr) : Prop := ∀ c u, c ≠ z → c ≠ o → c ≠ p → c ≠ q → g.get? c = some u → g'.get? c = some u
end
abbrev zm1 (g : Heap) (l : Addr) : Heap := g.push { cls := .type "list_iterator", data := .fields #[.ref l, .int 0 0] }
abbrev zm2 (g : Heap) (l m : Addr) : Heap := (zm1 g l).push { cls := .type "tuple_iterator", data := .fields #[.ref m, .int 0 0] }
abbrev zm3 (g : Heap) (l m : Addr) : Heap := (zm2 g l m).push { cls := .type "tuple", data := .seq #[.ref g.objs.size, .ref (zm1 g l).objs.size] }
abbrev zm4 (g : Heap) (l m : Addr) : Heap := (zm3 g l m).push { cls := .type "tuple", data := .seq #[.none, .none] }
abbrev zm5 (g : Heap) (l m : Addr) : Heap := (zm4 g l m).push { cls := .type "zip", data := .fields #[.none, .bool false, .bool false, .ref (zm2 g l m).objs.size, .ref (zm3 g l m).objs.size] }
section
variable {prog : Program} {w : World} {A : Around} {E : Value → Shared → Prop} {s : Shared}
end

/-! ### the walk -/
def ItM (K : PySem.W.Frag) (l m : Addr) : It :=
  ⟨fun i H => ∃ (vs us : List V) (x y : V), SqL K H l vs ∧ SqT K H m us ∧ vs[i]? = some x ∧ us[i]? = some y,
    fun i H v H' => ∃ T x y, v = .ref T ∧ H T = none ∧ H' = upd H T (.tup [x, y]) ∧ (∀ vs, SqL K H l vs → vs[i]? = some x) ∧ ∀ us, SqT K H m us → us[i]? = some y,
    fun i H => ∃ vs us : List V, SqL K H l vs ∧ SqT K H m us ∧ (vs.length ≤ i ∨ us.length ≤ i)⟩
def iZipM (K : PySem.W.Frag) (ta : TA) : TI := fun σ H R => ta σ H fun vs H1 => ∃ l m xs ys, vs = [.ref l, .ref m] ∧ SqL K H1 l xs ∧ SqT K H1 m ys ∧ R (ItM K l m) H1
/-! ### comprehensions over it -/
def aLcM (l : AA) (i j : Nat) (t : AT) (e : AE) : AE := fun ρ μ Q X => l ρ μ (fun ds0 μ1 => match ds0 with
  | [d, .tup es] => ∃ ds, staysD d ds μ1 ∧ ds.length ≤ 500000 ∧ ∃ I : Nat → List D → Prop, I 0 [] ∧ (∀ n acc x y, ds[n]? = some x → es[n]? = some y → I n acc → aTurn2 i j t e (wipeD (wipeD ρ j) i) acc μ1 x y (I (n + 1))) ∧ ∀ acc, I (min ds.length es.length) acc → Q (.lst acc) μ1
  | _ => False) X
def aLcMV (l : AA) (i j : Nat) (t : AT) (e : AE) : AE := fun ρ μ Q X => l ρ μ (fun ds0 μ1 => match ds0 with
  | [d, .tup es] => ∃ ds, staysD d ds μ1 ∧ ds.length ≤ 500000 ∧ ∃ I : Nat → Sto → Prop, I 0 (μ1 ++ [.lst []]) ∧ (∀ n m, I n m → staysD d ds m) ∧ (∀ n x y m, ds[n]? = some x → es[n]? = some y → I n m → aTurnV2 i j μ1.length t e (wipeD (wipeD ρ j) i) m x y (I (n + 1))) ∧ ∀ m, I (min ds.length es.length) m → Q (.loc μ1.length) m
  | _ => False) X
section
variable {K : PySem.W.Frag} {pn : List (Addr × Obj)} {W : WX} {tl : TA} {l : AA} {tt : TT} {t : AT} {te tx : TE} {e x : AE} {i j : Nat}
end
section
variable {X : Cx} {pn : List (Addr × Obj)} {W : WX} {k : Nat} {e e' elt : Expr} {ifs : List Expr} {scope : Scope} {l : AA} {t : AT} {a : AE} {pos p p1 p2 px py pt : Pos} {x y : Str} {kt : Nat}
end
end DK
set_option Elab.async false
set_option linter.all false
set_option maxRecDepth 100000
set_option maxHeartbeats 4000000
/-! enumerate of a tuple; comprehensions over a tuple, the new list a cell -/
namespace DK
open PySem PySem.Spec PyProof.Rows L2 L2H
open AutoSeq1 (wpAny_loadPart')
section
variable {prog : Program} {w : World} {A : Around} {E : Value → Shared → Prop} {s : Shared}
end
/-- the tuple at a as it stands at each turn, each item in a new pair -/
def ItEt (K : PySem.W.Frag) (a : Addr) : It :=
  ⟨fun i H => ∃ (vs : List V) (x : V), SqT K H a vs ∧ vs[i]? = some x, fun i H v H' => ∃ T x, v = .ref T ∧ H T = none ∧ H' = upd H T (.tup [.int (i : Nat), x]) ∧ ∀ vs, SqT K H a vs → vs[i]? = some x, fun i H => ∃ vs : List V, SqT K H a vs ∧ vs.length ≤ i⟩
def iEnt (K : PySem.W.Frag) (ta : TA) : TI := fun σ H R => ta σ H fun vs H1 => ∃ a xs, vs = [.ref a] ∧ SqT K H1 a xs ∧ R (ItEt K a) H1
/-- for i, j in enumerate(a tuple) -/
def sForEt (l : AA) (i j : Nat) (b : AS) : AS := fun A ρ μ => l ρ μ (fun ds0 μ1 => match ds0 with
  | [.tup ds] => ∃ I : Nat → Rho → Sto → Prop, I 0 ρ μ1 ∧
    (∀ n ρ' μ' x, ds[n]? = some x → I n ρ' μ' → b { A with nx := I (n + 1), ct := I (n + 1), bk := A.nx } ((ρ'.set i (some (.v (.int (n : Nat))))).set j (some x)) μ') ∧ ∀ ρ' μ', I ds.length ρ' μ' → A.nx ρ' μ'
  | _ => False) (fun x μ1 => A.er x ρ μ1)
section
variable {K : PySem.W.Frag} {pn : List (Addr × Obj)} {W : WX} {tl : TA} {l : AA} {tt : TT} {t : AT} {te tx : TE} {e x : AE} {i j : Nat} {tb : TS} {b : AS}
end
section
variable {X : Cx} {pn : List (Addr × Obj)} {W : WX} {k : Nat} {e elt : Expr} {ifs : List Expr} {body : List Stmt} {scope : Scope} {l : AA} {t : AT} {a x : AE} {b : AS} {pos p p1 p2 p3 px py pt : Pos} {z y : Str} {kt : Nat}
end
end DK
set_option Elab.async false
set_option linter.all false
set_option maxRecDepth 100000
set_option maxHeartbeats 2000000
namespace DK
open PySem PySem.Spec PyProof.Rows L2

/-! ### errors of a class without own __init__, made without arguments -/
/-- what such a class says -/
structure Er0 (K : PySem.W.Frag) (mg : Str → Option Value) (x : Str) (C : Addr) : Prop where
  ex : PySem.W.excIn K C [.type "ValueError", .type "Exception", .type "BaseException", .type "object"] "ValueError.__new__" = true
  kC : PySem.W.keepIn K (.ref C) = true
  exC : PySem.W.subIn K (.ref C) (.type "BaseException") = some true
  tyC : PySem.W.typeIn K (.ref C) = some (.type "type")
  m : mg x = some (.ref C)
def sRaise0 (C : Addr) : AS := fun A ρ μ => A.er ⟨C, []⟩ ρ μ
section
variable {X : Cx} {W : WX} {k : Nat} {C : Addr} {x : Str} {p pos pos2 : Pos}
end
end DK
set_option Elab.async false
set_option linter.all false
set_option maxRecDepth 100000
set_option maxHeartbeats 4000000
namespace DK
open PySem PySem.Spec PyProof.Rows L2 L2H

/-! ### a slice of a list that stays a cell -/
def fSlM (x : D) (lo hi : Option Int) (μ : Sto) (Q : QD) : Prop := match lstOf x μ with
  | some ds => Q (.loc μ.length) (μ ++ [.lst (cutD ds lo hi)])
  | none => False
def aSlM (e : AE) (lo hi : AO) : AE := fun ρ μ Q X => e ρ μ (fun x μ1 => lo ρ μ1 (fun l μ2 => hi ρ μ2 (fun h μ3 => fSlM x l h μ3 Q) X) X) X
section
variable {K : PySem.W.Frag} {X : Cx} {W : WX} {te : TE} {tl th : TO} {e : AE} {lo hi : AO}
end
section
variable {X : Cx} {W : WX} {e : Expr} {a : AE} {lo hi : Option Expr} {al ah : AO} {p2 pos : Pos}
end
end DK
set_option Elab.async false
set_option linter.all false
set_option maxRecDepth 100000
set_option maxHeartbeats 4000000
/-! calls where some keyword-only parameters are written and others fill up; comprehensions with two for -/
namespace DK
open PySem PySem.Spec PyProof.Rows L2 L2H

/-! ### keyword-only parameters, some by their defaults -/
section
variable {X : Cx} {W : WX} {k k' : Nat} {f : Addr} {fd : FuncData} {ps ks : List Str} {F : FD} {x : Str} {e : Expr} {es : List Expr} {kws : List Keyword} {l lk : AA} {p pos : Pos} {n : Nat}
end
/-- the lacking values stand between the places' and the keywords', or behind them -/
def gMid {α : Type} (us mv ws : List α) : List α := us ++ mv ++ ws
def gEnd {α : Type} (us mv ws : List α) : List α := us ++ ws ++ mv
structure GOk (G : {α : Type} → List α → List α → List α → List α) : Prop where
  val : ∀ {vs mz zs : List V} {us mv ws : List Value}, Vals vs us → Vals mz mv → Vals zs ws → Vals (G vs mz zs) (G us mv ws)
  den : ∀ {K pn θ H} {vs mz zs : List V} {ds md es : List D}, Dens K pn θ H vs ds → Dens K pn θ H mz md → Dens K pn θ H zs es → Dens K pn θ H (G vs mz zs) (G ds md es)
/-! ### [e for x in xs for y in ys] -/
/-- an iterator that leaves the heap as it is and gives these items -/
def WalkD (K : PySem.W.Frag) (pn : List (Addr × Obj)) (S : Sto → Sto → Prop) (w : Wd) (J : It) (ds : List D) : Prop :=
  ∃ (G : Hp → Prop) (Y : Nat → Hp → V → Hp → Prop), Walk J ds.length G Y ∧ (∀ w2, WLe w w2 → Ok K w2 → S w.μ w2.μ → G w2.H) ∧ ∀ i H x H', i < ds.length → Y i H x H' → H' = H ∧ ∃ d, ds[i]? = some d ∧ ∀ w2, WLe w w2 → Den K pn w2.θ w2.H x d
structure SI (K : PySem.W.Frag) (pn : List (Addr × Obj)) (S : Sto → Sto → Prop) (W : WX) (wi : TI) (src : ASrc) : Prop where
  run : ∀ (w : Wd) (σ : L2.St) (ρ : Rho), Ok K w → EnvR K pn w σ ρ → ∀ (QA : List D → Sto → Prop) (XA : QX), src ρ w.μ QA XA → ∀ R : It → Hp → Prop,
    (∀ ds μ', QA ds μ' → ∀ (w' : Wd) (J : It), w'.μ = μ' → WLe w w' → Ok K w' → WalkD K pn S w' J ds → R J w'.H) → (∀ x μ', XA x μ' → PX K pn w (fun c d H => W c d σ H) x μ') → wi σ w.H R
/-- a list, plain or a cell -/
def rS (e : AE) : ASrc := fun ρ μ Q X => e ρ μ (fun d μ1 => ∃ ds, staysD d ds μ1 ∧ Q ds μ1) X
/-- the same within a comprehension, whose new list is the last cell -/
def rS1 (e : AE) : ASrc := fun ρ μ Q X => e ρ μ (fun d μ1 => ∃ ds, staysD d ds μ1.dropLast ∧ Q ds μ1) X
abbrev extS (μ μ' : Sto) : Prop := ∃ ex, μ' = μ ++ ex
abbrev lasS (μ μ' : Sto) : Prop := μ'.dropLast = μ.dropLast
section
variable {K : PySem.W.Frag} {pn : List (Addr × Obj)} {W : WX} {tl : TA} {l : AA} {tx te : TE} {x e : AE} {S : Sto → Sto → Prop}
end
/-- the inner loop, from a list to a list -/
def aIn (src1 : ASrc) (j : Nat) (e : AE) (ρ : Rho) (μ : Sto) (acc : List D) (N : List D → Prop) : Prop :=
  src1 ρ (μ ++ [.lst acc]) (fun ys m => m = μ ++ [.lst acc] ∧ ∃ I1 : Nat → List D → Prop, I1 0 acc ∧ (∀ n ac y, ys[n]? = some y → I1 n ac → ac.length ≤ 1000000 ∧ e ((wipeD ρ j).set j (some y)) (μ ++ [.lst ac]) (fun d m => m = μ ++ [.lst ac] ∧ (noErr d = true ∧ lb μ.length d = true) ∧ I1 (n + 1) (ac ++ [d])) (fun _ _ => False)) ∧ ∀ ac, I1 ys.length ac → N ac) (fun _ _ => False)
def aLc2 (src : ASrc) (i : Nat) (src1 : ASrc) (j : Nat) (e : AE) : AE := fun ρ μ Q X => src ρ μ (fun xs μ1 => ∃ I : Nat → List D → Prop, I 0 [] ∧ (∀ n acc x, xs[n]? = some x → I n acc → aIn src1 j e ((wipeD (wipeD ρ j) i).set i (some x)) μ1 acc (I (n + 1))) ∧ ∀ acc, I xs.length acc → Q (.lst acc) μ1) X
section
variable {K : PySem.W.Frag} {pn : List (Addr × Obj)} {W : WX} {wi wi1 : TI} {src src1 : ASrc} {te : TE} {e : AE} {i j : Nat}
/-- what is true between two turns, the new list at p -/
def LcQ (K : PySem.W.Frag) (wb w : Wd) (p : Addr) (I : Nat → List D → Prop) (n : Nat) (H : Hp) : Prop :=
  ∃ (w' : Wd) (acc : List D), w'.H = H ∧ WLe wb w' ∧ WLe w w' ∧ Ok K w' ∧ w'.θ = w.θ ++ [p] ∧ w'.μ = w.μ ++ [.lst acc] ∧ noErrs acc = true ∧ lbs w.θ.length acc = true ∧ I n acc
end
section
variable {X : Cx} {pn : List (Addr × Obj)} {W : WX} {k : Nat} {e e1 elt : Expr} {es : List Expr} {scope : Scope} {l : AA} {a a0 a1 : AE} {pos px py p1 p2 : Pos} {x y : Str}
end
end DK
set_option Elab.async false
set_option linter.all false
set_option maxRecDepth 100000
set_option maxHeartbeats 4000000
/-! a value that is a new cell: the cells beside it let go -/
namespace DK
open PySem PySem.Spec PyProof.Rows L2 L2H

section
variable {K : PySem.W.Frag} {pn : List (Addr × Obj)} {θ ex : List Addr} {H : Hp} {p : Addr}
theorem nin_sub (hp : p ∈ ex) {a : Addr} (h : a ∉ θ ++ ex) : a ∉ θ ++ [p] := fun z => by
  rcases List.mem_append.mp z with z | z
  · exact h (List.mem_append_left _ z)
  · rw [List.mem_singleton.mp z] at h
    exact h (List.mem_append_right _ hp)
mutual
theorem Den.cut2 (hp : p ∈ ex) : ∀ {x : V} {d : D}, Den K pn (θ ++ ex) H x d → DK.lb θ.length d = true → noErr d = true → Den K pn (θ ++ [p]) H x d
  | _, _, .v, _, _ => .v
  | _, _, .lst h n hs, e, f => .lst h (nin_sub hp n) (Dens.cut2 hp hs e f)
  | _, _, .tup h hs, e, f => .tup (h.imp (fun z => ⟨z.1, nin_sub hp z.2⟩) id) (Dens.cut2 hp hs e f)
  | _, _, .rl h hs, e, f => .rl (h.imp (fun z => ⟨z.1, nin_sub hp z.2⟩) id) (Dens.cut2 hp hs e f)
  | _, _, .loc h, e, _ => .loc (by rw [List.getElem?_append_left (of_decide_eq_true e)] at h ⊢; exact h)
  | _, _, .err .., _, f => nomatch f
  | _, _, .dic h n, _, _ => .dic h (nin_sub hp n)
  | _, _, .ins hk hf h n hl hs, e, f => .ins hk hf h (nin_sub hp n) hl (Dens.cut2 hp hs e f)
theorem Dens.cut2 (hp : p ∈ ex) : ∀ {x : List V} {d : List D}, Dens K pn (θ ++ ex) H x d → DK.lbs θ.length d = true → noErrs d = true → Dens K pn (θ ++ [p]) H x d
  | _, _, .nil, _, _ => .nil
  | _, _, .cons h t, e, f => .cons (Den.cut2 hp h (Bool.and_eq_true_iff.mp e).1 (Bool.and_eq_true_iff.mp f).1) (Dens.cut2 hp t (Bool.and_eq_true_iff.mp e).2 (Bool.and_eq_true_iff.mp f).2)
end
end
def aKp (e : AE) : AE := fun ρ μ Q X => e ρ μ (fun d μ2 => Q d μ2 ∨ ∃ k ds μc ex, d = .loc k ∧ μ.length ≤ k ∧ μ2[k]? = some (.lst ds) ∧ lbs μ.length ds = true ∧ noErrs ds = true ∧ μ2 = μc ++ ex ∧ μc.length = μ.length ∧ (∀ c ∈ μc, lbC μ.length c = true) ∧ Q (.loc μ.length) (μc ++ [.lst ds])) X
section
variable {K : PySem.W.Frag} {pn : List (Addr × Obj)} {W : WX} {te : TE} {e : AE}
end
section
variable {X : Cx} {pn : List (Addr × Obj)} {W : WX} {e : Expr} {a : AE}
end
/-! ### two for, the new list a cell -/
def aLc2V (src : ASrc) (i : Nat) (src1 : ASrc) (j : Nat) (e : AE) : AE := fun ρ μ Q X => src ρ μ (fun xs μ1 => ∃ I : Nat → List D → Prop, I 0 [] ∧ (∀ n acc x, xs[n]? = some x → I n acc → aIn src1 j e ((wipeD (wipeD ρ j) i).set i (some x)) μ1 acc (I (n + 1))) ∧ ∀ acc, I xs.length acc → Q (.loc μ1.length) (μ1 ++ [.lst acc])) X
section
variable {K : PySem.W.Frag} {pn : List (Addr × Obj)} {W : WX} {wi wi1 : TI} {src src1 : ASrc} {te : TE} {e : AE} {i j : Nat}
end
section
variable {X : Cx} {pn : List (Addr × Obj)} {W : WX} {k : Nat} {e e1 elt : Expr} {es : List Expr} {scope : Scope} {l : AA} {a a0 a1 : AE} {pos px py p1 p2 : Pos} {x y : Str}
end
end DK
namespace DK
open PySem PySem.Spec PyProof.Rows L2 L2H
/-! ### all, any -/
def fAll : FL := fun xs μ Q => match xs with
  | [x] => ∃ bs : List Bool, fRev.itemsL x μ = some (bs.map fun b => .v (.bl b)) ∧ Q (.v (.bl (bs.all id))) μ
  | _ => False
def fAny : FL := fun xs μ Q => match xs with
  | [x] => ∃ bs : List Bool, fRev.itemsL x μ = some (bs.map fun b => .v (.bl b)) ∧ Q (.v (.bl (bs.any id))) μ
  | _ => False
section
variable {K : PySem.W.Frag} {pn : List (Addr × Obj)} {θ : List Addr} {H : Hp} {X : Cx}
end
end DK
set_option Elab.async false
set_option linter.all false
set_option maxRecDepth 100000
set_option maxHeartbeats 4000000
/-! slices with a step -/
namespace DK
open PySem PySem.Spec PyProof.Rows L2 L2H

def pickL {α : Type} (xs : List α) (lo hi st : Option Int) : List α :=
  (sliceRange (sliceBounds lo hi st xs.length).1 (sliceBounds lo hi st xs.length).2.1 (sliceBounds lo hi st xs.length).2.2).filterMap fun i => xs[i]?
def tStepL (K : PySem.W.Frag) (te : TE) (tl th ts : TO) : TE := fun σ H Q => te σ H fun x H1 => tl σ H1 fun l H2 => th σ H2 fun u H3 => ts σ H3 fun k H4 =>
  ∃ a xs, x = .ref a ∧ SqL K H4 a xs ∧ k ≠ some 0 ∧ (pickL xs l u k).length ≤ sizeLine ∧ ∀ p, H4 p = none → Q (.ref p) (upd H4 p (.lst (pickL xs l u k)))
section
variable {X : Cx} {e st : Expr} {te : TE} {lo hi : Option Expr} {tl th ts : TO} {p2 pos : Pos}
end
def fStep (x : D) (lo hi st : Option Int) (μ : Sto) (Q : QD) : Prop := st ≠ some 0 ∧ match fRev.itemsL x μ with | some ds => (pickL ds lo hi st).length ≤ 1000000 ∧ Q (.lst (pickL ds lo hi st)) μ | none => False
def aStep (e : AE) (lo hi st : AO) : AE := fun ρ μ Q X => e ρ μ (fun x μ1 => lo ρ μ1 (fun l μ2 => hi ρ μ2 (fun h μ3 => st ρ μ3 (fun s μ4 => fStep x l h s μ4 Q) X) X) X) X
section
variable {K : PySem.W.Frag} {pn : List (Addr × Obj)} {W : WX} {te : TE} {tl th ts : TO} {e : AE} {lo hi st : AO}
end
section
variable {X : Cx} {pn : List (Addr × Obj)} {W : WX} {e st : Expr} {a : AE} {lo hi : Option Expr} {al ah as : AO} {p2 pos : Pos}
end
end DK
set_option Elab.async false
set_option linter.all false
set_option maxRecDepth 100000
set_option maxHeartbeats 4000000
/-! instances of own classes: attributes read and stored, instances made, methods called -/
namespace DK
open PySem PySem.Spec PyProof.Rows L2 L2H

/-! ### attributes -/
def insOf (x : D) (μ : Sto) : Option (List (Str × D)) := match x with
  | .ins _ ns ds => some (ns.zip ds)
  | .loc k => match μ[k]? with | some (.ins _ fs) => some fs | _ => none
  | _ => none
def fAttr (f : Str) : F1 := fun x μ Q => match insOf x μ with
  | some fs => (match fs.lookup f with | some d => Q d μ | none => False)
  | none => False
def rAttr (K : PySem.W.Frag) (f : Str) : V → Hp → VK → Prop := fun x H1 Q => ∃ a C dx fs v, x = .ref a ∧ H1 a = some (.ins C dx fs) ∧ Cls K C ∧ NoAttr K C f ∧ fs.lookup f = some v ∧ Q v H1
section
variable {K : PySem.W.Frag} {pn : List (Addr × Obj)}
theorem look_mem {α : Type} {f : Str} {d : α} : ∀ {fs : List (Str × α)}, fs.lookup f = some d → f ∈ fs.map (·.1)
  | [], e => by cases e
  | (g, y) :: r, e => by
    by_cases h : f = g
    · rw [h]
      exact List.mem_cons_self
    · have hb : (f == g) = false := beq_eq_false_iff_ne.mpr h
      simp only [List.lookup_cons, hb] at e
      exact List.mem_cons_of_mem _ (look_mem e)
theorem zip_fst {α : Type} {f : Str} : ∀ {ns : List Str} {ds : List α}, f ∈ (ns.zip ds).map (·.1) → f ∈ ns
  | [], _, h => by simp at h
  | _ :: _, [], h => by simp at h
  | n :: ns, d :: ds, h => by
    rw [List.zip_cons_cons, List.map_cons] at h
    rcases List.mem_cons.mp h with h | h
    · rw [h]
      exact List.mem_cons_self
    · exact List.mem_cons_of_mem _ (zip_fst h)
/-- an instance as it stands -/
theorem ins_den {w : Wd} {x : V} {d : D} {fs : List (Str × D)} (k : Ok K w) (h : Den K pn w.θ w.H x d) (e : insOf d w.μ = some fs) :
    ∃ a C dx fvs, x = .ref a ∧ w.H a = some (.ins C dx fvs) ∧ CK K C ∧ (∀ f ∈ fs.map (·.1), NoAttr K C f) ∧ Denf K pn w.θ w.H fvs fs := by
  cases h with
  | ins hk hf h n hl hs =>
    cases e
    exact ⟨_, _, _, _, rfl, h, hk, fun f hm => hf f (zip_fst hm), Denf.zip hs⟩
  | @loc j p hp =>
    have e : (match w.μ[j]? with | some (.ins _ fs) => some fs | _ => none) = some fs := e
    split at e
    · rename_i C gs em
      cases e
      obtain ⟨dx, fvs, a, b⟩ := k.cell _ _ _ hp em
      exact ⟨_, _, _, _, rfl, a, b.ck, b.na, b.den.sub fun _ z => (List.not_mem_nil z).elim⟩
    · cases e
  | _ => cases e
theorem su_attr {f : Str} : SU K pn (rAttr K f) (fAttr f) := ⟨fun w x dx k hx QA h Q hq => by
  unfold fAttr at h
  split at h
  · rename_i fs e
    split at h
    · rename_i d el
      obtain ⟨a, C, dx, fvs, rfl, ha, hk, hn, hd⟩ := ins_den k hx e
      obtain ⟨v, ev, dv⟩ := hd.look el
      exact ⟨a, C, dx, fvs, v, rfl, ha, hk.cl, hn f (look_mem el), ev, (hq _ _ h).same k dv⟩
    · exact h.elim
  · exact h.elim⟩
end
section
variable {X : Cx} {pn : List (Addr × Obj)} {W : WX} {e : Expr} {a : AE} {pos : Pos}
/-- e.f -/
def aFld (f : Str) (a : AE) : AE := fun ρ μ Q X => a ρ μ (fun x μ1 => True ∧ fAttr f x μ1 Q) X
theorem d_fld {f : Str} (h : DE X pn W e a) (hb : attributeBase e f X.env (eval e X.env) = eval e X.env := by rfl) : DE X pn W (.Attribute e f pos) (aFld f a) := by
  obtain ⟨t, h1, h2⟩ := h.ex
  refine ⟨_, pe_fld h1 hb, ⟨fun w σ ρ k e QA XA h Q hq hx => ?_⟩⟩
  exact h2.run w σ ρ k e _ XA h _ (fun dx μ1 h1 x w1 em l1 k1 d1 => by
    subst em
    exact su_attr.run w1 x dx k1 d1 QA h1.2 Q fun d μ' q => (hq d μ' q).mono l1) hx
end

/-! ### attributes stored -/
def putD (f : Str) (v : D) : List (Str × D) → List (Str × D)
  | [] => [(f, v)]
  | (g, x) :: r => if g = f then (g, v) :: r else (g, x) :: putD f v r
theorem Denf.put {K : PySem.W.Frag} {pn : List (Addr × Obj)} {θ : List Addr} {H : Hp} {f : Str} {v : V} {d : D} (h : Den K pn θ H v d) : ∀ {fvs : List (Str × V)} {fs : List (Str × D)}, Denf K pn θ H fvs fs → Denf K pn θ H (putF f v fvs) (putD f d fs)
  | _, _, .nil => .cons h .nil
  | _, _, .cons (f := g) (x := y) (d := e) a t => by
    unfold putF putD
    by_cases hg : g = f
    · rw [if_pos hg, if_pos hg]
      exact .cons h t
    · rw [if_neg hg, if_neg hg]
      exact .cons a (Denf.put h t)
theorem putD_mem {f g : Str} {d : D} : ∀ {fs : List (Str × D)}, g ∈ (putD f d fs).map (·.1) → g = f ∨ g ∈ fs.map (·.1)
  | [], h => by
    left
    simpa [putD] using h
  | (k, x) :: r, h => by
    unfold putD at h
    by_cases hk : k = f
    · rw [if_pos hk] at h
      exact .inr h
    · rw [if_neg hk, List.map_cons] at h
      rcases List.mem_cons.mp h with h | h
      · rw [h]
        exact .inr List.mem_cons_self
      · rcases putD_mem h with h | h
        · exact .inl h
        · exact .inr (List.mem_cons_of_mem _ h)
theorem putD_len {f : Str} {d : D} : ∀ {fs : List (Str × D)}, (putD f d fs).length ≤ fs.length + 1
  | [] => by simp [putD]
  | (k, x) :: r => by
    have ih := putD_len (f := f) (d := d) (fs := r)
    unfold putD
    by_cases hk : k = f
    · rw [if_pos hk, List.length_cons, List.length_cons]; omega
    · rw [if_neg hk, List.length_cons, List.length_cons]; omega
theorem Denf.len {K : PySem.W.Frag} {pn : List (Addr × Obj)} {θ : List Addr} {H : Hp} : ∀ {fvs : List (Str × V)} {fs : List (Str × D)}, Denf K pn θ H fvs fs → fvs.length = fs.length
  | _, _, .nil => rfl
  | _, _, .cons _ t => by rw [List.length_cons, List.length_cons, Denf.len t]
section
variable {K : PySem.W.Frag} {w : Wd}
/-- a cell's instance written anew -/
theorem Ok.writeI {p C dx : Addr} {j : Nat} {fvs : List (Str × V)} {fs : List (Str × D)} (k : Ok K w) (hj : w.θ[j]? = some p) (hs : InsAt K [] w.θ w.H C fvs fs) :
    WLe w ⟨w.θ, upd w.H p (.ins C dx fvs), w.μ.set j (.ins C fs)⟩ ∧ Ok K ⟨w.θ, upd w.H p (.ins C dx fvs), w.μ.set j (.ins C fs)⟩ := by
  have hp : p ∈ w.θ := List.mem_iff_getElem?.mpr ⟨j, hj⟩
  have l : Le w.θ w.H w.θ (upd w.H p (.ins C dx fvs)) := ⟨fun a u ha n => by rw [upd_ne fun z => n (by rw [z]; exact hp)]; exact ha, ⟨[], by simp, fun _ z => (List.not_mem_nil z).elim⟩, fun q hq => by
    by_cases z : q = p
    · rw [z]
      exact ⟨_, upd_same⟩
    · rw [upd_ne z]
      exact k.trk q hq⟩
  refine ⟨l, ⟨k.nd, by simp [k.len], fun i q c h1 h2 => ?_⟩⟩
  by_cases hi : j = i
  · subst hi
    have e : q = p := Option.some.inj (h1.symm.trans hj)
    subst e
    by_cases hl : j < w.μ.length
    · rw [List.getElem?_set_self hl] at h2
      cases h2
      exact ⟨dx, fvs, upd_same, hs.mono l⟩
    · rw [List.getElem?_eq_none (by simpa using hl)] at h2
      cases h2
  · rw [List.getElem?_set_ne hi] at h2
    have z := k.cell i q c h1 h2
    have ne : q ≠ p := fun y => by
      subst y
      exact hi (nd_ix k.nd hj h1)
    have e : upd w.H p (.ins C dx fvs) q = w.H q := upd_ne ne
    cases c with
    | lst ds =>
      obtain ⟨us, a, b⟩ := z
      exact ⟨us, e.trans a, b.mono l⟩
    | ins C fs =>
      obtain ⟨dx, us, a, b⟩ := z
      exact ⟨dx, us, e.trans a, b.mono l⟩
/-- a new instance without attributes, a cell -/
theorem Ok.cellI {p dx C : Addr} (k : Ok K w) (hp : w.H p = none) (hd : w.H dx = none) (ne : dx ≠ p) (hk : CK K C) :
    WLe w ⟨w.θ ++ [p], upd (upd w.H dx (.own p)) p (.ins C dx []), w.μ ++ [.ins C []]⟩ ∧ Ok K ⟨w.θ ++ [p], upd (upd w.H dx (.own p)) p (.ins C dx []), w.μ ++ [.ins C []]⟩ := by
  obtain ⟨l1, k1, _⟩ := k.new (o := .own p) hd
  have hp' : upd w.H dx (.own p) p = none := by rw [upd_ne fun z => ne z.symm]; exact hp
  generalize upd w.H dx (.own p) = H1 at *
  have hn : p ∉ w.θ := fun hm => by
    obtain ⟨u, hu⟩ := k.trk p hm
    rw [hp] at hu
    cases hu
  have l : Le w.θ H1 (w.θ ++ [p]) (upd H1 p (.ins C dx [])) := ⟨fun a u ha _ => by rw [upd_ne (ne_of_none ha hp')]; exact ha, ⟨[p], rfl, fun q hq => by
    rw [List.mem_singleton.mp hq]
    exact hp'⟩, fun q hq => by
    rcases List.mem_append.mp hq with hq | hq
    · have hqp : q ≠ p := fun z => hn (by rw [← z]; exact hq)
      rw [upd_ne hqp]
      exact k1.trk q hq
    · rw [List.mem_singleton.mp hq]
      exact ⟨_, upd_same⟩⟩
  refine ⟨Le.trans l1 l, ⟨?_, by simp [k.len], fun i q c h1 h2 => ?_⟩⟩
  · refine List.nodup_append.mpr ⟨k.nd, by simp, fun a ha b hb => ?_⟩
    rw [List.mem_singleton.mp hb]
    exact fun z => hn (by rw [← z]; exact ha)
  · by_cases hi : i < w.θ.length
    · have h1 : (w.θ ++ [p])[i]? = some q := h1
      have h2 : (w.μ ++ [.ins C []])[i]? = some c := h2
      rw [List.getElem?_append_left hi] at h1
      rw [List.getElem?_append_left (by rw [← k.len]; exact hi)] at h2
      have z := k1.cell i q c h1 h2
      have hq : q ∈ w.θ := List.mem_iff_getElem?.mpr ⟨i, h1⟩
      have e : upd H1 p (.ins C dx []) q = H1 q := upd_ne fun z => hn (by rw [← z]; exact hq)
      cases c with
      | lst ds =>
        obtain ⟨us, a, b⟩ := z
        exact ⟨us, e.trans a, b.mono l⟩
      | ins C fs =>
        obtain ⟨dx, us, a, b⟩ := z
        exact ⟨dx, us, e.trans a, b.mono l⟩
    · have h1 : (w.θ ++ [p])[i]? = some q := h1
      have h2 : (w.μ ++ [.ins C []])[i]? = some c := h2
      have hi' : i = w.θ.length := by
        have := (List.getElem?_eq_some_iff.mp h1).1
        simp at this
        omega
      subst hi'
      rw [List.getElem?_append_right (Nat.le_refl _)] at h1
      rw [List.getElem?_append_right (by rw [k.len]; exact Nat.le_refl _)] at h2
      rw [Nat.sub_self] at h1
      rw [k.len, Nat.sub_self] at h2
      cases h1
      cases h2
      exact ⟨dx, [], upd_same, .nil, hk, fun f hf => (List.not_mem_nil hf).elim, by decide⟩
end
/-- o.f = d, o a cell of the class at C -/
def setFl (C : Addr) (f : Str) (x d : D) (μ : Sto) (Q : Sto → Prop) : Prop := match x with
  | .loc k => (match μ[k]? with | some (.ins C' fs) => (C' = C ∧ fs.length < 900) ∧ Q (μ.set k (.ins C (putD f d fs))) | _ => False)
  | _ => False
def sSetF (C : Addr) (f : Str) (o e : AE) : AS := fun A ρ μ => e ρ μ (fun d μ1 => o ρ μ1 (fun x μ2 => True ∧ setFl C f x d μ2 fun μ3 => A.nx ρ μ3) (fun x μ1 => A.er x ρ μ1)) (fun x μ1 => A.er x ρ μ1)
section
variable {K : PySem.W.Frag} {W : WX} {te to : TE} {e o : AE} {C : Addr} {f : Str}
theorem ss_setF (hk : CK K C) (hn : NoAttr K C f) (he : SE K [] W te e) (ho : SE K [] W to o) : SS K [] W (sFld K to te f) (sSetF C f o e) := ⟨fun w σ ρ k er A h E hE =>
  he.run w σ ρ k er _ _ h _ (fun d μ1 h1 v w1 em l k1 dn => by
    subst em
    refine ho.run w1 σ ρ k1 (er.mono l) _ _ h1 _ (fun dx μ2 h2 x w2 em2 l2 k2 d2 => ?_) ((hE.mono l).ex (er.mono l))
    subst em2
    replace h2 := h2.2
    unfold setFl at h2
    split at h2
    · rename_i j
      split at h2
      · rename_i C' fs em
        obtain ⟨⟨rfl, hl⟩, h2⟩ := h2
        cases d2 with
        | @loc _ p hp =>
          obtain ⟨dx, fvs, a, b⟩ := k2.cell _ _ _ hp em
          have b2 : InsAt K [] w2.θ w2.H C' (putF f v fvs) (putD f d fs) := ⟨b.den.put (dn.mono l2), b.ck, fun g hg => by
            rcases putD_mem hg with rfl | h
            · exact hn
            · exact b.na g h, Nat.lt_of_le_of_lt putD_len (by omega)⟩
          obtain ⟨l4, k4⟩ := k2.writeI (dx := dx) hp b2
          refine ⟨p, C', dx, fvs, rfl, a, hk.cl, hn, by rw [b.den.len]; omega, ?_⟩
          exact hE.nx _ _ h2 σ ⟨w2.θ, upd w2.H p (.ins C' dx (putF f v fvs)), w2.μ.set j (.ins C' (putD f d fs))⟩ rfl ((l.trans l2).trans l4) k4 (((er.mono l).mono l2).mono l4)
      · exact h2.elim
    · exact h2.elim) (hE.ex er)⟩
end
section
variable {X : Cx} {W : WX} {e o : Expr} {a ao : AE} {pos pos' : Pos} {f : Str} {C : Addr}
theorem d_setF (hk : CK X.K C) (hn : NoAttr X.K C f) (he : DE X [] W e a) (ho : DE X [] W o ao) (hs : swapsWith e (some (.Attribute o f pos')) pos.line X.env = pure false := by rfl) : DS X [] W (.Assign [.Attribute o f pos'] e pos) (sSetF C f ao a) := by
  obtain ⟨_, h, h'⟩ := he.ex
  obtain ⟨_, h2, h2'⟩ := ho.ex
  exact ⟨_, ps_fld h2 h hs, ss_setF hk hn h' h2'⟩
end

/-! ### instances made -/
def fNew (F : FD) (C : Addr) (g : List D → List D) (ds : List D) (μ : Sto) (Q : QD) (X : QX) : Prop := F (g (.loc μ.length :: ds)) (μ ++ [.ins C []]) (fun d μ2 => d = .v .non ∧ Q (.loc μ.length) μ2) X
/-- C(e, ..), the instance a cell -/
def aMake (C : Addr) (F : FD) (n : Nat) (l : AA) : AE := fun ρ μ Q X => l ρ μ (fun ds μ1 => ds.length + 1 = n ∧ fNew F C id ds μ1 Q X) X
/-- C(e, .., k = v, ..) -/
def aMakeN (C : Addr) (F : FD) (n m j : Nat) (g : List D → List D → List D) (l l2 : AA) : AE := fun ρ μ Q X => l ρ μ (fun ds μ1 => l2 ρ μ1 (fun es μ2 => (ds.length + 1 = m ∧ es.length = j ∧ ∀ x, (g (x :: ds) es).length = n) ∧ fNew F C (fun z => g z es) ds μ2 Q X) X) X
section
variable {X : Cx} {W : WX} {k k' : Nat} {C f : Addr} {fd : FuncData} {ps ks : List Str} {F : FD} {x : Str} {e : Expr} {es : List Expr} {kws : List Keyword} {l lk : AA} {p pos : Pos} {n : Nat}
theorem make_run {pins : List (Addr × Obj)} {σ : L2.St} {H : Hp} {s : Shared} {Q : VK} {us us' ws : List Value} {ks : List Str} {vs' : List V} (B : Bd X W k) (M : Mk X.K C f) (G : FnD X.prog X.w X.K X.mg X.base k' f fd ps F) (hk' : k' + 1 ≤ k)
    (I : Inv X pins σ H s)
    (hb : ∀ s', X.K.In s'.heap → BindsTo s' fd ⟨Value.ref (s.heap.objs.size + 1) :: us, ks.zip ws⟩ (ps.zip us')) (r2 : Vals vs' us')
    (hq : spD X.K ps.length F vs' (upd (upd H s.heap.objs.size (.own (s.heap.objs.size + 1))) (s.heap.objs.size + 1) (.ins C s.heap.objs.size [])) (fun v H2 => v = .non ∧ Q (.ref (s.heap.objs.size + 1)) H2) (WE W σ)) :
    wpAny (model X.prog X.w) X.A (call (.ref C) us (ks.zip ws)) (EP X pins σ Q) X.xe s := by
  have I2 := Inv.made (C := C) I
  refine wpAny_call (make_map (f := f) I.kIn M.makes M.init (beq_iff_eq.mp M.fn) (codeAny_mono (G.run _ X.stack _ _ ⟨Value.ref (s.heap.objs.size + 1) :: us, ks.zip ws⟩ us' _ _ (WE W σ) ((B.room.mono hk').make C us (ks.zip ws))
    (I2.env0.make C us (ks.zip ws)) (hb _ I2.kIn) r2 hq) fun r s' hq' => ?_))
  cases r with
  | error e => exact L2N.passAt B.tk σ pins _ _ e s' I2 hq'
  | ok fl =>
    cases fl with
    | ret u =>
      obtain ⟨v, H', I3, rv, ev, q3⟩ := I2.after hq'
      subst ev
      exact ⟨rv, ⟨V.ref (s.heap.objs.size + 1), H', I3, rfl, q3⟩⟩
    | next => exact False.elim hq'
    | brk => exact False.elim hq'
    | cont => exact False.elim hq'
/-- on data -/
theorem make_data {K : PySem.W.Frag} {w : Wd} {ds : List D} {vs : List V} {QA : QD} {XA : QX} {Q : VK} {E : XK} {a dx : Addr} {gV : List V → List V} {gD : List D → List D} {n : Nat} (hK : CK K C) (ok : Ok K w) (dn : Dens K [] w.θ w.H vs ds)
    (hg : ∀ {θ H vs ds}, Dens K [] θ H vs ds → Dens K [] θ H (gV vs) (gD ds)) (hl : ∀ x, (gD (x :: ds)).length = n)
    (h : fNew F C gD ds w.μ QA XA) (hq : ∀ d μ', QA d μ' → PQ K [] w Q d μ') (hx : ∀ x μ', XA x μ' → PX K [] w E x μ') (ha : w.H a = none) (hd : w.H dx = none) (ne : dx ≠ a) :
    spD K n F (gV (.ref a :: vs)) (upd (upd w.H dx (.own a)) a (.ins C dx [])) (fun v H2 => v = .non ∧ Q (.ref a) H2) E := by
  obtain ⟨l2, k2⟩ := ok.cellI ha hd ne hK
  have dl : ∀ {w' : Wd}, WLe ⟨w.θ ++ [a], upd (upd w.H dx (.own a)) a (.ins C dx []), w.μ ++ [.ins C []]⟩ w' → Den K [] w'.θ w'.H (.ref a) (.loc w.μ.length) := fun {w'} l => .loc (l.get (by
    show (w.θ ++ [a])[w.μ.length]? = some a
    rw [← ok.len, List.getElem?_append_right (Nat.le_refl _), Nat.sub_self]
    rfl))
  refine ⟨w.θ ++ [a], w.μ ++ [Cell.ins C []], gD (.loc w.μ.length :: ds), (fun d μ2 => d = .v .non ∧ QA (.loc w.μ.length) μ2), XA, k2, hg (.cons (dl k2.refl) (dn.mono l2)), hl _, h, fun d μ' q v w' em l k3 dv => ?_, fun x μ' q => (hx x μ' q).mono l2⟩
  obtain ⟨rfl, q⟩ := q
  exact ⟨dv.v_inv, hq _ _ q (.ref a) w' em (l2.trans l) k3 (dl l)⟩
theorem d_make (B : Bd X W k) (hK : CK X.K C) (M : Mk X.K C f) (G : FnD X.prog X.w X.K X.mg X.base k' f fd ps F) (hk' : k' + 1 ≤ k) (hm : X.mg x = some (.ref C)) (hb : Binds X.K fd ps []) (ha : DA X [] W (e :: es) l)
    (hg : Gl X x := by rfl) (hdb : (x == ("__debug__" : Str)) = false := by decide) (he : starEach (e :: es) X.env = (false, eval e X.env) :: starEach es X.env := by rfl) (hpl : (backTo pos (starEach es X.env)).any (·.1) = false := by rfl) :
    DE X [] W (.Call (.Name x p) (e :: es) [] pos) (aMake C F ps.length l) := by
  obtain ⟨tl, l1, l2⟩ := ha.ex
  refine ⟨fun σ H Q => tl σ H fun vs H1 => ∀ a dx, H1 a = none → H1 dx = none → dx ≠ a → spD X.K ps.length F (.ref a :: vs) (upd (upd H1 dx (.own a)) a (.ins C dx [])) (fun v H2 => v = .non ∧ Q (.ref a) H2) (WE W σ), ⟨fun pins s σ H Q I h => ?_⟩, ⟨fun w σ ρ ok er QA XA h Q hq hx => ?_⟩⟩
  · refine wpAny_Call_Name_kw (ld_glob I hg hm ?_ hdb)
    refine PySem.W.callWith_K (h₀ := X.base) I.ok.mod.kin M.kp (thn (l1.run pos pins s σ H _ I h) fun us s2 ⟨zs, H2, I2, rz, q2⟩ => ⟨I2.kIn, ?_⟩) he hpl
    have hq := q2 (s2.heap.objs.size + 1) s2.heap.objs.size (I2.hok.fresh (Nat.le_succ _)) (I2.hok.fresh (Nat.le_refl _)) (Nat.ne_of_lt (Nat.lt_succ_self _))
    have r2 : Vals (V.ref (s2.heap.objs.size + 1) :: zs) (Value.ref (s2.heap.objs.size + 1) :: us) := .cons rfl rz
    have hl : (Value.ref (s2.heap.objs.size + 1) :: us).length = ps.length := by
      rw [← r2.length]
      exact G.len _ _ _ _ hq
    exact make_run (ks := []) (ws := []) B M G hk' I2 (fun s' hs => by
      have := hb s' (Value.ref (s2.heap.objs.size + 1) :: us) hs (by rw [List.append_nil]; exact hl)
      rw [List.append_nil] at this
      exact this) r2 hq
  · refine l2.run w σ ρ ok er _ XA h _ (fun ds μ1 h1 vs w1 em l1 k1 dn => ?_) hx
    subst em
    intro a dx ha hd ne
    exact make_data (gV := id) (gD := id) hK k1 dn (fun z => z) (fun _ => h1.1) h1.2 (fun d μ' q => (hq d μ' q).mono l1) (fun x μ' q => (hx x μ' q).mono l1) ha hd ne
/-- C(k = v, ..) -/
def aMakeK (C : Addr) (F : FD) (n j : Nat) (g : List D → List D → List D) (l2 : AA) : AE := fun ρ μ Q X => l2 ρ μ (fun es μ2 => (es.length = j ∧ ∀ x, (g [x] es).length = n) ∧ fNew F C (fun z => g z es) [] μ2 Q X) X
theorem d_makeK {g : List Value → List Value → List Value} {gV : List V → List V → List V} {gD : List D → List D → List D} (B : Bd X W k) (hK : CK X.K C) (M : Mk X.K C f) (G : FnD X.prog X.w X.K X.mg X.base k' f fd ps F) (hk' : k' + 1 ≤ k) (hm : X.mg x = some (.ref C)) (hb : KBN X.K fd ps 1 ks g) (pm : PermN g gV gD) (hkw : DK1 X [] W kws lk)
    (hg : Gl X x := by rfl) (hdb : (x == ("__debug__" : Str)) = false := by decide) (hall : (backToKw pos (keywordEach kws X.env)).all (·.1.isSome) = true := by rfl) (hks : (backToKw pos (keywordEach kws X.env)).filterMap (·.1) = ks := by rfl)
    (hpl : ((backTo pos (starEach [] X.env)).any (·.1) || (backToKw pos (keywordEach kws X.env)).any (·.1.isNone)) = false := by rfl) :
    DE X [] W (.Call (.Name x p) [] kws pos) (aMakeK C F ps.length ks.length gD lk) := by
  obtain ⟨tk, m1, m2⟩ := hkw.ex
  refine ⟨fun σ H Q => tk σ H fun zs H2 => zs.length = ks.length ∧ ∀ a dx, H2 a = none → H2 dx = none → dx ≠ a → spD X.K ps.length F (gV [.ref a] zs) (upd (upd H2 dx (.own a)) a (.ins C dx [])) (fun v H2 => v = .non ∧ Q (.ref a) H2) (WE W σ), ⟨fun pins s σ H Q I h => ?_⟩, ⟨fun w σ ρ ok er QA XA h Q hq hx => ?_⟩⟩
  · refine wpAny_Call_Name_kw (ld_glob I hg hm ?_ hdb)
    refine PySem.W.callWith_KW0 (h₀ := X.base) I.ok.mod.kin M.kp hall ?_ hpl
    refine thn (m1.run pos pins s σ H _ I h) fun ws s2 ⟨zs, H2, I2, rz, e2, q2⟩ => ⟨I2.kIn, ?_⟩
    rw [hks]
    have hq := q2 (s2.heap.objs.size + 1) s2.heap.objs.size (I2.hok.fresh (Nat.le_succ _)) (I2.hok.fresh (Nat.le_refl _)) (Nat.ne_of_lt (Nat.lt_succ_self _))
    exact make_run (us := []) B M G hk' I2 (fun s' hs => hb s' [Value.ref (s2.heap.objs.size + 1)] ws hs rfl (by rw [← rz.length]; exact e2)) (pm.val (vs := [V.ref (s2.heap.objs.size + 1)]) (us := [Value.ref (s2.heap.objs.size + 1)]) (.cons rfl .nil) rz) hq
  · refine m2.run w σ ρ ok er _ XA h _ (fun es μ2 h2 zs w2 em2 l2 k2 dn2 => ?_) hx
    subst em2
    obtain ⟨⟨a2, a3⟩, h2⟩ := h2
    refine ⟨by rw [dn2.len]; exact a2, fun a dx ha hd ne => ?_⟩
    obtain ⟨l3, k3⟩ := k2.cellI ha hd ne hK
    have dl : ∀ {w' : Wd}, WLe ⟨w2.θ ++ [a], upd (upd w2.H dx (.own a)) a (.ins C dx []), w2.μ ++ [.ins C []]⟩ w' → Den X.K [] w'.θ w'.H (.ref a) (.loc w2.μ.length) := fun {w'} l => .loc (l.get (by
      show (w2.θ ++ [a])[w2.μ.length]? = some a
      rw [← k2.len, List.getElem?_append_right (Nat.le_refl _), Nat.sub_self]
      rfl))
    refine ⟨w2.θ ++ [a], w2.μ ++ [Cell.ins C []], gD [.loc w2.μ.length] es, (fun d μ2 => d = .v .non ∧ QA (.loc w2.μ.length) μ2), XA, k3, pm.den (.cons (dl k3.refl) .nil) (dn2.mono l3), a3 _, h2, fun d μ' q v w' em l k4 dv => ?_, fun x μ' q => ((hx x μ' q).mono l2).mono l3⟩
    obtain ⟨rfl, q⟩ := q
    exact ⟨dv.v_inv, hq _ _ q (.ref a) w' em ((l2.trans l3).trans l) k4 (dl l)⟩
end

/-! ### methods -/
def clsIn (x : D) (μ : Sto) : Option (Addr × List (Str × D)) := match x with
  | .ins C ns ds => some (C, ns.zip ds)
  | .loc k => match μ[k]? with | some (.ins C fs) => some (C, fs) | _ => none
  | _ => none
def fMeth (C : Addr) (m : Str) (x : D) (μ : Sto) (Q : Prop) : Prop := match clsIn x μ with
  | some (C', fs) => (C' = C ∧ fs.lookup m = none) ∧ Q
  | none => False
def aMeth (C : Addr) (m : Str) (F : FD) (n : Nat) (o : AE) (l : AA) : AE := fun ρ μ Q X => o ρ μ (fun x μ1 => True ∧ fMeth C m x μ1 (l ρ μ1 (fun ds μ2 => ds.length + 1 = n ∧ F (x :: ds) μ2 Q X) X)) X
section
variable {K : PySem.W.Frag} {pn : List (Addr × Obj)}
end
section
variable {X : Cx} {W : WX} {k k' : Nat} {C f : Addr} {fd : FuncData} {ps : List Str} {F : FD} {x m : Str} {e o : Expr} {es : List Expr} {ao : AE} {l : AA} {p pos apos : Pos}
end

/-! ### new cells let go, behind an exception too -/
def aFzx (e : AE) : AE := fun ρ μ Q X => e ρ μ (fun d μ2 => Q d μ2 ∨ ∃ d' μc ex, fz μ2 μ.length d = some d' ∧ μ2 = μc ++ ex ∧ μc.length = μ.length ∧ (∀ c ∈ μc, lbC μ.length c = true) ∧ Q d' μc)
  (fun x μ2 => X x μ2 ∨ ∃ μc ex, μ2 = μc ++ ex ∧ μc.length = μ.length ∧ (∀ c ∈ μc, lbC μ.length c = true) ∧ (lbs μ.length (x.fs.map (·.2)) = true ∧ noErrs (x.fs.map (·.2)) = true) ∧ X x μc)
section
variable {K : PySem.W.Frag} {pn : List (Addr × Obj)} {W : WX} {te : TE} {e : AE}
end
section
variable {X : Cx} {pn : List (Addr × Obj)} {W : WX} {e : Expr} {a : AE}
end
end DK
namespace DK
open PySem PySem.Spec PyProof.Rows L2 L2H
/-- a class asked by a built-in type's name -/
theorem kit_ct {K : PySem.W.Frag} {C : Addr} {T : String} {b : Bool} (h : PySem.W.subIn K (.ref C) (.type T) = some b) (hT : PySem.W.kitMeta T = true) : PySem.W.kitOne K (.ref C) (.type T) = some b := by
  have q : (Value.ref C == Value.type T) = false := by rfl
  unfold PySem.W.kitOne
  rw [q]
  show (if PySem.W.kitMeta T = true then PySem.W.subIn K (.ref C) (.type T) else none) = some b
  rw [if_pos hT]
  exact h
theorem permN_of {g : List Value → List Value} {gV : List V → List V} {gD : List D → List D} (h : Perm g gV gD) : PermN (fun us ws => us ++ g ws) (fun vs zs => vs ++ gV zs) (fun ds es => ds ++ gD es) :=
  ⟨fun a b => a.append (h.val b), fun a b => a.append (h.den b)⟩
end DK
set_option Elab.async false
set_option linter.all false
set_option maxRecDepth 100000
set_option maxHeartbeats 4000000
/-! loops by what changes: the slots js, the loop's own slot i, the store -/
namespace DK
open PySem PySem.Spec PyProof.Rows L2 L2H

def setL (ρ : Rho) : List Nat → List (Option D) → Rho
  | j :: js, v :: vs => setL (ρ.set j v) js vs
  | _, _ => ρ
section
variable {i : Nat} {b : AS} {A : AEnds} {ρ : Rho} {μ : Sto}
/-- for x in range(..) -/
theorem inv_R {lo hi : Int} (js : List Nat) (P : Nat → List (Option D) → Sto → Prop) (v0 : List (Option D)) (t0 : Option D) (e0 : (setL ρ js v0).set i t0 = ρ) (h0 : P 0 v0 μ)
    (hs : ∀ (n : Nat) vs m, lo + (n : Int) < hi → P n vs m → b { A with nx := fun ρ' m' => ∃ t vs', ρ' = (setL ρ js vs').set i t ∧ P (n + 1) vs' m', ct := fun ρ' m' => ∃ t vs', ρ' = (setL ρ js vs').set i t ∧ P (n + 1) vs' m', bk := A.nx } ((setL ρ js vs).set i (some (.v (.int (lo + (n : Int)))))) m)
    (he : ∀ t vs m, P (hi - lo).toNat vs m → A.nx ((setL ρ js vs).set i t) m) : sForR lo hi i b A ρ μ := by
  refine ⟨fun n ρ' m => ∃ t vs, ρ' = (setL ρ js vs).set i t ∧ P n vs m, ⟨t0, v0, e0.symm, h0⟩, ?_, ?_⟩
  · rintro n ρ' m hn ⟨t, vs, rfl, hp⟩
    rw [List.set_set]
    exact hs n vs m hn hp
  · rintro ρ' m ⟨t, vs, rfl, hp⟩
    exact he t vs m hp
end
end DK
namespace DK
open PySem PySem.Spec PyProof.Rows L2 L2H
/-! ### the slots written out -/
theorem at_slots {b : AEnds → Rho → Sto → Prop} {A : AEnds} {ρ ρ' : Rho} {μ : Sto} (e : ρ' = ρ) (h : b A ρ μ) : b A ρ' μ := e ▸ h
theorem startD_nil : startD 0 [] = [] := rfl
theorem startD_cons {n : Nat} {d : D} {ds : List D} : startD (n + 1) (d :: ds) = some d :: startD n ds := by
  unfold startD
  rw [List.length_cons, Nat.add_sub_add_right]
  rfl
theorem startD_none {n : Nat} : startD (n + 1) [] = none :: startD n [] := rfl
end DK
set_option Elab.async false
set_option linter.all false
set_option maxRecDepth 100000
set_option maxHeartbeats 4000000
/-! defs whose new cells are let go when they end: what they give is data -/
namespace DK
open PySem PySem.Spec PyProof.Rows L2 L2H

/-- the old cells, as they were or written anew without new cells within -/
structure Keeps (μ μc : Sto) : Prop where
  len : μc.length = μ.length
  old : ∀ (i : Nat) (c : Cell), μc[i]? = some c → μ[i]? = some c ∨ lbC μ.length c = true
theorem Keeps.refl {μ : Sto} : Keeps μ μ := ⟨rfl, fun _ _ h => .inl h⟩
theorem Keeps.head {c c' : Cell} {μ : Sto} (h : lbC (μ.length + 1) c' = true) : Keeps (c :: μ) (c' :: μ) := ⟨rfl, fun i d e => by
  cases i with
  | zero => cases e; exact .inr h
  | succ i => exact .inl e⟩
section
variable {K : PySem.W.Frag} {pn : List (Addr × Obj)} {W : WX} {te : TE} {e : AE}
theorem Ok.lbs {w : Wd} (k : Ok K w) {i : Nat} {c : Cell} (h : w.μ[i]? = some c) : lbC w.θ.length c = true := by
  obtain ⟨p, hp⟩ : ∃ p, w.θ[i]? = some p := ⟨_, List.getElem?_eq_getElem (by rw [k.len]; exact (List.getElem?_eq_some_iff.mp h).1)⟩
  have z := k.cell i p c hp h
  cases c with
  | lst ds =>
    obtain ⟨vs, a, b⟩ := z
    exact b.lbs
  | ins C fs =>
    obtain ⟨dx, vs, a, b⟩ := z
    exact b.lbs
theorem Keeps.lb {w : Wd} {μc : Sto} (k : Ok K w) (h : Keeps w.μ μc) : ∀ c ∈ μc, lbC w.θ.length c = true := by
  intro c hc
  obtain ⟨i, hi⟩ := List.mem_iff_getElem?.mp hc
  rcases h.old i c hi with e | e
  · exact k.lbs e
  · rw [k.len]
    exact e
/-- what is left of an answer, of an exception -/
def wQ (μ : Sto) (QA : QD) : QD := fun d μ2 => ∃ d' μc ex, fz μ2 μ.length d = some d' ∧ μ2 = μc ++ ex ∧ Keeps μ μc ∧ QA d' μc
def wX (μ : Sto) (XA : QX) : QX := fun x μ2 => ∃ μc ex, μ2 = μc ++ ex ∧ Keeps μ μc ∧ (lbs μ.length (x.fs.map (·.2)) = true ∧ noErrs (x.fs.map (·.2)) = true) ∧ XA x μc
theorem wQ_run {w : Wd} {QA : QD} {Q : VK} (k : Ok K w) (hq : ∀ d μ', QA d μ' → PQ K pn w Q d μ') : ∀ d μ', wQ w.μ QA d μ' → PQ K pn w Q d μ' := fun d μ2 h1 => by
  obtain ⟨d', μc, xs, hf, hμ, hkp, h1⟩ := h1
  intro v w2 em l2 k2 dn
  subst em
  obtain ⟨ex, hθ, _⟩ := l2.ext
  have hl := hkp.len
  have hb := hkp.lb k
  have hkl := k.len
  rw [← hkl] at hf hl
  obtain ⟨l3, k3⟩ := k.dropN k2 l2 hθ hμ hl hb
  have nd := k2.nd
  have hc : ∀ (k' : Nat) (p : Addr) (ds : List D), w2.θ[k']? = some p → w2.μ[k']? = some (Cell.lst ds) → ∃ vs, w2.H p = some (.lst vs) ∧ Dens K [] w2.θ w2.H vs ds := fun k' p ds h2 h3 => k2.cell k' p _ h2 h3
  have hi : ∀ (k' : Nat) (p : Addr) (C : Addr) (fs : List (Str × D)), w2.θ[k']? = some p → w2.μ[k']? = some (Cell.ins C fs) → ∃ dx fvs, w2.H p = some (.ins C dx fvs) ∧ InsAt K [] w2.θ w2.H C fvs fs := fun k' p C fs h2 h3 => k2.cell k' p _ h2 h3
  rw [hθ] at nd hc hi dn
  exact hq _ _ h1 v ⟨w.θ, w2.H, μc⟩ rfl l3 k3 (fz_den nd hc hi d dn hf)
theorem wX_run {w : Wd} {XA : QX} {E : XK} (k : Ok K w) (hx : ∀ x μ', XA x μ' → PX K pn w E x μ') : ∀ x μ', wX w.μ XA x μ' → PX K pn w E x μ' := fun x μ2 h1 => by
  obtain ⟨μc, xs, hμ, hkp, hf, h1⟩ := h1
  intro cls dd w2 em l2 k2 dx
  subst em
  obtain ⟨ex, hθ, _⟩ := l2.ext
  have hl := hkp.len
  have hb := hkp.lb k
  have hkl := k.len
  rw [← hkl] at hf hl
  obtain ⟨l3, k3⟩ := k.dropN k2 l2 hθ hμ hl hb
  obtain ⟨e1, fvs, h2, h3⟩ := dx
  rw [hθ] at h2 h3
  refine hx _ _ h1 cls dd ⟨w.θ, w2.H, μc⟩ rfl l3 k3 ⟨e1, fvs, ?_, h3.cut hf.1 hf.2⟩
  rcases h2 with ⟨d, e, h, n⟩ | h2
  · exact .inl ⟨d, e, h, nin_app n⟩
  · exact .inr h2
/-- an expression whose new cells are let go -/
def aFzk (e : AE) : AE := fun ρ μ Q X => e ρ μ (wQ μ Q) (wX μ X)
theorem se_fzk (he : SE K pn W te e) : SE K pn W te (aFzk e) := ⟨fun w σ ρ k er QA XA h Q hq hx => he.run w σ ρ k er _ _ h _ (wQ_run k hq) (wX_run k hx)⟩
end
section
variable {X : Cx} {pn : List (Addr × Obj)} {W : WX} {e : Expr} {a : AE}
theorem d_fzk (h : DE X pn W e a) : DE X pn W e (aFzk a) := by
  obtain ⟨_, h, h'⟩ := h.ex
  exact ⟨_, h, se_fzk h'⟩
end
section
variable {P : Program} {w : World} {K : PySem.W.Frag} {mg : Str → Option Value} {base : Heap}
/-- THE RULE for a def whose new cells are let go -/
theorem fnD_frz {x qual : Str} {st : Stmt} {f : Addr} {fd : FuncData} {N ps : List Str} {k : Nat} {F : FD} (b : AS) (Fn : Fun K x qual st f fd) (S : FnScope N ps (defScope st))
    (hbody : ∀ (cd : Value) (A : Around) (outer : List Env) (s : Shared) (H : Hp) (E : XK), Bd (cxN P w K mg base N qual (defScope st) f cd A outer s H E) (wxN E) k → DSs (cxN P w K mg base N qual (defScope st) f cd A outer s H E) [] (wxN E) (defBody st) b)
    (hread : ∀ (ds : List D) (μ : Sto) (QA : QD) (XA : QX), ds.length = ps.length → F ds μ QA XA → b (dEnds (wQ μ QA) (wX μ XA)) (startD N.length ds) μ) : FnD P w K mg base (k + 1) f fd ps F := by
  refine FnOk.imp (fnD (F := fun ds μ QA XA => ∃ QA' XA', QA = wQ μ QA' ∧ XA = wX μ XA' ∧ F ds μ QA' XA') b Fn S hbody ?_) ?_
  · rintro ds μ _ _ hl ⟨QA, XA, rfl, rfl, h⟩
    exact hread ds μ QA XA hl h
  · rintro vs H Q E ⟨θ, μ, ds, QA, XA, ok, hd, hl, hF, hq, hx⟩
    exact ⟨θ, μ, ds, wQ μ QA, wX μ XA, ok, hd, hl, ⟨QA, XA, rfl, rfl, hF⟩, wQ_run (w := ⟨θ, H, μ⟩) ok hq, wX_run (w := ⟨θ, H, μ⟩) ok hx⟩
end
/-! ways to end such a def -/
section
variable {μ μc ex : Sto} {QA : QD} {XA : QX}
theorem w_x {C : Addr} {fs : List (Str × D)} (k : Keeps μ μc) (hf : lbs μ.length (fs.map (·.2)) = true ∧ noErrs (fs.map (·.2)) = true) (h : XA ⟨C, fs⟩ μc) : wX μ XA ⟨C, fs⟩ (μc ++ ex) := ⟨μc, ex, rfl, k, hf, h⟩
/-- the first new cell, a list -/
theorem w_new {ds : List D} (k : Keeps μ μc) (h1 : lbs μ.length ds = true) (h2 : noErrs ds = true) (h : QA (.lst ds) μc) : wQ μ QA (.loc μ.length) (μc ++ .lst ds :: ex) := by
  refine ⟨.lst ds, μc, .lst ds :: ex, ?_, rfl, k, h⟩
  unfold fz
  rw [if_neg (by omega), List.getElem?_append_right (by rw [k.len]; exact Nat.le_refl _), k.len, Nat.sub_self]
  show (if (lbs μ.length ds && noErrs ds) = true then _ else _) = _
  rw [h1, h2]
  rfl
/-- the first new cell, an instance -/
theorem w_newI {C : Addr} {fs : List (Str × D)} (k : Keeps μ μc) (h1 : lbs μ.length (fs.map (·.2)) = true) (h2 : noErrs (fs.map (·.2)) = true) (h : QA (.ins C (fs.map (·.1)) (fs.map (·.2))) μc) : wQ μ QA (.loc μ.length) (μc ++ .ins C fs :: ex) := by
  refine ⟨.ins C (fs.map (·.1)) (fs.map (·.2)), μc, .ins C fs :: ex, ?_, rfl, k, h⟩
  unfold fz
  rw [if_neg (by omega), List.getElem?_append_right (by rw [k.len]; exact Nat.le_refl _), k.len, Nat.sub_self]
  show (if (lbs μ.length (fs.map (·.2)) && noErrs (fs.map (·.2))) = true then _ else _) = _
  rw [h1, h2]
  rfl
/-- a cell further behind -/
theorem w_at {ds : List D} {j : Nat} {m : Sto} (hm : m = μc ++ ex) (hj : m[j]? = some (.lst ds)) (hl : μ.length ≤ j) (k : Keeps μ μc) (h1 : lbs μ.length ds = true) (h2 : noErrs ds = true) (h : QA (.lst ds) μc) : wQ μ QA (.loc j) m := by
  refine ⟨.lst ds, μc, ex, ?_, hm, k, h⟩
  unfold fz
  rw [if_neg (by omega), hj]
  show (if (lbs μ.length ds && noErrs ds) = true then _ else _) = _
  rw [h1, h2]
  rfl
/-- plain data as it is -/
theorem fz_same {m : Sto} {j : Nat} : ∀ {d : D}, lb j d = true → noErr d = true → fz m j d = some d := by
  intro d
  refine D.rec (motive_1 := fun d => lb j d = true → noErr d = true → fz m j d = some d) (motive_2 := fun ds => lbs j ds = true → noErrs ds = true → fzs m j ds = some ds) (motive_3 := fun _ => True) (motive_4 := fun _ => True) ?_ ?_ ?_ ?_ ?_ ?_ ?_ ?_ ?_ ?_ ?_ ?_ ?_ d
  · intro x _ _; rfl
  · intro ds ih a b; unfold fz; rw [ih a b]
  · intro ds ih a b; unfold fz; rw [ih a b]
  · intro ds ih a b; unfold fz; rw [ih a b]
  · intro k a _; unfold fz; rw [if_pos (of_decide_eq_true a)]
  · intro C fs _ _ b; cases b
  · intro ks _ _; rfl
  · intro C ns ds ih a b; unfold fz; rw [ih a b]
  · intro _ _; rfl
  · intro d ds h1 h2 a b
    unfold fzs
    rw [h1 (Bool.and_eq_true_iff.mp a).1 (Bool.and_eq_true_iff.mp b).1, h2 (Bool.and_eq_true_iff.mp a).2 (Bool.and_eq_true_iff.mp b).2]
  · trivial
  · intros; trivial
  · intros; trivial
theorem w_d {d : D} (k : Keeps μ μc) (h1 : lb μ.length d = true) (h2 : noErr d = true) (h : QA d μc) : wQ μ QA d (μc ++ ex) := ⟨d, μc, ex, fz_same h1 h2, rfl, k, h⟩
theorem w_d0 {d : D} (k : Keeps μ μc) (h1 : lb μ.length d = true) (h2 : noErr d = true) (h : QA d μc) : wQ μ QA d μc := ⟨d, μc, [], fz_same h1 h2, by rw [List.append_nil], k, h⟩
end
end DK
namespace DK
theorem lbs_ints {n : Nat} : ∀ {l : List Int}, lbs n (l.map fun z => D.v (.int z)) = true
  | [] => rfl
  | _ :: l => lbs_ints (l := l)
end DK
set_option Elab.async false
set_option linter.all false
set_option maxRecDepth 100000
set_option maxHeartbeats 4000000
/-! comprehensions whose elements change cells, by what they keep (made from DKl) -/
namespace DK
open PySem PySem.Spec PyProof.Rows L2 L2H

def aTurnK (i : Nat) (t : AT) (e : AE) (ρ : Rho) (acc : List D) (μ : Sto) (x : D) (N : List D → Sto → Prop) : Prop :=
  t (ρ.set i (some x)) (μ ++ [.lst acc]) (fun b μ1 => μ1 = μ ++ [.lst acc] ∧ bIf b (e (ρ.set i (some x)) (μ ++ [.lst acc]) (fun d μ2 => ∃ m', μ2 = m' ++ [.lst acc] ∧ Keeps μ m' ∧ (noErr d = true ∧ lb μ.length d = true) ∧ N (acc ++ [d]) m') (fun _ _ => False)) (N acc μ)) (fun _ _ => False)
def aLcK (src : ASrc) (i : Nat) (t : AT) (e : AE) : AE := fun ρ μ Q X => src ρ μ (fun xs μ1 => xs.length ≤ 500000 ∧ ∃ I : Nat → List D → Sto → Prop, I 0 [] μ1 ∧ (∀ n acc x m, xs[n]? = some x → m.length = μ1.length → I n acc m → aTurnK i t e (wipeD ρ i) acc m x (I (n + 1))) ∧ ∀ acc m, I xs.length acc m → Q (.lst acc) m) X
section
variable {K : PySem.W.Frag} {pn : List (Addr × Obj)} {W : WX} {tl : TA} {l : AA} {tt : TT} {t : AT} {te tx : TE} {e x : AE} {i : Nat}
def LcK (K : PySem.W.Frag) (pn : List (Addr × Obj)) (w : Wd) (p : Addr) (I : Nat → List D → Sto → Prop) (n : Nat) (H : Hp) : Prop :=
  ∃ (w' : Wd) (acc : List D) (m : Sto), w'.H = H ∧ WLe w w' ∧ Ok K w' ∧ w'.θ = w.θ ++ [p] ∧ (w'.μ = m ++ [.lst acc] ∧ m.length = w.μ.length ∧ ∀ c ∈ m, lbC w.θ.length c = true) ∧ acc.length ≤ n ∧ noErrs acc = true ∧ lbs w.θ.length acc = true ∧ I n acc m
end
/-! with the syntax -/
section
variable {X : Cx} {pn : List (Addr × Obj)} {W : WX} {k : Nat} {e elt : Expr} {ifs : List Expr} {scope : Scope} {l : AA} {t : AT} {a x : AE} {pos p1 p2 p3 : Pos} {y : Str}
end
end DK
set_option Elab.async false
set_option linter.all false
set_option maxRecDepth 100000
set_option maxHeartbeats 4000000
/-! name = [comprehension] -/
namespace DK
open PySem PySem.Spec PyProof.Rows L2 L2H
section
variable {X : Cx} {pn : List (Addr × Obj)} {W : WX} {k : Nat} {e e' e'' elt : Expr} {ifs : List Expr} {scope : Scope} {l : AA} {t : AT} {a x : AE} {pos spos py p1 p2 p3 : Pos} {y z : Str}
end
end DK
set_option Elab.async false
set_option linter.all false
set_option maxRecDepth 100000
set_option maxHeartbeats 4000000
/-! [e for x in a list that stays], plain or a cell -/
namespace DK
open PySem PySem.Spec PyProof.Rows L2 L2H
def aLcS (e0 : AE) (i : Nat) (t : AT) (e : AE) : AE := fun ρ μ Q X => e0 ρ μ (fun d μ1 => ∃ ds, staysD d ds μ1 ∧ ds.length ≤ 500000 ∧ ∃ I : Nat → List D → Prop, I 0 [] ∧ (∀ n acc x, ds[n]? = some x → I n acc → aTurn i t e (wipeD ρ i) acc μ1 x (I (n + 1))) ∧ ∀ acc, I ds.length acc → Q (.lst acc) μ1) X
def aLcSV (e0 : AE) (i : Nat) (t : AT) (e : AE) : AE := fun ρ μ Q X => e0 ρ μ (fun d μ1 => ∃ ds, staysD d ds μ1 ∧ ds.length ≤ 500000 ∧ ∃ I : Nat → Sto → Prop, I 0 (μ1 ++ [.lst []]) ∧ (∀ n m, I n m → staysD d ds m) ∧ (∀ n x m, ds[n]? = some x → I n m → aTurnV i μ1.length t e (wipeD ρ i) m x (I (n + 1))) ∧ ∀ m, I ds.length m → Q (.loc μ1.length) m) X
section
variable {K : PySem.W.Frag} {pn : List (Addr × Obj)} {W : WX} {tl : TA} {l : AA} {tt : TT} {t : AT} {te tx : TE} {e x : AE} {i : Nat}
end
section
variable {X : Cx} {pn : List (Addr × Obj)} {W : WX} {k : Nat} {e elt : Expr} {ifs : List Expr} {scope : Scope} {t : AT} {a x : AE} {pos spos py p3 : Pos} {y z : Str}
end
end DK
namespace DK
open PySem PySem.Spec PyProof.Rows L2 L2H
def noRl : D → Bool
  | .rl _ => false
  | _ => true
theorem ls_st {d : D} {ds : List D} {μ : Sto} (h : staysD d ds μ) (hr : noRl d = true) : lstOf d μ = some ds := by
  unfold staysD at h
  split at h
  · rw [← h]; rfl
  · cases hr
  · show (match μ[_]? with | some (Cell.lst ds) => some ds | _ => none) = _
    rw [h.2]
  · exact h.elim
/-! a def whose value is a new cell, all its other new cells let go -/
def kQ (μ : Sto) (QA : QD) : QD := fun d μ2 => ∃ kk ds μc xs, d = .loc kk ∧ μ.length ≤ kk ∧ μ2[kk]? = some (.lst ds) ∧ lbs μ.length ds = true ∧ noErrs ds = true ∧ μ2 = μc ++ xs ∧ Keeps μ μc ∧ QA (.loc μ.length) (μc ++ [.lst ds])
section
variable {P : Program} {w : World} {K : PySem.W.Frag} {mg : Str → Option Value} {base : Heap}
end
/-! a group of statements whose new cells are plain data behind it; older slots stay as they are -/
inductive FzW (ρ0 : Rho) (μ : Sto) (j : Nat) : Rho → Rho → Prop
  | nil : FzW ρ0 μ j [] []
  | drop {o : Option D} {ρ ρ' : Rho} (h : FzW ρ0 μ j ρ ρ') : FzW ρ0 μ j (o :: ρ) (none :: ρ')
  | keep {d d' : D} {ρ ρ' : Rho} (e : fz μ j d = some d') (h : FzW ρ0 μ j ρ ρ') : FzW ρ0 μ j (some d :: ρ) (some d' :: ρ')
  | old {d : D} {ρ ρ' : Rho} (e : some d ∈ ρ0) (h : FzW ρ0 μ j ρ ρ') : FzW ρ0 μ j (some d :: ρ) (some d :: ρ')
def sFw (b : AS) : AS := fun A ρ μ => b { A with nx := fun ρ2 μ2 => ∃ ρ' μc ex, FzW ρ μ2 μ.length ρ2 ρ' ∧ μ2 = μc ++ ex ∧ Keeps μ μc ∧ A.nx ρ' μc } ρ μ
section
variable {K : PySem.W.Frag} {W : WX} {t : TS} {b : AS}
end
section
variable {X : Cx} {W : WX} {st st2 st3 st4 st5 st6 : Stmt} {sts : List Stmt} {a b c d e f g : AS}
end
/-! the greatest, the least of a list of ints -/
def fMaxL : FL := fun xs μ Q => match xs with
  | [x] => ∃ ns : List Int, fRev.itemsL x μ = some (ns.map fun z => .v (.int z)) ∧ 0 < ns.length ∧ ∀ m, m ∈ ns → (∀ y, y ∈ ns → y ≤ m) → Q (.v (.int m)) μ
  | _ => False
def fMinL : FL := fun xs μ Q => match xs with
  | [x] => ∃ ns : List Int, fRev.itemsL x μ = some (ns.map fun z => .v (.int z)) ∧ 0 < ns.length ∧ ∀ m, m ∈ ns → (∀ y, y ∈ ns → m ≤ y) → Q (.v (.int m)) μ
  | _ => False
section
variable {X : Cx} {pn : List (Addr × Obj)}
end
/-! pop -/
theorem sq_nat {i : Int} {n : Nat} (h0 : 0 ≤ i) (h1 : i < n) : seqIndex? i n = some i.toNat := by
  unfold seqIndex?
  simp only [if_neg (show ¬ i < 0 by omega), decide_eq_true h0, decide_eq_true h1, Bool.and_self, if_true]
theorem Dens.eraseIdx {K : PySem.W.Frag} {pn : List (Addr × Obj)} {θ : List Addr} {H : Hp} : ∀ {vs : List V} {ds : List D} (i : Nat), Dens K pn θ H vs ds → Dens K pn θ H (vs.eraseIdx i) (ds.eraseIdx i)
  | _, _, _, .nil => .nil
  | _, _, 0, .cons h t => t
  | _, _, i + 1, .cons h t => .cons h (Dens.eraseIdx i t)
/-- xs.pop(i), xs a cell -/
def popIt (x y : D) (μ : Sto) (Q : QD) : Prop := match x, y with
  | .loc k, .v (.int i) => (match μ[k]? with | some (.lst ds) => (0 ≤ i ∧ i < ds.length) ∧ ds.length ≤ 1000000 ∧ ∀ d, ds[i.toNat]? = some d → Q d (μ.set k (.lst (ds.eraseIdx i.toNat))) | _ => False)
  | _, _ => False
def aPop (o e : AE) : AE := fun ρ μ Q X => o ρ μ (fun x μ1 => isL x μ1 = true ∧ e ρ μ1 (fun d μ2 => popIt x d μ2 Q) X) X
section
variable {X : Cx} {W : WX} {o e : Expr} {a b : AE} {apos pos : Pos}
theorem d_pop (ha : DE X [] W o a) (hb : DE X [] W e b) (hbase : attributeBase o "pop" X.env (eval o X.env) = eval o X.env := by rfl)
    (hfew : ((backTo pos (starEach [e] X.env)).all (fun x => !x.1) && (backToKw pos (keywordEach [] X.env)).all (fun x => x.1.isSome)
      && decide (([e] : List Expr).length + ([] : List Keyword).length + (if ([] : List Keyword).isEmpty then 0 else 1) < 30)) = true := by rfl)
    (hline : (apos.endLine == pos.line) = true := by rfl) (hs : starEach [e] X.env = [(false, eval e X.env)] := by rfl) :
    DE X [] W (.Call (.Attribute o "pop" apos) [e] [] pos) (aPop a b) := by
  obtain ⟨ta, a1, a2⟩ := ha.ex
  obtain ⟨tb, b1, b2⟩ := hb.ex
  refine ⟨_, pe_bm PySem.F.plainAttrs_list PySem.F.slot_list_pop PySem.F.type_list_pop mt_popAt a1 (pa_cons b1 pa_nil (by rw [hs] <;> rfl)) hbase hfew hline (by rw [hs] <;> rfl), ⟨fun w σ ρ ok er QA XA h Q hq hx => ?_⟩⟩
  refine a2.run w σ ρ ok er _ XA h _ (fun dx μ1 h1 x w1 em l1 k1 d1 => ?_) hx
  subst em
  obtain ⟨hL, h1⟩ := h1
  unfold isL at hL
  split at hL
  · rename_i k
    split at hL
    · rename_i ds0 hm0
      cases d1 with
      | @loc _ p hp =>
        obtain ⟨vs0, hv0, _⟩ := k1.cell _ _ _ hp hm0
        refine ⟨.inl ⟨rfl, vs0, .inl (.inl hv0)⟩, ?_⟩
        refine b2.run w1 σ ρ k1 (er.mono l1) _ XA h1 _ (fun d μ2 h2 y w2 em2 l2 k2 dn => ?_) (fun z μ' q => (hx z μ' q).mono l1)
        subst em2
        unfold popIt at h2
        split at h2
        · rename_i k' i e1
          cases e1
          obtain rfl := dn.v_inv
          split at h2
          · rename_i ds hm
            obtain ⟨⟨i0, i1⟩, hle, h2⟩ := h2
            have hp2 := l2.get hp
            obtain ⟨vs, hv, hs'⟩ := k2.cell _ _ _ hp2 hm
            obtain ⟨l3, k3⟩ := k2.writeL hp2 (hs'.eraseIdx i.toNat)
            have hi : i.toNat < ds.length := by omega
            obtain ⟨dd, ed⟩ : ∃ dd, ds[i.toNat]? = some dd := ⟨_, List.getElem?_eq_getElem hi⟩
            obtain ⟨z, ez, dz⟩ := hs'.get ed
            refine ⟨p, vs, i, i.toNat, z, rfl, rfl, hv, by omega, by omega, sq_nat i0 (by rw [hs'.len]; exact i1), ez, ?_⟩
            exact hq _ _ (h2 dd ed) z ⟨w2.θ, upd w2.H p (.lst (vs.eraseIdx i.toNat)), w2.μ.set k (.lst (ds.eraseIdx i.toNat))⟩ rfl ((l1.trans l2).trans l3) k3 (dz.mono l3)
          · exact h2.elim
        · exact h2.elim
    · cases hL
  · cases hL
end
theorem o_nin {X : Cx} {pn : List (Addr × Obj)} : DOp X pn (compareOp .NotIn) (fIn true) := ⟨_, op_notIn_seq, sr_in⟩
end DK
set_option Elab.async false
set_option linter.all false
set_option maxRecDepth 100000
set_option maxHeartbeats 4000000
/-! name = [comprehension over zip] -/
namespace DK
open PySem PySem.Spec PyProof.Rows L2 L2H
section
variable {X : Cx} {pn : List (Addr × Obj)} {W : WX} {k : Nat} {e e' elt : Expr} {ifs : List Expr} {scope : Scope} {l : AA} {t : AT} {a : AE} {pos spos pyz px py p1 p2 kt : Pos} {pt : Pos} {x y z : Str}
end
end DK
/-! list(range(a, b, c)) -/
namespace DK
open PySem PySem.Spec PyProof.Rows L2 L2H
def rcV (a c : Int) (n : Nat) : List V := (List.range n).map fun i => V.int (a + (i : Nat) * c)
def rcD (a c : Int) (n : Nat) : List D := (List.range n).map fun i => D.v (.int (a + (i : Nat) * c))
section
variable {X : Cx} {pn : List (Addr × Obj)} {W : WX} {k : Nat} {ta : TA} {e1 e2 e3 : Expr} {p pos p2 pos2 : Pos} {l : AA}
def tLstRc (ta : TA) : TE := fun σ H Q => ta σ H fun vs H1 => ∃ (i j c : Int) (n : Nat), vs = [.int i, .int j, .int c] ∧ RgC i j c n ∧ n ≤ 2 ^ 24 ∧ ∀ q, H1 q = none → Q (.ref q) (upd H1 q (.lst (rcV i c n)))
def aLsR3 (l : AA) : AE := fun ρ μ Q X => l ρ μ (fun ds μ1 => match ds with
  | [.v (.int a), .v (.int b), .v (.int c)] => ∃ n : Nat, RgC a b c n ∧ n ≤ 500000 ∧ Q (.lst (rcD a c n)) μ1
  | _ => False) X
end
end DK
set_option Elab.async false
set_option linter.all false
set_option maxRecDepth 100000
set_option maxHeartbeats 4000000
/-! a, b, c = a tuple; for x in a cell whose items are plain or cells -/
namespace DK
open PySem PySem.Spec PyProof.Rows L2 L2H
def sUnpT (is : List Nat) (e : AE) : AS := fun A ρ μ => e ρ μ (fun d μ1 => match d with | .tup ds => ds.length = is.length ∧ A.nx (setAll ρ is ds) μ1 | _ => False) (fun x μ1 => A.er x ρ μ1)
def pinD : D → Bool | .v _ => true | .loc _ => true | _ => false
section
variable {K : PySem.W.Frag} {pn : List (Addr × Obj)} {W : WX} {te : TE} {e : AE}
end
def sForQ (e : AE) (i : Nat) (b : AS) : AS := fun A ρ μ => e ρ μ (fun d μ1 => match d with
  | .loc k => ∃ ds, (ds.all pinD = true) ∧ loopC k ds i b A ρ μ1
  | _ => False) (fun x μ1 => A.er x ρ μ1)
section
variable {K : PySem.W.Frag} {pn : List (Addr × Obj)} {W : WX} {te : TE} {e : AE} {tb : TS} {b : AS} {i : Nat}
end
def sForW (e : AE) (i : Nat) (b : AS) : AS := fun A ρ μ => sForQ e i b A ρ μ ∨ sForU e i b A ρ μ
section
variable {K : PySem.W.Frag} {pn : List (Addr × Obj)} {W : WX} {te : TE} {e : AE} {tb : TS} {b : AS} {i : Nat}
end
section
variable {X : Cx} {pn : List (Addr × Obj)} {W : WX} {k : Nat} {e : Expr} {body : List Stmt} {a ae : AE} {b : AS} {pos p pt : Pos} {y : Str} {es : List Expr}
end
end DK
set_option Elab.async false
set_option linter.all false
set_option maxRecDepth 100000
set_option maxHeartbeats 4000000
/-! for x, y, z in zip of three lists -/
namespace DK
open PySem PySem.Spec PyProof.Rows L2 L2H
def ItZ3 (K : PySem.W.Frag) (l m n : Addr) : It :=
  ⟨fun i H => ∃ (xs ys zs : List V) (x y z : V), SqL K H l xs ∧ SqL K H m ys ∧ SqL K H n zs ∧ xs[i]? = some x ∧ ys[i]? = some y ∧ zs[i]? = some z,
    fun i H v H' => ∃ T x y z, v = .ref T ∧ H T = none ∧ H' = upd H T (.tup [x, y, z]) ∧ (∀ vs, SqL K H l vs → vs[i]? = some x) ∧ (∀ vs, SqL K H m vs → vs[i]? = some y) ∧ ∀ vs, SqL K H n vs → vs[i]? = some z,
    fun i H => ∃ xs ys zs : List V, SqL K H l xs ∧ SqL K H m ys ∧ SqL K H n zs ∧ xs.length = i ∧ ys.length = i ∧ zs.length = i⟩
def iZip3 (K : PySem.W.Frag) (ta : TA) : TI := fun σ H R => ta σ H fun vs H1 => ∃ l m n xs ys zs, vs = [.ref l, .ref m, .ref n] ∧ SqL K H1 l xs ∧ SqL K H1 m ys ∧ SqL K H1 n zs ∧ R (ItZ3 K l m n) H1
def YTrip (xs ys zs : Nat → Option V) : Nat → Hp → V → Hp → Prop := fun i H v H' => ∃ T x y z, v = .ref T ∧ H T = none ∧ H' = upd H T (.tup [x, y, z]) ∧ xs i = some x ∧ ys i = some y ∧ zs i = some z
/-- for i, j, k in zip(a, b, c): lists of one length that stay -/
def sForZ3 (l : AA) (i j k : Nat) (b : AS) : AS := fun A ρ μ => l ρ μ (fun ds0 μ1 => match ds0 with
  | [d, d', d''] => ∃ ds ds' ds'', ds'.length = ds.length ∧ ds''.length = ds.length ∧ ∃ I : Nat → Rho → Sto → Prop, I 0 ρ μ1 ∧ (∀ n ρ' μ', I n ρ' μ' → staysD d ds μ' ∧ staysD d' ds' μ' ∧ staysD d'' ds'' μ') ∧
    (∀ n ρ' μ' x y z, ds[n]? = some x → ds'[n]? = some y → ds''[n]? = some z → I n ρ' μ' → b { A with nx := I (n + 1), ct := I (n + 1), bk := A.nx } (((ρ'.set i (some x)).set j (some y)).set k (some z)) μ') ∧ ∀ ρ' μ', I ds.length ρ' μ' → A.nx ρ' μ'
  | _ => False) (fun x μ1 => A.er x ρ μ1)
section
variable {K : PySem.W.Frag} {pn : List (Addr × Obj)} {W : WX} {tl : TA} {l : AA} {i j k : Nat} {tb : TS} {b : AS}
end
section
variable {X : Cx} {pn : List (Addr × Obj)} {W : WX} {k : Nat} {e e' e'' : Expr} {body : List Stmt} {l : AA} {b : AS} {pos p p1 p2 px py pu pt : Pos} {z y u : Str} {kt : Nat}
end
end DK
set_option Elab.async false
set_option linter.all false
set_option maxRecDepth 100000
set_option maxHeartbeats 4000000
/-! list(zip(a, b)), two lists of one length -/
namespace DK
open PySem PySem.Spec PyProof.Rows L2 L2H
/-- a zip, fresh or with a tuple of its own still out -/
def ZSt (h : Heap) (z t o p q l m S : Addr) (xs ys : Array Value) (i : Nat) : Prop :=
  IsPair h t (.ref p) (.ref q) ∧ h.IsListIter p l i ∧ h.IsListIter q m i ∧ h.IsList l xs ∧ h.IsList m ys ∧
    ((IsZip h z t o .none ∧ ∃ a b, IsPair h o a b) ∨ ∃ T f oT, IsZipHeld h z t o T f ∧ h.get? T = some oT ∧ T ≠ z ∧ T ≠ p ∧ T ≠ q ∧ T ≠ S)
/-- the list S lies behind all that the zip is -/
structure ZB (z t o p q l m S : Addr) : Prop where
  z : z ≠ S
  t : t ≠ S
  o : o ≠ S
  p : p ≠ S
  q : q ≠ S
  l : l ≠ S
  m : m ≠ S
structure ZG (xs ys : Array Value) (lo : Addr) (h : Heap) (as : List Addr) : Prop where
  rise : as.Pairwise (· < ·)
  above : ∀ a ∈ as, lo < a
  pairs : ∀ (j : Nat) (a : Addr), as[j]? = some a → ∃ x y, xs[j]? = some x ∧ ys[j]? = some y ∧ h.get? a = some { cls := .type "tuple", data := .seq #[x, y] }
section
variable {prog : Program} {w : World} {A : Around} {E : Value → Shared → Prop} {s : Shared} {z t o p q l m S : Addr} {xs ys : Array Value} {i : Nat}
end
section
variable {prog : Program} {w : World} {A : Around} {s : Shared} {R : Result → Shared → Prop} {z t o p q l m S : Addr} {xs ys : Array Value}
/-- what stays -/
abbrev Kp5 (h h' : Heap) (S z o p q : Addr) : Prop := ∀ b u, b ≠ S → b ≠ z → b ≠ o → b ≠ p → b ≠ q → h.get? b = some u → h'.get? b = some u
end
end DK
set_option Elab.async false
set_option linter.all false
set_option maxRecDepth 100000
set_option maxHeartbeats 4000000
namespace DK
open PySem PySem.Spec PyProof.Rows L2 L2H
section
variable {prog : Program} {w : World} {A : Around} {E : Value → Shared → Prop} {s : Shared} {z t o p q l m : Addr} {xs ys : Array Value}
end
/-- the tuples tracked at their addresses -/
def put2 : Hp → List Addr → List V → List V → Hp
  | H, a :: as, x :: xs, y :: ys => put2 (upd H a (.tup [x, y])) as xs ys
  | H, _, _, _ => H
def tLZ (K : PySem.W.Frag) (ta : TA) : TE := fun σ H Q => ta σ H fun vs H1 => ∃ a b xs ys, vs = [.ref a, .ref b] ∧ SqL K H1 a xs ∧ SqL K H1 b ys ∧ ys.length = xs.length ∧
  ∀ (S : Addr) (as : List Addr), H1 S = none → (∀ t ∈ as, H1 t = none) → S ∉ as → as.Nodup → as.length = xs.length → Q (.ref S) (put2 (upd H1 S (.lst (as.map V.ref))) as xs ys)
section
variable {X : Cx}
variable {e e2 : Expr} {ta : TA} {p p2 q pos : Pos}
end
end DK
set_option Elab.async false
set_option linter.all false
set_option maxRecDepth 100000
set_option maxHeartbeats 4000000
namespace DK
open PySem PySem.Spec PyProof.Rows L2 L2H
/-- list(zip(a, b)) of two lists of one length -/
def aLZ (l : AA) : AE := fun ρ μ Q X => l ρ μ (fun ds0 μ1 => match ds0 with
  | [d, d'] => ∃ ds ds', staysD d ds μ1 ∧ staysD d' ds' μ1 ∧ ds'.length = ds.length ∧ Q (.lst (List.zipWith (fun x y => D.tup [x, y]) ds ds')) μ1
  | _ => False) X
section
variable {X : Cx} {pn : List (Addr × Obj)} {W : WX} {k : Nat} {e e' : Expr} {l : AA} {p p2 q pos : Pos}
end
/-! ### xs.extend(a tuple) -/
def rExtendT (K : PySem.W.Frag) : V → List V → Hp → VK → Prop := fun x vs H Q => ∃ l b xs zs, x = .ref l ∧ vs = [.ref b] ∧ H l = some (.lst xs) ∧ SqT K H b zs ∧ xs.length + zs.length ≤ sizeLine ∧ Q .non (upd H l (.lst (xs ++ zs)))
def extTt (x d : D) (μ : Sto) (Q : Sto → Prop) : Prop := match x, d with
  | .loc k, .tup es => (match μ[k]? with | some (.lst ds) => ds.length + es.length ≤ 1000000 ∧ Q (μ.set k (.lst (ds ++ es))) | _ => False)
  | _, _ => False
def aExtT (o e : AE) : AE := fun ρ μ Q X => o ρ μ (fun x μ1 => isL x μ1 = true ∧ e ρ μ1 (fun d μ2 => extTt x d μ2 fun μ3 => Q (.v .non) μ3) X) X
section
variable {X : Cx} {W : WX} {o e : Expr} {a b : AE} {apos pos : Pos}
end
end DK
set_option Elab.async false
set_option linter.all false
set_option maxRecDepth 100000
set_option maxHeartbeats 4000000
/-! for x in a cell, items of any kind; list(zip(a, b)) as a cell -/
namespace DK
open PySem PySem.Spec PyProof.Rows L2 L2H
def sForG (e : AE) (i : Nat) (b : AS) : AS := fun A ρ μ => e ρ μ (fun d μ1 => match d with
  | .loc k => ∃ ds, noErrs ds = true ∧ loopC k ds i b A ρ μ1
  | _ => False) (fun x μ1 => A.er x ρ μ1)
section
variable {K : PySem.W.Frag} {pn : List (Addr × Obj)} {W : WX} {te : TE} {e : AE} {tb : TS} {b : AS} {i : Nat}
end
/-- for x in e: a cell with items of any kind, a list, a tuple -/
def sForV (e : AE) (i : Nat) (b : AS) : AS := fun A ρ μ => sForG e i b A ρ μ ∨ sForU e i b A ρ μ
section
variable {K : PySem.W.Frag} {pn : List (Addr × Obj)} {W : WX} {te : TE} {e : AE} {tb : TS} {b : AS} {i : Nat}
end
section
variable {X : Cx} {pn : List (Addr × Obj)} {W : WX} {k : Nat} {e : Expr} {body : List Stmt} {a : AE} {b : AS} {pos p : Pos} {y : Str}
end
/-! ### list(zip(a, b)) as a cell -/
def aLZM (l : AA) : AE := fun ρ μ Q X => l ρ μ (fun ds0 μ1 => match ds0 with
  | [d, d'] => ∃ ds ds', staysD d ds μ1 ∧ staysD d' ds' μ1 ∧ ds'.length = ds.length ∧ Q (.loc μ1.length) (μ1 ++ [.lst (List.zipWith (fun x y => D.tup [x, y]) ds ds')])
  | _ => False) X
section
variable {X : Cx} {W : WX} {k : Nat} {e e' : Expr} {l : AA} {p p2 q pos : Pos}
end
end DK
set_option Elab.async false
set_option linter.all false
namespace DK
open PySem PySem.Spec PyProof.Rows L2 L2H
/-- isinstance(x, C), x an instance of the own class C -/
def fIsiO (C : Addr) : FL := fun xs μ Q => match xs with
  | [x, .v (.ref D)] => D = C ∧ ((∃ ns ds, x = .ins C ns ds) ∨ ∃ k fs, x = .loc k ∧ μ[k]? = some (.ins C fs)) ∧ Q (.v (.bl true)) μ
  | _ => False
section
variable {X : Cx} {pn : List (Addr × Obj)}
end
end DK
set_option Elab.async false
set_option linter.all false
namespace DK
open PySem PySem.Spec PyProof.Rows L2 L2H
/-! for a, b, .. in a tuple (a list) of tuples -/
def loopQ (ds : List D) (is : List Nat) (b : AS) : AS := fun A ρ μ => ∃ I : Nat → Rho → Sto → Prop, I 0 ρ μ ∧
  (∀ n ρ' μ' x, ds[n]? = some x → I n ρ' μ' → ∃ xs, x = .tup xs ∧ xs.length = is.length ∧ b { A with nx := I (n + 1), ct := I (n + 1), bk := A.nx } (setAll ρ' is xs) μ') ∧ ∀ ρ' μ', I ds.length ρ' μ' → A.nx ρ' μ'
def sForTq (e : AE) (is : List Nat) (b : AS) : AS := fun A ρ μ => e ρ μ (fun d μ1 => ∃ ds, d = .tup ds ∧ loopQ ds is b A ρ μ1) (fun x μ1 => A.er x ρ μ1)
def sForLq (e : AE) (is : List Nat) (b : AS) : AS := fun A ρ μ => e ρ μ (fun d μ1 => ∃ ds, d = .lst ds ∧ loopQ ds is b A ρ μ1) (fun x μ1 => A.er x ρ μ1)
section
variable {K : PySem.W.Frag} {pn : List (Addr × Obj)} {W : WX} {te : TE} {e : AE} {tb : TS} {b : AS} {is : List Nat}
end
section
variable {X : Cx} {pn : List (Addr × Obj)} {W : WX} {k : Nat} {e : Expr} {body : List Stmt} {a : AE} {b : AS} {pos pt : Pos} {es : List Expr}
end
end DK
set_option Elab.async false
set_option linter.all false
namespace L2
open PySem PySem.Spec PyProof.Rows
section
variable {prog : Program} {w : World} {A : Around} {E : Value → Shared → Prop} {s : Shared}
variable {X : Cx}
def rSumT (K : PySem.W.Frag) : List V → Hp → VK → Prop := fun vs H Q => ∃ (a : Addr) (ns : List Int), vs = [V.ref a] ∧ SqT K H a (ns.map V.int) ∧ Q (.int ns.sum) H
end
end L2
namespace DK
open PySem PySem.Spec PyProof.Rows L2 L2H
/-- sum of a tuple of ints -/
def fSumT : FL := fun xs μ Q => match xs with
  | [.tup ds] => ∃ ns : List Int, ds = (ns.map fun z => .v (.int z)) ∧ Q (.v (.int ns.sum)) μ
  | _ => False
section
variable {X : Cx} {pn : List (Addr × Obj)}
end
end DK
set_option Elab.async false
set_option linter.all false
set_option maxRecDepth 100000
set_option maxHeartbeats 4000000
namespace DK
open PySem PySem.Spec PyProof.Rows L2 L2H
/-! str of an int; a tuple times an int -/
def fStrI : FL := fun xs μ Q => match xs with
  | [.v (.int i)] => i.natAbs.log2 < 1920 ∧ Q (.v (.str (toString i))) μ
  | _ => False
def fRepT : F2 := fun x y μ Q => match x, y with
  | .tup ds, .v (.int n) => (ds ≠ [] ∧ 2 ≤ n ∧ n ≤ 1000 ∧ ds.length ≤ 1000) ∧ Q (.tup (List.replicate n.toNat ds).flatten) μ
  | _, _ => False
section
variable {X : Cx} {pn : List (Addr × Obj)}
end
/-! xs.insert(i, x), xs a cell -/
def insIt (x : D) (ys : List D) (μ : Sto) (Q : QD) : Prop := match x, ys with
  | .loc k, [.v (.int i), d] => (match μ[k]? with | some (.lst ds) => (0 ≤ i ∧ i < 2 ^ 62) ∧ ds.length ≤ 1000000 ∧ Q (.v .non) (μ.set k (.lst (ds.take i.toNat ++ [d] ++ ds.drop i.toNat))) | _ => False)
  | _, _ => False
def aIns (o : AE) (l : AA) : AE := fun ρ μ Q X => o ρ μ (fun x μ1 => isL x μ1 = true ∧ l ρ μ1 (fun ds μ2 => insIt x ds μ2 Q) X) X
section
variable {X : Cx} {W : WX} {o e e' : Expr} {a : AE} {l : AA} {apos pos : Pos}
end
/-! comprehensions over zip of two tuples -/
def aLcZT (l : AA) (i j : Nat) (t : AT) (e : AE) : AE := fun ρ μ Q X => l ρ μ (fun ds0 μ1 => match ds0 with
  | [.tup ds, .tup es] => ds.length ≤ 500000 ∧ ∃ I : Nat → List D → Prop, I 0 [] ∧ (∀ n acc x y, ds[n]? = some x → es[n]? = some y → I n acc → aTurn2 i j t e (wipeD (wipeD ρ j) i) acc μ1 x y (I (n + 1))) ∧ ∀ acc, I (min ds.length es.length) acc → Q (.lst acc) μ1
  | _ => False) X
section
variable {K : PySem.W.Frag} {pn : List (Addr × Obj)} {W : WX} {tl : TA} {l : AA} {tt : TT} {t : AT} {te : TE} {e : AE} {i j : Nat}
end
section
variable {X : Cx} {pn : List (Addr × Obj)} {W : WX} {k : Nat} {e e' elt : Expr} {ifs : List Expr} {scope : Scope} {l : AA} {t : AT} {a : AE} {pos p p1 p2 px py pt : Pos} {x y : Str} {kt : Nat}
end
end DK
set_option Elab.async false
set_option linter.all false
namespace DK
open PySem PySem.Spec PyProof.Rows L2 L2H
/-! tuple(xs), xs a cell -/
def fTupC : FL := fun xs μ Q => match xs with
  | [.loc k] => (match μ[k]? with | some (.lst ds) => Q (.tup ds) μ | _ => False)
  | _ => False
section
variable {X : Cx} {pn : List (Addr × Obj)}
end
end DK
set_option Elab.async false
set_option linter.all false
set_option maxRecDepth 100000
set_option maxHeartbeats 4000000
namespace DK
open PySem PySem.Spec PyProof.Rows L2 L2H StX
/-! def f(*v) -/
/-- its promise: the arguments stand in one new tuple -/
def spS (K : PySem.W.Frag) (F : FD) : Sp := fun vs H Q E => vs.length ≤ sizeLine ∧ ∀ p, H p = Option.none → spD K 1 F [V.ref p] (upd H p (.tup vs)) Q E
abbrev FnS (P : Program) (w : World) (K : PySem.W.Frag) (mg : Str → Option Value) (base : Heap) (k : Nat) (f : Addr) (F : FD) : Prop := FnR P w K mg base (L2N.CX P w) k f (spS K F)
section
variable {P : Program} {w : World} {K : PySem.W.Frag} {mg : Str → Option Value} {base : Heap}
end
section
variable {X : Cx} {k : Nat} {f : Addr} {sp : Sp} {E : L2.St → XK} {x : Str} {p pos : Pos} {e : Expr} {es : List Expr} {t : TA}
end
def aCallSt (F : FD) (l : AA) : AE := fun ρ μ Q X => l ρ μ (fun ds μ1 => ds.length ≤ 1000 ∧ F [.tup ds] μ1 Q X) X
section
variable {X : Cx} {W : WX} {k k' : Nat} {f : Addr} {F : FD} {x : Str} {e : Expr} {es : List Expr} {l : AA} {p pos : Pos}
end
end DK
set_option Elab.async false
set_option linter.all false
set_option maxRecDepth 100000
set_option maxHeartbeats 4000000
/-! for i, x in enumerate(a cell with items of any kind) -/
namespace DK
open PySem PySem.Spec PyProof.Rows L2 L2H
def loopEG (c : Nat) (ds : List D) (i j : Nat) (b : AS) : AS := fun A ρ μ => ∃ I : Nat → Rho → Sto → Prop, I 0 ρ μ ∧ (∀ n ρ' μ', I n ρ' μ' → μ'[c]? = some (.lst ds)) ∧
    (∀ n ρ' μ' x, ds[n]? = some x → I n ρ' μ' → b { A with nx := I (n + 1), ct := I (n + 1), bk := A.nx } ((ρ'.set i (some (.v (.int (n : Nat))))).set j (some x)) μ') ∧ ∀ ρ' μ', I ds.length ρ' μ' → A.nx ρ' μ'
def sForEG (l : AA) (i j : Nat) (b : AS) : AS := fun A ρ μ => l ρ μ (fun ds0 μ1 => match ds0 with
  | [.loc c] => ∃ ds, noErrs ds = true ∧ loopEG c ds i j b A ρ μ1
  | _ => False) (fun x μ1 => A.er x ρ μ1)
section
variable {K : PySem.W.Frag} {pn : List (Addr × Obj)} {W : WX} {tl : TA} {l : AA} {tb : TS} {b : AS} {i j : Nat}
def sForEV (l : AA) (i j : Nat) (b : AS) : AS := fun A ρ μ => sForEG l i j b A ρ μ ∨ sForE l i j b A ρ μ
end
section
variable {X : Cx} {pn : List (Addr × Obj)} {W : WX} {k : Nat} {e : Expr} {body : List Stmt} {l : AA} {b : AS} {pos p p1 p2 px py pt : Pos} {x y : Str} {kt : Nat}
end
section
variable {X : Cx} {pn : List (Addr × Obj)} {W : WX} {k : Nat} {e e1 elt : Expr} {es : List Expr} {scope : Scope} {l : AA} {a a0 a1 : AE} {pos px py p1 p2 : Pos} {x y : Str}
end
/-- f(k = v, ..), the other parameters by their defaults -/
def aCallKX (F : FD) (n j : Nat) (g : List D → List D) (l : AA) : AE := fun ρ μ Q X => l ρ μ (fun ds μ1 => (ds.length = j ∧ (g ds).length = n) ∧ F (g ds) μ1 Q X) X
section
variable {X : Cx} {W : WX} {k k' : Nat} {f : Addr} {fd : FuncData} {ps ks : List Str} {F : FD} {x : Str} {kws : List Keyword} {l : AA} {p pos : Pos}
end
section
variable {X : Cx} {pn : List (Addr × Obj)} {W : WX} {s0 s1 s2 s3 : Stmt} {sts : List Stmt} {a0 a1 a2 a3 d : AS}
end
/-! a condition given between two statements -/
def sMid (a b : AS) : AS := fun A ρ μ => ∃ M : Rho → Sto → Prop, a { A with nx := M } ρ μ ∧ ∀ ρ' μ', M ρ' μ' → b A ρ' μ'
section
variable {K : PySem.W.Frag} {pn : List (Addr × Obj)} {W : WX} {ta tb : TS} {a b : AS}
end
section
variable {X : Cx} {pn : List (Addr × Obj)} {W : WX} {st : Stmt} {sts : List Stmt} {b c : AS}
end
end DK
set_option Elab.async false
set_option linter.all false
set_option maxRecDepth 100000
set_option maxHeartbeats 4000000
/-! four and five keywords in another order -/
namespace DK
open PySem PySem.Spec PyProof.Rows L2 L2H
def pm3102 {α : Type} : List α → List α | [a, b, c, d] => [d, b, a, c] | _ => []
def pm3120 {α : Type} : List α → List α | [a, b, c, d] => [d, b, c, a] | _ => []
def pm3210 {α : Type} : List α → List α | [a, b, c, d] => [d, c, b, a] | _ => []
def pm43210 {α : Type} : List α → List α | [a, b, c, d, e] => [e, d, c, b, a] | _ => []
end DK
set_option Elab.async false
set_option linter.all false
set_option maxRecDepth 100000
set_option maxHeartbeats 4000000
/-! == and != by an own __eq__ -/
namespace DK
open PySem PySem.Spec PyProof.Rows L2 L2H PySem.W
section
variable {prog : Program} {w : World} {A : Around} {E : Value → Shared → Prop} {s : Shared} {K : Frag} {x C f L : Addr} {ox : Obj} {od : Option Obj} {b tb : Value} {h₀ : Heap} {m : Str → Option Value}
theorem ifBound_objNe {M : Model} {args : List Value} {Q : Option Value → Shared → Prop} (X : K.In s.heap) (I : InstAt s.heap x ox C od) (hs : findIn K (.ref C) "__ne__" = some (some (.builtin "object.__ne__")))
    (h : wpAny M A (call (.builtin "object.__ne__") (.ref x :: args)) (fun v => Q (some v)) E s) : wpAny M A (callSpecialIfBound? (.ref x) "__ne__" args) Q E s := by
  simp only [callSpecialIfBound?, bindSpecialIfBound?]
  refine wpAny_holding (wpAny_bind (wpAny_bind (wpAny_bind (I.type.here ((looks_findIn X hs).here ?_)))))
  refine wpAny_bind (wpAny_askSetting (wpAny_ite ?_))
  have fin : wpAny M A (call (.builtin "object.__ne__") ([.ref x] ++ args) >>= fun v => pure (some v)) Q E s := wpAny_bind (wpAny_mono h (fun v s' h' => wpAny_pure h') fun _ _ h' => h')
  split
  · exact wpAny_bind (wpAny_of_eq (F.cmp_object.ne.bind _) (wpAny_pure (by exact fin)))
  · exact wpAny_tryCatch (wpAny_bind (wpAny_of_eq (F.cmp_object.ne.bind _) (wpAny_pure (by exact fin))))
theorem entry_ne {Q : Fin → Shared → Prop} (X : K.In s.heap) (I : InstAt s.heap x ox C od) (hs : findIn K (.ref C) "__eq__" = some (some (.ref f))) (hf : isFn K (.ref f) = true) (hu : A.units < cLine)
    (h : wpAny (model prog w) A (call (.ref f) [.ref x, b]) (fun v s' => ∃ r, v = .bool r ∧ Q (.done (.ret (.bool (!r)))) s') E s) : wpAny (model prog w) A (Builtin.«object.__ne__» ⟨[.ref x, b], []⟩) Q E s := by
  unfold Builtin.«object.__ne__»
  repeat (first
    | with_reducible refine wpAny_cRoomFor hu ?_
    | (refine wpAny_bind (m := callSpecialIfBound? (.ref x) (Str.ofString "__eq__") [b])
        (ifBound_K X I hs hf (wpAny_mono h (fun r s' hr => by
          obtain ⟨b, rfl, hq⟩ := hr
          repeat (first | exact hq | exact wpAny_pure hq | exact wpAny_truthy_bool hq | (refine wpAny_bind (m := truthy (.bool _)) (wpAny_truthy_bool ?_)) | wp_step)) fun _ _ e => e)))
    | wp_step)
/-- x != b by the class's own == -/
theorem cmpNe_K {Q : Value → Shared → Prop} (hu : A.units + 1 < cLine) (X : K.In s.heap) (I : InstAt s.heap x ox C od) (hb : Looks (model prog w) s.heap (typeOf b) tb) (hn : notFirst K C tb = true) (hm : mroIn K C (.type "object") = some true)
    (hne : findIn K (.ref C) "__ne__" = some (some (.builtin "object.__ne__"))) (hs : findIn K (.ref C) "__eq__" = some (some (.ref f))) (hf : isFn K (.ref f) = true)
    (h : wpAny (model prog w) A.in1 (call (.ref f) [.ref x, b]) (fun v s' => ∃ r, v = .bool r ∧ Q (.bool (!r)) s') E s) : wpAny (model prog w) A (richCompare .NotEq (.ref x) b) Q E s := by
  have one : wpAny (model prog w) A (tryCompare (.ref x) "__ne__" b) (fun r s' => ∃ v, r = some v ∧ Q v s') E s := by
    unfold tryCompare
    refine wpAny_bind (ifBound_objNe X I hne (wpAny_call (codeAny_call_builtin F.cmp_object.ne.plain F.cmpEntry_ne (check_slot F.cmpKind_ne F.cmpSplit_ne (I.type.andThen (looks_mroIn X hm)) (F.cmpArgs_ne _ _)
      (entry_ne (A := A.in1) X I hs hf hu (wpAny_mono h (fun v s' hv => ?_) fun _ _ e => e))))))
    obtain ⟨r, rfl, hq⟩ := hv
    exact ⟨r, rfl, wpAny_pure ⟨_, rfl, hq⟩⟩
  unfold richCompare
  simp only [oneThing_ref]
  refine wpAny_holding (wpAny_bind (wpAny_cRoomFor (Nat.lt_of_succ_lt hu) ?_))
  rw [show cmpInfo .NotEq = (("!=", "__ne__", "__ne__") : String × Str × Str) from rfl]
  dsimp only
  refine wpAny_bind (I.type.here (wpAny_bind (hb.here ?_)))
  split
  · rename_i q
    have e : subIn K tb (.ref C) = some false := by
      rcases Bool.or_eq_true_iff.mp hn with e | e
      · rw [beq_iff_eq.mp e] at q; simp at q
      · exact beq_iff_eq.mp e
    refine wpAny_bind ((looks_subIn X e).here ?_)
    simp only [Bool.false_eq_true, if_false]
    refine wpAny_bind (wpAny_mono one (fun r s' z => ?_) fun _ _ e => e)
    obtain ⟨v, rfl, hq⟩ := z
    exact wpAny_pure hq
  · refine wpAny_bind (wpAny_pure ?_)
    simp only [Bool.false_eq_true, if_false]
    refine wpAny_bind (wpAny_mono one (fun r s' z => ?_) fun _ _ e => e)
    obtain ⟨v, rfl, hq⟩ := z
    exact wpAny_pure hq
end
/-- a class with an == of its own, != by it -/
structure OwnE (K : Frag) (C f : Addr) : Prop where
  eq : findIn K (.ref C) "__eq__" = some (some (.ref f))
  ne : findIn K (.ref C) "__ne__" = some (some (.builtin "object.__ne__"))
  fn : isFn K (.ref f) = true
  ob : mroIn K C (.type "object") = some true
def rOwnE (neg : Bool) (K : Frag) (C : Addr) (F : FD) : R2 := fun x y H Q => ∃ a dx fs tb, x = .ref a ∧ H a = some (.ins C dx fs) ∧ TyX K H y tb ∧ notFirst K C tb = true ∧
  spD K 2 F [x, y] H (fun v H' => ∃ b : Bool, v = .bl b ∧ Q (.bl (b != neg)) H') (fun _ _ _ => False)
section
variable {X : Cx} {k : Nat} {f C : Addr} {fd : FuncData} {ps : List Str} {F : FD}
theorem pass_no {σ : L2.St} : PassesAt (L2N.CX X.prog X.w) X σ (fun _ _ _ => False) := fun _ _ _ _ _ _ c => by
  obtain ⟨_, _, _, _, _, _, _, _, _, _, _, _, hE⟩ := c
  exact hE.elim
theorem op_ownEq (G : FnD X.prog X.w X.K X.mg X.base k f fd ps F) (hl : ps.length = 2) (O : OwnE X.K C f) (hb : Binds X.K fd ps []) (hr : Room k X.A) : OpR X (compareOp .Eq) (rOwnE false X.K C F) := by
  rintro pins s σ H x y v u Q I rx ry ⟨a, dx, fs, tb, rfl, ha, ty, nf, sp⟩
  cases rx
  obtain ⟨mA, J, _⟩ := ins_get I.hok ha
  obtain ⟨od, J, _⟩ := J.look
  obtain ⟨m, hF⟩ := I.fr
  obtain ⟨P, Z, p, _⟩ := kit_of I ry ty
  show wpAny (model X.prog X.w) X.A (richCompare .Eq (.ref a) u) _ _ _
  refine cmp_K (op := .Eq) (tb := tb) hr.units0 hF I.ok.mod.kin J (Z.ty _ _ I.kIn p) nf O.eq O.fn ?_
  refine wpAny_mono (run_fnS (us := [.ref a, u]) (vs := [.ref a, y]) (E := fun _ _ _ _ => False) (σ := σ) G hr hb pass_no I (.cons rfl (.cons ry .nil)) (by rw [hl]; exact sp)) (fun w s' q => ?_) fun _ _ z => z
  obtain ⟨z, H', I', rz, b, ez, q⟩ := q
  subst ez
  cases rz
  exact ⟨.bl b, H', I', rfl, by simpa using q⟩
theorem op_ownNe (G : FnD X.prog X.w X.K X.mg X.base k f fd ps F) (hl : ps.length = 2) (O : OwnE X.K C f) (hb : Binds X.K fd ps []) (hr : Room (k + 1) X.A) : OpR X (compareOp .NotEq) (rOwnE true X.K C F) := by
  rintro pins s σ H x y v u Q I rx ry ⟨a, dx, fs, tb, rfl, ha, ty, nf, sp⟩
  cases rx
  obtain ⟨mA, J, _⟩ := ins_get I.hok ha
  obtain ⟨od, J, _⟩ := J.look
  obtain ⟨P, Z, p, _⟩ := kit_of I ry ty
  show wpAny (model X.prog X.w) X.A (richCompare .NotEq (.ref a) u) _ _ _
  refine cmpNe_K (tb := tb) (Nat.lt_of_le_of_lt (Nat.add_le_add_left (by decide) _) hr.units) I.kIn J (Z.ty _ _ I.kIn p) nf O.ob O.ne O.eq O.fn ?_
  have sb : Sub X k X.A.in1 := Sub.in1 ⟨hr, rfl⟩
  have e0 : Env0 X.prog X.w X.K X.mg X.base X.A.in1 X.stack s H := by
    have e := I.env0
    exact ⟨by rw [sb.fr]; exact e.frames, e.mod, e.bs, e.bsz, e.funs, e.frf, e.hok, e.bare⟩
  have r2 : Vals [V.ref a, y] [Value.ref a, u] := .cons rfl (.cons ry .nil)
  have sp' : spD X.K ps.length F [.ref a, y] H (fun v H' => ∃ b : Bool, v = .bl b ∧ Q (.bl (b != true)) H') (fun _ _ _ => False) := by rw [hl]; exact sp
  refine wpAny_call (codeAny_mono (G.run X.A.in1 X.stack s H ⟨[.ref a, u], []⟩ [.ref a, u] [.ref a, y] _ (fun _ _ _ => False) sb.room e0 (by
    have := hb s [.ref a, u] I.kIn (by simp [hl])
    simpa using this) r2 sp') fun r s' hq => ?_)
  cases r with
  | error e =>
    obtain ⟨_, _, _, _, _, _, _, _, _, _, _, _, hE⟩ := hq
    exact hE.elim
  | ok fl =>
    cases fl with
    | ret w =>
      obtain ⟨z, H', I', rz, b, ez, q⟩ := I.after hq
      subst ez
      cases rz
      cases b
      · exact ⟨false, rfl, .bl true, H', I', rfl, q⟩
      · exact ⟨true, rfl, .bl false, H', I', rfl, q⟩
    | next => exact False.elim hq
    | brk => exact False.elim hq
    | cont => exact False.elim hq
end
end DK
set_option Elab.async false
set_option linter.all false
set_option maxRecDepth 100000
set_option maxHeartbeats 4000000
/-! isinstance by an own class, == and != by its own ==: on data -/
namespace DK
open PySem PySem.Spec PyProof.Rows L2 L2H PySem.W
theorem ty_plain {K : Frag} {pn : List (Addr × Obj)} {θ : List Addr} {H : Hp} {x : V} {d : D} {t : String} (h : Den K pn θ H x d) (e : tyD d = some t) (hn : t ≠ "own") : TyX K H x (.type t) := by
  cases h with
  | v =>
    cases x with
    | non => cases e; exact .base .non
    | bl b => cases e; exact .base (.bl b)
    | int b => cases e; exact .base (.int b)
    | str b => cases e; exact .base (.str b)
    | _ => cases e
  | lst h n hs => cases e; exact .base (.lst h)
  | tup h hs =>
    cases e
    rcases h with ⟨h, n⟩ | ⟨o, its, n, h1, h2, _⟩
    · exact .base (.tup h)
    · exact .kTuple h1 h2
  | rl h hs => cases e
  | loc h => cases e
  | err => cases e
  | dic h n => cases e; exact .base (.dK h)
  | ins hk hf h n hl hs => cases e; exact absurd rfl hn
theorem ty_kinds {d : D} {t : String} (e : tyD d = some t) (hn : t ≠ "own") : t = "NoneType" ∨ t = "bool" ∨ t = "int" ∨ t = "str" ∨ t = "list" ∨ t = "tuple" ∨ t = "dict" := by
  cases d with
  | v x => cases x <;> cases e <;> simp
  | lst => cases e; simp
  | tup => cases e; simp
  | dic => cases e; simp
  | ins => cases e; exact absurd rfl hn
  | _ => cases e
theorem sub_no {K : Frag} {C : Addr} {t : String} (h : t = "NoneType" ∨ t = "bool" ∨ t = "int" ∨ t = "str" ∨ t = "list" ∨ t = "tuple" ∨ t = "dict") : subIn K (.type t) (.ref C) = some false := by
  have key : ∀ l : List Value, (∀ v ∈ l, ∃ s, v = Value.type s) → l.contains (.ref C) = false := fun l hl => by
    rw [Bool.eq_false_iff]
    intro hc
    obtain ⟨s, hs⟩ := hl _ (List.contains_iff_mem.mp hc)
    cases hs
  have one : ∀ (s : String) (l : List String), fastBuiltinMro s = some (l.map Value.type) → subIn K (.type s) (.ref C) = some false := fun s l e => by
    show (fastBuiltinMro s).map (·.contains (.ref C)) = some false
    rw [e]
    exact congrArg some (key _ fun v hv => by
      obtain ⟨s, _, rfl⟩ := List.mem_map.mp hv
      exact ⟨s, rfl⟩)
  rcases h with rfl | rfl | rfl | rfl | rfl | rfl | rfl
  · exact one _ ["NoneType", "object"] (by decide +kernel)
  · exact one _ ["bool", "int", "object"] (by decide +kernel)
  · exact one _ ["int", "object"] (by decide +kernel)
  · exact one _ ["str", "object"] (by decide +kernel)
  · exact one _ ["list", "object"] (by decide +kernel)
  · exact one _ ["tuple", "object"] (by decide +kernel)
  · exact one _ ["dict", "object"] (by decide +kernel)
/-- what isinstance asks of an own class -/
structure OwnK (K : Frag) (C : Addr) (N : List Addr) : Prop where
  cls : isClsIn K C = true
  ty : typeIn K (.ref C) = some (.type "type")
  me : kitOne K (.ref C) (.ref C) = some true
  no : ∀ D ∈ N, subIn K (.ref D) (.ref C) = some false ∧ subIn K (.ref D) (.ref D) = some true
theorem OwnK.kitN {K : Frag} {C : Addr} {N : List Addr} (h : OwnK K C N) {t : String} (ht : t = "NoneType" ∨ t = "bool" ∨ t = "int" ∨ t = "str" ∨ t = "list" ∨ t = "tuple" ∨ t = "dict") : kitOne K (.type t) (.ref C) = some false := by
  have e2 : ((PySem.W.clsIn K C).isSome && typeIn K (.ref C) == some (.type "type")) = true := by
    have h1' : (PySem.W.clsIn K C).isSome = true := h.cls
    rw [h1', h.ty]
    rfl
  show (if (Value.type t == Value.ref C) = true then some true else (if ((PySem.W.clsIn K C).isSome && typeIn K (.ref C) == some (.type "type")) = true then subIn K (.type t) (.ref C) else none)) = some false
  rw [if_neg (by simp), if_pos e2]
  exact sub_no ht
theorem OwnK.first {K : Frag} {C : Addr} {N : List Addr} (h : OwnK K C N) : notFirst K C (.ref C) = true := by simp [notFirst]
theorem OwnK.firstN {K : Frag} {C : Addr} {t : String} (ht : t = "NoneType" ∨ t = "bool" ∨ t = "int" ∨ t = "str" ∨ t = "list" ∨ t = "tuple" ∨ t = "dict") : notFirst K C (.type t) = true := by
  unfold notFirst
  rw [sub_no ht]
  simp
theorem OwnK.firstC {K : Frag} {C D : Addr} {N : List Addr} (h : OwnK K C N) (hd : D ∈ N) : notFirst K C (.ref D) = true := by
  unfold notFirst
  rw [(h.no D hd).1]
  simp
def IsO (C : Addr) (x : D) : Prop := ∃ ns ds, x = .ins C ns ds
def NoO (N : List Addr) (x : D) : Prop := (∃ t, tyD x = some t ∧ t ≠ "own") ∨ ∃ D ns ds, x = .ins D ns ds ∧ D ∈ N
def fIsiB (C : Addr) (N : List Addr) : FL := fun xs μ Q => match xs with
  | [x, .v (.ref D)] => D = C ∧ ((IsO C x ∧ Q (.v (.bl true)) μ) ∨ (NoO N x ∧ Q (.v (.bl false)) μ))
  | _ => False
/-- == by F, != its opposite -/
def fEqO (neg : Bool) (C : Addr) (N : List Addr) (F : FD) : F2 := fun x y μ Q => True ∧ (IsO C x ∧ (IsO C y ∨ NoO N y)) ∧ F [x, y] μ (fun d μ' => ∃ b, d = .v (.bl b) ∧ Q (.v (.bl (b != neg))) μ') (fun _ _ => False)
section
variable {X : Cx} {pn : List (Addr × Obj)} {K : Frag} {C : Addr} {N : List Addr}
theorem c_isiB (hK : X.K = K) (h : OwnK K C N) : DCl X pn (.builtin "isinstance") (fIsiB C N) := by
  subst hK
  refine ⟨_, call_isi, ⟨fun w xs ds k hx QA hq Q g => ?_⟩⟩
  unfold fIsiB at hq
  split at hq
  · obtain ⟨rfl, hq⟩ := hq
    cases hx with
    | cons h1 h2 =>
      cases h2 with
      | cons h3 h4 =>
        cases h4
        obtain rfl := h3.v_inv
        rcases hq with ⟨⟨ns, ds, rfl⟩, hq⟩ | ⟨⟨t, ht, hn⟩ | ⟨D, ns, ds, rfl, hD⟩, hq⟩
        · cases h1 with
          | ins hck hf h' n hl hs => exact ⟨_, _, _, _, _, rfl, .own _, hck.tyof h', h.me, (g _ _ hq).same k .v⟩
        · exact ⟨_, _, _, _, _, rfl, .own _, ty_plain h1 ht hn, h.kitN (ty_kinds ht hn), (g _ _ hq).same k .v⟩
        · cases h1 with
          | ins hck hf h' n hl hs => exact ⟨_, _, _, _, _, rfl, .own _, hck.tyof h', kit_ref (h.no D hD).2 (h.no D hD).1 h.cls h.ty, (g _ _ hq).same k .v⟩
  · exact hq.elim
end
section
variable {X : Cx} {W : WX} {k k' : Nat} {C f : Addr} {N : List Addr} {fd : FuncData} {ps : List Str} {F : FD}
theorem sr_eqO {neg : Bool} (h : OwnK X.K C N) : SR X.K [] (rOwnE neg X.K C F) (fEqO neg C N F) := ⟨fun w x y dx dy ok hx hy QA hq Q g => by
  obtain ⟨_, ⟨⟨ns, ds, rfl⟩, hy2⟩, hF⟩ := hq
  have hx0 := hx
  cases hx with
  | @ins a _ dxx _ vs _ hck hf h' n hl hs =>
    have sp : spD X.K 2 F [.ref a, y] w.H (fun v H' => ∃ b : Bool, v = .bl b ∧ Q (.bl (b != neg)) H') (fun _ _ _ => False) := by
      refine ⟨w.θ, w.μ, _, _, _, ok, .cons hx0 (.cons hy .nil), rfl, hF, fun d μ' q v w' em l k' dn => ?_, fun x μ' q => q.elim⟩
      obtain ⟨b, rfl, q⟩ := q
      obtain rfl := dn.v_inv
      exact ⟨b, rfl, g _ _ q _ w' em l k' .v⟩
    rcases hy2 with ⟨ns', ds', rfl⟩ | ⟨t, ht, hn⟩ | ⟨D, ns', ds', rfl, hD⟩
    · cases hy with
      | ins hck2 hf2 h2 n2 hl2 hs2 => exact ⟨a, dxx, _, _, rfl, h', hck2.tyof h2, h.first, sp⟩
    · exact ⟨a, dxx, _, _, rfl, h', ty_plain hy ht hn, OwnK.firstN (ty_kinds ht hn), sp⟩
    · cases hy with
      | ins hck2 hf2 h2 n2 hl2 hs2 => exact ⟨a, dxx, _, _, rfl, h', hck2.tyof h2, h.firstC hD, sp⟩⟩
theorem o_eqO (B : Bd X W k) (h : OwnK X.K C N) (G : FnD X.prog X.w X.K X.mg X.base k' f fd ps F) (hk' : k' + 1 ≤ k) (hl : ps.length = 2) (O : OwnE X.K C f) (hb : Binds X.K fd ps []) : DOp X [] (compareOp .Eq) (fEqO false C N F) :=
  ⟨_, op_ownEq G hl O hb (B.room.mono (by omega)), sr_eqO h⟩
theorem o_neO (B : Bd X W k) (h : OwnK X.K C N) (G : FnD X.prog X.w X.K X.mg X.base k' f fd ps F) (hk' : k' + 1 ≤ k) (hl : ps.length = 2) (O : OwnE X.K C f) (hb : Binds X.K fd ps []) : DOp X [] (compareOp .NotEq) (fEqO true C N F) :=
  ⟨_, op_ownNe G hl O hb (B.room.mono hk'), sr_eqO h⟩
end
end DK
set_option Elab.async false
set_option linter.all false
set_option maxRecDepth 100000
set_option maxHeartbeats 4000000
namespace DK
open PySem PySem.Spec PyProof.Rows L2 L2H
/-! a text times an int: some text -/
def rRepS : R2 := fun x y H Q => ∃ i n, x = .str i ∧ y = .int n ∧ 0 ≤ n ∧ n ≤ 1000 ∧ i.length ≤ 1000 ∧ ∀ z, Q (.str z) H
def fRepS : F2 := fun x y μ Q => match x, y with
  | .v (.str i), .v (.int n) => (0 ≤ n ∧ n ≤ 1000 ∧ i.length ≤ 1000) ∧ ∀ z, Q (.v (.str z)) μ
  | _, _ => False
section
variable {X : Cx} {pn : List (Addr × Obj)}
theorem div_big {a n : Int} (h1 : 1 ≤ n) (h2 : n ≤ 1000) (h3 : a ≤ 1000) : ¬ a > (2 ^ 63 - 1) / n := by
  have h : (1000 : Int) ≤ (2 ^ 63 - 1) / n := (Int.le_ediv_iff_mul_le (by omega)).mpr (by omega)
  omega
theorem fold_sz (xs : Array Nat) : ∀ (m : Nat) (acc : Array Nat), ((List.replicate m xs).foldl (fun x1 x2 => x1 ++ x2) acc).size = acc.size + m * xs.size
  | 0, acc => by simp
  | m + 1, acc => by
    rw [List.replicate_succ, List.foldl_cons, fold_sz xs m, Array.size_append, Nat.succ_mul]
    omega
theorem op_repS : OpR X (binaryOp .Mult) rRepS := by
  intro pins s σ H x y v u Q I rx ry h
  obtain ⟨i, n, rfl, rfl, h0, h1, h2, q⟩ := h
  obtain ⟨t, rfl⟩ := rx
  obtain ⟨t', rfl⟩ := ry
  refine P.mul_str (by rw [decide_eq_false (by omega), decide_eq_false (by omega)]; rfl) (fun a b => div_big (by omega) h1 (by omega)) (fun a b => ?_) ?_
  · unfold Builtin.Str.tooLong
    have : i.length * n.toNat ≤ 1000 * 1000 := Nat.mul_le_mul h2 (by omega)
    rw [sizeLine_eq]
    exact decide_eq_false (by omega)
  · have hl : i.length * n.toNat ≤ 1000 * 1000 := Nat.mul_le_mul h2 (by omega)
    split
    · exact ⟨by decide, .str Str.empty, H, I.tok _, ⟨_, rfl⟩, q _⟩
    · split
      · exact ⟨.str i, H, I, ⟨_, rfl⟩, q _⟩
      · refine ⟨?_, .str _, H, I.tok _, ⟨_, rfl⟩, q _⟩
        show (List.foldl (fun x1 x2 => x1 ++ x2) #[] (List.replicate n.toNat i.cps)).size ≤ sizeLine
        rw [fold_sz, sizeLine_eq]
        have e : n.toNat * i.cps.size = i.length * n.toNat := Nat.mul_comm _ _
        show 0 + n.toNat * i.cps.size ≤ _
        omega
theorem o_repS : DOp X pn (binaryOp .Mult) fRepS := ⟨_, op_repS, ⟨fun w x y dx dy k hx hy QA h Q hq => by
  unfold fRepS at h
  split at h
  · obtain rfl := hx.v_inv
    obtain rfl := hy.v_inv
    exact ⟨_, _, rfl, rfl, h.1.1, h.1.2.1, h.1.2.2, fun z => (hq _ _ (h.2 z)).same k .v⟩
  · exact h.elim⟩⟩
end
end DK
set_option Elab.async false
set_option linter.all false
set_option maxRecDepth 100000
set_option maxHeartbeats 4000000
namespace Pf
open PySem L2 DK
def top (i : Nat) : Stmt := PySem.Challenge.pw_noisebound_k25_rings_and_demands.main.body.getD i (.Pass ⟨0, 0, 0, 0⟩)
set_option genSizeOf false in
set_option genInjectivity false in
structure Tx (K : PySem.W.Frag) (mg : Str → Option Value) where
  n_ValueError : mg "ValueError" = none
  n_max : mg "max" = none
  n_range : mg "range" = none
  n_list : mg "list" = none
  n_isinstance : mg "isinstance" = none
  n_int : mg "int" = none
  n_str : mg "str" = none
  n_tuple : mg "tuple" = none
  n_min : mg "min" = none
  n_len : mg "len" = none
  n_bool : mg "bool" = none
  o_DEGREES : Addr
  m_DEGREES : mg "DEGREES" = some (.ref o_DEGREES)
  kt_DEGREES : KT K o_DEGREES (([8, 16, 32, 64, 128, 256] : List Int).map V.int)
  t_GREATEST_MODULUS : Tok
  m_GREATEST_MODULUS : mg "GREATEST_MODULUS" = some (.int 4095 t_GREATEST_MODULUS)
  a_NoiseboundError : Addr
  m_NoiseboundError : mg "NoiseboundError" = some (.ref a_NoiseboundError)
  a_OutOfRange : Addr
  m_OutOfRange : mg "OutOfRange" = some (.ref a_OutOfRange)
  a_BadItem : Addr
  m_BadItem : mg "BadItem" = some (.ref a_BadItem)
  a_BadLength : Addr
  m_BadLength : mg "BadLength" = some (.ref a_BadLength)
  a_BadText : Addr
  m_BadText : mg "BadText" = some (.ref a_BadText)
  a_BadPadding : Addr
  m_BadPadding : mg "BadPadding" = some (.ref a_BadPadding)
  a_WrongPhase : Addr
  m_WrongPhase : mg "WrongPhase" = some (.ref a_WrongPhase)
  a_NotInvertible : Addr
  m_NotInvertible : mg "NotInvertible" = some (.ref a_NotInvertible)
  a_BadRing : Addr
  m_BadRing : mg "BadRing" = some (.ref a_BadRing)
  a_BadParameters : Addr
  m_BadParameters : mg "BadParameters" = some (.ref a_BadParameters)
  a_UnknownName : Addr
  m_UnknownName : mg "UnknownName" = some (.ref a_UnknownName)
  a_DifferentRings : Addr
  m_DifferentRings : mg "DifferentRings" = some (.ref a_DifferentRings)
  a_BadKey : Addr
  m_BadKey : mg "BadKey" = some (.ref a_BadKey)
  a_BadLetter : Addr
  m_BadLetter : mg "BadLetter" = some (.ref a_BadLetter)
  a_BadKeyText : Addr
  m_BadKeyText : mg "BadKeyText" = some (.ref a_BadKeyText)
  a_BadRecord : Addr
  m_BadRecord : mg "BadRecord" = some (.ref a_BadRecord)
  a_BadCommand : Addr
  m_BadCommand : mg "BadCommand" = some (.ref a_BadCommand)
  a_NoEntry : Addr
  m_NoEntry : mg "NoEntry" = some (.ref a_NoEntry)
  a_NothingLeft : Addr
  m_NothingLeft : mg "NothingLeft" = some (.ref a_NothingLeft)
  a_Ring : Addr
  m_Ring : mg "Ring" = some (.ref a_Ring)
  a_is_number : Addr
  fd_is_number : FuncData
  F_is_number : Fun K "is_number" "is_number" (top 21) a_is_number fd_is_number
  m_is_number : mg "is_number" = some (.ref a_is_number)
  k_is_number : PySem.W.keepIn K (.ref a_is_number) = true
  b_is_number : Binds K fd_is_number ["value"] []
  a_is_between : Addr
  fd_is_between : FuncData
  F_is_between : Fun K "is_between" "is_between" (top 22) a_is_between fd_is_between
  m_is_between : mg "is_between" = some (.ref a_is_between)
  k_is_between : PySem.W.keepIn K (.ref a_is_between) = true
  b_is_between : Binds K fd_is_between ["value", "low", "high"] []
  a_check_number : Addr
  fd_check_number : FuncData
  F_check_number : Fun K "check_number" "check_number" (top 23) a_check_number fd_check_number
  m_check_number : mg "check_number" = some (.ref a_check_number)
  k_check_number : PySem.W.keepIn K (.ref a_check_number) = true
  b_check_number : Binds K fd_check_number ["name", "value"] []
  a_check_between : Addr
  fd_check_between : FuncData
  F_check_between : Fun K "check_between" "check_between" (top 24) a_check_between fd_check_between
  m_check_between : mg "check_between" = some (.ref a_check_between)
  k_check_between : PySem.W.keepIn K (.ref a_check_between) = true
  b_check_between : Binds K fd_check_between ["name", "value", "low", "high"] []
  a_check_modulus : Addr
  fd_check_modulus : FuncData
  F_check_modulus : Fun K "check_modulus" "check_modulus" (top 28) a_check_modulus fd_check_modulus
  m_check_modulus : mg "check_modulus" = some (.ref a_check_modulus)
  k_check_modulus : PySem.W.keepIn K (.ref a_check_modulus) = true
  b_check_modulus : Binds K fd_check_modulus ["q"] []
  a_is_degree : Addr
  fd_is_degree : FuncData
  F_is_degree : Fun K "is_degree" "is_degree" (top 29) a_is_degree fd_is_degree
  m_is_degree : mg "is_degree" = some (.ref a_is_degree)
  k_is_degree : PySem.W.keepIn K (.ref a_is_degree) = true
  b_is_degree : Binds K fd_is_degree ["value"] []
  a_power : Addr
  fd_power : FuncData
  F_power : Fun K "power" "power" (top 30) a_power fd_power
  m_power : mg "power" = some (.ref a_power)
  k_power : PySem.W.keepIn K (.ref a_power) = true
  b_power : Binds K fd_power ["base", "exponent", "q"] []
  a_least_divisor : Addr
  fd_least_divisor : FuncData
  F_least_divisor : Fun K "least_divisor" "least_divisor" (top 31) a_least_divisor fd_least_divisor
  m_least_divisor : mg "least_divisor" = some (.ref a_least_divisor)
  k_least_divisor : PySem.W.keepIn K (.ref a_least_divisor) = true
  b_least_divisor : Binds K fd_least_divisor ["value"] []
  a_is_prime : Addr
  fd_is_prime : FuncData
  F_is_prime : Fun K "is_prime" "is_prime" (top 32) a_is_prime fd_is_prime
  m_is_prime : mg "is_prime" = some (.ref a_is_prime)
  k_is_prime : PySem.W.keepIn K (.ref a_is_prime) = true
  b_is_prime : Binds K fd_is_prime ["value"] []
  a_is_odd_prime : Addr
  fd_is_odd_prime : FuncData
  F_is_odd_prime : Fun K "is_odd_prime" "is_odd_prime" (top 33) a_is_odd_prime fd_is_odd_prime
  m_is_odd_prime : mg "is_odd_prime" = some (.ref a_is_odd_prime)
  k_is_odd_prime : PySem.W.keepIn K (.ref a_is_odd_prime) = true
  b_is_odd_prime : Binds K fd_is_odd_prime ["value"] []
  a_is_root : Addr
  fd_is_root : FuncData
  F_is_root : Fun K "is_root" "is_root" (top 34) a_is_root fd_is_root
  m_is_root : mg "is_root" = some (.ref a_is_root)
  k_is_root : PySem.W.keepIn K (.ref a_is_root) = true
  b_is_root : Binds K fd_is_root ["n", "q", "value"] []
  a_ring_fault : Addr
  fd_ring_fault : FuncData
  F_ring_fault : Fun K "ring_fault" "ring_fault" (top 36) a_ring_fault fd_ring_fault
  m_ring_fault : mg "ring_fault" = some (.ref a_ring_fault)
  k_ring_fault : PySem.W.keepIn K (.ref a_ring_fault) = true
  b_ring_fault : Binds K fd_ring_fault ["n", "q", "root"] []
  a_size_fault : Addr
  fd_size_fault : FuncData
  F_size_fault : Fun K "size_fault" "size_fault" (top 37) a_size_fault fd_size_fault
  m_size_fault : mg "size_fault" = some (.ref a_size_fault)
  k_size_fault : PySem.W.keepIn K (.ref a_size_fault) = true
  b_size_fault : Binds K fd_size_fault ["n", "q"] []
  a__law_begin : Addr
  fd__law_begin : FuncData
  F__law_begin : Fun K "_law_begin" "_law_begin" (top 40) a__law_begin fd__law_begin
  m__law_begin : mg "_law_begin" = some (.ref a__law_begin)
  k__law_begin : PySem.W.keepIn K (.ref a__law_begin) = true
  b__law_begin : Binds K fd__law_begin ["script"] []
  a__law_mixed : Addr
  fd__law_mixed : FuncData
  F__law_mixed : Fun K "_law_mixed" "_law_mixed" (top 41) a__law_mixed fd__law_mixed
  m__law_mixed : mg "_law_mixed" = some (.ref a__law_mixed)
  k__law_mixed : PySem.W.keepIn K (.ref a__law_mixed) = true
  b__law_mixed : Binds K fd__law_mixed ["seed", "turn"] []
  a__law_take : Addr
  fd__law_take : FuncData
  F__law_take : Fun K "_law_take" "_law_take" (top 42) a__law_take fd__law_take
  m__law_take : mg "_law_take" = some (.ref a__law_take)
  k__law_take : PySem.W.keepIn K (.ref a__law_take) = true
  b__law_take : Binds K fd__law_take ["store", "many"] []
  a__law_wide : Addr
  fd__law_wide : FuncData
  F__law_wide : Fun K "_law_wide" "_law_wide" (top 43) a__law_wide fd__law_wide
  m__law_wide : mg "_law_wide" = some (.ref a__law_wide)
  k__law_wide : PySem.W.keepIn K (.ref a__law_wide) = true
  b__law_wide : Binds K fd__law_wide ["store", "many"] []
  a__law_pick : Addr
  fd__law_pick : FuncData
  F__law_pick : Fun K "_law_pick" "_law_pick" (top 44) a__law_pick fd__law_pick
  m__law_pick : mg "_law_pick" = some (.ref a__law_pick)
  k__law_pick : PySem.W.keepIn K (.ref a__law_pick) = true
  b__law_pick : Binds K fd__law_pick ["store", "row"] []
  a__law_between : Addr
  fd__law_between : FuncData
  F__law_between : Fun K "_law_between" "_law_between" (top 45) a__law_between fd__law_between
  m__law_between : mg "_law_between" = some (.ref a__law_between)
  k__law_between : PySem.W.keepIn K (.ref a__law_between) = true
  b__law_between : Binds K fd__law_between ["store", "low", "high"] []
  a__law_shuffle : Addr
  fd__law_shuffle : FuncData
  F__law_shuffle : Fun K "_law_shuffle" "_law_shuffle" (top 46) a__law_shuffle fd__law_shuffle
  m__law_shuffle : mg "_law_shuffle" = some (.ref a__law_shuffle)
  k__law_shuffle : PySem.W.keepIn K (.ref a__law_shuffle) = true
  b__law_shuffle : Binds K fd__law_shuffle ["store", "row"] []
  a__law_any : Addr
  fd__law_any : FuncData
  F__law_any : Fun K "_law_any" "_law_any" (top 47) a__law_any fd__law_any
  m__law_any : mg "_law_any" = some (.ref a__law_any)
  k__law_any : PySem.W.keepIn K (.ref a__law_any) = true
  b__law_any : Binds K fd__law_any ["store"] []
  a__law_other : Addr
  fd__law_other : FuncData
  F__law_other : Fun K "_law_other" "_law_other" (top 48) a__law_other fd__law_other
  m__law_other : mg "_law_other" = some (.ref a__law_other)
  k__law_other : PySem.W.keepIn K (.ref a__law_other) = true
  b__law_other : Binds K fd__law_other ["store"] []
  a__law_beyond : Addr
  fd__law_beyond : FuncData
  F__law_beyond : Fun K "_law_beyond" "_law_beyond" (top 49) a__law_beyond fd__law_beyond
  m__law_beyond : mg "_law_beyond" = some (.ref a__law_beyond)
  k__law_beyond : PySem.W.keepIn K (.ref a__law_beyond) = true
  b__law_beyond : Binds K fd__law_beyond ["store", "low", "high"] []
  a__law_same : Addr
  fd__law_same : FuncData
  F__law_same : Fun K "_law_same" "_law_same" (top 50) a__law_same fd__law_same
  m__law_same : mg "_law_same" = some (.ref a__law_same)
  k__law_same : PySem.W.keepIn K (.ref a__law_same) = true
  b__law_same : Binds K fd__law_same ["actual", "expected"] []
  a__law_whole : Addr
  fd__law_whole : FuncData
  F__law_whole : Fun K "_law_whole" "_law_whole" (top 51) a__law_whole fd__law_whole
  m__law_whole : mg "_law_whole" = some (.ref a__law_whole)
  k__law_whole : PySem.W.keepIn K (.ref a__law_whole) = true
  b__law_whole : Binds K fd__law_whole ["actual"] []
  a__law_within : Addr
  fd__law_within : FuncData
  F__law_within : Fun K "_law_within" "_law_within" (top 52) a__law_within fd__law_within
  m__law_within : mg "_law_within" = some (.ref a__law_within)
  k__law_within : PySem.W.keepIn K (.ref a__law_within) = true
  b__law_within : Binds K fd__law_within ["actual", "low", "high"] []
  a__law_copy : Addr
  fd__law_copy : FuncData
  F__law_copy : Fun K "_law_copy" "_law_copy" (top 53) a__law_copy fd__law_copy
  m__law_copy : mg "_law_copy" = some (.ref a__law_copy)
  k__law_copy : PySem.W.keepIn K (.ref a__law_copy) = true
  b__law_copy : Binds K fd__law_copy ["thing"] []
  a__law_kin : Addr
  fd__law_kin : FuncData
  F__law_kin : Fun K "_law_kin" "_law_kin" (top 54) a__law_kin fd__law_kin
  m__law_kin : mg "_law_kin" = some (.ref a__law_kin)
  k__law_kin : PySem.W.keepIn K (.ref a__law_kin) = true
  b__law_kin : Binds K fd__law_kin ["error"] []
  a__law_prime : Addr
  fd__law_prime : FuncData
  F__law_prime : Fun K "_law_prime" "_law_prime" (top 55) a__law_prime fd__law_prime
  m__law_prime : mg "_law_prime" = some (.ref a__law_prime)
  k__law_prime : PySem.W.keepIn K (.ref a__law_prime) = true
  b__law_prime : Binds K fd__law_prime ["number"] []
  a__law_power : Addr
  fd__law_power : FuncData
  F__law_power : Fun K "_law_power" "_law_power" (top 56) a__law_power fd__law_power
  m__law_power : mg "_law_power" = some (.ref a__law_power)
  k__law_power : PySem.W.keepIn K (.ref a__law_power) = true
  b__law_power : Binds K fd__law_power ["base", "exponent", "q"] []
  a__law_root : Addr
  fd__law_root : FuncData
  F__law_root : Fun K "_law_root" "_law_root" (top 57) a__law_root fd__law_root
  m__law_root : mg "_law_root" = some (.ref a__law_root)
  k__law_root : PySem.W.keepIn K (.ref a__law_root) = true
  b__law_root : Binds K fd__law_root ["store", "n", "q"] []
  a__law_ring_demand : Addr
  fd__law_ring_demand : FuncData
  F__law_ring_demand : Fun K "_law_ring_demand" "_law_ring_demand" (top 58) a__law_ring_demand fd__law_ring_demand
  m__law_ring_demand : mg "_law_ring_demand" = some (.ref a__law_ring_demand)
  k__law_ring_demand : PySem.W.keepIn K (.ref a__law_ring_demand) = true
  b__law_ring_demand : Binds K fd__law_ring_demand ["n", "q", "root"] []
  a__law_refused : Addr
  fd__law_refused : FuncData
  F__law_refused : Fun K "_law_refused" "_law_refused" (top 59) a__law_refused fd__law_refused
  m__law_refused : mg "_law_refused" = some (.ref a__law_refused)
  k__law_refused : PySem.W.keepIn K (.ref a__law_refused) = true
  b__law_refused : Binds K fd__law_refused ["error"] []
  a__law_prime_for : Addr
  fd__law_prime_for : FuncData
  F__law_prime_for : Fun K "_law_prime_for" "_law_prime_for" (top 60) a__law_prime_for fd__law_prime_for
  m__law_prime_for : mg "_law_prime_for" = some (.ref a__law_prime_for)
  k__law_prime_for : PySem.W.keepIn K (.ref a__law_prime_for) = true
  b__law_prime_for : Binds K fd__law_prime_for ["store", "n"] []
  a__law_some_ring : Addr
  fd__law_some_ring : FuncData
  F__law_some_ring : Fun K "_law_some_ring" "_law_some_ring" (top 61) a__law_some_ring fd__law_some_ring
  m__law_some_ring : mg "_law_some_ring" = some (.ref a__law_some_ring)
  k__law_some_ring : PySem.W.keepIn K (.ref a__law_some_ring) = true
  b__law_some_ring : Binds K fd__law_some_ring ["store", "degrees"] []
  a__law_plain : Addr
  fd__law_plain : FuncData
  F__law_plain : Fun K "_law_plain" "_law_plain" (top 62) a__law_plain fd__law_plain
  m__law_plain : mg "_law_plain" = some (.ref a__law_plain)
  k__law_plain : PySem.W.keepIn K (.ref a__law_plain) = true
  b__law_plain : Binds K fd__law_plain ["store", "depth"] []
  a__law_composite : Addr
  fd__law_composite : FuncData
  F__law_composite : Fun K "_law_composite" "_law_composite" (top 63) a__law_composite fd__law_composite
  m__law_composite : mg "_law_composite" = some (.ref a__law_composite)
  k__law_composite : PySem.W.keepIn K (.ref a__law_composite) = true
  b__law_composite : Binds K fd__law_composite ["store"] []
  a__law_near : Addr
  fd__law_near : FuncData
  F__law_near : Fun K "_law_near" "_law_near" (top 64) a__law_near fd__law_near
  m__law_near : mg "_law_near" = some (.ref a__law_near)
  k__law_near : PySem.W.keepIn K (.ref a__law_near) = true
  b__law_near : Binds K fd__law_near ["store", "numbers"] []
  a__law_root_of_two : Addr
  fd__law_root_of_two : FuncData
  F__law_root_of_two : Fun K "_law_root_of_two" "_law_root_of_two" (top 65) a__law_root_of_two fd__law_root_of_two
  m__law_root_of_two : mg "_law_root_of_two" = some (.ref a__law_root_of_two)
  k__law_root_of_two : PySem.W.keepIn K (.ref a__law_root_of_two) = true
  b__law_root_of_two : Binds K fd__law_root_of_two ["store"] []
  a__law_triples : Addr
  fd__law_triples : FuncData
  F__law_triples : Fun K "_law_triples" "_law_triples" (top 66) a__law_triples fd__law_triples
  m__law_triples : mg "_law_triples" = some (.ref a__law_triples)
  k__law_triples : PySem.W.keepIn K (.ref a__law_triples) = true
  b__law_triples : Binds K fd__law_triples ["store"] []
  a__law_made : Addr
  fd__law_made : FuncData
  F__law_made : Fun K "_law_made" "_law_made" (top 67) a__law_made fd__law_made
  m__law_made : mg "_law_made" = some (.ref a__law_made)
  k__law_made : PySem.W.keepIn K (.ref a__law_made) = true
  b__law_made : Binds K fd__law_made ["values"] []
  a__law_looks : Addr
  fd__law_looks : FuncData
  F__law_looks : Fun K "_law_looks" "_law_looks" (top 68) a__law_looks fd__law_looks
  m__law_looks : mg "_law_looks" = some (.ref a__law_looks)
  k__law_looks : PySem.W.keepIn K (.ref a__law_looks) = true
  b__law_looks : Binds K fd__law_looks ["ring", "values"] []
  a__law_equals : Addr
  fd__law_equals : FuncData
  F__law_equals : Fun K "_law_equals" "_law_equals" (top 69) a__law_equals fd__law_equals
  m__law_equals : mg "_law_equals" = some (.ref a__law_equals)
  k__law_equals : PySem.W.keepIn K (.ref a__law_equals) = true
  b__law_equals : Binds K fd__law_equals ["rings", "numbers"] []
  a__law_unlike : Addr
  fd__law_unlike : FuncData
  F__law_unlike : Fun K "_law_unlike" "_law_unlike" (top 70) a__law_unlike fd__law_unlike
  m__law_unlike : mg "_law_unlike" = some (.ref a__law_unlike)
  k__law_unlike : PySem.W.keepIn K (.ref a__law_unlike) = true
  b__law_unlike : Binds K fd__law_unlike ["ring", "values", "bad"] []
  a_law : Addr
  fd_law : FuncData
  F_law : Fun K "law" "law" (top 71) a_law fd_law
  m_law : mg "law" = some (.ref a_law)
  k_law : PySem.W.keepIn K (.ref a_law) = true
  b_law : Binds K fd_law ["script"] []
  ck_Ring : CK K a_Ring
  qo_Ring : PySem.W.kitOne K (.ref a_Ring) (.ref a_Ring) = some true
  no_Ring_n : L2.NoAttr K a_Ring "n"
  no_Ring_q : L2.NoAttr K a_Ring "q"
  no_Ring_root : L2.NoAttr K a_Ring "root"
  no_Ring_half : L2.NoAttr K a_Ring "half"
  no_Ring_quarter : L2.NoAttr K a_Ring "quarter"
  no_Ring_triple : L2.NoAttr K a_Ring "triple"
  a_Ring___init__ : Addr
  fd_Ring___init__ : FuncData
  F_Ring___init__ : Fun K "__init__" "Ring.__init__" (meth (top 38) 0) a_Ring___init__ fd_Ring___init__
  b_Ring___init__ : Binds K fd_Ring___init__ ["self", "n", "q", "root"] []
  mk_Ring : L2.Mk K a_Ring a_Ring___init__
  a_Ring___eq__ : Addr
  fd_Ring___eq__ : FuncData
  F_Ring___eq__ : Fun K "__eq__" "Ring.__eq__" (meth (top 38) 1) a_Ring___eq__ fd_Ring___eq__
  b_Ring___eq__ : Binds K fd_Ring___eq__ ["self", "other"] []
  me_Ring___eq__ : L2.Meth K a_Ring "__eq__" a_Ring___eq__
  oe_Ring : OwnE K a_Ring a_Ring___eq__
  ow_Ring : OwnK K a_Ring []
  fi_OutOfRange : Addr
  fdi_OutOfRange : FuncData
  e_OutOfRange : ErC K mg "OutOfRange" a_OutOfRange fi_OutOfRange
  in_OutOfRange : InC K a_OutOfRange ["name"]
  ii_OutOfRange : Fun K "__init__" "OutOfRange.__init__" (meth (top 2) 0) fi_OutOfRange fdi_OutOfRange
  bi_OutOfRange : Binds K fdi_OutOfRange ["self", "name"] []
  x_OutOfRange : PySem.W.ErrK K a_OutOfRange
  f_OutOfRange : XfC K a_OutOfRange
  exm_OutOfRange : PySem.W.exmOne K (.ref a_OutOfRange) (.ref a_NoiseboundError) = some true
  q_OutOfRange_ValueError : PySem.W.kitOne K (.ref a_OutOfRange) (.type "ValueError") = some true
  g_OutOfRange_name : PySem.W.findIn K (.ref a_OutOfRange) "name" = some none
  q_OutOfRange_NoiseboundError : PySem.W.kitOne K (.ref a_OutOfRange) (.ref a_NoiseboundError) = some true
  q_OutOfRange_OutOfRange : PySem.W.kitOne K (.ref a_OutOfRange) (.ref a_OutOfRange) = some true
  q_OutOfRange_BadItem : PySem.W.kitOne K (.ref a_OutOfRange) (.ref a_BadItem) = some false
  q_OutOfRange_BadLength : PySem.W.kitOne K (.ref a_OutOfRange) (.ref a_BadLength) = some false
  q_OutOfRange_BadText : PySem.W.kitOne K (.ref a_OutOfRange) (.ref a_BadText) = some false
  q_OutOfRange_BadPadding : PySem.W.kitOne K (.ref a_OutOfRange) (.ref a_BadPadding) = some false
  q_OutOfRange_WrongPhase : PySem.W.kitOne K (.ref a_OutOfRange) (.ref a_WrongPhase) = some false
  q_OutOfRange_NotInvertible : PySem.W.kitOne K (.ref a_OutOfRange) (.ref a_NotInvertible) = some false
  q_OutOfRange_BadRing : PySem.W.kitOne K (.ref a_OutOfRange) (.ref a_BadRing) = some false
  q_OutOfRange_BadParameters : PySem.W.kitOne K (.ref a_OutOfRange) (.ref a_BadParameters) = some false
  q_OutOfRange_UnknownName : PySem.W.kitOne K (.ref a_OutOfRange) (.ref a_UnknownName) = some false
  q_OutOfRange_DifferentRings : PySem.W.kitOne K (.ref a_OutOfRange) (.ref a_DifferentRings) = some false
  q_OutOfRange_BadKey : PySem.W.kitOne K (.ref a_OutOfRange) (.ref a_BadKey) = some false
  q_OutOfRange_BadLetter : PySem.W.kitOne K (.ref a_OutOfRange) (.ref a_BadLetter) = some false
  q_OutOfRange_BadKeyText : PySem.W.kitOne K (.ref a_OutOfRange) (.ref a_BadKeyText) = some false
  q_OutOfRange_BadRecord : PySem.W.kitOne K (.ref a_OutOfRange) (.ref a_BadRecord) = some false
  q_OutOfRange_BadCommand : PySem.W.kitOne K (.ref a_OutOfRange) (.ref a_BadCommand) = some false
  q_OutOfRange_NoEntry : PySem.W.kitOne K (.ref a_OutOfRange) (.ref a_NoEntry) = some false
  q_OutOfRange_NothingLeft : PySem.W.kitOne K (.ref a_OutOfRange) (.ref a_NothingLeft) = some false
  q_OutOfRange_Ring : PySem.W.kitOne K (.ref a_OutOfRange) (.ref a_Ring) = some false
  fi_BadRing : Addr
  fdi_BadRing : FuncData
  e_BadRing : ErC K mg "BadRing" a_BadRing fi_BadRing
  in_BadRing : InC K a_BadRing ["demand"]
  ii_BadRing : Fun K "__init__" "BadRing.__init__" (meth (top 9) 0) fi_BadRing fdi_BadRing
  bi_BadRing : Binds K fdi_BadRing ["self", "demand"] []
  x_BadRing : PySem.W.ErrK K a_BadRing
  f_BadRing : XfC K a_BadRing
  exm_BadRing : PySem.W.exmOne K (.ref a_BadRing) (.ref a_NoiseboundError) = some true
  q_BadRing_ValueError : PySem.W.kitOne K (.ref a_BadRing) (.type "ValueError") = some true
  g_BadRing_demand : PySem.W.findIn K (.ref a_BadRing) "demand" = some none
  q_BadRing_NoiseboundError : PySem.W.kitOne K (.ref a_BadRing) (.ref a_NoiseboundError) = some true
  q_BadRing_OutOfRange : PySem.W.kitOne K (.ref a_BadRing) (.ref a_OutOfRange) = some false
  q_BadRing_BadItem : PySem.W.kitOne K (.ref a_BadRing) (.ref a_BadItem) = some false
  q_BadRing_BadLength : PySem.W.kitOne K (.ref a_BadRing) (.ref a_BadLength) = some false
  q_BadRing_BadText : PySem.W.kitOne K (.ref a_BadRing) (.ref a_BadText) = some false
  q_BadRing_BadPadding : PySem.W.kitOne K (.ref a_BadRing) (.ref a_BadPadding) = some false
  q_BadRing_WrongPhase : PySem.W.kitOne K (.ref a_BadRing) (.ref a_WrongPhase) = some false
  q_BadRing_NotInvertible : PySem.W.kitOne K (.ref a_BadRing) (.ref a_NotInvertible) = some false
  q_BadRing_BadRing : PySem.W.kitOne K (.ref a_BadRing) (.ref a_BadRing) = some true
  q_BadRing_BadParameters : PySem.W.kitOne K (.ref a_BadRing) (.ref a_BadParameters) = some false
  q_BadRing_UnknownName : PySem.W.kitOne K (.ref a_BadRing) (.ref a_UnknownName) = some false
  q_BadRing_DifferentRings : PySem.W.kitOne K (.ref a_BadRing) (.ref a_DifferentRings) = some false
  q_BadRing_BadKey : PySem.W.kitOne K (.ref a_BadRing) (.ref a_BadKey) = some false
  q_BadRing_BadLetter : PySem.W.kitOne K (.ref a_BadRing) (.ref a_BadLetter) = some false
  q_BadRing_BadKeyText : PySem.W.kitOne K (.ref a_BadRing) (.ref a_BadKeyText) = some false
  q_BadRing_BadRecord : PySem.W.kitOne K (.ref a_BadRing) (.ref a_BadRecord) = some false
  q_BadRing_BadCommand : PySem.W.kitOne K (.ref a_BadRing) (.ref a_BadCommand) = some false
  q_BadRing_NoEntry : PySem.W.kitOne K (.ref a_BadRing) (.ref a_NoEntry) = some false
  q_BadRing_NothingLeft : PySem.W.kitOne K (.ref a_BadRing) (.ref a_NothingLeft) = some false
  q_BadRing_Ring : PySem.W.kitOne K (.ref a_BadRing) (.ref a_Ring) = some false
  kn_Ring___init___root_n_q : KBN K fd_Ring___init__ ["self", "n", "q", "root"] 1 ["root", "n", "q"] (fun us ws => us ++ pm120 ws)
  kb_ring_fault : KB0 K fd_ring_fault ["n", "q", "root"] ["q", "root", "n"] pm201
local macro_rules | `(tactic| walk_at "side") => `(tactic| first
  | decide
  | ((with_reducible show (_ : Nat) ≤ _); exact Nat.le_of_ble_eq_true rfl)
  | ((with_reducible show (_ : Int) < _); omega)
  | ((with_reducible show (_ : Int) ≤ _); omega)
  | ((with_reducible show CM _ _); exact Or.inl (Or.inr (by decide)))
  | ((with_reducible show CM _ _); exact Or.inl (Or.inl (by decide)))
  | ((with_reducible show CDivW _ _); exact ⟨by first | assumption | omega, by first | assumption | decide⟩)
  | ((with_reducible show scal _ _ = true); rfl)
  | ((with_reducible show CPow _ _); exact ⟨by decide, by decide, by decide⟩)
  | ((with_reducible show _ = _); rfl)
  | ((with_reducible show (_ = _) ∧ (_ = _)); exact ⟨rfl, rfl⟩)
  | ((with_reducible show (_ : Int) ≤ _ ∧ (_ : Int) < _); omega)
  | ((with_reducible show ((_ : Int) ≤ _ ∧ (_ : Int) < _) ∧ ((_ : Int) ≤ _ ∧ (_ : Int) < _)); omega)
  | ((with_reducible show RgOk _ _); unfold RgOk; omega)
  | assumption
  | walk_at "mine"
  | fail)
local macro_rules | `(tactic| walk_at "mine") => `(tactic| fail)
local macro_rules | `(tactic| walk_at "br") => `(tactic| ((refine And.intro (fun (e : (_ : Bool) = true) => ?_) (fun (e : (_ : Bool) = false) => ?_)) <;> (try simp only [Bool.not_eq_true', Bool.not_eq_false', decide_eq_true_eq, decide_eq_false_iff_not, V.int.injEq] at e)))
local macro_rules | `(tactic| walk_at "st") => `(tactic| first
  | (refine at_slots (by (simp only [List.length_cons, List.length_nil, startD_cons, startD_none, startD_nil, List.set_cons_zero, List.set_cons_succ]; rfl)) ?_)
  | ((conv => whnf); first | (with_reducible refine And.intro (fun _ => ?_) (fun e => Bool.noConfusion e)) | (with_reducible refine And.intro (fun e => Bool.noConfusion e) (fun _ => ?_)) | ((with_reducible refine And.intro ?walk_side ?_); (case walk_side => walk_at "side")))
  | walk_at "call"
  | fail)
local macro_rules | `(tactic| walk_at "call") => `(tactic| fail)
local macro_rules | `(tactic| walk_at "go") => `(tactic| (repeat walk_at "st"))
local macro_rules | `(tactic| walk_at "all") => `(tactic| (repeat' (first
  | (refine at_slots (by (simp only [List.length_cons, List.length_nil, startD_cons, startD_none, startD_nil, List.set_cons_zero, List.set_cons_succ]; rfl)) ?_)
  | ((conv => whnf); first | (with_reducible refine And.intro (fun _ => ?_) (fun e => Bool.noConfusion e)) | (with_reducible refine And.intro (fun e => Bool.noConfusion e) (fun _ => ?_)) | ((with_reducible refine And.intro (fun (e : (_ : Bool) = true) => ?_) (fun (e : (_ : Bool) = false) => ?_)) <;> (try simp only [Bool.not_eq_true', Bool.not_eq_false', decide_eq_true_eq, decide_eq_false_iff_not, V.int.injEq] at e)) | ((with_reducible refine And.intro ?walk_side ?_); (case walk_side => walk_at "side")))
  | walk_at "call"
  | fail)))
section
theorem atI_ints {ns : List Int} {i : Int} (h0 : 0 ≤ i) (h1 : i < (List.map (fun z => D.v (.int z)) ns).length) : ∃ z : Int, atD (List.map (fun z => D.v (.int z)) ns) i = some (.v (.int z)) := by
  have hl : i.toNat < (List.map (fun z => D.v (.int z)) ns).length := by omega
  have hl' : i.toNat < ns.length := by simpa using hl
  refine ⟨ns[i.toNat], ?_⟩
  rw [atD_eq]
  unfold atI ixN
  rw [if_pos h0, if_pos h1]
  show (List.map (fun z => D.v (.int z)) ns)[i.toNat]? = _
  rw [List.getElem?_map, List.getElem?_eq_getElem hl']
  rfl
theorem atI_in {α : Type} {xs : List α} {i : Int} (h0 : 0 ≤ i) (h1 : i < xs.length) : ∃ d, atD xs i = some d ∧ xs[i.toNat]? = some d := by
  have hl : i.toNat < xs.length := by omega
  refine ⟨xs[i.toNat], ?_, List.getElem?_eq_getElem hl⟩
  rw [atD_eq]
  unfold atI ixN
  rw [if_pos h0, if_pos h1]
  exact List.getElem?_eq_getElem hl
section
variable {P : Program} {w : World} {K : PySem.W.Frag} {mg : Str → Option Value} {base : Heap}
/-- the script's copy, and the store of draws -/
def StC (c : Cell) : Prop := ∃ (ns : List Int) (i c' t n h : Int), c = .lst [.lst (ns.map fun z => .v (.int z)), .v (.int i), .v (.int c'), .v (.int t), .v (.int n), .v (.int h)] ∧ 0 ≤ i
def fBegin : FD := fun ds μ Q _ => ∃ ns : List Int, ds = [.rl (ns.map fun z => .v (.int z))] ∧ ns.length ≤ 63 ∧ ∀ c, StC c → Q (.loc μ.length) (μ ++ [c])
def fMixed : FD := fun ds μ Q _ => ∃ a b : Int, ds = [.v (.int a), .v (.int b)] ∧ ∀ r : Int, Q (.v (.int r)) μ
def fTake : FD := fun ds μ Q _ => ∃ (m : Int) (c : Cell) (μ' : Sto), ds = [.loc 0, .v (.int m)] ∧ m.natAbs.log2 < 9000 ∧ μ = c :: μ' ∧ StC c ∧ ∀ (r : Int) (c' : Cell), 0 ≤ r → (r < m ∨ r < 1) → StC c' → Q (.v (.int r)) (c' :: μ')
theorem sc__law_begin : FnScope ["script"] ["script"] (defScope (top 40)) := ⟨rfl, rfl, rfl, by decide +kernel, rfl, by decide +kernel, by decide +kernel⟩
theorem ok__law_begin (T : Tx K mg) : FnD P w K mg base 1 T.a__law_begin T.fd__law_begin ["script"] fBegin := by
  refine fnD _ T.F__law_begin sc__law_begin (fun cd A outer s H E B => (d_sone (d_ret (d_lstM (d_cons (d_ct c_list T.n_list (by decide +kernel) (d_cons (d_var 0) d_nil)) (d_cons d_int (d_cons d_int (d_cons d_int (d_cons d_int (d_cons d_int d_nil)))))))))) ?_
  rintro ds μ QA XA hl ⟨ns, rfl, hn, h⟩
  refine ⟨by simp, h _ ⟨ns, 0, 0, 0, 0, 0, rfl, by decide⟩⟩
theorem sc__law_mixed : FnScope ["seed", "turn", "number"] ["seed", "turn"] (defScope (top 41)) := ⟨rfl, rfl, rfl, by decide +kernel, rfl, by decide +kernel, by decide +kernel⟩
theorem ok__law_mixed (T : Tx K mg) : FnD P w K mg base 1 T.a__law_mixed T.fd__law_mixed ["seed", "turn"] fMixed := by
  refine fnD _ T.F__law_mixed sc__law_mixed (fun cd A outer s H E B => (d_scons (d_set 2 B.nd (d_bin o_addU (d_bin o_mul (d_bin o_mod (d_ct c_int T.n_int (by decide +kernel) (d_cons (d_var 0) d_nil)) d_int) d_int) (d_bin o_mul (d_bin o_mod (d_ct c_int T.n_int (by decide +kernel) (d_cons (d_var 1) d_nil)) d_int) d_int)))
    (d_scons (d_set 2 B.nd (d_bin o_mod (d_ct c_int T.n_int (by decide +kernel) (d_cons (d_bin o_addU (d_var 2) d_int) d_nil)) d_int))
    (d_scons (d_set 2 B.nd (d_bin o_mul (d_bin o_xor (d_var 2) (d_bin o_div (d_var 2) d_int)) d_int))
    (d_scons (d_set 2 B.nd (d_bin o_mod (d_ct c_int T.n_int (by decide +kernel) (d_cons (d_var 2) d_nil)) d_int))
    (d_scons (d_set 2 B.nd (d_bin o_mul (d_bin o_xor (d_var 2) (d_bin o_div (d_var 2) d_int)) d_int))
    (d_sone (d_ret (d_bin o_mod (d_ct c_int T.n_int (by decide +kernel) (d_cons (d_var 2) d_nil)) d_int))))))))) ?_
  rintro ds μ QA XA hl ⟨a, b, rfl, h⟩
  walk_at "go"
  exact h _
local macro_rules | `(tactic| walk_at "call") => `(tactic| (show fMixed _ _ _ _; refine ⟨_, _, rfl, fun r => ?_⟩))
theorem sc__law_take : FnScope ["store", "many", "limit", "cell", "rest"] ["store", "many"] (defScope (top 42)) := ⟨rfl, rfl, rfl, by decide +kernel, rfl, by decide +kernel, by decide +kernel⟩
theorem ok__law_take (T : Tx K mg) : FnD P w K mg base 2 T.a__law_take T.fd__law_take ["store", "many"] fTake := by
  refine fnD _ T.F__law_take sc__law_take (fun cd A outer s H E B => (d_scons (d_set 2 B.nd (d_cb (id := "max") (c_max B.calm) T.n_max (by decide +kernel) (d_cons d_int (d_cons (d_var 1) d_nil))))
    (d_scons (d_setIx (d_bin o_addU (d_ix (d_var 0) d_int) d_int) (d_var 0) d_int)
    (d_scons (d_sif (d_tw (d_wand (d_tcmp o_eq (d_ix (d_var 0) d_int) d_int) (d_wand (d_tcmp o_eq (d_ix (d_var 0) d_int) d_int) (d_wand1 (d_tcmp o_lt (d_ix (d_var 0) d_int) (d_cb (id := "len") c_len T.n_len (by decide +kernel) (d_cons (d_ix (d_var 0) d_int) d_nil))))))) (d_scons (d_set 3 B.nd (d_ct c_int T.n_int (by decide +kernel) (d_cons (d_ix (d_ix (d_var 0) d_int) (d_ix (d_var 0) d_int)) d_nil)))
    (d_scons (d_setIx (d_bin o_addU (d_ix (d_var 0) d_int) d_int) (d_var 0) d_int)
    (d_scons (d_setIx (d_bin o_mod (d_ct c_int T.n_int (by decide +kernel) (d_cons (d_bin o_addU (d_bin o_addU (d_bin o_mul (d_ct c_int T.n_int (by decide +kernel) (d_cons (d_ix (d_var 0) d_int) d_nil)) d_int) (d_bin o_mod (d_ct c_int T.n_int (by decide +kernel) (d_cons (d_var 3) d_nil)) d_int)) d_int) d_nil)) d_int) (d_var 0) d_int)
    (d_sone (d_sif (d_tcmp o_ge (d_var 3) (d_bin o_pow d_int d_int)) (d_sone (d_setIx (d_var 3) (d_var 0) d_int)) (d_sone (d_setIx d_int (d_var 0) d_int))))))) d_snil)
    (d_scons (d_sif (d_tcmp o_gt (d_ix (d_var 0) d_int) d_int) (d_scons (d_set 4 B.nd (d_ct c_int T.n_int (by decide +kernel) (d_cons (d_ix (d_var 0) d_int) d_nil)))
    (d_scons (d_setIx (d_bin o_div (d_var 4) (d_var 2)) (d_var 0) d_int)
    (d_sone (d_ret (d_bin o_mod (d_ct c_int T.n_int (by decide +kernel) (d_cons (d_var 4) d_nil)) (d_var 2)))))) d_snil)
    (d_scons (d_sif (d_tcmp o_gt (d_ix (d_var 0) d_int) d_int) (d_sone (d_setIx (d_bin o_sub (d_ix (d_var 0) d_int) d_int) (d_var 0) d_int)) d_snil)
    (d_sone (d_ret (d_bin o_mod (d_ct c_int T.n_int (by decide +kernel) (d_cons (d_call B (ok__law_mixed T) (by decide) T.m__law_mixed T.k__law_mixed T.b__law_mixed (d_cons (d_ix (d_var 0) d_int) (d_cons (d_ix (d_var 0) d_int) d_nil))) d_nil)) (d_var 2)))))))))) ?_
  rintro ds μ QA XA hl ⟨m, c, μ', rfl, hm, rfl, ⟨ns, i, c', t, n, h, rfl, hi⟩, hQ⟩
  have hlim : (if m > 1 then m else 1).natAbs.log2 < 9000 ∧ 0 < (if m > 1 then m else 1) ∧ ((if m > 1 then m else 1) ≤ m ∨ (if m > 1 then m else 1) ≤ 1) := by
    split
    · exact ⟨hm, by omega, by omega⟩
    · exact ⟨by decide, by decide, by omega⟩
  obtain ⟨hl1, hl2, hl3⟩ := hlim
  have fin : ∀ (x i c' t n h : Int), 0 ≤ i → QA (.v (.int (x % (if m > 1 then m else 1)))) (.lst [.lst (ns.map fun z => .v (.int z)), .v (.int i), .v (.int c'), .v (.int t), .v (.int n), .v (.int h)] :: μ') := fun x i c' t n h hi => by
    have h1 := Int.emod_nonneg x (by omega : (if m > 1 then m else 1) ≠ 0)
    have h2 := Int.emod_lt_of_pos x hl2
    exact hQ _ _ h1 (by omega) ⟨ns, i, c', t, n, h, rfl, hi⟩
  walk_at "all"
  · obtain ⟨z, hz⟩ := atI_ints hi ‹_›
    conv => whnf
    rw [hz]
    walk_at "all"
    all_goals exact fin _ _ _ _ _ _ (by first | omega | (show (0 : Int) ≤ _ + _; omega))
  all_goals exact fin _ _ _ _ _ _ hi
end
end
set_option Elab.async false
set_option linter.all false
set_option maxRecDepth 100000
set_option maxHeartbeats 4000000
section
open PySem L2 DK

section
variable {P : Program} {w : World} {K : PySem.W.Frag} {mg : Str → Option Value} {base : Heap}
/-- m drawn of: a number below m (or 0) -/
def fDraw : FD := fun ds μ Q _ => ∃ (m : Int) (c : Cell) (μ' : Sto), ds = [.loc 0, .v (.int m)] ∧ μ = c :: μ' ∧ StC c ∧ ∀ (r : Int) (c' : Cell), 0 ≤ r → (r < m ∨ r < 1) → StC c' → Q (.v (.int r)) (c' :: μ')
theorem log_small {m : Int} (h0 : 0 ≤ m) (h : m ≤ 10 ^ 15) : m.natAbs.log2 < 9000 := by
  by_cases z : m.natAbs = 0
  · rw [z]; decide
  · rw [Nat.log2_lt z]
    have : m.natAbs ≤ 10 ^ 15 := by omega
    exact Nat.lt_of_le_of_lt this (by decide)
local macro_rules | `(tactic| walk_at "call") => `(tactic| (show fTake _ _ _ _; refine ⟨_, _, _, rfl, by first | assumption | decide | exact (‹_ ≤ _ → Nat.log2 _ < 9000›) ‹_›, rfl, ‹StC _›, fun r c' hr0 hr1 hc => ?_⟩))
theorem sc__law_wide : FnScope ["store", "many", "limit", "number", "span", "turn"] ["store", "many"] (defScope (top 43)) := ⟨rfl, rfl, rfl, by decide +kernel, rfl, by decide +kernel, by decide +kernel⟩
theorem ok__law_wide (T : Tx K mg) : FnD P w K mg base 3 T.a__law_wide T.fd__law_wide ["store", "many"] fDraw := by
  refine fnD _ T.F__law_wide sc__law_wide (fun cd A outer s H E B => (d_scons (d_set 2 B.nd (d_cb (id := "max") (c_max B.calm) T.n_max (by decide +kernel) (d_cons d_int (d_cons (d_var 1) d_nil))))
    (d_scons (d_sif (d_tcmp o_le (d_var 2) (d_bin o_pow d_int d_int)) (d_sone (d_ret (d_call B (ok__law_take T) (by decide) T.m__law_take T.k__law_take T.b__law_take (d_cons (d_var 0) (d_cons (d_var 2) d_nil))))) d_snil)
    (d_scons (d_set 3 B.nd d_int)
    (d_scons (d_set 4 B.nd d_int)
    (d_scons (d_forR1 5 B T.n_range (d_cons d_int d_nil) (d_scons (d_sif (d_tcmp o_ge (d_var 4) (d_var 2)) (d_sone d_break) d_snil)
    (d_scons (d_set 3 B.nd (d_bin o_addU (d_bin o_mul (d_var 3) (d_bin o_pow d_int d_int)) (d_call B (ok__law_take T) (by decide) T.m__law_take T.k__law_take T.b__law_take (d_cons (d_var 0) (d_cons (d_bin o_pow d_int d_int) d_nil)))))
    (d_sone (d_set 4 B.nd (d_bin o_mul (d_var 4) (d_bin o_pow d_int d_int)))))))
    (d_sone (d_ret (d_bin o_mod (d_ct c_int T.n_int (by decide +kernel) (d_cons (d_var 3) d_nil)) (d_var 2)))))))))) ?_
  rintro ds μ QA XA hl ⟨m, c, μ', rfl, rfl, hc, hQ⟩
  have hlim : (if m > 1 then m else 1) > 0 ∧ ((if m > 1 then m else 1) ≤ m ∨ (if m > 1 then m else 1) ≤ 1) := by
    split <;> omega
  obtain ⟨hl2, hl3⟩ := hlim
  have fin : ∀ (a : Int) (c1 : Cell), StC c1 → QA (.v (.int (a % (if m > 1 then m else 1)))) (c1 :: μ') := fun a c1 hc1 => by
    have h1 := Int.emod_nonneg a (by omega : (if m > 1 then m else 1) ≠ 0)
    have h2 := Int.emod_lt_of_pos a hl2
    exact hQ _ _ h1 (by omega) hc1
  have hsm : (if m > 1 then m else 1) ≤ 10 ^ Int.toNat 15 → (if m > 1 then m else 1).natAbs.log2 < 9000 := fun z => log_small (by omega) z
  walk_at "all"
  · exact hQ _ _ (by assumption) (by omega) (by assumption)
  · show ∃ I : Nat → Rho → Sto → Prop, _
    refine ⟨fun _ ρ μ => ∃ (n s : Int) (t : Option D) (c : Cell), ρ = [some (.loc 0), some (.v (.int m)), some (.v (.int (if m > 1 then m else 1))), some (.v (.int n)), some (.v (.int s)), t] ∧ μ = c :: μ' ∧ StC c, ⟨_, _, _, _, rfl, rfl, hc⟩, ?_, ?_⟩
    · rintro n ρ' μ1 hn ⟨a, s, t, c1, rfl, rfl, hc1⟩
      walk_at "all"
      · exact fin _ _ hc1
      · exact ⟨_, _, _, _, rfl, rfl, ‹_›⟩
    · rintro ρ' μ1 ⟨a, s, t, c1, rfl, rfl, hc1⟩
      walk_at "all"
      exact fin _ _ hc1
local macro_rules | `(tactic| walk_at "call") => `(tactic| (show fDraw _ _ _ _; refine ⟨_, _, _, rfl, rfl, ‹StC _›, fun r c' hr0 hr1 hc => ?_⟩))
/-- an item of a row -/
def fPick : FD := fun ds μ Q _ => ∃ (r : D) (es : List D) (c : Cell) (μ' : Sto), ds = [.loc 0, r] ∧ (r = .lst es ∨ r = .tup es) ∧ 0 < es.length ∧ es.length < 1000 ∧ μ = c :: μ' ∧ StC c ∧ ∀ (d : D) (c' : Cell), d ∈ es → StC c' → Q d (c' :: μ')
theorem sc__law_pick : FnScope ["store", "row"] ["store", "row"] (defScope (top 44)) := ⟨rfl, rfl, rfl, by decide +kernel, rfl, by decide +kernel, by decide +kernel⟩
theorem ok__law_pick (T : Tx K mg) : FnD P w K mg base 3 T.a__law_pick T.fd__law_pick ["store", "row"] fPick := by
  refine fnD _ T.F__law_pick sc__law_pick (fun cd A outer s H E B => (d_sone (d_ret (d_ix (d_var 1) (d_call B (ok__law_take T) (by decide) T.m__law_take T.k__law_take T.b__law_take (d_cons (d_var 0) (d_cons (d_cb (id := "len") c_len T.n_len (by decide +kernel) (d_cons (d_var 1) d_nil)) d_nil))))))) ?_
  rintro ds μ QA XA hl ⟨r, es, c, μ', rfl, hr, h1, h2, rfl, hc, hQ⟩
  have key : ∀ (i : Int) (c' : Cell), 0 ≤ i → (i < es.length ∨ i < 1) → StC c' → ∃ d, atD es i = some d ∧ QA d (c' :: μ') := fun i c' h0 h3 hc' => by
    obtain ⟨d, e1, e2⟩ := atI_in (xs := es) h0 (by omega)
    exact ⟨d, e1, hQ d c' (List.mem_of_getElem? e2) hc'⟩
  have hlg : (es.length : Int).natAbs.log2 < 9000 := log_small (by omega) (by omega)
  rcases hr with rfl | rfl
  all_goals
    walk_at "all"
    obtain ⟨d, e1, e2⟩ := key _ _ (by assumption) (by assumption) (by assumption)
    conv => whnf
    rw [e1]
    exact e2
def othersD : List D := [.v (.bl true), .v (.bl false), .v .non, .v (.str ""), .v (.str "3"), .lst [], .lst [.v (.int 3)], .tup [], .tup [.v (.int 3)], .v (.str "a")]
def fOther : FD := fun ds μ Q _ => ∃ (c : Cell) (μ' : Sto), ds = [.loc 0] ∧ μ = c :: μ' ∧ StC c ∧ ∀ (d : D) (c' : Cell), d ∈ othersD → StC c' → Q d (c' :: μ')
end
end
set_option Elab.async false
set_option linter.all false
set_option maxRecDepth 100000
set_option maxHeartbeats 4000000
section
open PySem L2 DK

local macro_rules | `(tactic| walk_at "call") => `(tactic| (show fTake _ _ _ _; refine ⟨_, _, _, rfl, by first | assumption | decide, rfl, ‹StC _›, fun r c' hr0 hr1 hc => ?_⟩))
local macro_rules | `(tactic| walk_at "call") => `(tactic| (show fDraw _ _ _ _; refine ⟨_, _, _, rfl, rfl, ‹StC _›, fun r c' hr0 hr1 hc => ?_⟩))
local macro_rules | `(tactic| walk_at "call") => `(tactic| (show fPick _ _ _ _; refine ⟨_, _, _, _, rfl, Or.inl rfl, by simp, by simp, rfl, ‹StC _›, fun d c' hd hc => ?_⟩))
section
variable {P : Program} {w : World} {K : PySem.W.Frag} {mg : Str → Option Value} {base : Heap}
/-- a number from lo to hi -/
def fBetw : FD := fun ds μ Q _ => ∃ (lo hi : Int) (c : Cell) (μ' : Sto), ds = [.loc 0, .v (.int lo), .v (.int hi)] ∧ lo ≤ hi ∧ μ = c :: μ' ∧ StC c ∧ ∀ (r : Int) (c' : Cell), lo ≤ r → r ≤ hi → StC c' → Q (.v (.int r)) (c' :: μ')
theorem sc__law_between : FnScope ["store", "low", "high", "span"] ["store", "low", "high"] (defScope (top 45)) := ⟨rfl, rfl, rfl, by decide +kernel, rfl, by decide +kernel, by decide +kernel⟩
theorem ok__law_between (T : Tx K mg) : FnD P w K mg base 4 T.a__law_between T.fd__law_between ["store", "low", "high"] fBetw := by
  refine fnD _ T.F__law_between sc__law_between (fun cd A outer s H E B => (d_scons (d_set 3 B.nd (d_cb (id := "max") (c_max B.calm) T.n_max (by decide +kernel) (d_cons d_int (d_cons (d_bin o_addU (d_bin o_sub (d_var 2) (d_var 1)) d_int) d_nil))))
    (d_scons (d_sif (d_tw (d_wand (d_tcmp o_gt (d_var 3) d_int) (d_wand1 (d_tcmp o_eq (d_call B (ok__law_take T) (by decide) T.m__law_take T.k__law_take T.b__law_take (d_cons (d_var 0) (d_cons d_int d_nil))) d_int)))) (d_sone (d_ret (d_call B (ok__law_pick T) (by decide) T.m__law_pick T.k__law_pick T.b__law_pick (d_cons (d_var 0) (d_cons (d_lst (d_cons (d_var 1) (d_cons (d_var 2) (d_cons (d_bin o_addU (d_var 1) d_int) (d_cons (d_bin o_sub (d_var 2) d_int) (d_cons (d_bin o_addU (d_var 1) (d_bin o_div (d_var 3) d_int)) d_nil)))))) d_nil))))) d_snil)
    (d_sone (d_ret (d_bin o_addU (d_var 1) (d_call B (ok__law_wide T) (by decide) T.m__law_wide T.k__law_wide T.b__law_wide (d_cons (d_var 0) (d_cons (d_var 3) d_nil))))))))) ?_
  rintro ds μ QA XA hl ⟨lo, hi, c, μ', rfl, hle, rfl, hc, hQ⟩
  have hsp : (if hi - lo + 1 > 1 then hi - lo + 1 else 1) = hi - lo + 1 := by split <;> omega
  have fin : ∀ (r : Int) (c' : Cell), StC c' → 0 ≤ r → (r < (if hi - lo + 1 > 1 then hi - lo + 1 else 1) ∨ r < 1) → QA (.v (.int (lo + r))) (c' :: μ') := fun r c' hc' h0 h1 => by
    rw [hsp] at h1
    exact hQ _ _ (by omega) (by omega) hc'
  walk_at "all"
  · rename_i hd hc'
    rw [hsp] at *
    simp only [List.mem_cons, List.not_mem_nil, or_false] at hd
    rcases hd with rfl | rfl | rfl | rfl | rfl
    · exact hQ _ _ (by omega) (by omega) hc'
    · exact hQ _ _ (by omega) (by omega) hc'
    · exact hQ _ _ (by omega) (by omega) hc'
    · exact hQ _ _ (by omega) (by omega) hc'
    · exact hQ _ _ (by omega) (by omega) hc'
  all_goals exact fin _ _ (by assumption) (by assumption) (by assumption)
theorem sc__law_other : FnScope ["store"] ["store"] (defScope (top 48)) := ⟨rfl, rfl, rfl, by decide +kernel, rfl, by decide +kernel, by decide +kernel⟩
theorem ok__law_other (T : Tx K mg) : FnD P w K mg base 3 T.a__law_other T.fd__law_other ["store"] fOther := by
  refine fnD _ T.F__law_other sc__law_other (fun cd A outer s H E B => (d_sone (d_ret (d_ix (d_lst (d_cons d_bl (d_cons d_bl (d_cons d_non (d_cons d_str (d_cons d_str (d_cons (d_lst d_nil) (d_cons (d_lst (d_cons d_int d_nil)) (d_cons (d_tup d_nil) (d_cons (d_tup (d_cons d_int d_nil)) (d_cons d_str d_nil))))))))))) (d_call B (ok__law_take T) (by decide) T.m__law_take T.k__law_take T.b__law_take (d_cons (d_var 0) (d_cons d_int d_nil))))))) ?_
  rintro ds μ QA XA hl ⟨c, μ', rfl, rfl, hc, hQ⟩
  walk_at "all"
  rename_i r c' h0 h1 hc'
  have h1 : r < 10 := by omega
  obtain ⟨n, rfl⟩ : ∃ n : Nat, r = n := ⟨r.toNat, by omega⟩
  have hn : n < 10 := by omega
  have key : ∀ d, othersD[n]? = some d → QA d (c' :: μ') := fun d e => hQ d c' (List.mem_of_getElem? e) hc'
  match n, hn with
  | 0, _ => exact key _ rfl
  | 1, _ => exact key _ rfl
  | 2, _ => exact key _ rfl
  | 3, _ => exact key _ rfl
  | 4, _ => exact key _ rfl
  | 5, _ => exact key _ rfl
  | 6, _ => exact key _ rfl
  | 7, _ => exact key _ rfl
  | 8, _ => exact key _ rfl
  | 9, _ => exact key _ rfl
local macro_rules | `(tactic| walk_at "call") => `(tactic| (show fOther _ _ _ _; refine ⟨_, _, rfl, rfl, ‹StC _›, fun d c' hd hc => ?_⟩))
/-- what lies beyond lo to hi -/
def OutD (lo hi : Int) (d : D) : Prop := d ∈ othersD ∨ ∃ r : Int, d = .v (.int r) ∧ (r < lo ∨ hi < r)
def fBeyond : FD := fun ds μ Q _ => ∃ (lo hi : Int) (c : Cell) (μ' : Sto), ds = [.loc 0, .v (.int lo), .v (.int hi)] ∧ μ = c :: μ' ∧ StC c ∧ ∀ (d : D) (c' : Cell), OutD lo hi d → StC c' → Q d (c' :: μ')
theorem sc__law_beyond : FnScope ["store", "low", "high", "kind"] ["store", "low", "high"] (defScope (top 49)) := ⟨rfl, rfl, rfl, by decide +kernel, rfl, by decide +kernel, by decide +kernel⟩
theorem ok__law_beyond (T : Tx K mg) : FnD P w K mg base 4 T.a__law_beyond T.fd__law_beyond ["store", "low", "high"] fBeyond := by
  refine fnD _ T.F__law_beyond sc__law_beyond (fun cd A outer s H E B => (d_scons (d_set 3 B.nd (d_call B (ok__law_take T) (by decide) T.m__law_take T.k__law_take T.b__law_take (d_cons (d_var 0) (d_cons d_int d_nil))))
    (d_scons (d_sif (d_tcmp o_eq (d_var 3) d_int) (d_sone (d_ret (d_call B (ok__law_other T) (by decide) T.m__law_other T.k__law_other T.b__law_other (d_cons (d_var 0) d_nil)))) d_snil)
    (d_scons (d_sif (d_tcmp o_eq (d_var 3) d_int) (d_sone (d_ret (d_call B (ok__law_pick T) (by decide) T.m__law_pick T.k__law_pick T.b__law_pick (d_cons (d_var 0) (d_cons (d_lst (d_cons (d_bin o_sub (d_var 1) d_int) (d_cons (d_bin o_addU (d_var 2) d_int) d_nil))) d_nil))))) d_snil)
    (d_scons (d_sif (d_tcmp o_eq (d_var 3) d_int) (d_sone (d_ret (d_bin o_sub (d_bin o_sub (d_var 1) d_int) (d_call B (ok__law_wide T) (by decide) T.m__law_wide T.k__law_wide T.b__law_wide (d_cons (d_var 0) (d_cons (d_bin o_pow d_int d_int) d_nil)))))) d_snil)
    (d_sone (d_ret (d_bin o_addU (d_bin o_addU (d_var 2) d_int) (d_call B (ok__law_wide T) (by decide) T.m__law_wide T.k__law_wide T.b__law_wide (d_cons (d_var 0) (d_cons (d_bin o_pow d_int d_int) d_nil))))))))))) ?_
  rintro ds μ QA XA hl ⟨lo, hi, c, μ', rfl, rfl, hc, hQ⟩
  have fin : ∀ (r : Int) (c' : Cell), (r < lo ∨ hi < r) → StC c' → QA (.v (.int r)) (c' :: μ') := fun r c' h hc' => hQ _ _ (.inr ⟨r, rfl, h⟩) hc'
  walk_at "all"
  · exact hQ _ _ (.inl (by assumption)) (by assumption)
  · rename_i hd hc'
    simp only [List.mem_cons, List.not_mem_nil, or_false] at hd
    rcases hd with rfl | rfl
    · exact fin _ _ (.inl (by omega)) hc'
    · exact fin _ _ (.inr (by omega)) hc'
  · exact fin _ _ (.inl (by omega)) (by assumption)
  · exact fin _ _ (.inr (by omega)) (by assumption)
end
end
set_option Elab.async false
set_option linter.all false
set_option maxRecDepth 100000
set_option maxHeartbeats 4000000
section
open PySem L2 DK

section
variable {P : Program} {w : World} {K : PySem.W.Frag} {mg : Str → Option Value} {base : Heap}
def plD : Nat → D → Bool
  | 0, _ => false
  | n + 1, d => match d with
    | .v .non => true
    | .v (.bl _) => true
    | .v (.int _) => true
    | .v (.str _) => true
    | .lst ds => decide (ds.length ≤ 30000) && ds.all (plD n)
    | .tup ds => decide (ds.length ≤ 30000) && ds.all (plD n)
    | _ => false
def sameD : Nat → D → D → Bool
  | 0, _, _ => false
  | n + 1, a, e => match a, e with
    | a, .v .non => isV a .non
    | a, .v (.bl b) => isV a (.bl b)
    | .v (.int j), .v (.int i) => decide (V.int j = V.int i)
    | .v (.str t), .v (.str s) => decide (V.str t = V.str s)
    | .lst as, .lst es => decide (as.length = es.length) && (as.zip es).all fun p => sameD n p.1 p.2
    | .tup as, .tup es => decide (as.length = es.length) && (as.zip es).all fun p => sameD n p.1 p.2
    | _, _ => false
/-- an item, perhaps a cell, is the same -/
def SameI (n : Nat) (μ : Sto) (x y : D) : Prop := (plD n x = true ∧ plD n y = true ∧ sameD n x y = true) ∨ ∃ k as es, x = .loc k ∧ y = .lst es ∧ μ[k]? = some (.lst as) ∧ plD n (.lst as) = true ∧ plD n (.lst es) = true ∧ sameD n (.lst as) (.lst es) = true
def fSame : Nat → FD
  | 0 => fun _ _ _ _ => False
  | n + 1 => fun ds μ Q _ => ∃ a e, ds = [a, e] ∧ ((plD (n + 1) a = true ∧ plD (n + 1) e = true ∧ Q (.v (.bl (sameD (n + 1) a e))) μ) ∨ (∃ k as es, a = .loc k ∧ e = .lst es ∧ μ[k]? = some (.lst as) ∧ plD (n + 1) (.lst as) = true ∧ plD (n + 1) (.lst es) = true ∧ Q (.v (.bl (sameD (n + 1) (.lst as) (.lst es)))) μ) ∨ ∃ as es, a = .tup as ∧ e = .tup es ∧ as.length = es.length ∧ es.length ≤ 30000 ∧ (∀ (j : Nat) x y, as[j]? = some x → es[j]? = some y → SameI n μ x y) ∧ Q (.v (.bl true)) μ)
theorem zip_all {as es : List D} {n : Nat} (hl : as.length = es.length) (h : ∀ (j : Nat) x y, as[j]? = some x → es[j]? = some y → sameD n x y = true) : ((as.zip es).all fun p => sameD n p.1 p.2) = true := by
  rw [List.all_eq_true]
  intro p hp
  obtain ⟨j, hj⟩ := List.mem_iff_getElem?.mp hp
  rw [List.getElem?_zip_eq_some] at hj
  exact h j _ _ hj.1 hj.2
theorem zip_one {as es : List D} {n j : Nat} {x y : D} (h1 : as[j]? = some x) (h2 : es[j]? = some y) (h : sameD n x y = false) : ((as.zip es).all fun p => sameD n p.1 p.2) = false := by
  rw [List.all_eq_false]
  refine ⟨(x, y), List.mem_iff_getElem?.mpr ⟨j, ?_⟩, by simp [h]⟩
  rw [List.getElem?_zip_eq_some]
  exact ⟨h1, h2⟩
theorem sc__law_same : FnScope ["actual", "expected", "at"] ["actual", "expected"] (defScope (top 50)) := ⟨rfl, rfl, rfl, by decide +kernel, rfl, by decide +kernel, by decide +kernel⟩
theorem ok__law_same (T : Tx K mg) (n : Nat) : FnD P w K mg base n T.a__law_same T.fd__law_same ["actual", "expected"] (fSame n) := by
  induction n with
  | zero => exact fnD_no (fun _ _ _ _ h => h)
  | succ n ih =>
    refine fnD _ T.F__law_same sc__law_same (fun cd A outer s H E B => (d_scons (d_sif (d_tcmp o_is (d_var 1) d_non) (d_sone (d_ret (d_cmp o_is (d_var 0) d_non))) d_snil)
    (d_scons (d_sif (d_tcmp o_is (d_var 1) d_bl) (d_sone (d_ret (d_cmp o_is (d_var 0) d_bl))) d_snil)
    (d_scons (d_sif (d_tcmp o_is (d_var 1) d_bl) (d_sone (d_ret (d_cmp o_is (d_var 0) d_bl))) d_snil)
    (d_scons (d_sif (d_tval (d_cb (id := "isinstance") c_isiM T.n_isinstance (by decide +kernel) (d_cons (d_var 1) (d_cons (d_ty (T := "int") T.n_int (by decide +kernel)) d_nil)))) (d_sone (d_ret (d_and (d_cb (id := "isinstance") c_isiM T.n_isinstance (by decide +kernel) (d_cons (d_var 0) (d_cons (d_ty (T := "int") T.n_int (by decide +kernel)) d_nil))) (d_and (d_not (d_cb (id := "isinstance") c_isiM T.n_isinstance (by decide +kernel) (d_cons (d_var 0) (d_cons (d_ty (T := "bool") T.n_bool (by decide +kernel)) d_nil)))) (d_one (d_cmp o_eq (d_var 0) (d_var 1))))))) d_snil)
    (d_scons (d_sif (d_tval (d_cb (id := "isinstance") c_isiM T.n_isinstance (by decide +kernel) (d_cons (d_var 1) (d_cons (d_ty (T := "str") T.n_str (by decide +kernel)) d_nil)))) (d_sone (d_ret (d_and (d_cb (id := "isinstance") c_isiM T.n_isinstance (by decide +kernel) (d_cons (d_var 0) (d_cons (d_ty (T := "str") T.n_str (by decide +kernel)) d_nil))) (d_one (d_cmp o_eq (d_var 0) (d_var 1)))))) d_snil)
    (d_scons (d_sif (d_tw (d_wand (d_tval (d_cb (id := "isinstance") c_isiM T.n_isinstance (by decide +kernel) (d_cons (d_var 1) (d_cons (d_ty (T := "list") T.n_list (by decide +kernel)) d_nil)))) (d_wand1 (d_tnot (d_tval (d_cb (id := "isinstance") c_isiM T.n_isinstance (by decide +kernel) (d_cons (d_var 0) (d_cons (d_ty (T := "list") T.n_list (by decide +kernel)) d_nil)))))))) (d_sone (d_ret d_bl)) d_snil)
    (d_scons (d_sif (d_tw (d_wand (d_tval (d_cb (id := "isinstance") c_isiM T.n_isinstance (by decide +kernel) (d_cons (d_var 1) (d_cons (d_ty (T := "tuple") T.n_tuple (by decide +kernel)) d_nil)))) (d_wand1 (d_tnot (d_tval (d_cb (id := "isinstance") c_isiM T.n_isinstance (by decide +kernel) (d_cons (d_var 0) (d_cons (d_ty (T := "tuple") T.n_tuple (by decide +kernel)) d_nil)))))))) (d_sone (d_ret d_bl)) d_snil)
    (d_scons (d_sif (d_tw (d_wor (d_tnot (d_tval (d_cb (id := "isinstance") c_isiM T.n_isinstance (by decide +kernel) (d_cons (d_var 1) (d_cons (d_tup (d_cons (d_ty (T := "list") T.n_list (by decide +kernel)) (d_cons (d_ty (T := "tuple") T.n_tuple (by decide +kernel)) d_nil))) d_nil))))) (d_wor1 (d_tcmp o_ne (d_cb (id := "len") c_len T.n_len (by decide +kernel) (d_cons (d_var 0) d_nil)) (d_cb (id := "len") c_len T.n_len (by decide +kernel) (d_cons (d_var 1) d_nil)))))) (d_sone (d_ret d_bl)) d_snil)
    (d_scons (d_forR1 2 B T.n_range (d_cons (d_cb (id := "len") c_len T.n_len (by decide +kernel) (d_cons (d_var 1) d_nil)) d_nil) (d_sone (d_sif (d_tnot (d_tval (d_call B ih (Nat.le_refl n) T.m__law_same T.k__law_same T.b__law_same (d_cons (d_ix (d_var 0) (d_var 2)) (d_cons (d_ix (d_var 1) (d_var 2)) d_nil))))) (d_sone (d_ret d_bl)) d_snil)))
    (d_sone (d_ret d_bl)))))))))))) ?_
    rintro ds μ QA XA hl ⟨a, e, rfl, ⟨ha, he, hQ⟩ | ⟨k, as, es, rfl, rfl, hm, ha, he, hQ⟩ | ⟨as, es, rfl, rfl, hlen, hle, hall, hQ⟩⟩
    rotate_left
    ·
      obtain ⟨he1, he2⟩ := Bool.and_eq_true_iff.mp (show (decide (es.length ≤ 30000) && es.all (plD n)) = true from he)
      have he1 := of_decide_eq_true he1
      obtain ⟨ha1, ha2⟩ := Bool.and_eq_true_iff.mp (show (decide (as.length ≤ 30000) && as.all (plD n)) = true from ha)
      have ha1 := of_decide_eq_true ha1
      have hQ' : QA (.v (.bl (decide (as.length = es.length) && (as.zip es).all fun p => sameD n p.1 p.2))) μ := hQ
      have ht : tyM μ (.loc k) = some "list" := by simp [tyM, hm]
      have hi : itemsOf (.loc k) μ = some as := by simp [itemsOf, hm]
      walk_at "all"
      conv => whnf
      rw [ht]
      walk_at "all"
      conv => whnf
      rw [hi]
      walk_at "all"
      · rename_i e
        have e : as.length ≠ es.length := by omega
        rw [decide_eq_false e] at hQ'
        exact hQ'
      · rename_i e
        have e : as.length = es.length := by omega
        rw [decide_eq_true e] at hQ'
        refine ⟨fun k' ρ m => m = μ ∧ (∃ t, ρ = [some (.loc k), some (.lst es), t]) ∧ ∀ (j : Nat) x y, j < k' → as[j]? = some x → es[j]? = some y → sameD n x y = true, ⟨rfl, ⟨_, rfl⟩, fun j _ _ hj => absurd hj (Nat.not_lt_zero _)⟩, ?_, ?_⟩
        · rintro k' ρ' _ hk ⟨rfl, ⟨t, rfl⟩, hall⟩
          obtain ⟨x, ex, ex'⟩ := atI_in (xs := as) (i := 0 + (k' : Int)) (by omega) (by omega)
          obtain ⟨y, ey, ey'⟩ := atI_in (xs := es) (i := 0 + (k' : Int)) (by omega) (by omega)
          have hx : plD n x = true := List.all_eq_true.mp ha2 x (List.mem_of_getElem? ex')
          have hy : plD n y = true := List.all_eq_true.mp he2 y (List.mem_of_getElem? ey')
          have ek : (0 + (k' : Int)).toNat = k' := by omega
          rw [ek] at ex' ey'
          conv => whnf
          rw [hi]
          conv => whnf
          rw [ex]
          conv => whnf
          rw [ey]
          cases n with
          | zero => cases hx
          | succ n =>
            refine And.intro rfl ⟨x, y, rfl, Or.inl ⟨hx, hy, ?_⟩⟩
            walk_at "br"
            · rename_i e2
              have z := zip_one ex' ey' e2
              rw [z] at hQ'
              exact hQ'
            · rename_i e2
              refine ⟨rfl, ⟨_, rfl⟩, fun j u v hj eu ev => ?_⟩
              by_cases q : j = k'
              · subst q
                cases (eu.symm.trans ex')
                cases (ev.symm.trans ey')
                exact e2
              · exact hall j u v (by omega) eu ev
        · rintro ρ' _ ⟨rfl, ⟨t, rfl⟩, hall⟩
          have z : ((as.zip es).all fun p => sameD n p.1 p.2) = true := zip_all e fun j x y eu ev => hall j x y (by have := (List.getElem?_eq_some_iff.mp ev).1; omega) eu ev
          rw [z] at hQ'
          exact hQ'
    ·
      walk_at "all"
      · rename_i e
        exact absurd hlen (by omega)
      · refine ⟨fun k ρ m => m = μ ∧ ∃ t, ρ = [some (.tup as), some (.tup es), t], ⟨rfl, ⟨none, rfl⟩⟩, ?_, ?_⟩
        · rintro k ρ' _ hk ⟨rfl, ⟨t, rfl⟩⟩
          obtain ⟨x, ex, ex'⟩ := atI_in (xs := as) (i := 0 + (k : Int)) (by omega) (by omega)
          obtain ⟨y, ey, ey'⟩ := atI_in (xs := es) (i := 0 + (k : Int)) (by omega) (by omega)
          have hi := hall _ x y ex' ey'
          conv => whnf
          rw [ex]
          conv => whnf
          rw [ey]
          cases n with
          | zero => rcases hi with ⟨h, _⟩ | ⟨_, _, _, _, _, _, h, _⟩ <;> cases h
          | succ n =>
            rcases hi with ⟨px, py, ps⟩ | ⟨k', as', es', rfl, rfl, hm, p1, p2, ps⟩
            · refine And.intro rfl ⟨x, y, rfl, Or.inl ⟨px, py, ?_⟩⟩
              rw [ps]
              walk_at "all"
              first | exact ⟨rfl, ⟨_, rfl⟩⟩ | exact ⟨_, rfl⟩
            · refine And.intro rfl ⟨_, _, rfl, Or.inr (Or.inl ⟨k', as', es', rfl, rfl, hm, p1, p2, ?_⟩)⟩
              rw [ps]
              walk_at "all"
              first | exact ⟨rfl, ⟨_, rfl⟩⟩ | exact ⟨_, rfl⟩
        · rintro ρ' _ ⟨rfl, ⟨t, rfl⟩⟩
          walk_at "all"
          exact hQ
    cases e with
    | v x =>
      cases x with
      | non => walk_at "all"; exact hQ
      | bl b => cases b <;> (walk_at "all"; exact hQ)
      | int i =>
        cases a with
        | v y => cases y <;> first | (cases ha; done) | (walk_at "all"; exact hQ)
        | lst as => walk_at "all"; exact hQ
        | tup as => walk_at "all"; exact hQ
        | _ => cases ha
      | str s =>
        cases a with
        | v y => cases y <;> first | (cases ha; done) | (walk_at "all"; exact hQ)
        | lst as => walk_at "all"; exact hQ
        | tup as => walk_at "all"; exact hQ
        | _ => cases ha
      | _ => cases he
    | lst es =>
      obtain ⟨he1, he2⟩ := Bool.and_eq_true_iff.mp (show (decide (es.length ≤ 30000) && es.all (plD n)) = true from he)
      have he1 := of_decide_eq_true he1
      cases a with
      | v y => cases y <;> first | (cases ha; done) | (walk_at "all"; exact hQ)
      | lst as =>
        obtain ⟨ha1, ha2⟩ := Bool.and_eq_true_iff.mp (show (decide (as.length ≤ 30000) && as.all (plD n)) = true from ha)
        have ha1 := of_decide_eq_true ha1
        have hQ' : QA (.v (.bl (decide (as.length = es.length) && (as.zip es).all fun p => sameD n p.1 p.2))) μ := hQ
        walk_at "all"
        · rename_i e
          have e : as.length ≠ es.length := by omega
          rw [decide_eq_false e] at hQ'
          exact hQ'
        · rename_i e
          have e : as.length = es.length := by omega
          rw [decide_eq_true e] at hQ'
          refine ⟨fun k ρ m => m = μ ∧ (∃ t, ρ = [some (.lst as), some (.lst es), t]) ∧ ∀ (j : Nat) x y, j < k → as[j]? = some x → es[j]? = some y → sameD n x y = true, ⟨rfl, ⟨_, rfl⟩, fun j _ _ hj => absurd hj (Nat.not_lt_zero _)⟩, ?_, ?_⟩
          · rintro k ρ' _ hk ⟨rfl, ⟨t, rfl⟩, hall⟩
            obtain ⟨x, ex, ex'⟩ := atI_in (xs := as) (i := 0 + (k : Int)) (by omega) (by omega)
            obtain ⟨y, ey, ey'⟩ := atI_in (xs := es) (i := 0 + (k : Int)) (by omega) (by omega)
            have hx : plD n x = true := List.all_eq_true.mp ha2 x (List.mem_of_getElem? ex')
            have hy : plD n y = true := List.all_eq_true.mp he2 y (List.mem_of_getElem? ey')
            have ek : (0 + (k : Int)).toNat = k := by omega
            rw [ek] at ex' ey'
            conv => whnf
            rw [ex]
            conv => whnf
            rw [ey]
            cases n with
            | zero => cases hx
            | succ n =>
              refine And.intro rfl ⟨x, y, rfl, Or.inl ⟨hx, hy, ?_⟩⟩
              walk_at "br"
              · rename_i e2
                have z := zip_one ex' ey' e2
                rw [z] at hQ'
                exact hQ'
              · rename_i e2
                refine ⟨rfl, ⟨_, rfl⟩, fun j u v hj eu ev => ?_⟩
                by_cases q : j = k
                · subst q
                  cases (eu.symm.trans ex')
                  cases (ev.symm.trans ey')
                  exact e2
                · exact hall j u v (by omega) eu ev
          · rintro ρ' _ ⟨rfl, ⟨t, rfl⟩, hall⟩
            have z : ((as.zip es).all fun p => sameD n p.1 p.2) = true := zip_all e fun j x y eu ev => hall j x y (by have := (List.getElem?_eq_some_iff.mp ev).1; omega) eu ev
            rw [z] at hQ'
            exact hQ'
      | tup as => walk_at "all"; exact hQ
      | _ => cases ha
    | tup es =>
      obtain ⟨he1, he2⟩ := Bool.and_eq_true_iff.mp (show (decide (es.length ≤ 30000) && es.all (plD n)) = true from he)
      have he1 := of_decide_eq_true he1
      cases a with
      | v y => cases y <;> first | (cases ha; done) | (walk_at "all"; exact hQ)
      | tup as =>
        obtain ⟨ha1, ha2⟩ := Bool.and_eq_true_iff.mp (show (decide (as.length ≤ 30000) && as.all (plD n)) = true from ha)
        have ha1 := of_decide_eq_true ha1
        have hQ' : QA (.v (.bl (decide (as.length = es.length) && (as.zip es).all fun p => sameD n p.1 p.2))) μ := hQ
        walk_at "all"
        · rename_i e
          have e : as.length ≠ es.length := by omega
          rw [decide_eq_false e] at hQ'
          exact hQ'
        · rename_i e
          have e : as.length = es.length := by omega
          rw [decide_eq_true e] at hQ'
          refine ⟨fun k ρ m => m = μ ∧ (∃ t, ρ = [some (.tup as), some (.tup es), t]) ∧ ∀ (j : Nat) x y, j < k → as[j]? = some x → es[j]? = some y → sameD n x y = true, ⟨rfl, ⟨_, rfl⟩, fun j _ _ hj => absurd hj (Nat.not_lt_zero _)⟩, ?_, ?_⟩
          · rintro k ρ' _ hk ⟨rfl, ⟨t, rfl⟩, hall⟩
            obtain ⟨x, ex, ex'⟩ := atI_in (xs := as) (i := 0 + (k : Int)) (by omega) (by omega)
            obtain ⟨y, ey, ey'⟩ := atI_in (xs := es) (i := 0 + (k : Int)) (by omega) (by omega)
            have hx : plD n x = true := List.all_eq_true.mp ha2 x (List.mem_of_getElem? ex')
            have hy : plD n y = true := List.all_eq_true.mp he2 y (List.mem_of_getElem? ey')
            have ek : (0 + (k : Int)).toNat = k := by omega
            rw [ek] at ex' ey'
            conv => whnf
            rw [ex]
            conv => whnf
            rw [ey]
            cases n with
            | zero => cases hx
            | succ n =>
              refine And.intro rfl ⟨x, y, rfl, Or.inl ⟨hx, hy, ?_⟩⟩
              walk_at "br"
              · rename_i e2
                have z := zip_one ex' ey' e2
                rw [z] at hQ'
                exact hQ'
              · rename_i e2
                refine ⟨rfl, ⟨_, rfl⟩, fun j u v hj eu ev => ?_⟩
                by_cases q : j = k
                · subst q
                  cases (eu.symm.trans ex')
                  cases (ev.symm.trans ey')
                  exact e2
                · exact hall j u v (by omega) eu ev
          · rintro ρ' _ ⟨rfl, ⟨t, rfl⟩, hall⟩
            have z : ((as.zip es).all fun p => sameD n p.1 p.2) = true := zip_all e fun j x y eu ev => hall j x y (by have := (List.getElem?_eq_some_iff.mp ev).1; omega) eu ev
            rw [z] at hQ'
            exact hQ'
      | lst as => walk_at "all"; exact hQ
      | _ => cases ha
    | _ => cases he
end
end
set_option Elab.async false
set_option linter.all false
set_option maxRecDepth 100000
set_option maxHeartbeats 4000000
section
open PySem L2 DK

local macro_rules | `(tactic| walk_at "call") => `(tactic| (show fTake _ _ _ _; refine ⟨_, _, _, rfl, by first | assumption | decide, rfl, ‹StC _›, fun r c' hr0 hr1 hc => ?_⟩))
local macro_rules | `(tactic| walk_at "call") => `(tactic| (show fPick _ _ _ _; refine ⟨_, _, _, _, rfl, Or.inl rfl, by simp, by simp, rfl, ‹StC _›, fun d c' hd hc => ?_⟩))
theorem cshl_small {i j : Int} (h1 : -(2 ^ 64) < i) (h2 : i < 2 ^ 64) (h3 : 0 ≤ j) (h4 : j ≤ 1000) : CShl i j := by
  have := intBits_le_64 h1 h2
  exact ⟨h3, by omega⟩
local macro_rules | `(tactic| walk_at "mine") => `(tactic| (show CShl _ _; exact cshl_small (by omega) (by omega) (by omega) (by omega)))
section
variable {P : Program} {w : World} {K : PySem.W.Frag} {mg : Str → Option Value} {base : Heap}
def numD (d : D) : Bool := match d with | .v (.int _) => true | _ => false
def betD (d : D) (lo hi : Int) : Bool := match d with | .v (.int i) => decide (lo ≤ i) && decide (i ≤ hi) | _ => false
def fNum : FD := fun ds μ Q _ => ∃ d t, ds = [d] ∧ tyD d = some t ∧ Q (.v (.bl (numD d))) μ
def fBet : FD := fun ds μ Q _ => ∃ d lo hi t, ds = [d, .v (.int lo), .v (.int hi)] ∧ tyD d = some t ∧ Q (.v (.bl (betD d lo hi))) μ
def fCheck (C : Addr) : FD := fun ds μ Q X => ∃ s d lo hi t, ds = [.v (.str s), d, .v (.int lo), .v (.int hi)] ∧ tyD d = some t ∧ (betD d lo hi = true → Q (.v .non) μ) ∧ (betD d lo hi = false → X ⟨C, [("name", .v (.str s))]⟩ μ)
theorem sc_is_number : FnScope ["value"] ["value"] (defScope (top 21)) := ⟨rfl, rfl, rfl, by decide +kernel, rfl, by decide +kernel, by decide +kernel⟩
theorem ok_is_number (T : Tx K mg) : FnD P w K mg base 1 T.a_is_number T.fd_is_number ["value"] fNum := by
  refine fnD _ T.F_is_number sc_is_number (fun cd A outer s H E B => (d_sone (d_ret (d_and (d_cb (id := "isinstance") c_isi T.n_isinstance (by decide +kernel) (d_cons (d_var 0) (d_cons (d_ty (T := "int") T.n_int (by decide +kernel)) d_nil))) (d_one (d_not (d_cb (id := "isinstance") c_isi T.n_isinstance (by decide +kernel) (d_cons (d_var 0) (d_cons (d_ty (T := "bool") T.n_bool (by decide +kernel)) d_nil))))))))) ?_
  rintro ds μ QA XA hl ⟨d, t, rfl, ht, hQ⟩
  cases d with
  | v x => cases x <;> first | (cases ht; done) | (walk_at "all"; exact hQ)
  | lst es => walk_at "all"; exact hQ
  | tup es => walk_at "all"; exact hQ
  | dic es => walk_at "all"; exact hQ
  | ins _ _ _ => walk_at "all"; exact hQ
  | _ => cases ht
local macro_rules | `(tactic| walk_at "call") => `(tactic| (show fNum _ _ _ _; refine ⟨_, _, rfl, by first | assumption | rfl, ?_⟩))
theorem sc_is_between : FnScope ["value", "low", "high"] ["value", "low", "high"] (defScope (top 22)) := ⟨rfl, rfl, rfl, by decide +kernel, rfl, by decide +kernel, by decide +kernel⟩
theorem ok_is_between (T : Tx K mg) : FnD P w K mg base 2 T.a_is_between T.fd_is_between ["value", "low", "high"] fBet := by
  refine fnD _ T.F_is_between sc_is_between (fun cd A outer s H E B => (d_sone (d_ret (d_and (d_call B (ok_is_number T) (by decide) T.m_is_number T.k_is_number T.b_is_number (d_cons (d_var 0) d_nil)) (d_one (d_chain o_le o_le (d_var 1) (d_var 0) (d_var 2))))))) ?_
  rintro ds μ QA XA hl ⟨d, lo, hi, t, rfl, ht, hQ⟩
  cases d with
  | v x =>
    cases x with
    | int i =>
      have hQ' : QA (.v (.bl (decide (lo ≤ i) && decide (i ≤ hi)))) μ := hQ
      walk_at "all"
      · rename_i e
        rw [decide_eq_true e, Bool.true_and] at hQ'
        exact hQ'
      · rename_i e
        rw [decide_eq_false e, Bool.false_and] at hQ'
        exact hQ'
    | _ => first | (cases ht; done) | (walk_at "all"; exact hQ)
  | lst es => walk_at "all"; exact hQ
  | tup es => walk_at "all"; exact hQ
  | dic es => walk_at "all"; exact hQ
  | ins _ _ _ => walk_at "all"; exact hQ
  | _ => cases ht
local macro_rules | `(tactic| walk_at "call") => `(tactic| (show fBet _ _ _ _; refine ⟨_, _, _, _, rfl, by first | assumption | rfl, ?_⟩))
theorem sci_OutOfRange : FnScope ["self", "name"] ["self", "name"] (defScope (meth (top 2) 0)) := ⟨rfl, rfl, rfl, by decide +kernel, rfl, by decide +kernel, by decide +kernel⟩
theorem oki_OutOfRange (T : Tx K mg) : FnOk P w K mg base CX0 1 T.fi_OutOfRange T.fdi_OutOfRange ["self", "name"] (spInit T.a_OutOfRange ["name"]) :=
  ok_init T.ii_OutOfRange sci_OutOfRange T.in_OutOfRange (by decide) fun cdv A outer s H E => (pss_one (ps_ost (pv 0) (pv 1) rfl))
theorem sci_BadRing : FnScope ["self", "demand"] ["self", "demand"] (defScope (meth (top 9) 0)) := ⟨rfl, rfl, rfl, by decide +kernel, rfl, by decide +kernel, by decide +kernel⟩
theorem oki_BadRing (T : Tx K mg) : FnOk P w K mg base CX0 1 T.fi_BadRing T.fdi_BadRing ["self", "demand"] (spInit T.a_BadRing ["demand"]) :=
  ok_init T.ii_BadRing sci_BadRing T.in_BadRing (by decide) fun cdv A outer s H E => (pss_one (ps_ost (pv 0) (pv 1) rfl))
theorem sc_check_between : FnScope ["name", "value", "low", "high"] ["name", "value", "low", "high"] (defScope (top 24)) := ⟨rfl, rfl, rfl, by decide +kernel, rfl, by decide +kernel, by decide +kernel⟩
theorem ok_check_between (T : Tx K mg) : FnD P w K mg base 3 T.a_check_between T.fd_check_between ["name", "value", "low", "high"] (fCheck T.a_OutOfRange) := by
  refine fnD _ T.F_check_between sc_check_between (fun cd A outer s H E B => (d_sone (d_sif (d_tnot (d_tval (d_call B (ok_is_between T) (by decide) T.m_is_between T.k_is_between T.b_is_between (d_cons (d_var 1) (d_cons (d_var 2) (d_cons (d_var 3) d_nil)))))) (d_sone (d_raise B T.e_OutOfRange (oki_OutOfRange T) (by decide) T.bi_OutOfRange (d_cons (d_var 0) d_nil))) d_snil))) ?_
  rintro ds μ QA XA hl ⟨s, d, lo, hi, t, rfl, ht, h1, h2⟩
  walk_at "all"
  · exact h2 (by assumption)
  · exact h1 (by assumption)
theorem bet_inv {d : D} {lo hi : Int} (h : betD d lo hi = true) : ∃ i : Int, d = .v (.int i) ∧ lo ≤ i ∧ i ≤ hi := by
  unfold betD at h
  split at h
  · simp at h
    exact ⟨_, rfl, h.1, h.2⟩
  · cases h
end
end
set_option Elab.async false
set_option linter.all false
set_option maxRecDepth 100000
set_option maxHeartbeats 4000000
section
open PySem L2 DK

section
variable {P : Program} {w : World} {K : PySem.W.Frag} {mg : Str → Option Value} {base : Heap}
local macro_rules | `(tactic| walk_at "call") => `(tactic| (refine Exists.intro _ (Exists.intro _ (And.intro (by first | exact ClsV.own _ | exact ClsV.ty _) (And.intro (by assumption) (And.intro (by assumption) ?_))))))
def fKin (E : List (Addr × Str)) : FD := fun ds μ Q _ => ∃ C n fs, ds = [.err C fs] ∧ (C, n) ∈ E ∧ Q (.lst [.v (.str n)]) μ
theorem sc__law_kin : FnScope ["error", "flags", "words", "at"] ["error"] (defScope (top 54)) := ⟨rfl, rfl, rfl, by decide +kernel, rfl, by decide +kernel, by decide +kernel⟩
theorem ok__law_kin (T : Tx K mg) : FnQ P w K mg base 1 T.a__law_kin T.fd__law_kin ["error"] (fKin [(T.a_OutOfRange, "OutOfRange"), (T.a_BadRing, "BadRing")]) := by
  refine fnQ _ T.F__law_kin sc__law_kin (fun cd A outer s H E p B => (d_scons (d_set 1 B.nd (d_lst (d_cons (d_cb (id := "isinstance") (c_isF (K := K) rfl (fun r hr => by rw [List.mem_singleton.mp hr]; exact B.mem)) T.n_isinstance (by decide +kernel) (d_cons (d_var 0) (d_cons (d_globV (v := .ref _) T.m_OutOfRange rfl) d_nil))) (d_cons (d_cb (id := "isinstance") (c_isF (K := K) rfl (fun r hr => by rw [List.mem_singleton.mp hr]; exact B.mem)) T.n_isinstance (by decide +kernel) (d_cons (d_var 0) (d_cons (d_globV (v := .ref _) T.m_BadItem rfl) d_nil))) (d_cons (d_cb (id := "isinstance") (c_isF (K := K) rfl (fun r hr => by rw [List.mem_singleton.mp hr]; exact B.mem)) T.n_isinstance (by decide +kernel) (d_cons (d_var 0) (d_cons (d_globV (v := .ref _) T.m_BadLength rfl) d_nil))) d_nil)))))
    (d_scons (d_set 1 B.nd (d_bin o_addU (d_var 1) (d_lst (d_cons (d_cb (id := "isinstance") (c_isF (K := K) rfl (fun r hr => by rw [List.mem_singleton.mp hr]; exact B.mem)) T.n_isinstance (by decide +kernel) (d_cons (d_var 0) (d_cons (d_globV (v := .ref _) T.m_BadText rfl) d_nil))) (d_cons (d_cb (id := "isinstance") (c_isF (K := K) rfl (fun r hr => by rw [List.mem_singleton.mp hr]; exact B.mem)) T.n_isinstance (by decide +kernel) (d_cons (d_var 0) (d_cons (d_globV (v := .ref _) T.m_BadPadding rfl) d_nil))) (d_cons (d_cb (id := "isinstance") (c_isF (K := K) rfl (fun r hr => by rw [List.mem_singleton.mp hr]; exact B.mem)) T.n_isinstance (by decide +kernel) (d_cons (d_var 0) (d_cons (d_globV (v := .ref _) T.m_WrongPhase rfl) d_nil))) d_nil))))))
    (d_scons (d_set 1 B.nd (d_bin o_addU (d_var 1) (d_lst (d_cons (d_cb (id := "isinstance") (c_isF (K := K) rfl (fun r hr => by rw [List.mem_singleton.mp hr]; exact B.mem)) T.n_isinstance (by decide +kernel) (d_cons (d_var 0) (d_cons (d_globV (v := .ref _) T.m_NotInvertible rfl) d_nil))) (d_cons (d_cb (id := "isinstance") (c_isF (K := K) rfl (fun r hr => by rw [List.mem_singleton.mp hr]; exact B.mem)) T.n_isinstance (by decide +kernel) (d_cons (d_var 0) (d_cons (d_globV (v := .ref _) T.m_BadRing rfl) d_nil))) (d_cons (d_cb (id := "isinstance") (c_isF (K := K) rfl (fun r hr => by rw [List.mem_singleton.mp hr]; exact B.mem)) T.n_isinstance (by decide +kernel) (d_cons (d_var 0) (d_cons (d_globV (v := .ref _) T.m_BadParameters rfl) d_nil))) d_nil))))))
    (d_scons (d_set 1 B.nd (d_bin o_addU (d_var 1) (d_lst (d_cons (d_cb (id := "isinstance") (c_isF (K := K) rfl (fun r hr => by rw [List.mem_singleton.mp hr]; exact B.mem)) T.n_isinstance (by decide +kernel) (d_cons (d_var 0) (d_cons (d_globV (v := .ref _) T.m_UnknownName rfl) d_nil))) (d_cons (d_cb (id := "isinstance") (c_isF (K := K) rfl (fun r hr => by rw [List.mem_singleton.mp hr]; exact B.mem)) T.n_isinstance (by decide +kernel) (d_cons (d_var 0) (d_cons (d_globV (v := .ref _) T.m_DifferentRings rfl) d_nil))) (d_cons (d_cb (id := "isinstance") (c_isF (K := K) rfl (fun r hr => by rw [List.mem_singleton.mp hr]; exact B.mem)) T.n_isinstance (by decide +kernel) (d_cons (d_var 0) (d_cons (d_globV (v := .ref _) T.m_BadKey rfl) d_nil))) d_nil))))))
    (d_scons (d_set 1 B.nd (d_bin o_addU (d_var 1) (d_lst (d_cons (d_cb (id := "isinstance") (c_isF (K := K) rfl (fun r hr => by rw [List.mem_singleton.mp hr]; exact B.mem)) T.n_isinstance (by decide +kernel) (d_cons (d_var 0) (d_cons (d_globV (v := .ref _) T.m_BadLetter rfl) d_nil))) (d_cons (d_cb (id := "isinstance") (c_isF (K := K) rfl (fun r hr => by rw [List.mem_singleton.mp hr]; exact B.mem)) T.n_isinstance (by decide +kernel) (d_cons (d_var 0) (d_cons (d_globV (v := .ref _) T.m_BadKeyText rfl) d_nil))) (d_cons (d_cb (id := "isinstance") (c_isF (K := K) rfl (fun r hr => by rw [List.mem_singleton.mp hr]; exact B.mem)) T.n_isinstance (by decide +kernel) (d_cons (d_var 0) (d_cons (d_globV (v := .ref _) T.m_BadRecord rfl) d_nil))) d_nil))))))
    (d_scons (d_set 1 B.nd (d_bin o_addU (d_var 1) (d_lst (d_cons (d_cb (id := "isinstance") (c_isF (K := K) rfl (fun r hr => by rw [List.mem_singleton.mp hr]; exact B.mem)) T.n_isinstance (by decide +kernel) (d_cons (d_var 0) (d_cons (d_globV (v := .ref _) T.m_BadCommand rfl) d_nil))) (d_cons (d_cb (id := "isinstance") (c_isF (K := K) rfl (fun r hr => by rw [List.mem_singleton.mp hr]; exact B.mem)) T.n_isinstance (by decide +kernel) (d_cons (d_var 0) (d_cons (d_globV (v := .ref _) T.m_NoEntry rfl) d_nil))) (d_cons (d_cb (id := "isinstance") (c_isF (K := K) rfl (fun r hr => by rw [List.mem_singleton.mp hr]; exact B.mem)) T.n_isinstance (by decide +kernel) (d_cons (d_var 0) (d_cons (d_globV (v := .ref _) T.m_NothingLeft rfl) d_nil))) d_nil))))))
    (d_scons (d_set 2 B.nd (d_lst (d_cons d_str (d_cons d_str (d_cons d_str (d_cons d_str (d_cons d_str (d_cons d_str (d_cons d_str (d_cons d_str d_nil))))))))))
    (d_scons (d_set 2 B.nd (d_bin o_addU (d_var 2) (d_lst (d_cons d_str (d_cons d_str (d_cons d_str (d_cons d_str (d_cons d_str (d_cons d_str d_nil)))))))))
    (d_scons (d_set 2 B.nd (d_bin o_addU (d_var 2) (d_lst (d_cons d_str (d_cons d_str (d_cons d_str (d_cons d_str d_nil)))))))
    (d_scons (d_sif (d_tw (d_wor (d_tnot (d_tval (d_cb (id := "isinstance") (c_isF (K := K) rfl (fun r hr => by rw [List.mem_singleton.mp hr]; exact B.mem)) T.n_isinstance (by decide +kernel) (d_cons (d_var 0) (d_cons (d_globV (v := .ref _) T.m_NoiseboundError rfl) d_nil))))) (d_wor1 (d_tnot (d_tval (d_cb (id := "isinstance") (c_isF (K := K) rfl (fun r hr => by rw [List.mem_singleton.mp hr]; exact B.mem)) T.n_isinstance (by decide +kernel) (d_cons (d_var 0) (d_cons (d_ty (T := "ValueError") T.n_ValueError (by decide +kernel)) d_nil)))))))) (d_sone (d_ret (d_lst (d_cons d_str d_nil)))) d_snil)
    (d_sone (d_ret (d_lcR1H 3 B T.n_range (d_cons d_int d_nil) (fun _ _ _ _ _ => (d_ifs1 (d_tval (d_ix (d_var 1) (d_var 3))))) (fun _ _ _ _ _ => (d_ix (d_var 2) (d_var 3))) (by show blkC ["error", "flags", "words", "at"] (defScope (top 54)) _ _ = true; decide +kernel) (fun _ _ _ _ _ => pg_name B.nd rfl (by first | exact Or.inl rfl | exact Or.inr rfl)))))))))))))))) ?_
  rintro ds μ QA hl ⟨C, n, fs, rfl, hE, hQ⟩
  simp only [List.mem_cons, List.not_mem_nil, or_false, Prod.mk.injEq] at hE
  rcases hE with ⟨rfl, rfl⟩ | ⟨rfl, rfl⟩
  · have := T.q_OutOfRange_NoiseboundError
    have := T.q_OutOfRange_OutOfRange
    have := T.q_OutOfRange_BadItem
    have := T.q_OutOfRange_BadLength
    have := T.q_OutOfRange_BadText
    have := T.q_OutOfRange_BadPadding
    have := T.q_OutOfRange_WrongPhase
    have := T.q_OutOfRange_NotInvertible
    have := T.q_OutOfRange_BadRing
    have := T.q_OutOfRange_BadParameters
    have := T.q_OutOfRange_UnknownName
    have := T.q_OutOfRange_DifferentRings
    have := T.q_OutOfRange_BadKey
    have := T.q_OutOfRange_BadLetter
    have := T.q_OutOfRange_BadKeyText
    have := T.q_OutOfRange_BadRecord
    have := T.q_OutOfRange_BadCommand
    have := T.q_OutOfRange_NoEntry
    have := T.q_OutOfRange_NothingLeft
    have := T.q_OutOfRange_Ring
    have := T.q_OutOfRange_ValueError
    have := T.x_OutOfRange
    have := T.f_OutOfRange
    have := T.g_OutOfRange_name
    show sSeq _ _ (pEnds QA) [some (.err T.a_OutOfRange fs), none, none, none] μ
    walk_at "all"
    simp only [List.cons_append, List.nil_append, List.set_cons_zero, List.set_cons_succ, wipeD]
    refine go_lc ?_
    walk_at "all"
    exact hQ
  · have := T.q_BadRing_NoiseboundError
    have := T.q_BadRing_OutOfRange
    have := T.q_BadRing_BadItem
    have := T.q_BadRing_BadLength
    have := T.q_BadRing_BadText
    have := T.q_BadRing_BadPadding
    have := T.q_BadRing_WrongPhase
    have := T.q_BadRing_NotInvertible
    have := T.q_BadRing_BadRing
    have := T.q_BadRing_BadParameters
    have := T.q_BadRing_UnknownName
    have := T.q_BadRing_DifferentRings
    have := T.q_BadRing_BadKey
    have := T.q_BadRing_BadLetter
    have := T.q_BadRing_BadKeyText
    have := T.q_BadRing_BadRecord
    have := T.q_BadRing_BadCommand
    have := T.q_BadRing_NoEntry
    have := T.q_BadRing_NothingLeft
    have := T.q_BadRing_Ring
    have := T.q_BadRing_ValueError
    have := T.x_BadRing
    have := T.f_BadRing
    have := T.g_BadRing_demand
    show sSeq _ _ (pEnds QA) [some (.err T.a_BadRing fs), none, none, none] μ
    walk_at "all"
    simp only [List.cons_append, List.nil_append, List.set_cons_zero, List.set_cons_succ, wipeD]
    refine go_lc ?_
    walk_at "all"
    exact hQ
local macro_rules | `(tactic| walk_at "call") => `(tactic| (refine Exists.intro _ (Exists.intro _ (Exists.intro _ (And.intro rfl (And.intro (by repeat first | exact List.mem_cons_self | refine List.mem_cons_of_mem _ ?_) ?_))))))
local macro_rules | `(tactic| walk_at "call") => `(tactic| (refine And.intro (Exists.intro _ (Exists.intro _ (And.intro rfl (And.intro (by assumption) (by assumption))))) ?_))
/-- a raised error and its refusal -/
def RefT (a_OutOfRange a_BadRing : Addr) (C : Addr) (fs : List (Str × D)) (out : List D) : Prop := (C = a_OutOfRange ∧ ∃ v0 : D, noErr v0 = true ∧ fs = ([("name", v0)] : List (Str × D)) ∧ out = [.v (.str "refused"), .v (.str "OutOfRange"), v0]) ∨ (C = a_BadRing ∧ ∃ v0 : D, noErr v0 = true ∧ fs = ([("demand", v0)] : List (Str × D)) ∧ out = [.v (.str "refused"), .v (.str "BadRing"), v0])
def fRef (a_OutOfRange a_BadRing : Addr) : FD := fun ds μ Q _ => ∃ C fs out, RefT a_OutOfRange a_BadRing C fs out ∧ ds = [.err C fs] ∧ Q (.tup out) μ
theorem sc__law_refused : FnScope ["error", "kin"] ["error"] (defScope (top 59)) := ⟨rfl, rfl, rfl, by decide +kernel, rfl, by decide +kernel, by decide +kernel⟩
theorem ok__law_refused (T : Tx K mg) : FnQ P w K mg base 2 T.a__law_refused T.fd__law_refused ["error"] (fRef T.a_OutOfRange T.a_BadRing) := by
  refine fnQ _ T.F__law_refused sc__law_refused (fun cd A outer s H E p B => (d_scons (d_set 1 B.nd (d_callH B (ok__law_kin T) (by decide) T.m__law_kin T.k__law_kin T.b__law_kin (d_cons (d_var 0) d_nil)))
    (d_scons (d_sif (d_tcmp o_ne (d_cb (id := "len") c_len T.n_len (by decide +kernel) (d_cons (d_var 1) d_nil)) d_int) (d_sone (d_ret (d_bin o_addU (d_tup (d_cons d_str d_nil)) (d_ct c_tuple T.n_tuple (by decide +kernel) (d_cons (d_var 1) d_nil))))) d_snil)
    (d_scons (d_sif (d_tval (d_cb (id := "isinstance") (c_isF (K := K) rfl (fun r hr => by rw [List.mem_singleton.mp hr]; exact B.mem)) T.n_isinstance (by decide +kernel) (d_cons (d_var 0) (d_cons (d_globV (v := .ref _) T.m_OutOfRange rfl) d_nil)))) (d_sone (d_ret (d_tup (d_cons d_str (d_cons (d_ix (d_var 1) d_int) (d_cons (d_fldE (K := K) rfl (fun r hr => by rw [List.mem_singleton.mp hr]; exact B.mem) (d_var 0)) d_nil)))))) d_snil)
    (d_scons (d_sif (d_tval (d_cb (id := "isinstance") (c_isF (K := K) rfl (fun r hr => by rw [List.mem_singleton.mp hr]; exact B.mem)) T.n_isinstance (by decide +kernel) (d_cons (d_var 0) (d_cons (d_globV (v := .ref _) T.m_BadItem rfl) d_nil)))) (d_sone (d_ret (d_tup (d_cons d_str (d_cons (d_ix (d_var 1) d_int) (d_cons (d_fldE (K := K) rfl (fun r hr => by rw [List.mem_singleton.mp hr]; exact B.mem) (d_var 0)) d_nil)))))) d_snil)
    (d_scons (d_sif (d_tval (d_cb (id := "isinstance") (c_isF (K := K) rfl (fun r hr => by rw [List.mem_singleton.mp hr]; exact B.mem)) T.n_isinstance (by decide +kernel) (d_cons (d_var 0) (d_cons (d_globV (v := .ref _) T.m_BadLength rfl) d_nil)))) (d_sone (d_ret (d_tup (d_cons d_str (d_cons (d_ix (d_var 1) d_int) (d_cons (d_fldE (K := K) rfl (fun r hr => by rw [List.mem_singleton.mp hr]; exact B.mem) (d_var 0)) (d_cons (d_fldE (K := K) rfl (fun r hr => by rw [List.mem_singleton.mp hr]; exact B.mem) (d_var 0)) d_nil))))))) d_snil)
    (d_scons (d_sif (d_tval (d_cb (id := "isinstance") (c_isF (K := K) rfl (fun r hr => by rw [List.mem_singleton.mp hr]; exact B.mem)) T.n_isinstance (by decide +kernel) (d_cons (d_var 0) (d_cons (d_globV (v := .ref _) T.m_BadRing rfl) d_nil)))) (d_sone (d_ret (d_tup (d_cons d_str (d_cons (d_ix (d_var 1) d_int) (d_cons (d_fldE (K := K) rfl (fun r hr => by rw [List.mem_singleton.mp hr]; exact B.mem) (d_var 0)) d_nil)))))) d_snil)
    (d_sone (d_ret (d_tup (d_cons d_str (d_cons (d_ix (d_var 1) d_int) d_nil)))))))))))) ?_
  rintro ds μ QA hl ⟨C, fs, out, hR, rfl, hQ⟩
  rcases hR with ⟨rfl, hR⟩ | ⟨rfl, hR⟩
  · obtain ⟨v0, hv0, rfl, rfl⟩ := hR
    have := T.q_OutOfRange_NoiseboundError
    have := T.q_OutOfRange_OutOfRange
    have := T.q_OutOfRange_BadItem
    have := T.q_OutOfRange_BadLength
    have := T.q_OutOfRange_BadText
    have := T.q_OutOfRange_BadPadding
    have := T.q_OutOfRange_WrongPhase
    have := T.q_OutOfRange_NotInvertible
    have := T.q_OutOfRange_BadRing
    have := T.q_OutOfRange_BadParameters
    have := T.q_OutOfRange_UnknownName
    have := T.q_OutOfRange_DifferentRings
    have := T.q_OutOfRange_BadKey
    have := T.q_OutOfRange_BadLetter
    have := T.q_OutOfRange_BadKeyText
    have := T.q_OutOfRange_BadRecord
    have := T.q_OutOfRange_BadCommand
    have := T.q_OutOfRange_NoEntry
    have := T.q_OutOfRange_NothingLeft
    have := T.q_OutOfRange_Ring
    have := T.q_OutOfRange_ValueError
    have := T.x_OutOfRange
    have := T.f_OutOfRange
    have := T.g_OutOfRange_name
    show sSeq _ _ (pEnds QA) [some (.err T.a_OutOfRange _), none] μ
    walk_at "all"
    refine ⟨?_, hQ⟩
    simp [noErr, noErrs, hv0]
  · obtain ⟨v0, hv0, rfl, rfl⟩ := hR
    have := T.q_BadRing_NoiseboundError
    have := T.q_BadRing_OutOfRange
    have := T.q_BadRing_BadItem
    have := T.q_BadRing_BadLength
    have := T.q_BadRing_BadText
    have := T.q_BadRing_BadPadding
    have := T.q_BadRing_WrongPhase
    have := T.q_BadRing_NotInvertible
    have := T.q_BadRing_BadRing
    have := T.q_BadRing_BadParameters
    have := T.q_BadRing_UnknownName
    have := T.q_BadRing_DifferentRings
    have := T.q_BadRing_BadKey
    have := T.q_BadRing_BadLetter
    have := T.q_BadRing_BadKeyText
    have := T.q_BadRing_BadRecord
    have := T.q_BadRing_BadCommand
    have := T.q_BadRing_NoEntry
    have := T.q_BadRing_NothingLeft
    have := T.q_BadRing_Ring
    have := T.q_BadRing_ValueError
    have := T.x_BadRing
    have := T.f_BadRing
    have := T.g_BadRing_demand
    show sSeq _ _ (pEnds QA) [some (.err T.a_BadRing _), none] μ
    walk_at "all"
    refine ⟨?_, hQ⟩
    simp [noErr, noErrs, hv0]
end
end
set_option Elab.async false
set_option linter.all false
set_option maxRecDepth 100000
set_option maxHeartbeats 4000000
section
open PySem L2 DK
theorem same_ok {n : Nat} {a e : D} {μ : Sto} {Q : QD} {X : QX} (h1 : plD (n + 1) a = true) (h2 : plD (n + 1) e = true) (h3 : sameD (n + 1) a e = true) (q : Q (.v (.bl true)) μ) : fSame (n + 1) [a, e] μ Q X := ⟨a, e, rfl, .inl ⟨h1, h2, by rw [h3]; exact q⟩⟩
theorem bet_yes {x lo hi : Int} (h1 : lo ≤ x) (h2 : x ≤ hi) : betD (.v (.int x)) lo hi = true := by
  show (decide (lo ≤ x) && decide (x ≤ hi)) = true
  rw [decide_eq_true h1, decide_eq_true h2]
  rfl
/-- a value that is none of lo to hi -/
def NoD (lo hi : Int) (d : D) : Prop := (∃ t, tyD d = some t) ∧ betD d lo hi = false
/-- the script's store holds no cell -/
theorem st_lb {n : Nat} {c : Cell} (h : StC c) : lbC n c = true := by
  obtain ⟨ns, i, c', t, m, k, rfl, _⟩ := h
  show (lbs n (ns.map fun z => D.v (.int z)) && true) = true
  rw [lbs_ints]
  rfl
theorem st_keeps {c c' : Cell} {μ : Sto} (h : StC c') : Keeps (c :: μ) (c' :: μ) := Keeps.head (st_lb h)
end
set_option Elab.async false
set_option linter.all false
set_option maxRecDepth 100000
set_option maxHeartbeats 4000000
section
open PySem L2 DK

theorem isL_at {μ : Sto} {k : Nat} {es : List D} (hm : μ[k]? = some (.lst es)) : isL (.loc k) μ = true := by simp [isL, hm]
theorem app_at {μ : Sto} {k : Nat} {es : List D} {d : D} {Q : Sto → Prop} (hm : μ[k]? = some (.lst es)) (hl : es.length ≤ 1000000) (h : Q (μ.set k (.lst (es ++ [d])))) : appIt (.loc k) d μ Q := by
  unfold appIt
  simp [hm, hl, h]
theorem set_at {μ : Sto} {k : Nat} {es : List D} {i : Int} {d : D} {Q : Sto → Prop} (hm : μ[k]? = some (.lst es)) (h0 : 0 ≤ i) (h1 : i < es.length) (h : Q (μ.set k (.lst (es.set i.toNat d)))) : setIt (.loc k) (.v (.int i)) d μ Q := by
  unfold setIt
  have e : ixN es.length i = some i.toNat := by unfold ixN; rw [if_pos h0, if_pos h1]
  simp [hm, e, h]
theorem ty_at {μ : Sto} {k : Nat} {es : List D} (hm : μ[k]? = some (.lst es)) : tyM μ (.loc k) = some "list" := by simp [tyM, hm]
theorem it_at {μ : Sto} {k : Nat} {es : List D} (hm : μ[k]? = some (.lst es)) : itemsOf (.loc k) μ = some es := by simp [itemsOf, hm]
/-- a flat thing, or a cell of flat things, is spoilt -/
def fSpoil : Nat → FD
  | 0 => fun _ _ _ _ => False
  | n + 1 => fun ds μ Q _ => ∃ x, ds = [x] ∧ ((flatD x = true ∧ Q (.v .non) μ) ∨ ∃ k es, x = .loc k ∧ μ[k]? = some (.lst es) ∧ es.all flatD = true ∧ es.length ≤ 40000 ∧ 1 ≤ n ∧ ∀ fs : List D, fs.all flatD = true → Q (.v .non) (μ.set k (.lst fs)))
section
variable {P : Program} {w : World} {K : PySem.W.Frag} {mg : Str → Option Value} {base : Heap}
end
end
set_option Elab.async false
set_option linter.all false
set_option maxRecDepth 100000
set_option maxHeartbeats 4000000

open PySem L2 DK
local macro_rules | `(tactic| walk_at "call") => `(tactic| ((with_reducible show fTake _ _ _ _); refine ⟨_, _, _, rfl, by first | assumption | decide | exact log_small (by omega) (by omega), rfl, ‹StC _›, fun r c' hr0 hr1 hc => ?_⟩))
local macro_rules | `(tactic| walk_at "call") => `(tactic| ((with_reducible show fBetw _ _ _ _); refine ⟨_, _, _, _, rfl, by first | assumption | decide | omega, rfl, ‹StC _›, fun r c' hr0 hr1 hc => ?_⟩))
local macro_rules | `(tactic| walk_at "call") => `(tactic| ((with_reducible show fBeyond _ _ _ _); refine ⟨_, _, _, _, rfl, rfl, ‹StC _›, fun d c' hd hc => ?_⟩))
local macro_rules | `(tactic| walk_at "call") => `(tactic| ((with_reducible show fOther _ _ _ _); refine ⟨_, _, rfl, rfl, ‹StC _›, fun d c' hd hc => ?_⟩))
local macro_rules | `(tactic| walk_at "mine") => `(tactic| ((with_reducible show CM _ _); exact Or.inl (Or.inl (by omega))))
local macro_rules | `(tactic| walk_at "mine") => `(tactic| ((with_reducible show CM _ _); exact Or.inl (Or.inr (by omega))))
local macro_rules | `(tactic| walk_at "mine") => `(tactic| ((with_reducible show CDivW _ _); exact ⟨by omega, by first | decide | exact log_small (by omega) (by omega)⟩))
local macro_rules | `(tactic| walk_at "mine") => `(tactic| ((with_reducible show CShl _ _); exact cshl_small (by omega) (by omega) (by omega) (by omega)))
local macro_rules | `(tactic| walk_at "call") => `(tactic| ((conv => whnf); rw [‹tyM _ (D.loc _) = some _›]))
local macro_rules | `(tactic| walk_at "call") => `(tactic| ((conv => whnf); rw [‹itemsOf (D.loc _) _ = some _›]))
section
def TyD (d : D) : Prop := ∃ t, tyD d = some t
theorem TyD.int {i : Int} : TyD (.v (.int i)) := ⟨_, rfl⟩
theorem cg_mul {q a b c d : Int} (h : a % q = b % q) (k : c % q = d % q) : (a * c) % q = (b * d) % q := by rw [Int.mul_emod, h, k, ← Int.mul_emod]
theorem cg_pow {q a b : Int} (h : a % q = b % q) : ∀ n : Nat, (a ^ n) % q = (b ^ n) % q
  | 0 => by rw [Int.pow_zero, Int.pow_zero]
  | n + 1 => by rw [Int.pow_succ, Int.pow_succ]; exact cg_mul (cg_pow h n) h
theorem mod_mod {a q : Int} : (a % q) % q = a % q := Int.emod_emod a q
theorem sq_pow (s : Int) : ∀ k : Nat, (s * s) ^ k = s ^ (2 * k)
  | 0 => by rw [Nat.mul_zero, Int.pow_zero, Int.pow_zero]
  | k + 1 => by rw [Int.pow_succ, sq_pow s k, show 2 * (k + 1) = 2 * k + 1 + 1 by omega, Int.pow_succ, Int.pow_succ, Int.mul_assoc]
theorem pw_odd {r s q : Int} (k : Nat) : ((r * s % q) * (s * s % q) ^ k) % q = (r * s ^ (2 * k + 1)) % q := by
  rw [cg_mul (mod_mod (a := r * s)) (cg_pow (mod_mod (a := s * s)) k), sq_pow, Int.pow_succ, Int.mul_assoc, Int.mul_comm s]
theorem pw_even {r s q : Int} (k : Nat) : (r * (s * s % q) ^ k) % q = (r * s ^ (2 * k)) % q := by
  rw [cg_mul (rfl : r % q = r % q) (cg_pow (mod_mod (a := s * s)) k), sq_pow]
/-! ### least divisors -/
def ldF : Nat → Int → Int → Int
  | 0, v, _ => v
  | n + 1, v, j => if v % j = 0 then j else ldF n v (j + 1)
def ld (v : Int) : Int := ldF v.toNat v 2
def IsLeast (v p : Int) : Prop := 2 ≤ p ∧ p ≤ v ∧ v % p = 0 ∧ ∀ j, 2 ≤ j → j < p → v % j ≠ 0
theorem ldF_spec {v : Int} (hv : 2 ≤ v) : ∀ (n : Nat) (j : Int), 2 ≤ j → j ≤ v → v < j + n → (∀ i, 2 ≤ i → i < j → v % i ≠ 0) → IsLeast v (ldF n v j)
  | 0, j, h1, h2, h3, _ => absurd h3 (by omega)
  | n + 1, j, h1, h2, h3, h4 => by
    unfold ldF
    split
    · rename_i e
      exact ⟨h1, h2, e, h4⟩
    · rename_i e
      have hj : j ≠ v := fun z => e (by rw [z, Int.emod_self])
      refine ldF_spec hv n (j + 1) (by omega) (by omega) (by omega) fun i h5 h6 => ?_
      by_cases z : i = j
      · rw [z]; exact e
      · exact h4 i h5 (by omega)
theorem ld_spec {v : Int} (hv : 2 ≤ v) : IsLeast v (ld v) := ldF_spec hv _ 2 (by omega) hv (by omega) fun i h1 h2 => absurd h1 (by omega)
theorem least_one {v p r : Int} (hp : IsLeast v p) (hr : IsLeast v r) : p = r := by
  obtain ⟨p1, p2, p3, p4⟩ := hp
  obtain ⟨r1, r2, r3, r4⟩ := hr
  rcases Int.lt_trichotomy p r with h | h | h
  · exact absurd p3 (r4 p p1 h)
  · exact h
  · exact absurd r3 (p4 r r1 h)
theorem ld_is {v p : Int} (h : IsLeast v p) : ld v = p := least_one (ld_spec (by have := h.1; have := h.2.1; omega)) h
/-- no divisor up to the root: the number itself -/
theorem least_self {v k : Int} (hv : 2 ≤ v) (hk : 2 ≤ k) (hkk : v < k * k) (h : ∀ j, 2 ≤ j → j < k → v % j ≠ 0) : IsLeast v v := by
  refine ⟨hv, Int.le_refl _, Int.emod_self, fun j h1 h2 h3 => ?_⟩
  have hjk : k ≤ j := by
    rcases Int.lt_or_le j k with z | z
    · exact absurd h3 (h j h1 z)
    · exact z
  have e := Int.mul_ediv_add_emod v j
  rw [h3, Int.add_zero] at e
  have q0 : 0 ≤ v / j := Int.ediv_nonneg (by omega) (by omega)
  generalize v / j = d at *
  have hd1 : 2 ≤ d := by
    rcases Int.lt_or_le d 2 with z | z
    · exfalso
      have : d = 0 ∨ d = 1 := by omega
      rcases this with rfl | rfl
      · rw [Int.mul_zero] at e; omega
      · rw [Int.mul_one] at e; omega
    · exact z
  have hdk : d < k := by
    rcases Int.lt_or_le d k with z | z
    · exact z
    · exfalso
      have := Int.mul_le_mul hjk z (by omega) (by omega)
      omega
  refine h d hd1 hdk ?_
  rw [← e]
  exact Int.mul_emod_left _ _
def prB (v : Int) : Bool := decide (1 < v) && decide (ld v = v)
theorem prB_no {v j : Int} (h1 : 2 ≤ j) (h2 : j < v) (h3 : v % j = 0) : prB v = false := by
  have hl := ld_spec (show 2 ≤ v by omega)
  have : ld v ≠ v := fun z => by
    rw [z] at hl
    exact hl.2.2.2 j h1 h2 h3
  unfold prB
  rw [decide_eq_false this, Bool.and_false]
theorem prB_yes {v : Int} (h : IsLeast v v) : prB v = true := by
  unfold prB
  rw [decide_eq_true (by have := h.1; omega), decide_eq_true (ld_is h)]
  rfl
theorem prB_small {v : Int} (h : v ≤ 1) : prB v = false := by
  unfold prB
  rw [decide_eq_false (by omega)]
  rfl
/-! ### degrees -/
abbrev degs : List Int := [8, 16, 32, 64, 128, 256]
def degD (d : D) : Bool := match d with | .v (.int i) => decide (i ∈ degs) | _ => false
/-- the bad words of power in their order, else its answer -/
def PowB (b e q : D) (bad : Str → Prop) (good : Int → Prop) : Prop := (∃ t, tyD b = some t) ∧ (∃ t, tyD e = some t) ∧ (∃ t, tyD q = some t) ∧ (numD b = false → bad "base") ∧ (numD b = true → betD e 0 1000000 = false → bad "exponent") ∧
  (numD b = true → betD e 0 1000000 = true → betD q 2 4095 = false → bad "q") ∧ ∀ bi ei qi : Int, b = .v (.int bi) → e = .v (.int ei) → q = .v (.int qi) → 0 ≤ ei → ei ≤ 1000000 → 2 ≤ qi → qi ≤ 4095 → good (bi ^ ei.toNat % qi)
theorem num_inv {d : D} (h : numD d = true) : ∃ i : Int, d = .v (.int i) := by
  unfold numD at h
  split at h
  · exact ⟨_, rfl⟩
  · cases h
theorem in_ints {i : Int} {ns : List Int} : inV (.int i) (ns.map fun z => V.int z) = decide (i ∈ ns) := by
  unfold inV
  induction ns with
  | nil => rfl
  | cons n ns ih =>
    rw [List.map_cons, List.any_cons, ih]
    by_cases h : n = i
    · subst h
      simp [eqV]
    · have h2 : i ≠ n := fun z => h z.symm
      have : eqV (.int n) (.int i) = false := by simp [eqV, h]
      rw [this]
      simp [h2]
/-- one number between its bounds -/
def OneB (s : Str) (lo hi : Int) (d : D) (bad : Str → Prop) (good : Int → Prop) : Prop := TyD d ∧ (betD d lo hi = false → bad s) ∧ ∀ i : Int, d = .v (.int i) → lo ≤ i → i ≤ hi → good i
theorem ob_ok {s : Str} {lo hi i : Int} {bad : Str → Prop} {good : Int → Prop} (h0 : lo ≤ i) (h1 : i ≤ hi) (h : good i) : OneB s lo hi (.v (.int i)) bad good :=
  ⟨TyD.int, fun e => absurd ((bet_yes h0 h1).symm.trans e) Bool.noConfusion, fun _ e _ _ => by cases e; exact h⟩
theorem deg_inv {d : D} (h : degD d = true) : ∃ n : Int, d = .v (.int n) ∧ n ∈ degs := by
  unfold degD at h
  split at h
  · exact ⟨_, rfl, of_decide_eq_true h⟩
  · cases h
theorem dec_int {a b : Int} : decide (V.int a = V.int b) = decide (a = b) := by
  by_cases z : a = b
  · rw [decide_eq_true z, decide_eq_true (by rw [z])]
  · rw [decide_eq_false z, decide_eq_false (fun y => z (V.int.inj y))]
/-- an odd prime below 4096 -/
def opB (d : D) : Bool := match d with | .v (.int i) => (decide (3 ≤ i) && decide (i ≤ 4095)) && prB i | _ => false
/-- a root -/
def rtB (n q v : Int) : Bool := decide (v ^ (n / 2).toNat % q = q - 1)
theorem pb_ok {b e q : Int} {bad : Str → Prop} {good : Int → Prop} (h0 : 0 ≤ e) (h1 : e ≤ 1000000) (h2 : 2 ≤ q) (h3 : q ≤ 4095) (h : good (b ^ e.toNat % q)) : PowB (.v (.int b)) (.v (.int e)) (.v (.int q)) bad good :=
  ⟨TyD.int, TyD.int, TyD.int, fun e => absurd e Bool.noConfusion, fun _ z => absurd ((bet_yes h0 h1).symm.trans z) Bool.noConfusion, fun _ _ z => absurd ((bet_yes h2 h3).symm.trans z) Bool.noConfusion, fun bi ei qi e1 e2 e3 _ _ _ _ => by
    cases e1
    cases e2
    cases e3
    exact h⟩
theorem deg_le {n : Int} (h : n ∈ degs) : 8 ≤ n ∧ n ≤ 256 := by
  simp only [degs, List.mem_cons, List.not_mem_nil, or_false] at h
  omega
theorem op_eq {v : Int} (h0 : 3 ≤ v) (h1 : v ≤ 4095) : opB (.v (.int v)) = prB v := by
  show ((decide (3 ≤ v) && decide (v ≤ 4095)) && prB v) = prB v
  rw [decide_eq_true h0, decide_eq_true h1]
  rfl
theorem op_no {d : D} (e : betD d 3 4095 = false) : opB d = false := by
  cases d with
  | v x =>
    cases x with
    | int i =>
      have e : (decide (3 ≤ i) && decide (i ≤ 4095)) = false := e
      show ((decide (3 ≤ i) && decide (i ≤ 4095)) && prB i) = false
      rw [e, Bool.false_and]
    | _ => rfl
  | _ => rfl
theorem op_inv {d : D} (h : opB d = true) : ∃ q : Int, d = .v (.int q) ∧ 3 ≤ q ∧ q ≤ 4095 ∧ prB q = true := by
  unfold opB at h
  split at h
  · simp only [Bool.and_eq_true, decide_eq_true_eq] at h
    exact ⟨_, rfl, h.1.1, h.1.2, h.2⟩
  · cases h
section
variable {P : Program} {w : World} {K : PySem.W.Frag} {mg : Str → Option Value} {base : Heap}
def fCheckN (C : Addr) : FD := fun ds μ Q X => ∃ s d t, ds = [.v (.str s), d] ∧ tyD d = some t ∧ (numD d = true → Q (.v .non) μ) ∧ (numD d = false → X ⟨C, [("name", .v (.str s))]⟩ μ)
def fChk (C : Addr) (name : Str) (lo hi : Int) : FD := fun ds μ Q X => ∃ d t, ds = [d] ∧ tyD d = some t ∧ (betD d lo hi = true → Q (.v .non) μ) ∧ (betD d lo hi = false → X ⟨C, [("name", .v (.str name))]⟩ μ)
theorem sc_check_number : FnScope ["name", "value"] ["name", "value"] (defScope (top 23)) := ⟨rfl, rfl, rfl, by decide +kernel, rfl, by decide +kernel, by decide +kernel⟩
theorem ok_check_number (T : Tx K mg) : FnD P w K mg base 3 T.a_check_number T.fd_check_number ["name", "value"] (fCheckN T.a_OutOfRange) := by
  refine fnD _ T.F_check_number sc_check_number (fun cd A outer s H E B => (d_sone (d_sif (d_tnot (d_tval (d_call B (ok_is_number T) (by decide) T.m_is_number T.k_is_number T.b_is_number (d_cons (d_var 1) d_nil)))) (d_sone (d_raise B T.e_OutOfRange (oki_OutOfRange T) (by decide) T.bi_OutOfRange (d_cons (d_var 0) d_nil))) d_snil))) ?_
  rintro ds μ QA XA hl ⟨s, d, t, rfl, ht, h1, h2⟩
  refine And.intro rfl ⟨_, _, rfl, ht, ?_⟩
  walk_at "all"
  · exact h2 (by assumption)
  · exact h1 (by assumption)
theorem sc_check_modulus : FnScope ["q"] ["q"] (defScope (top 28)) := ⟨rfl, rfl, rfl, by decide +kernel, rfl, by decide +kernel, by decide +kernel⟩
theorem ok_check_modulus (T : Tx K mg) : FnD P w K mg base 4 T.a_check_modulus T.fd_check_modulus ["q"] (fChk T.a_OutOfRange "q" 2 4095) := by
  refine fnD _ T.F_check_modulus sc_check_modulus (fun cd A outer s H E B => (d_sone (d_expr (d_call B (ok_check_between T) (by decide) T.m_check_between T.k_check_between T.b_check_between (d_cons d_str (d_cons (d_var 0) (d_cons d_int (d_cons (d_globV (v := .int 4095) T.m_GREATEST_MODULUS ⟨_, rfl⟩) d_nil)))))))) ?_
  rintro ds μ QA XA hl ⟨d, t, rfl, ht, h1, h2⟩
  exact And.intro rfl ⟨_, _, _, _, _, rfl, ht, fun e => h1 e, fun e => h2 e⟩
def fDeg : FD := fun ds μ Q _ => ∃ d, ds = [d] ∧ TyD d ∧ Q (.v (.bl (degD d))) μ
theorem sc_is_degree : FnScope ["value"] ["value"] (defScope (top 29)) := ⟨rfl, rfl, rfl, by decide +kernel, rfl, by decide +kernel, by decide +kernel⟩
theorem ok_is_degree (T : Tx K mg) : FnD P w K mg base 2 T.a_is_degree T.fd_is_degree ["value"] fDeg := by
  refine fnD _ T.F_is_degree sc_is_degree (fun cd A outer s H E B => (d_sone (d_ret (d_and (d_call B (ok_is_number T) (by decide) T.m_is_number T.k_is_number T.b_is_number (d_cons (d_var 0) d_nil)) (d_one (d_cmp o_in (d_var 0) (d_glob (v := .ref _) T.m_DEGREES rfl (fun θ H => den_ktup T.kt_DEGREES _ θ H)))))))) ?_
  rintro ds μ QA XA hl ⟨d, rfl, ⟨t, ht⟩, hQ⟩
  refine And.intro rfl ⟨_, _, rfl, ht, ?_⟩
  cases d with
  | v x =>
    cases x with
    | int i =>
      have e : (decide (i ∈ degs)) = inV (.int i) (degs.map fun z => V.int z) := in_ints.symm
      have hQ : QA (.v (.bl (decide (i ∈ degs)))) μ := hQ
      rw [e] at hQ
      refine And.intro (fun _ => ?_) (fun z => Bool.noConfusion z)
      exact And.intro ⟨rfl, rfl⟩ hQ
    | _ => first | (cases ht; done) | (walk_at "all"; exact hQ)
  | lst es => walk_at "all"; exact hQ
  | tup es => walk_at "all"; exact hQ
  | dic es => walk_at "all"; exact hQ
  | ins _ _ _ => walk_at "all"; exact hQ
  | _ => cases ht
def fChkD (C : Addr) : FD := fun ds μ Q X => ∃ d, ds = [d] ∧ TyD d ∧ (degD d = true → Q (.v .non) μ) ∧ (degD d = false → X ⟨C, [("name", .v (.str "n"))]⟩ μ)
def fPow (C : Addr) : FD := fun ds μ Q X => ∃ b e q, ds = [b, e, q] ∧ PowB b e q (fun s => X ⟨C, [("name", .v (.str s))]⟩ μ) (fun r => Q (.v (.int r)) μ)
theorem sc_power : FnScope ["base", "exponent", "q", "result", "square", "left"] ["base", "exponent", "q"] (defScope (top 30)) := ⟨rfl, rfl, rfl, by decide +kernel, rfl, by decide +kernel, by decide +kernel⟩
theorem ok_power (T : Tx K mg) : FnD P w K mg base 5 T.a_power T.fd_power ["base", "exponent", "q"] (fPow T.a_OutOfRange) := by
  refine fnD _ T.F_power sc_power (fun cd A outer s H E B => (d_scons (d_expr (d_call B (ok_check_number T) (by decide) T.m_check_number T.k_check_number T.b_check_number (d_cons d_str (d_cons (d_var 0) d_nil))))
    (d_scons (d_expr (d_call B (ok_check_between T) (by decide) T.m_check_between T.k_check_between T.b_check_between (d_cons d_str (d_cons (d_var 1) (d_cons d_int (d_cons d_int d_nil))))))
    (d_scons (d_expr (d_call B (ok_check_modulus T) (by decide) T.m_check_modulus T.k_check_modulus T.b_check_modulus (d_cons (d_var 2) d_nil)))
    (d_scons (d_set 3 B.nd d_int)
    (d_scons (d_set 4 B.nd (d_bin o_mod (d_var 0) (d_var 2)))
    (d_scons (d_set 5 B.nd (d_var 1))
    (d_scons (d_while B (d_tcmp o_gt (d_var 5) d_int) (d_scons (d_sif (d_tcmp o_eq (d_bin o_mod (d_var 5) d_int) d_int) (d_sone (d_set 3 B.nd (d_bin o_mod (d_bin o_mul (d_var 3) (d_var 4)) (d_var 2)))) d_snil)
    (d_scons (d_set 4 B.nd (d_bin o_mod (d_bin o_mul (d_var 4) (d_var 4)) (d_var 2)))
    (d_sone (d_set 5 B.nd (d_bin o_div (d_var 5) d_int))))))
    (d_sone (d_ret (d_var 3))))))))))) ?_
  rintro ds μ QA XA hl ⟨b, e, q, rfl, ⟨tb, htb⟩, ⟨te, hte⟩, ⟨tq, htq⟩, h1, h2, h3, h4⟩
  refine And.intro rfl ⟨_, _, _, rfl, htb, fun e1 => ?_, fun e1 => h1 e1⟩
  refine And.intro rfl ⟨_, _, _, _, _, rfl, hte, fun e2 => ?_, fun e2 => h2 e1 e2⟩
  refine And.intro rfl ⟨_, _, rfl, htq, fun e3 => ?_, fun e3 => h3 e1 e2 e3⟩
  obtain ⟨bi, rfl⟩ := num_inv e1
  obtain ⟨ei, rfl, he0, he1⟩ := bet_inv e2
  obtain ⟨qi, rfl, hq0, hq1⟩ := bet_inv e3
  have hg := h4 bi ei qi rfl rfl rfl he0 he1 hq0 hq1
  walk_at "all"
  refine ⟨fun m ρ μ1 => ∃ r s l : Int, μ1 = μ ∧ ρ = [some (.v (.int bi)), some (.v (.int ei)), some (.v (.int qi)), some (.v (.int r)), some (.v (.int s)), some (.v (.int l))] ∧ l.toNat = m ∧ 0 ≤ l ∧ 0 ≤ r ∧ r < qi ∧ 0 ≤ s ∧ s < qi ∧ (r * s ^ l.toNat) % qi = bi ^ ei.toNat % qi, ⟨ei.toNat, 1, bi % qi, ei, rfl, rfl, rfl, he0, by omega, by omega, Int.emod_nonneg _ (by omega), Int.emod_lt_of_pos _ (by omega), ?_⟩, ?_⟩
  · rw [Int.one_mul]
    exact cg_pow mod_mod _
  · rintro m ρ' _ ⟨r, s, l, rfl, rfl, hm, hl0, hr0, hr1, hs0, hs1, hi⟩
    walk_at "all"
    · rename_i hp ho
      refine ⟨(l / 2).toNat, by omega, _, _, _, rfl, rfl, rfl, by omega, Int.emod_nonneg _ (by omega), Int.emod_lt_of_pos _ (by omega), Int.emod_nonneg _ (by omega), Int.emod_lt_of_pos _ (by omega), ?_⟩
      rw [pw_odd, show 2 * (l / 2).toNat + 1 = l.toNat by omega]
      exact hi
    · rename_i hp ho
      refine ⟨(l / 2).toNat, by omega, _, _, _, rfl, rfl, rfl, by omega, hr0, hr1, Int.emod_nonneg _ (by omega), Int.emod_lt_of_pos _ (by omega), ?_⟩
      rw [pw_even, show 2 * (l / 2).toNat = l.toNat by omega]
      exact hi
    · rename_i hp
      have hl : l.toNat = 0 := by omega
      rw [hl, Int.pow_zero, Int.mul_one, Int.emod_eq_of_lt hr0 hr1] at hi
      rw [← hi] at hg
      exact hg
def fLeast (C : Addr) : FD := fun ds μ Q X => ∃ d, ds = [d] ∧ OneB "value" 2 4095 d (fun s => X ⟨C, [("name", .v (.str s))]⟩ μ) (fun v => Q (.v (.int (ld v))) μ)
def fPrim (C : Addr) : FD := fun ds μ Q X => ∃ d, ds = [d] ∧ OneB "value" 0 4095 d (fun s => X ⟨C, [("name", .v (.str s))]⟩ μ) (fun v => Q (.v (.bl (prB v))) μ)
theorem sc_least_divisor : FnScope ["value", "divisor"] ["value"] (defScope (top 31)) := ⟨rfl, rfl, rfl, by decide +kernel, rfl, by decide +kernel, by decide +kernel⟩
theorem ok_least_divisor (T : Tx K mg) : FnD P w K mg base 4 T.a_least_divisor T.fd_least_divisor ["value"] (fLeast T.a_OutOfRange) := by
  refine fnD _ T.F_least_divisor sc_least_divisor (fun cd A outer s H E B => (d_scons (d_expr (d_call B (ok_check_between T) (by decide) T.m_check_between T.k_check_between T.b_check_between (d_cons d_str (d_cons (d_var 0) (d_cons d_int (d_cons (d_globV (v := .int 4095) T.m_GREATEST_MODULUS ⟨_, rfl⟩) d_nil))))))
    (d_scons (d_set 1 B.nd d_int)
    (d_scons (d_while B (d_tcmp o_le (d_bin o_mul (d_var 1) (d_var 1)) (d_var 0)) (d_scons (d_sif (d_tcmp o_eq (d_bin o_mod (d_var 0) (d_var 1)) d_int) (d_sone (d_ret (d_var 1))) d_snil)
    (d_sone (d_set 1 B.nd (d_bin o_addU (d_var 1) d_int)))))
    (d_sone (d_ret (d_var 0))))))) ?_
  rintro ds μ QA XA hl ⟨d, rfl, ⟨t, ht⟩, h1, h2⟩
  refine And.intro rfl ⟨_, _, _, _, _, rfl, ht, fun e => ?_, fun e => h1 e⟩
  obtain ⟨v, rfl, hv0, hv1⟩ := bet_inv e
  have hg := h2 v rfl hv0 hv1
  walk_at "all"
  refine ⟨fun m ρ μ1 => ∃ k : Int, μ1 = μ ∧ 2 ≤ k ∧ (∀ j, 2 ≤ j → j < k → v % j ≠ 0) ∧ k ≤ v ∧ m = (v - k).toNat ∧ ρ = [some (.v (.int v)), some (.v (.int k))], ⟨_, 2, rfl, by omega, fun j h3 h4 => absurd h3 (by omega), hv0, rfl, rfl⟩, ?_⟩
  rintro m ρ' _ ⟨k, rfl, hk, hall, hkv, rfl, rfl⟩
  walk_at "all"
  · rename_i e1 e2
    rw [ld_is ⟨hk, hkv, e2, hall⟩] at hg
    exact hg
  · rename_i e1 e2
    have hne : k ≠ v := fun z => e2 (by rw [z, Int.emod_self])
    refine ⟨_, ?_, k + 1, rfl, by omega, fun j h3 h4 => ?_, by omega, rfl, rfl⟩
    · omega
    · by_cases z : j = k
      · rw [z]; exact e2
      · exact hall j h3 (by omega)
  · rename_i e1
    rw [ld_is (least_self hv0 hk (by omega) hall)] at hg
    exact hg
theorem sc_is_prime : FnScope ["value"] ["value"] (defScope (top 32)) := ⟨rfl, rfl, rfl, by decide +kernel, rfl, by decide +kernel, by decide +kernel⟩
theorem ok_is_prime (T : Tx K mg) : FnD P w K mg base 5 T.a_is_prime T.fd_is_prime ["value"] (fPrim T.a_OutOfRange) := by
  refine fnD _ T.F_is_prime sc_is_prime (fun cd A outer s H E B => (d_scons (d_expr (d_call B (ok_check_between T) (by decide) T.m_check_between T.k_check_between T.b_check_between (d_cons d_str (d_cons (d_var 0) (d_cons d_int (d_cons (d_globV (v := .int 4095) T.m_GREATEST_MODULUS ⟨_, rfl⟩) d_nil))))))
    (d_sone (d_ret (d_and (d_cmp o_gt (d_var 0) d_int) (d_one (d_cmp o_eq (d_call B (ok_least_divisor T) (by decide) T.m_least_divisor T.k_least_divisor T.b_least_divisor (d_cons (d_var 0) d_nil)) (d_var 0)))))))) ?_
  rintro ds μ QA XA hl ⟨d, rfl, ⟨t, ht⟩, h1, h2⟩
  refine And.intro rfl ⟨_, _, _, _, _, rfl, ht, fun e => ?_, fun e => h1 e⟩
  obtain ⟨v, rfl, hv0, hv1⟩ := bet_inv e
  have hg := h2 v rfl hv0 hv1
  dsimp only at hg
  unfold prB at hg
  walk_at "all"
  · rename_i e2
    rw [decide_eq_true e2, Bool.true_and] at hg
    refine ⟨_, rfl, ob_ok (by omega) hv1 ?_⟩
    have e3 : decide (V.int (ld v) = V.int v) = decide (ld v = v) := by
      by_cases z : ld v = v
      · rw [decide_eq_true z, decide_eq_true (by rw [z])]
      · rw [decide_eq_false z, decide_eq_false (fun y => z (V.int.inj y))]
    rw [← e3] at hg
    exact And.intro rfl hg
  · rename_i e2
    rw [decide_eq_false e2, Bool.false_and] at hg
    exact hg
def fOpr : FD := fun ds μ Q _ => ∃ d, ds = [d] ∧ TyD d ∧ Q (.v (.bl (opB d))) μ
theorem sc_is_odd_prime : FnScope ["value"] ["value"] (defScope (top 33)) := ⟨rfl, rfl, rfl, by decide +kernel, rfl, by decide +kernel, by decide +kernel⟩
theorem ok_is_odd_prime (T : Tx K mg) : FnD P w K mg base 6 T.a_is_odd_prime T.fd_is_odd_prime ["value"] fOpr := by
  refine fnD _ T.F_is_odd_prime sc_is_odd_prime (fun cd A outer s H E B => (d_sone (d_ret (d_and (d_call B (ok_is_between T) (by decide) T.m_is_between T.k_is_between T.b_is_between (d_cons (d_var 0) (d_cons d_int (d_cons (d_globV (v := .int 4095) T.m_GREATEST_MODULUS ⟨_, rfl⟩) d_nil)))) (d_one (d_call B (ok_is_prime T) (by decide) T.m_is_prime T.k_is_prime T.b_is_prime (d_cons (d_var 0) d_nil))))))) ?_
  rintro ds μ QA XA hl ⟨d, rfl, ⟨t, ht⟩, hQ⟩
  refine And.intro rfl ⟨_, _, _, _, rfl, ht, ?_⟩
  refine And.intro (fun e => ?_) (fun e => ?_)
  · obtain ⟨v, rfl, hv0, hv1⟩ := bet_inv e
    rw [op_eq hv0 hv1] at hQ
    exact And.intro rfl ⟨_, rfl, ob_ok (by omega) hv1 hQ⟩
  · rw [op_no e] at hQ
    exact hQ
def fRtB : FD := fun ds μ Q _ => ∃ n q v : Int, ds = [.v (.int n), .v (.int q), .v (.int v)] ∧ 8 ≤ n ∧ n ≤ 256 ∧ 2 ≤ q ∧ q ≤ 4095 ∧ Q (.v (.bl (rtB n q v))) μ
theorem sc_is_root : FnScope ["n", "q", "value"] ["n", "q", "value"] (defScope (top 34)) := ⟨rfl, rfl, rfl, by decide +kernel, rfl, by decide +kernel, by decide +kernel⟩
theorem ok_is_root (T : Tx K mg) : FnD P w K mg base 6 T.a_is_root T.fd_is_root ["n", "q", "value"] fRtB := by
  refine fnD _ T.F_is_root sc_is_root (fun cd A outer s H E B => (d_sone (d_ret (d_cmp o_eq (d_call B (ok_power T) (by decide) T.m_power T.k_power T.b_power (d_cons (d_var 2) (d_cons (d_bin o_div (d_var 0) d_int) (d_cons (d_var 1) d_nil)))) (d_bin o_sub (d_var 1) d_int))))) ?_
  rintro ds μ QA XA hl ⟨n, q, v, rfl, hn0, hn1, hq0, hq1, hQ⟩
  walk_at "all"
  refine ⟨_, _, _, rfl, pb_ok (by omega) (by omega) (by omega) (by omega) ?_⟩
  refine And.intro rfl ?_
  unfold rtB at hQ
  rw [← dec_int] at hQ
  exact hQ
end
end
set_option Elab.async false
set_option linter.all false
set_option maxRecDepth 100000
set_option maxHeartbeats 4000000
section
open PySem L2 DK

theorem pick_int {d : D} {es : List D} (h : d ∈ es) (ha : es.all numD = true) : ∃ r : Int, d = .v (.int r) := by
  have := List.all_eq_true.mp ha d h
  unfold numD at this
  split at this
  · exact ⟨_, rfl⟩
  · cases this
theorem pf_bound {n at_ : Int} (hn : n ∈ degs) (h0 : 0 ≤ at_) (h1 : at_ < 4094 / n) : 9 ≤ n * at_ + n + 1 ∧ n * at_ + n + 1 ≤ 4095 ∧ (n * at_ + n + 1 - 1) % n = 0 := by
  obtain ⟨h8, _⟩ := deg_le hn
  have a1 := Int.mul_nonneg (show 0 ≤ n by omega) h0
  have a2 : n * (at_ + 1) ≤ n * (4094 / n) := Int.mul_le_mul_of_nonneg_left (by omega) (by omega)
  have a3 : n * (4094 / n) ≤ 4094 := Int.mul_ediv_self_le (by omega)
  rw [Int.mul_add, Int.mul_one] at a2
  refine ⟨by omega, by omega, ?_⟩
  rw [show n * at_ + n + 1 - 1 = n * (at_ + 1) by rw [Int.mul_add, Int.mul_one]; omega]
  exact Int.mul_emod_right _ _
section
variable {P : Program} {w : World} {K : PySem.W.Frag} {mg : Str → Option Value} {base : Heap}
theorem sc__law_whole : FnScope ["actual"] ["actual"] (defScope (top 51)) := ⟨rfl, rfl, rfl, by decide +kernel, rfl, by decide +kernel, by decide +kernel⟩
theorem ok__law_whole (T : Tx K mg) : FnD P w K mg base 1 T.a__law_whole T.fd__law_whole ["actual"] fNum := by
  refine fnD _ T.F__law_whole sc__law_whole (fun cd A outer s H E B => (d_sone (d_ret (d_and (d_cb (id := "isinstance") c_isi T.n_isinstance (by decide +kernel) (d_cons (d_var 0) (d_cons (d_ty (T := "int") T.n_int (by decide +kernel)) d_nil))) (d_one (d_not (d_cb (id := "isinstance") c_isi T.n_isinstance (by decide +kernel) (d_cons (d_var 0) (d_cons (d_ty (T := "bool") T.n_bool (by decide +kernel)) d_nil))))))))) ?_
  rintro ds μ QA XA hl ⟨d, t, rfl, ht, hQ⟩
  cases d with
  | v x => cases x <;> first | (cases ht; done) | (walk_at "all"; exact hQ)
  | lst es => walk_at "all"; exact hQ
  | tup es => walk_at "all"; exact hQ
  | dic es => walk_at "all"; exact hQ
  | ins _ _ _ => walk_at "all"; exact hQ
  | _ => cases ht
local macro_rules | `(tactic| walk_at "call") => `(tactic| ((with_reducible show fNum _ _ _ _); refine ⟨_, _, rfl, by first | assumption | rfl, ?_⟩))
def fPrm : FD := fun ds μ Q _ => ∃ q : Int, ds = [.v (.int q)] ∧ q ≤ 4095 ∧ Q (.v (.bl (prB q))) μ
theorem sc__law_prime : FnScope ["number", "divisor"] ["number"] (defScope (top 55)) := ⟨rfl, rfl, rfl, by decide +kernel, rfl, by decide +kernel, by decide +kernel⟩
theorem ok__law_prime (T : Tx K mg) : FnD P w K mg base 1 T.a__law_prime T.fd__law_prime ["number"] fPrm := by
  refine fnD _ T.F__law_prime sc__law_prime (fun cd A outer s H E B => (d_scons (d_forR2 1 B T.n_range (d_cons d_int (d_cons d_int d_nil)) (d_scons (d_sif (d_tcmp o_gt (d_bin o_mul (d_var 1) (d_var 1)) (d_var 0)) (d_sone d_break) d_snil)
    (d_sone (d_sif (d_tcmp o_eq (d_bin o_mod (d_ct c_int T.n_int (by decide +kernel) (d_cons (d_var 0) d_nil)) (d_var 1)) d_int) (d_sone (d_ret d_bl)) d_snil))))
    (d_sone (d_ret (d_cmp o_gt (d_var 0) d_int))))) ?_
  rintro ds μ QA XA hl ⟨q, rfl, hq1, hQ⟩
  have fin : ∀ k : Int, 2 ≤ k → q < k * k → (∀ j, 2 ≤ j → j < k → j < q → q % j ≠ 0) → prB q = decide (1 < q) := fun k hk hkk hall => by
    by_cases h : 1 < q
    · rw [decide_eq_true h]
      by_cases h2 : k ≤ q
      · exact prB_yes (least_self (by omega) hk hkk fun j h3 h4 => hall j h3 h4 (by omega))
      · exact prB_yes ⟨by omega, Int.le_refl _, Int.emod_self, fun j h3 h4 => hall j h3 (by omega) h4⟩
    · rw [decide_eq_false h]
      exact prB_small (by omega)
  walk_at "all"
  refine ⟨fun n ρ m => ∃ t, m = μ ∧ (∀ j : Int, 2 ≤ j → j < 2 + n → j < q → q % j ≠ 0) ∧ ρ = [some (.v (.int q)), t], ⟨none, rfl, fun j h1 h2 => absurd h1 (by omega), rfl⟩, ?_, ?_⟩
  · rintro n ρ' _ hn ⟨t, rfl, hall, rfl⟩
    have hlog : ((2 : Int) + (n : Int)).natAbs.log2 < 9000 := log_small (by omega) (by omega)
    walk_at "all"
    · rename_i e
      rw [fin (2 + n) (by omega) (by omega) fun j h3 h4 h5 => hall j h3 h4 h5] at hQ
      exact hQ
    · rename_i e1 e2
      by_cases h : 2 + (n : Int) < q
      · rw [prB_no (by omega) h e2] at hQ
        exact hQ
      · exfalso
        have h4 : 2 * (2 + (n : Int)) ≤ (2 + (n : Int)) * (2 + (n : Int)) := Int.mul_le_mul_of_nonneg_right (by omega) (by omega)
        omega
    · rename_i e1 e2
      refine ⟨_, rfl, fun j h3 h4 h5 => ?_, rfl⟩
      by_cases z : j = 2 + n
      · rw [z]; exact e2
      · exact hall j h3 (by omega) h5
  · rintro ρ' _ ⟨t, rfl, hall, rfl⟩
    rw [fin 64 (by omega) (by omega) fun j h3 h4 h5 => hall j h3 (by omega) h5] at hQ
    exact hQ
local macro_rules | `(tactic| walk_at "call") => `(tactic| ((with_reducible show fPrm _ _ _ _); refine ⟨_, rfl, by omega, ?_⟩))
def fDegree : FD := fun ds μ Q _ => ∃ (c : Cell) (μ' : Sto), ds = [.loc 0] ∧ μ = c :: μ' ∧ StC c ∧ ∀ (n : Int) (c' : Cell), n ∈ degs → StC c' → Q (.v (.int n)) (c' :: μ')
def fBadDeg : FD := fun ds μ Q _ => ∃ (c : Cell) (μ' : Sto), ds = [.loc 0] ∧ μ = c :: μ' ∧ StC c ∧ ∀ (d : D) (c' : Cell), TyD d → degD d = false → StC c' → Q d (c' :: μ')
theorem other_deg {d : D} (h : d ∈ othersD) : TyD d ∧ degD d = false := by
  simp only [othersD, List.mem_cons, List.not_mem_nil, or_false] at h
  rcases h with rfl | rfl | rfl | rfl | rfl | rfl | rfl | rfl | rfl | rfl <;> exact ⟨⟨_, rfl⟩, rfl⟩
/-- a prime of a degree -/
def fPf : FD := fun ds μ Q _ => ∃ (n : Int) (c : Cell) (μ' : Sto), ds = [.loc 0, .v (.int n)] ∧ n ∈ degs ∧ μ = c :: μ' ∧ StC c ∧ ∀ (q : Int) (c' : Cell), 9 ≤ q → q ≤ 4095 → prB q = true → (q - 1) % n = 0 → StC c' → Q (.v (.int q)) (c' :: μ')
theorem pr257 : prB 257 = true := by decide +kernel
theorem deg257 {n : Int} (h : n ∈ degs) : (257 - 1 : Int) % n = 0 := by
  simp only [degs, List.mem_cons, List.not_mem_nil, or_false] at h
  rcases h with rfl | rfl | rfl | rfl | rfl | rfl <;> decide
theorem many_deg {n : Int} (h : n ∈ degs) : 15 ≤ 4094 / n ∧ 4094 / n ≤ 511 := by
  simp only [degs, List.mem_cons, List.not_mem_nil, or_false] at h
  rcases h with rfl | rfl | rfl | rfl | rfl | rfl <;> decide
local macro_rules | `(tactic| walk_at "call") => `(tactic| ((with_reducible show fPick _ _ _ _); refine ⟨_, _, _, _, rfl, Or.inl rfl, by simp, by simp, rfl, ‹StC _›, fun d c' hd hc => ?_⟩; obtain ⟨r, er⟩ := pick_int hd rfl; subst er))
theorem pf_call {n a : Int} {μ : Sto} {Q : QD} {X : QX} (hn : n ∈ degs) (h0 : 0 ≤ a) (h1 : a < 4094 / n) (h : 9 ≤ n * a + n + 1 → n * a + n + 1 ≤ 4095 → (n * a + n + 1 - 1) % n = 0 → Q (.v (.bl (prB (n * a + n + 1)))) μ) : fPrm [.v (.int (n * a + n + 1))] μ Q X := by
  obtain ⟨b1, b2, b3⟩ := pf_bound hn h0 h1
  exact ⟨_, rfl, b2, h b1 b2 b3⟩
local macro_rules | `(tactic| walk_at "call") => `(tactic| ((with_reducible show fPrm _ _ _ _); refine pf_call ‹_ ∈ degs› (by first | omega | exact Int.emod_nonneg _ (by omega)) (by first | omega | exact Int.emod_lt_of_pos _ (by omega)) fun b1 b2 b3 => ?_))
theorem sc__law_prime_for : FnScope ["store", "n", "many", "few", "start", "turn", "at"] ["store", "n"] (defScope (top 60)) := ⟨rfl, rfl, rfl, by decide +kernel, rfl, by decide +kernel, by decide +kernel⟩
theorem ok__law_prime_for (T : Tx K mg) : FnD P w K mg base 4 T.a__law_prime_for T.fd__law_prime_for ["store", "n"] fPf := by
  refine fnD _ T.F__law_prime_for sc__law_prime_for (fun cd A outer s H E B => (d_scons (d_set 2 B.nd (d_bin o_div d_int (d_var 1)))
    (d_scons (d_set 3 B.nd (d_cb (id := "min") (c_min B.calm) T.n_min (by decide +kernel) (d_cons (d_var 2) (d_cons d_int d_nil))))
    (d_scons (d_set 4 B.nd (d_call B (ok__law_pick T) (by decide) T.m__law_pick T.k__law_pick T.b__law_pick (d_cons (d_var 0) (d_cons (d_lst (d_cons d_int (d_cons (d_call B (ok__law_take T) (by decide) T.m__law_take T.k__law_take T.b__law_take (d_cons (d_var 0) (d_cons (d_var 3) d_nil))) (d_cons (d_call B (ok__law_take T) (by decide) T.m__law_take T.k__law_take T.b__law_take (d_cons (d_var 0) (d_cons (d_var 3) d_nil))) (d_cons (d_call B (ok__law_take T) (by decide) T.m__law_take T.k__law_take T.b__law_take (d_cons (d_var 0) (d_cons (d_var 2) d_nil))) d_nil))))) d_nil))))
    (d_scons (d_sif (d_tcmp o_eq (d_call B (ok__law_take T) (by decide) T.m__law_take T.k__law_take T.b__law_take (d_cons (d_var 0) (d_cons d_int d_nil))) d_int) (d_sone (d_set 4 B.nd (d_bin o_sub (d_var 2) d_int))) d_snil)
    (d_scons (d_forR1 5 B T.n_range (d_cons (d_var 2) d_nil) (d_scons (d_set 6 B.nd (d_bin o_mod (d_ct c_int T.n_int (by decide +kernel) (d_cons (d_bin o_addU (d_var 4) (d_var 5)) d_nil)) (d_var 2)))
    (d_scons (d_sif (d_tcmp o_eq (d_var 4) (d_bin o_sub (d_var 2) d_int)) (d_sone (d_set 6 B.nd (d_bin o_sub (d_bin o_sub (d_var 2) d_int) (d_var 5)))) d_snil)
    (d_sone (d_sif (d_tval (d_call B (ok__law_prime T) (by decide) T.m__law_prime T.k__law_prime T.b__law_prime (d_cons (d_bin o_addU (d_bin o_addU (d_bin o_mul (d_var 1) (d_var 6)) (d_var 1)) d_int) d_nil))) (d_sone (d_ret (d_bin o_addU (d_bin o_addU (d_bin o_mul (d_var 1) (d_var 6)) (d_var 1)) d_int))) d_snil)))))
    (d_sone (d_ret d_int)))))))) ?_
  rintro ds μ QA XA hl ⟨n, c, μ', rfl, hn, rfl, hc, hQ⟩
  obtain ⟨h8, h256⟩ := deg_le hn
  obtain ⟨hm0, hm1⟩ := many_deg hn
  walk_at "all"
  all_goals
    rename_i rA cA hA0 hA1 hcA rB cB hB0 hB1 hcB rC cC hC0 hC1 hcC cD hcD st hd rD cE hD0 hD1 hcE e0
    clear hA0 hA1 hcA hB0 hB1 hcB hC0 hC1 hcC hd hD0 hD1 hcD hc
    refine inv_R [6] (fun _ vs m => ∃ a, vs = [a] ∧ ∃ c, m = c :: μ' ∧ StC c) [_] _ rfl ⟨_, rfl, _, rfl, ‹StC _›⟩ ?_ ?_
    · rintro k vs m hk ⟨a, rfl, c5, rfl, hc5⟩
      walk_at "all"
      all_goals first
        | exact absurd trivial ‹¬True›
        | exact hQ _ _ (by assumption) (by assumption) (by assumption) (by assumption) hc5
        | exact ⟨_, [_], rfl, _, rfl, _, rfl, hc5⟩
    · rintro t vs m ⟨a, rfl, c5, rfl, hc5⟩
      walk_at "all"
      exact hQ _ _ (by decide) (by decide) pr257 (deg257 hn) hc5
end
end
set_option Elab.async false
set_option linter.all false
set_option maxRecDepth 100000
set_option maxHeartbeats 4000000
section
open PySem L2 DK

/-! rings: their fault, and how they are made -/
def rtD (d e r : D) : Bool := match d, e, r with | .v (.int n), .v (.int q), .v (.int v) => (decide (1 ≤ v) && decide (v ≤ q - 1)) && rtB n q v | _, _, _ => false
theorem rt_no {n q : Int} {r : D} (h : betD r 1 (q - 1) = false) : rtD (.v (.int n)) (.v (.int q)) r = false := by
  cases r with
  | v x =>
    cases x with
    | int v =>
      have h : (decide (1 ≤ v) && decide (v ≤ q - 1)) = false := h
      show ((decide (1 ≤ v) && decide (v ≤ q - 1)) && rtB n q v) = false
      rw [h, Bool.false_and]
    | _ => rfl
  | _ => rfl
theorem rt_eq {n q v : Int} (h0 : 1 ≤ v) (h1 : v ≤ q - 1) : rtD (.v (.int n)) (.v (.int q)) (.v (.int v)) = rtB n q v := by
  show ((decide (1 ≤ v) && decide (v ≤ q - 1)) && rtB n q v) = _
  rw [decide_eq_true h0, decide_eq_true h1]
  rfl
/-- the first broken demand -/
def rfD (d e r : D) : D := if degD d = false then .v (.str "n") else if opB e = false then .v (.str "q") else if rtD d e r = true then .v .non else .v (.str "root")
abbrev ringN : List Str := ["n", "q", "root", "half", "quarter", "triple"]
def ringV (n q r : Int) : List D := [.v (.int n), .v (.int q), .v (.int r), .v (.int ((q + 1) / 2)), .v (.int ((q - 1) / 4)), .tup [.v (.int n), .v (.int q), .v (.int r)]]
/-- the numbers of a ring -/
def IsR (n q r : Int) : Prop := n ∈ degs ∧ 3 ≤ q ∧ q ≤ 4095 ∧ prB q = true ∧ 1 ≤ r ∧ r ≤ q - 1 ∧ rtB n q r = true
theorem rf_non {d e r : D} (h : rfD d e r = .v .non) : ∃ n q v : Int, d = .v (.int n) ∧ e = .v (.int q) ∧ r = .v (.int v) ∧ IsR n q v := by
  unfold rfD at h
  split at h
  · cases h
  · rename_i h1
    split at h
    · cases h
    · rename_i h2
      split at h
      · rename_i h3
        obtain ⟨n, rfl, hn⟩ := deg_inv (by simpa using h1)
        obtain ⟨q, rfl, hq0, hq1, hp⟩ := op_inv (by simpa using h2)
        unfold rtD at h3
        split at h3
        · rename_i e1 e2
          cases e1
          cases e2
          simp only [Bool.and_eq_true, decide_eq_true_eq] at h3
          exact ⟨_, _, _, rfl, rfl, rfl, hn, hq0, hq1, hp, h3.1.1, h3.1.2, h3.2⟩
        · cases h3
      · cases h
theorem rf_str (d e r : D) : rfD d e r = .v .non ∨ ∃ s : Str, rfD d e r = .v (.str s) := by
  unfold rfD
  split
  · exact .inr ⟨_, rfl⟩
  · split
    · exact .inr ⟨_, rfl⟩
    · split
      · exact .inl rfl
      · exact .inr ⟨_, rfl⟩
theorem rf_ok {n q v : Int} (h : IsR n q v) : rfD (.v (.int n)) (.v (.int q)) (.v (.int v)) = .v .non := by
  obtain ⟨h1, h2, h3, h4, h5, h6, h7⟩ := h
  unfold rfD
  rw [if_neg (by rw [show degD (.v (.int n)) = decide (n ∈ degs) from rfl, decide_eq_true h1]; exact Bool.noConfusion), if_neg (by rw [op_eq h2 h3, h4]; exact Bool.noConfusion), if_pos]
  show ((decide (1 ≤ v) && decide (v ≤ q - 1)) && rtB n q v) = true
  rw [decide_eq_true h5, decide_eq_true h6, h7]
  rfl
section
variable {P : Program} {w : World} {K : PySem.W.Frag} {mg : Str → Option Value} {base : Heap}
def fSize : FD := fun ds μ Q _ => ∃ d e, ds = [d, e] ∧ TyD d ∧ TyD e ∧ Q (if degD d = false then .v (.str "n") else if opB e = false then .v (.str "q") else .v .non) μ
theorem sc_size_fault : FnScope ["n", "q"] ["n", "q"] (defScope (top 37)) := ⟨rfl, rfl, rfl, by decide +kernel, rfl, by decide +kernel, by decide +kernel⟩
theorem ok_size_fault (T : Tx K mg) : FnD P w K mg base 7 T.a_size_fault T.fd_size_fault ["n", "q"] fSize := by
  refine fnD _ T.F_size_fault sc_size_fault (fun cd A outer s H E B => (d_scons (d_sif (d_tnot (d_tval (d_call B (ok_is_degree T) (by decide) T.m_is_degree T.k_is_degree T.b_is_degree (d_cons (d_var 0) d_nil)))) (d_sone (d_ret d_str)) d_snil)
    (d_scons (d_sif (d_tnot (d_tval (d_call B (ok_is_odd_prime T) (by decide) T.m_is_odd_prime T.k_is_odd_prime T.b_is_odd_prime (d_cons (d_var 1) d_nil)))) (d_sone (d_ret d_str)) d_snil)
    (d_sone (d_ret d_non))))) ?_
  rintro ds μ QA XA hl ⟨d, e, rfl, hd, he, hQ⟩
  refine And.intro rfl ⟨_, rfl, hd, ?_⟩
  walk_at "all"
  · rw [if_pos (by assumption)] at hQ
    exact hQ
  · rename_i h1
    rw [if_neg (by rw [h1]; exact Bool.noConfusion)] at hQ
    refine ⟨_, rfl, he, ?_⟩
    walk_at "all"
    · rw [if_pos (by assumption)] at hQ
      exact hQ
    · rename_i h2
      rw [if_neg (by rw [h2]; exact Bool.noConfusion)] at hQ
      exact hQ
def fFault : FD := fun ds μ Q _ => ∃ d e r, ds = [d, e, r] ∧ TyD d ∧ TyD e ∧ TyD r ∧ Q (rfD d e r) μ
theorem sc_ring_fault : FnScope ["n", "q", "root", "fault"] ["n", "q", "root"] (defScope (top 36)) := ⟨rfl, rfl, rfl, by decide +kernel, rfl, by decide +kernel, by decide +kernel⟩
theorem ok_ring_fault (T : Tx K mg) : FnD P w K mg base 8 T.a_ring_fault T.fd_ring_fault ["n", "q", "root"] fFault := by
  refine fnD _ T.F_ring_fault sc_ring_fault (fun cd A outer s H E B => (d_scons (d_set 3 B.nd (d_call B (ok_size_fault T) (by decide) T.m_size_fault T.k_size_fault T.b_size_fault (d_cons (d_var 0) (d_cons (d_var 1) d_nil))))
    (d_scons (d_sif (d_tcmp o_isn (d_var 3) d_non) (d_sone (d_ret (d_var 3))) d_snil)
    (d_scons (d_sif (d_tw (d_wor (d_tnot (d_tval (d_call B (ok_is_between T) (by decide) T.m_is_between T.k_is_between T.b_is_between (d_cons (d_var 2) (d_cons d_int (d_cons (d_bin o_sub (d_var 1) d_int) d_nil)))))) (d_wor1 (d_tnot (d_tval (d_call B (ok_is_root T) (by decide) T.m_is_root T.k_is_root T.b_is_root (d_cons (d_var 0) (d_cons (d_var 1) (d_cons (d_var 2) d_nil))))))))) (d_sone (d_ret d_str)) d_snil)
    (d_sone (d_ret d_non)))))) ?_
  rintro ds μ QA XA hl ⟨d, e, r, rfl, hd, he, ⟨t, hr⟩, hQ⟩
  refine And.intro rfl ⟨_, _, rfl, hd, he, ?_⟩
  unfold rfD at hQ
  by_cases h1 : degD d = false
  · rw [if_pos h1] at hQ ⊢
    walk_at "all"
    exact hQ
  rw [if_neg h1] at hQ ⊢
  by_cases h2 : opB e = false
  · rw [if_pos h2] at hQ ⊢
    walk_at "all"
    exact hQ
  rw [if_neg h2] at hQ ⊢
  obtain ⟨n, rfl, hn⟩ := deg_inv (show degD d = true by simpa using h1)
  obtain ⟨q, rfl, hq0, hq1, hp⟩ := op_inv (show opB e = true by simpa using h2)
  obtain ⟨h8, h256⟩ := deg_le hn
  walk_at "all"
  refine ⟨_, _, _, _, rfl, hr, ?_⟩
  walk_at "all"
  · rw [if_neg (by rw [rt_no ‹betD r 1 (q - 1) = false›]; exact Bool.noConfusion)] at hQ
    exact hQ
  · have e : betD r 1 (q - 1) = true := by assumption
    obtain ⟨v, rfl, hv0, hv1⟩ := bet_inv e
    rw [rt_eq hv0 hv1] at hQ
    refine ⟨_, _, _, rfl, h8, h256, by omega, hq1, ?_⟩
    walk_at "all"
    · rw [if_neg (by rw [‹rtB n q v = false›]; exact Bool.noConfusion)] at hQ
      exact hQ
    · rw [if_pos (by assumption)] at hQ
      exact hQ
def fRInit (C E : Addr) : FD := fun ds μ Q X => ∃ (μ0 : Sto) (d e r : D), ds = [.loc μ0.length, d, e, r] ∧ μ = μ0 ++ [.ins C []] ∧ TyD d ∧ TyD e ∧ TyD r ∧ (∀ s : Str, rfD d e r = .v (.str s) → X ⟨E, [("demand", .v (.str s))]⟩ (μ0 ++ [.ins C []])) ∧
  ∀ n q v : Int, d = .v (.int n) → e = .v (.int q) → r = .v (.int v) → IsR n q v → Q (.v .non) (μ0 ++ [.ins C (ringN.zip (ringV n q v))])
theorem setF_new {μ0 : Sto} {C : Addr} {f : Str} {d : D} {fs : List (Str × D)} {Q : Sto → Prop} (hl : fs.length < 900) (h : Q (μ0 ++ [.ins C (putD f d fs)])) : setFl C f (.loc μ0.length) d (μ0 ++ [.ins C fs]) Q := by
  have e : (μ0 ++ [Cell.ins C fs])[μ0.length]? = some (.ins C fs) := by rw [List.getElem?_append_right (Nat.le_refl _), Nat.sub_self]; rfl
  unfold setFl
  simp only [e, true_and]
  refine ⟨hl, ?_⟩
  rw [List.set_append_right _ _ (Nat.le_refl _), Nat.sub_self]
  exact h
local macro_rules | `(tactic| walk_at "call") => `(tactic| ((with_reducible show setFl _ _ _ _ _ _); refine setF_new (Nat.le_of_ble_eq_true rfl) ?_))
theorem sc_Ring___init__ : FnScope ["self", "n", "q", "root", "fault"] ["self", "n", "q", "root"] (defScope (meth (top 38) 0)) := ⟨rfl, rfl, rfl, by decide +kernel, rfl, by decide +kernel, by decide +kernel⟩
theorem ok_Ring___init__ (T : Tx K mg) : FnD P w K mg base 9 T.a_Ring___init__ T.fd_Ring___init__ ["self", "n", "q", "root"] (fRInit T.a_Ring T.a_BadRing) := by
  refine fnD _ T.F_Ring___init__ sc_Ring___init__ (fun cd A outer s H E B => (d_scons (d_set 4 B.nd (d_call B (ok_ring_fault T) (by decide) T.m_ring_fault T.k_ring_fault T.b_ring_fault (d_cons (d_var 1) (d_cons (d_var 2) (d_cons (d_var 3) d_nil)))))
    (d_scons (d_sif (d_tcmp o_isn (d_var 4) d_non) (d_sone (d_raise B T.e_BadRing (oki_BadRing T) (by decide) T.bi_BadRing (d_cons (d_var 4) d_nil))) d_snil)
    (d_scons (d_setF T.ck_Ring T.no_Ring_n (d_var 1) (d_var 0))
    (d_scons (d_setF T.ck_Ring T.no_Ring_q (d_var 2) (d_var 0))
    (d_scons (d_setF T.ck_Ring T.no_Ring_root (d_var 3) (d_var 0))
    (d_scons (d_setF T.ck_Ring T.no_Ring_half (d_bin o_div (d_bin o_addU (d_var 2) d_int) d_int) (d_var 0))
    (d_scons (d_setF T.ck_Ring T.no_Ring_quarter (d_bin o_div (d_bin o_sub (d_var 2) d_int) d_int) (d_var 0))
    (d_sone (d_setF T.ck_Ring T.no_Ring_triple (d_tup (d_cons (d_var 1) (d_cons (d_var 2) (d_cons (d_var 3) d_nil)))) (d_var 0))))))))))) ?_
  rintro ds μ QA XA hl ⟨μ0, d, e, r, rfl, rfl, hd, he, hr, h1, h2⟩
  refine And.intro rfl ⟨_, _, _, rfl, hd, he, hr, ?_⟩
  rcases rf_str d e r with hf | ⟨s, hf⟩
  · obtain ⟨n, q, v, rfl, rfl, rfl, h⟩ := rf_non hf
    rw [hf]
    have hQ := h2 n q v rfl rfl rfl h
    walk_at "all"
    exact hQ
  · rw [hf]
    have hX := h1 s hf
    walk_at "all"
    exact hX
/-- a ring -/
abbrev ringD (C : Addr) (n q v : Int) : D := .ins C ringN (ringV n q v)
theorem new_ring {C E : Addr} {μ : Sto} {Q : QD} {X : QX} {d e r : D} (hd : TyD d) (he : TyD e) (hr : TyD r) (hx : ∀ s : Str, rfD d e r = .v (.str s) → X ⟨E, [("demand", .v (.str s))]⟩ μ)
    (hq : ∀ n q v : Int, d = .v (.int n) → e = .v (.int q) → r = .v (.int v) → IsR n q v → Q (ringD C n q v) μ) : fNew (fRInit C E) C id [d, e, r] μ (wQ μ Q) (wX μ X) :=
  ⟨μ, d, e, r, rfl, rfl, hd, he, hr, fun s hs => w_x .refl ⟨rfl, rfl⟩ (hx s hs), fun n q v e1 e2 e3 h => ⟨rfl, w_newI (ex := []) .refl rfl rfl (hq n q v e1 e2 e3 h)⟩⟩
theorem new_ringOk {C E : Addr} {μ : Sto} {Q : QD} {X : QX} {n q v : Int} (h : IsR n q v) (hq : Q (ringD C n q v) μ) : fNew (fRInit C E) C id [.v (.int n), .v (.int q), .v (.int v)] μ (wQ μ Q) (wX μ X) :=
  new_ring TyD.int TyD.int TyD.int (fun s hs => by rw [rf_ok h] at hs; cases hs) (fun n' q' v' e1 e2 e3 _ => by cases e1; cases e2; cases e3; exact hq)
end
end
set_option Elab.async false
set_option linter.all false
set_option maxRecDepth 100000
set_option maxHeartbeats 4000000
section
open PySem L2 DK

/-! powers by squares; a number that is no square for each prime; roots -/
theorem band_1 {a : Int} : Builtin.bitAnd a 1 = a % 2 := PyProof.Rows.bitAnd_m1 a
def pwN : Nat → Nat → Nat → Nat → Nat
  | 0, _, _, q => 1 % q
  | f + 1, b, e, q => bif Nat.beq e 0 then 1 % q else bif Nat.beq (e % 2) 1 then b * pwN f (b * b % q) (e / 2) q % q else pwN f (b * b % q) (e / 2) q
theorem pwN_eq (q : Nat) : ∀ (f b e : Nat), e < 2 ^ f → pwN f b e q = b ^ e % q
  | 0, b, e, h => by
    have : e = 0 := by rw [Nat.pow_zero] at h; omega
    subst this
    show 1 % q = _
    rw [Nat.pow_zero]
  | f + 1, b, e, h => by
    have ih := pwN_eq q f (b * b % q) (e / 2) (by rw [Nat.pow_succ] at h; omega)
    rw [← Nat.pow_mod, show (b * b) ^ (e / 2) = b ^ (2 * (e / 2)) by rw [← Nat.pow_two, ← Nat.pow_mul]] at ih
    unfold pwN
    by_cases h0 : e = 0
    · subst h0
      show 1 % q = _
      rw [Nat.pow_zero]
    · rw [show Nat.beq e 0 = false from Bool.eq_false_iff.mpr fun z => h0 (Nat.beq_eq.mp z), cond_false, ih]
      by_cases h1 : e % 2 = 1
      · rw [show Nat.beq (e % 2) 1 = true from Nat.beq_eq.mpr h1, cond_true, Nat.mul_mod_mod, ← Nat.pow_succ', show (2 * (e / 2)).succ = e by omega]
      · rw [show Nat.beq (e % 2) 1 = false from Bool.eq_false_iff.mpr fun z => h1 (Nat.beq_eq.mp z), cond_false, show 2 * (e / 2) = e by omega]
def compQ (q : Nat) : Nat → Bool
  | 0 => false
  | d + 1 => (Nat.blt 1 (d+1) && Nat.blt (d+1) q && Nat.beq (q % (d+1)) 0) || compQ q d
def alN (f : Nat → Bool) : Nat → Bool
  | 0 => true
  | k + 1 => f k && alN f k
def anN (f : Nat → Bool) : Nat → Bool
  | 0 => false
  | k + 1 => f k || anN f k
def nsq (k : Nat) : Bool := let q := 8 * k + 9; compQ q 63 || anN (fun b => Nat.blt (b + 2) q && Nat.beq (pwN 12 (b + 2) ((q - 1) / 2) q) (q - 1)) 40
theorem nsq_all : alN nsq 511 = true := by decide +kernel
theorem alN_get {f : Nat → Bool} : ∀ {m : Nat}, alN f m = true → ∀ k, k < m → f k = true
  | 0, _, k, h => absurd h (Nat.not_lt_zero k)
  | m + 1, e, k, h => by
    obtain ⟨e1, e2⟩ := Bool.and_eq_true_iff.mp (show (f m && alN f m) = true from e)
    by_cases z : k = m
    · rw [z]; exact e1
    · exact alN_get e2 k (by omega)
theorem anN_get {f : Nat → Bool} : ∀ {m : Nat}, anN f m = true → ∃ k, k < m ∧ f k = true
  | 0, h => by cases h
  | m + 1, h => by
    rcases Bool.or_eq_true_iff.mp (show (f m || anN f m) = true from h) with h | h
    · exact ⟨m, Nat.lt_succ_self m, h⟩
    · obtain ⟨k, h1, h2⟩ := anN_get h
      exact ⟨k, by omega, h2⟩
theorem compQ_no {q : Nat} : ∀ {d : Nat}, compQ q d = true → prB q = false
  | 0, h => by cases h
  | d + 1, h => by
    have h : ((Nat.blt 1 (d+1) && Nat.blt (d+1) q && Nat.beq (q % (d+1)) 0) || compQ q d) = true := h
    rcases Bool.or_eq_true_iff.mp h with h | h
    · simp only [Bool.and_eq_true, Nat.blt_eq, Nat.beq_eq] at h
      obtain ⟨⟨h1, h2⟩, h3⟩ := h
      refine prB_no (j := ((d + 1 : Nat) : Int)) (by omega) (by omega) ?_
      rw [← Int.natCast_emod, h3]
      rfl
    · exact compQ_no h
/-- a number that is no square modulo q -/
theorem no_square {n q : Int} (hn : n ∈ degs) (hq0 : 9 ≤ q) (hq : q ≤ 4095) (hp : prB q = true) (hd : (q - 1) % n = 0) : ∃ b : Int, 2 ≤ b ∧ b < q ∧ b ^ ((q - 1) / 2).toNat % q = q - 1 := by
  have h8 : (q - 1) % 8 = 0 := by
    simp only [degs, List.mem_cons, List.not_mem_nil, or_false] at hn
    rcases hn with rfl | rfl | rfl | rfl | rfl | rfl <;> omega
  obtain ⟨k, rfl⟩ : ∃ k : Nat, q = ((8 * k + 9 : Nat) : Int) := ⟨((q - 9) / 8).toNat, by omega⟩
  have e := alN_get nsq_all k (by omega)
  rcases Bool.or_eq_true_iff.mp e with e | e
  · rw [compQ_no e] at hp
    cases hp
  · obtain ⟨b, hb, e⟩ := anN_get e
    simp only [Bool.and_eq_true, Nat.blt_eq, Nat.beq_eq] at e
    obtain ⟨e1, e2⟩ := e
    rw [pwN_eq _ _ _ _ (by omega)] at e2
    refine ⟨((b + 2 : Nat) : Int), by omega, by omega, ?_⟩
    rw [← Int.natCast_pow, ← Int.natCast_emod, show (((8 * k + 9 : Nat) : Int) - 1) / 2 = (((8 * k + 9 - 1) / 2 : Nat) : Int) by omega, Int.toNat_natCast, e2]
    omega
theorem m1_odd {q : Int} (hq : 2 ≤ q) (s : Nat) : (q - 1) ^ (2 * s + 1) % q = q - 1 := by
  have h1 : (q - 1) * (q - 1) % q = 1 % q := by
    rw [Int.sub_mul, Int.one_mul, show q * (q - 1) - (q - 1) = q * (q - 2) + 1 by rw [Int.mul_sub, Int.mul_sub]; omega, Int.add_comm, Int.add_mul_emod_self_left]
  have h2 : ((q - 1) * (q - 1)) ^ s % q = 1 % q := by
    rw [cg_pow h1 s, Int.one_pow]
  rw [Int.pow_succ, ← sq_pow, cg_mul h2 (rfl : (q - 1) % q = (q - 1) % q), Int.one_mul, Int.emod_eq_of_lt (by omega) (by omega)]
/-- an odd power of a root -/
theorem rt_odd {n q x : Int} (hq : 2 ≤ q) (h : rtB n q x = true) (s : Nat) : rtB n q (x ^ (2 * s + 1) % q) = true := by
  unfold rtB at h ⊢
  have h := of_decide_eq_true h
  refine decide_eq_true ?_
  rw [cg_pow mod_mod, ← Int.pow_mul, Nat.mul_comm, Int.pow_mul, cg_pow (show x ^ (n / 2).toNat % q = (q - 1) % q by rw [h, Int.emod_eq_of_lt (by omega) (by omega)])]
  exact m1_odd hq s
theorem rt_pos {n q x : Int} (hn : n ∈ degs) (hq : 3 ≤ q) (h : rtB n q (x % q) = true) : 1 ≤ x % q ∧ x % q ≤ q - 1 := by
  have a := Int.emod_nonneg x (show q ≠ 0 by omega)
  have b := Int.emod_lt_of_pos x (show 0 < q by omega)
  refine ⟨?_, by omega⟩
  rcases Int.lt_or_le 0 (x % q) with z | z
  · omega
  · exfalso
    have z : x % q = 0 := by omega
    unfold rtB at h
    have h := of_decide_eq_true h
    obtain ⟨h8, _⟩ := deg_le hn
    rw [z, Int.zero_pow (by omega), Int.zero_emod] at h
    omega
theorem isr_of {n q x : Int} (hn : n ∈ degs) (hq0 : 3 ≤ q) (hq : q ≤ 4095) (hp : prB q = true) (h : rtB n q (x % q) = true) : IsR n q (x % q) := by
  obtain ⟨a, b⟩ := rt_pos hn hq0 h
  exact ⟨hn, hq0, hq, hp, a, b, h⟩
theorem half_exp {n q : Int} (hn : n ∈ degs) (hq0 : 9 ≤ q) (hd : (q - 1) % n = 0) : ((q - 1) / n).toNat * (n / 2).toNat = ((q - 1) / 2).toNat ∧ 1 ≤ (q - 1) / n ∧ (q - 1) / n ≤ q - 1 := by
  have e := Int.mul_ediv_add_emod (q - 1) n
  rw [hd, Int.add_zero] at e
  obtain ⟨h8, h256⟩ := deg_le hn
  have h1 : 0 ≤ (q - 1) / n := Int.ediv_nonneg (by omega) (by omega)
  have h0 : (q - 1) / n ≠ 0 := fun z => by
    rw [z, Int.mul_zero] at e
    omega
  refine ⟨?_, by omega, Int.ediv_le_self _ (by omega)⟩
  obtain ⟨k, hk⟩ : ∃ k : Nat, (q - 1) / n = k := ⟨((q - 1) / n).toNat, by omega⟩
  rw [hk] at e ⊢
  rw [← e, Int.toNat_natCast]
  have h2 : n = 2 * (n / 2) := by
    simp only [degs, List.mem_cons, List.not_mem_nil, or_false] at hn
    rcases hn with rfl | rfl | rfl | rfl | rfl | rfl <;> decide
  generalize n / 2 = h at *
  subst h2
  rw [Int.mul_assoc, Int.mul_ediv_cancel_left _ (by decide)]
  obtain ⟨m, rfl⟩ : ∃ m : Nat, h = m := ⟨h.toNat, by omega⟩
  rw [Int.toNat_natCast, ← Int.natCast_mul, Int.toNat_natCast, Nat.mul_comm]
section
variable {P : Program} {w : World} {K : PySem.W.Frag} {mg : Str → Option Value} {base : Heap}
def fPw : FD := fun ds μ Q _ => ∃ b e q : Int, ds = [.v (.int b), .v (.int e), .v (.int q)] ∧ 0 ≤ e ∧ e ≤ 1000000 ∧ 2 ≤ q ∧ q ≤ 4095 ∧ Q (.v (.int (b ^ e.toNat % q))) μ
theorem sc__law_power : FnScope ["base", "exponent", "q", "found", "factor", "turn"] ["base", "exponent", "q"] (defScope (top 56)) := ⟨rfl, rfl, rfl, by decide +kernel, rfl, by decide +kernel, by decide +kernel⟩
theorem ok__law_power (T : Tx K mg) : FnD P w K mg base 1 T.a__law_power T.fd__law_power ["base", "exponent", "q"] fPw := by
  refine fnD _ T.F__law_power sc__law_power (fun cd A outer s H E B => (d_scons (d_set 3 B.nd (d_bin o_mod (d_ct c_int T.n_int (by decide +kernel) (d_cons d_int d_nil)) (d_var 2)))
    (d_scons (d_set 4 B.nd (d_bin o_mod (d_ct c_int T.n_int (by decide +kernel) (d_cons (d_var 0) d_nil)) (d_var 2)))
    (d_scons (d_forR1 5 B T.n_range (d_cons d_int d_nil) (d_scons (d_sif (d_tcmp o_eq (d_bin o_shr (d_var 1) (d_var 5)) d_int) (d_sone d_break) d_snil)
    (d_scons (d_sif (d_tcmp o_eq (d_bin o_and (d_bin o_shr (d_var 1) (d_var 5)) d_int) d_int) (d_sone (d_set 3 B.nd (d_bin o_mod (d_ct c_int T.n_int (by decide +kernel) (d_cons (d_bin o_mul (d_var 3) (d_var 4)) d_nil)) (d_var 2)))) d_snil)
    (d_sone (d_set 4 B.nd (d_bin o_mod (d_ct c_int T.n_int (by decide +kernel) (d_cons (d_bin o_mul (d_var 4) (d_var 4)) d_nil)) (d_var 2)))))))
    (d_sone (d_ret (d_var 3))))))) ?_
  rintro ds μ QA XA hl ⟨b, e, q, rfl, he0, he1, hq0, hq1, hQ⟩
  obtain ⟨E, rfl⟩ : ∃ E : Nat, e = E := ⟨e.toNat, by omega⟩
  rw [Int.toNat_natCast] at hQ
  walk_at "all"
  refine inv_R [3, 4] (fun k vs m => m = μ ∧ ∃ f g : Int, vs = [some (.v (.int f)), some (.v (.int g))] ∧ f = b ^ (E % 2 ^ k) % q ∧ g = b ^ 2 ^ k % q) [_, _] _ rfl ⟨rfl, _, _, rfl, ?_, ?_⟩ ?_ ?_
  · rw [Nat.pow_zero, Nat.mod_one, Int.pow_zero]
  · rw [Nat.pow_zero, Int.pow_succ, Int.pow_zero, Int.one_mul]
  · rintro k vs m hk ⟨rfl, f, g, rfl, hf, hg⟩
    have f0 : 0 ≤ f := by rw [hf]; exact Int.emod_nonneg _ (by omega)
    have f1 : f < q := by rw [hf]; exact Int.emod_lt_of_pos _ (by omega)
    have g0 : 0 ≤ g := by rw [hg]; exact Int.emod_nonneg _ (by omega)
    have g1 : g < q := by rw [hg]; exact Int.emod_lt_of_pos _ (by omega)
    have hsh : ((E : Nat) : Int) / 2 ^ (0 + (k : Int)).toNat = ((E / 2 ^ k : Nat) : Int) := by
      rw [Int.zero_add, Int.toNat_natCast, Int.natCast_ediv, Int.natCast_pow]
      rfl
    have hb : Builtin.bitAnd (((E : Nat) : Int) / 2 ^ (0 + (k : Int)).toNat) 1 = ((E / 2 ^ k % 2 : Nat) : Int) := by
      rw [band_1, hsh, Int.natCast_emod]
      rfl
    have hs := Nat.mod_pow_succ (b := 2) (x := E) (k := k)
    have hg2 : g * g % q = b ^ 2 ^ (k + 1) % q := by
      rw [hg, cg_mul mod_mod mod_mod, ← Int.pow_add, ← Nat.two_mul, Nat.pow_succ, Nat.mul_comm]
    walk_at "all"
    · rename_i e0
      rw [hsh] at e0
      have e0 : E / 2 ^ k = 0 := by omega
      have : E % 2 ^ k = E := by
        have := Nat.div_add_mod E (2 ^ k)
        rw [e0, Nat.mul_zero] at this
        omega
      rw [hf, this]
      exact hQ
    · rename_i e1
      rw [hb] at e1
      refine ⟨_, [_, _], rfl, rfl, _, _, rfl, ?_, hg2⟩
      rw [hs, show E / 2 ^ k % 2 = 1 by omega, Nat.mul_one, Int.pow_add, hf, hg]
      exact cg_mul mod_mod mod_mod
    · rename_i e1
      rw [hb] at e1
      refine ⟨_, [_, _], rfl, rfl, f, _, rfl, ?_, hg2⟩
      rw [hs, show E / 2 ^ k % 2 = 0 by omega, Nat.mul_zero, Nat.add_zero]
      exact hf
  · rintro t vs m ⟨rfl, f, g, rfl, hf, hg⟩
    walk_at "all"
    have : E % 2 ^ 65 = E := Nat.mod_eq_of_lt (by omega)
    rw [show ((65 : Int) - 0).toNat = 65 by rfl, this] at hf
    rw [hf]
    exact hQ
end
end
set_option Elab.async false
set_option linter.all false
set_option maxRecDepth 100000
set_option maxHeartbeats 4000000
section
open PySem L2 DK

local macro_rules | `(tactic| walk_at "call") => `(tactic| ((with_reducible show fPw _ _ _ _); refine ⟨_, _, _, rfl, by omega, by omega, by omega, by omega, ?_⟩))
theorem rt_base {n q b : Int} (hn : n ∈ degs) (hq0 : 9 ≤ q) (hd : (q - 1) % n = 0) : (b ^ ((q - 1) / n).toNat % q) ^ (n / 2).toNat % q = b ^ ((q - 1) / 2).toNat % q := by
  rw [cg_pow mod_mod, ← Int.pow_mul, (half_exp hn hq0 hd).1]
theorem isr_in {n q x : Int} (hn : n ∈ degs) (hq0 : 3 ≤ q) (hq : q ≤ 4095) (hp : prB q = true) (h0 : 0 ≤ x) (h1 : x < q) (h : rtB n q x = true) : IsR n q x := by
  have e := Int.emod_eq_of_lt h0 h1
  have := isr_of (x := x) hn hq0 hq hp (by rw [e]; exact h)
  rw [e] at this
  exact this
section
variable {P : Program} {w : World} {K : PySem.W.Frag} {mg : Str → Option Value} {base : Heap}
/-- a root drawn -/
def fRoot : FD := fun ds μ Q _ => ∃ (n q : Int) (c : Cell) (μ' : Sto), ds = [.loc 0, .v (.int n), .v (.int q)] ∧ n ∈ degs ∧ 9 ≤ q ∧ q ≤ 4095 ∧ prB q = true ∧ (q - 1) % n = 0 ∧ μ = c :: μ' ∧ StC c ∧ ∀ (r : Int) (c' : Cell), IsR n q r → StC c' → Q (.v (.int r)) (c' :: μ')
theorem sc__law_root : FnScope ["store", "n", "q", "found", "base", "odd", "square", "least", "turn"] ["store", "n", "q"] (defScope (top 57)) := ⟨rfl, rfl, rfl, by decide +kernel, rfl, by decide +kernel, by decide +kernel⟩
theorem ok__law_root (T : Tx K mg) : FnD P w K mg base 4 T.a__law_root T.fd__law_root ["store", "n", "q"] fRoot := by
  refine fnD _ T.F__law_root sc__law_root (fun cd A outer s H E B => (d_scons (d_set 3 B.nd d_int)
    (d_scons (d_forR2 4 B T.n_range (d_cons d_int (d_cons (d_var 2) d_nil)) (d_scons (d_set 3 B.nd (d_call B (ok__law_power T) (by decide) T.m__law_power T.k__law_power T.b__law_power (d_cons (d_var 4) (d_cons (d_bin o_div (d_bin o_sub (d_var 2) d_int) (d_var 1)) (d_cons (d_var 2) d_nil)))))
    (d_sone (d_sif (d_tcmp o_eq (d_call B (ok__law_power T) (by decide) T.m__law_power T.k__law_power T.b__law_power (d_cons (d_var 3) (d_cons (d_bin o_div (d_var 1) d_int) (d_cons (d_var 2) d_nil)))) (d_bin o_sub (d_var 2) d_int)) (d_sone d_break) d_snil))))
    (d_scons (d_set 5 B.nd (d_call B (ok__law_power T) (by decide) T.m__law_power T.k__law_power T.b__law_power (d_cons (d_var 3) (d_cons (d_bin o_addU (d_bin o_mul d_int (d_call B (ok__law_take T) (by decide) T.m__law_take T.k__law_take T.b__law_take (d_cons (d_var 0) (d_cons (d_bin o_div (d_var 1) d_int) d_nil)))) d_int) (d_cons (d_var 2) d_nil)))))
    (d_scons (d_sif (d_tcmp o_gt (d_call B (ok__law_take T) (by decide) T.m__law_take T.k__law_take T.b__law_take (d_cons (d_var 0) (d_cons d_int d_nil))) d_int) (d_sone (d_ret (d_var 5))) d_snil)
    (d_scons (d_set 6 B.nd (d_bin o_mod (d_ct c_int T.n_int (by decide +kernel) (d_cons (d_bin o_mul (d_var 3) (d_var 3)) d_nil)) (d_var 2)))
    (d_scons (d_set 7 B.nd (d_var 3))
    (d_scons (d_forR1 8 B T.n_range (d_cons (d_bin o_div (d_var 1) d_int) d_nil) (d_scons (d_set 3 B.nd (d_bin o_mod (d_ct c_int T.n_int (by decide +kernel) (d_cons (d_bin o_mul (d_var 3) (d_var 6)) d_nil)) (d_var 2)))
    (d_sone (d_set 7 B.nd (d_cb (id := "min") (c_min B.calm) T.n_min (by decide +kernel) (d_cons (d_var 7) (d_cons (d_var 3) d_nil)))))))
    (d_sone (d_ret (d_var 7))))))))))) ?_
  rintro ds μ QA XA hl ⟨n, q, c, μ', rfl, hn, hq0, hq1, hp, hd, rfl, hc, hQ⟩
  obtain ⟨h8, h256⟩ := deg_le hn
  obtain ⟨_, he0, he1⟩ := half_exp hn hq0 hd
  walk_at "all"
  refine inv_R [3] (fun k vs m => m = c :: μ' ∧ (∃ v, vs = [v]) ∧ ∀ j : Nat, j < k → (2 + (j : Int)) ^ ((q - 1) / 2).toNat % q ≠ q - 1) [_] _ rfl ⟨rfl, ⟨_, rfl⟩, fun j h => absurd h (Nat.not_lt_zero j)⟩ ?_ ?_
  · rintro k vs m hk ⟨rfl, ⟨v, rfl⟩, hall⟩
    have x0 : 0 ≤ (2 + (k : Int)) ^ ((q - 1) / n).toNat % q := Int.emod_nonneg _ (by omega)
    have x1 : (2 + (k : Int)) ^ ((q - 1) / n).toNat % q < q := Int.emod_lt_of_pos _ (by omega)
    have hb := rt_base (b := 2 + (k : Int)) hn hq0 hd
    walk_at "all"
    · rename_i e r1 c1 h10 h11 hc1 r2 c2 h20 h21 hc2 e2
      generalize (2 + (k : Int)) ^ ((q - 1) / n).toNat % q = x at *
      have hx : rtB n q x = true := decide_eq_true e
      obtain ⟨s, rfl⟩ : ∃ s : Nat, r1 = s := ⟨r1.toNat, by omega⟩
      refine hQ _ _ (isr_of hn (by omega) hq1 hp ?_) hc2
      rw [show ((2 : Int) * (s : Int) + 1).toNat = 2 * s + 1 by omega]
      exact rt_odd (by omega) hx s
    · rename_i e r1 c1 h10 h11 hc1 r2 c2 h20 h21 hc2 e2
      generalize (2 + (k : Int)) ^ ((q - 1) / n).toNat % q = x at *
      have hx : rtB n q x = true := decide_eq_true e
      have y0 := Int.emod_nonneg (x * x) (show q ≠ 0 by omega)
      have y1 := Int.emod_lt_of_pos (x * x) (show 0 < q by omega)
      clear hall hb e2 h20 h21 h10 h11 hc1 hc
      walk_at "all"
      refine inv_R [3, 7] (fun k vs m => m = c2 :: μ' ∧ ∃ f l : Int, vs = [some (.v (.int f)), some (.v (.int l))] ∧ f = x ^ (2 * k + 1) % q ∧ rtB n q l = true ∧ 0 ≤ l ∧ l < q) [_, _] _ rfl ⟨rfl, _, _, rfl, ?_, hx, x0, x1⟩ ?_ ?_
      · rw [Nat.mul_zero, Nat.zero_add, Int.pow_succ, Int.pow_zero, Int.one_mul, Int.emod_eq_of_lt x0 x1]
      · rintro k2 vs m hk2 ⟨rfl, f, l, rfl, hf, hl, l0, l1⟩
        have f0 : 0 ≤ f := by rw [hf]; exact Int.emod_nonneg _ (by omega)
        have f1 : f < q := by rw [hf]; exact Int.emod_lt_of_pos _ (by omega)
        have hf2 : f * (x * x % q) % q = x ^ (2 * (k2 + 1) + 1) % q := by
          rw [hf, cg_mul mod_mod mod_mod, show 2 * (k2 + 1) + 1 = 2 * k2 + 1 + 1 + 1 by omega, Int.pow_succ x (2 * k2 + 1 + 1), Int.pow_succ x (2 * k2 + 1), Int.mul_assoc]
        have hr2 : rtB n q (f * (x * x % q) % q) = true := by
          rw [hf2]
          exact rt_odd (by omega) hx _
        have z0 := Int.emod_nonneg (f * (x * x % q)) (show q ≠ 0 by omega)
        have z1 := Int.emod_lt_of_pos (f * (x * x % q)) (show 0 < q by omega)
        walk_at "all"
        refine ⟨_, [_, _], rfl, rfl, _, _, rfl, hf2, ?_, ?_, ?_⟩
        · split <;> assumption
        · split <;> assumption
        · split <;> assumption
      · rintro t vs m ⟨rfl, f, l, rfl, hf, hl, l0, l1⟩
        walk_at "all"
        exact hQ _ _ (isr_in hn (by omega) hq1 hp l0 l1 hl) hc2
    · rename_i e
      rw [hb] at e
      refine ⟨_, [_], rfl, rfl, ⟨_, rfl⟩, fun j hj => ?_⟩
      by_cases z : j = k
      · rw [z]; exact e
      · exact hall j (by omega)
  · rintro t vs m ⟨rfl, ⟨v, rfl⟩, hall⟩
    obtain ⟨b, hb0, hb1, hb⟩ := no_square hn hq0 hq1 hp hd
    have := hall (b - 2).toNat (by omega)
    rw [show 2 + (((b - 2).toNat : Nat) : Int) = b by omega] at this
    exact absurd hb this
end
end
set_option Elab.async false
set_option linter.all false
set_option maxRecDepth 100000
set_option maxHeartbeats 4000000
section
open PySem L2 DK
/-! a value is the same as itself -/
theorem same_self : ∀ (n : Nat) (d : D), plD n d = true → sameD n d d = true
  | 0, _, h => Bool.noConfusion h
  | n + 1, d, h => by
    have all : ∀ ds : List D, ds.all (plD n) = true → (ds.zip ds).all (fun p => sameD n p.1 p.2) = true := fun ds hd => zip_all rfl fun j x y hx hy => by
      cases hx.symm.trans hy
      exact same_self n x (List.all_eq_true.mp hd x (List.mem_of_getElem? hx))
    cases d with
    | v x => cases x <;> first | (cases h; done) | (simp [sameD]; done) | (simp [sameD, isV]; done) | rfl
    | lst es =>
      have h2 := (Bool.and_eq_true_iff.mp (show (decide (es.length ≤ 30000) && es.all (plD n)) = true from h)).2
      show (decide (es.length = es.length) && (es.zip es).all fun p => sameD n p.1 p.2) = true
      rw [all es h2, decide_eq_true rfl]
      rfl
    | tup es =>
      have h2 := (Bool.and_eq_true_iff.mp (show (decide (es.length ≤ 30000) && es.all (plD n)) = true from h)).2
      show (decide (es.length = es.length) && (es.zip es).all fun p => sameD n p.1 p.2) = true
      rw [all es h2, decide_eq_true rfl]
      rfl
    | _ => cases h
theorem same_rfl {n : Nat} {d : D} {μ : Sto} {Q : QD} {X : QX} (h : plD (n + 1) d = true) (q : Q (.v (.bl true)) μ) : fSame (n + 1) [d, d] μ Q X := same_ok h h (same_self _ _ h) q
theorem lbs_of {k : Nat} : ∀ {ds : List D}, (∀ d ∈ ds, lb k d = true ∧ noErr d = true) → lbs k ds = true ∧ noErrs ds = true
  | [], _ => ⟨rfl, rfl⟩
  | d :: ds, h => by
    have h1 := h d List.mem_cons_self
    have h2 := lbs_of (ds := ds) fun x hx => h x (List.mem_cons_of_mem _ hx)
    refine ⟨?_, ?_⟩
    · show (lb k d && lbs k ds) = true
      rw [h1.1, h2.1]
      rfl
    · show (noErr d && noErrs ds) = true
      rw [h1.2, h2.2]
      rfl
theorem pl_lb {k : Nat} : ∀ (n : Nat) (d : D), plD n d = true → lb k d = true ∧ noErr d = true
  | 0, _, h => Bool.noConfusion h
  | n + 1, d, h => by
    cases d with
    | v x => exact ⟨rfl, rfl⟩
    | lst es =>
      have h2 := (Bool.and_eq_true_iff.mp (show (decide (es.length ≤ 30000) && es.all (plD n)) = true from h)).2
      exact lbs_of fun d hd => pl_lb n d (List.all_eq_true.mp h2 d hd)
    | tup es =>
      have h2 := (Bool.and_eq_true_iff.mp (show (decide (es.length ≤ 30000) && es.all (plD n)) = true from h)).2
      exact lbs_of fun d hd => pl_lb n d (List.all_eq_true.mp h2 d hd)
    | _ => cases h
end
set_option Elab.async false
set_option linter.all false
set_option maxRecDepth 100000
set_option maxHeartbeats 4000000
section
open PySem L2 DK

theorem er_perm {α : Type} : ∀ (l : List α) (i : Nat) (z : α), l[i]? = some z → (z :: l.eraseIdx i).Perm l
  | [], _, _, h => by cases h
  | a :: l, 0, z, h => by
    cases h
    exact .refl _
  | a :: l, i + 1, z, h => by
    show (z :: a :: l.eraseIdx i).Perm (a :: l)
    exact (List.Perm.swap a z _).trans (.cons a (er_perm l i z h))
theorem get_pre {μ : Sto} {c d : Cell} : (μ ++ [c] ++ [d])[μ.length]? = some c := by rw [List.append_assoc, List.getElem?_append_right (Nat.le_refl _), Nat.sub_self]; rfl
theorem set_pre (μ : Sto) (a b d : Cell) : (μ ++ [a] ++ [b]).set μ.length d = μ ++ [d] ++ [b] := by
  rw [List.append_assoc, List.set_append_right _ _ (Nat.le_refl _), Nat.sub_self, List.append_assoc]
  rfl
theorem pop_atG {c : Cell} {μ : Sto} {rs fs : List D} {i : Int} {Q : QD} (h0 : 0 ≤ i) (h1 : i < rs.length) (hl : rs.length ≤ 1000) (h : ∀ z, rs[i.toNat]? = some z → Q z (c :: (μ ++ [.lst (rs.eraseIdx i.toNat)] ++ [.lst fs]))) : popIt (.loc (μ.length + 1)) (.v (.int i)) (c :: (μ ++ [.lst rs] ++ [.lst fs])) Q := by
  have e : (c :: (μ ++ [Cell.lst rs] ++ [Cell.lst fs]))[μ.length + 1]? = some (.lst rs) := by
    rw [List.getElem?_cons_succ]
    exact get_pre
  unfold popIt
  simp only [e]
  refine ⟨⟨h0, h1⟩, by omega, fun z hz => ?_⟩
  have e2 : (c :: (μ ++ [Cell.lst rs] ++ [Cell.lst fs])).set (μ.length + 1) (.lst (rs.eraseIdx i.toNat)) = c :: (μ ++ [.lst (rs.eraseIdx i.toNat)] ++ [.lst fs]) := by
    rw [List.set_cons_succ, set_pre]
  rw [e2]
  exact h z hz
section
variable {P : Program} {w : World} {K : PySem.W.Frag} {mg : Str → Option Value} {base : Heap}
def fShufG : FD := fun ds μ Q _ => ∃ (xs : List D) (c : Cell) (μ' : Sto), ds = [.loc 0, .lst xs] ∧ μ = c :: μ' ∧ StC c ∧ xs.length ≤ 1000 ∧ (∀ d ∈ xs, plD 4 d = true) ∧ ∀ (js : List D) (c' : Cell), js.Perm xs → StC c' → Q (.lst js) (c' :: μ')
theorem sc__law_shuffle : FnScope ["store", "row", "rest", "found", "turn"] ["store", "row"] (defScope (top 46)) := ⟨rfl, rfl, rfl, by decide +kernel, rfl, by decide +kernel, by decide +kernel⟩
theorem ok__law_shuffle (T : Tx K mg) : FnD P w K mg base 3 T.a__law_shuffle T.fd__law_shuffle ["store", "row"] fShufG := by
  refine fnD_frz _ T.F__law_shuffle sc__law_shuffle (fun cd A outer s H E B => (d_scons (d_set 2 B.nd (d_ct c_listM T.n_list (by decide +kernel) (d_cons (d_var 1) d_nil)))
    (d_scons (d_set 3 B.nd (d_lstM d_nil))
    (d_scons (d_forR1 4 B T.n_range (d_cons (d_cb (id := "len") c_len T.n_len (by decide +kernel) (d_cons (d_var 1) d_nil)) d_nil) (d_sone (d_expr (d_append (d_var 3) (d_pop (d_var 2) (d_call B (ok__law_take T) (by decide) T.m__law_take T.k__law_take T.b__law_take (d_cons (d_var 0) (d_cons (d_cb (id := "len") c_len T.n_len (by decide +kernel) (d_cons (d_var 2) d_nil)) d_nil))))))))
    (d_sone (d_ret (d_var 3))))))) ?_
  rintro ds μ QA XA hl ⟨xs, c, μ', rfl, rfl, hc, hxl, hpx, hQ⟩
  walk_at "all"
  refine inv_R [] (fun k vs m => vs = [] ∧ ∃ (rs fs : List D) (c' : Cell), m = c' :: (μ' ++ [.lst rs] ++ [.lst fs]) ∧ StC c' ∧ fs.length = k ∧ rs.length + k = xs.length ∧ (fs ++ rs).Perm xs) [] _ rfl ⟨rfl, xs, [], c, rfl, hc, rfl, rfl, .refl _⟩ ?_ ?_
  · rintro k vs m hk ⟨rfl, rs, fs, c1, rfl, hc1, hf, hr, hp⟩
    have hr0 : 0 < rs.length := by omega
    have i1 : itemsOf (.loc (μ'.length + 1)) (c1 :: (μ' ++ [.lst rs] ++ [.lst fs])) = some rs := it_at (by rw [List.getElem?_cons_succ]; exact get_pre)
    have hL : isL (.loc (c :: μ' ++ [Cell.lst xs]).length) (c1 :: (μ' ++ [.lst rs] ++ [.lst fs])) = true := isL_at (es := fs) (by
      rw [List.length_append, List.length_cons]
      show (c1 :: (μ' ++ [Cell.lst rs] ++ [Cell.lst fs]))[μ'.length + 1 + 1]? = _
      rw [List.getElem?_cons_succ, List.getElem?_append_right (by rw [List.length_append]; exact Nat.le_refl _), List.length_append]
      simp)
    have hL2 : isL (.loc (μ'.length + 1)) (c1 :: (μ' ++ [.lst rs] ++ [.lst fs])) = true := isL_at (es := rs) (by rw [List.getElem?_cons_succ]; exact get_pre)
    refine And.intro hL (And.intro hL2 ?_)
    conv => whnf
    erw [i1]
    walk_at "all"
    rename_i i c2 hi0 hi1 hc2
    refine pop_atG hi0 (by omega) (by omega) fun z hz => ?_
    have hpm := er_perm rs i.toNat z hz
    have hel := hpm.length_eq
    rw [List.length_cons] at hel
    have hz2 : (c2 :: (μ' ++ [Cell.lst (rs.eraseIdx i.toNat)] ++ [Cell.lst fs]))[(c :: μ' ++ [Cell.lst xs]).length]? = some (.lst fs) := by
      rw [List.length_append, List.length_cons]
      show (c2 :: (μ' ++ [Cell.lst (rs.eraseIdx i.toNat)] ++ [Cell.lst fs]))[μ'.length + 1 + 1]? = _
      rw [List.getElem?_cons_succ, List.getElem?_append_right (by rw [List.length_append]; exact Nat.le_refl _), List.length_append]
      simp
    refine app_at hz2 (by omega) ?_
    refine ⟨_, [], rfl, rfl, rs.eraseIdx i.toNat, fs ++ [z], c2, ?_, hc2, by rw [List.length_append, hf]; rfl, by omega, ?_⟩
    · rw [List.length_append, List.length_cons]
      show (c2 :: (μ' ++ [Cell.lst (rs.eraseIdx i.toNat)] ++ [Cell.lst fs])).set (μ'.length + 1 + 1) _ = _
      rw [List.set_cons_succ, List.set_append_right _ _ (by rw [List.length_append]; exact Nat.le_refl _), List.length_append]
      simp
    · rw [List.append_assoc]
      exact ((List.Perm.append_left fs hpm)).trans hp
  · rintro t vs m ⟨rfl, rs, fs, c1, rfl, hc1, hf, hr, hp⟩
    have hr2 : rs = [] := List.length_eq_zero_iff.mp (by omega)
    subst hr2
    rw [List.append_nil] at hp
    have hpl : ∀ d ∈ fs, plD 4 d = true := fun d hd => hpx d (hp.mem_iff.mp hd)
    have hlb := lbs_of (k := (c :: μ').length) fun d hd => pl_lb 4 d (hpl d hd)
    show wQ _ _ (.loc (c :: μ' ++ [Cell.lst xs]).length) (c1 :: (μ' ++ [.lst []] ++ [.lst fs]))
    refine w_at (μc := c1 :: μ') (ex := [.lst [], .lst fs]) (by simp) ?_ (by simp) (st_keeps hc1) hlb.1 hlb.2 (hQ fs c1 hp hc1)
    rw [List.length_append, List.length_cons]
    show (c1 :: (μ' ++ [Cell.lst []] ++ [Cell.lst fs]))[μ'.length + 1 + 1]? = _
    rw [List.getElem?_cons_succ, List.getElem?_append_right (by rw [List.length_append]; exact Nat.le_refl _), List.length_append]
    simp
end
end
set_option Elab.async false
set_option linter.all false
set_option maxRecDepth 100000
set_option maxHeartbeats 4000000
section
open PySem L2 DK

local macro_rules | `(tactic| walk_at "reflen") => `(tactic| ((conv => whnf); simp only [Tx.exm_BadLength ‹Tx _ _›]; refine And.intro rfl ⟨_, _, _, by first | exact .inl ⟨rfl, _, _, rfl, rfl, rfl, rfl⟩ | exact ⟨rfl, _, _, rfl, rfl, rfl, rfl⟩ | exact .inr (.inl ⟨rfl, _, _, rfl, rfl, rfl, rfl⟩) | exact .inr (⟨rfl, _, _, rfl, rfl, rfl, rfl⟩) | exact .inr (.inr (.inl ⟨rfl, _, _, rfl, rfl, rfl, rfl⟩)) | exact .inr (.inr (⟨rfl, _, _, rfl, rfl, rfl, rfl⟩)) | exact .inr (.inr (.inr (.inl ⟨rfl, _, _, rfl, rfl, rfl, rfl⟩))) | exact .inr (.inr (.inr (⟨rfl, _, _, rfl, rfl, rfl, rfl⟩))) | exact .inr (.inr (.inr (.inr (.inl ⟨rfl, _, _, rfl, rfl, rfl, rfl⟩)))) | exact .inr (.inr (.inr (.inr (⟨rfl, _, _, rfl, rfl, rfl, rfl⟩)))) | exact .inr (.inr (.inr (.inr (.inr (.inl ⟨rfl, _, _, rfl, rfl, rfl, rfl⟩))))) | exact .inr (.inr (.inr (.inr (.inr (⟨rfl, _, _, rfl, rfl, rfl, rfl⟩))))), rfl, ?_⟩; refine ⟨rfl, ?_⟩))
local macro_rules | `(tactic| walk_at "refitem") => `(tactic| ((conv => whnf); simp only [Tx.exm_BadItem ‹Tx _ _›]; refine And.intro rfl ⟨_, _, _, by first | exact .inl ⟨rfl, _, rfl, rfl, rfl⟩ | exact ⟨rfl, _, rfl, rfl, rfl⟩ | exact .inr (.inl ⟨rfl, _, rfl, rfl, rfl⟩) | exact .inr (⟨rfl, _, rfl, rfl, rfl⟩) | exact .inr (.inr (.inl ⟨rfl, _, rfl, rfl, rfl⟩)) | exact .inr (.inr (⟨rfl, _, rfl, rfl, rfl⟩)) | exact .inr (.inr (.inr (.inl ⟨rfl, _, rfl, rfl, rfl⟩))) | exact .inr (.inr (.inr (⟨rfl, _, rfl, rfl, rfl⟩))) | exact .inr (.inr (.inr (.inr (.inl ⟨rfl, _, rfl, rfl, rfl⟩)))) | exact .inr (.inr (.inr (.inr (⟨rfl, _, rfl, rfl, rfl⟩)))) | exact .inr (.inr (.inr (.inr (.inr (.inl ⟨rfl, _, rfl, rfl, rfl⟩))))) | exact .inr (.inr (.inr (.inr (.inr (⟨rfl, _, rfl, rfl, rfl⟩))))), rfl, ?_⟩; refine ⟨rfl, ?_⟩))
local macro_rules | `(tactic| walk_at "refout") => `(tactic| ((conv => whnf); simp only [Tx.exm_OutOfRange ‹Tx _ _›]; refine And.intro rfl ⟨_, _, _, by first | exact .inl ⟨rfl, _, rfl, rfl, rfl⟩ | exact ⟨rfl, _, rfl, rfl, rfl⟩ | exact .inr (.inl ⟨rfl, _, rfl, rfl, rfl⟩) | exact .inr (⟨rfl, _, rfl, rfl, rfl⟩) | exact .inr (.inr (.inl ⟨rfl, _, rfl, rfl, rfl⟩)) | exact .inr (.inr (⟨rfl, _, rfl, rfl, rfl⟩)) | exact .inr (.inr (.inr (.inl ⟨rfl, _, rfl, rfl, rfl⟩))) | exact .inr (.inr (.inr (⟨rfl, _, rfl, rfl, rfl⟩))) | exact .inr (.inr (.inr (.inr (.inl ⟨rfl, _, rfl, rfl, rfl⟩)))) | exact .inr (.inr (.inr (.inr (⟨rfl, _, rfl, rfl, rfl⟩)))) | exact .inr (.inr (.inr (.inr (.inr (.inl ⟨rfl, _, rfl, rfl, rfl⟩))))) | exact .inr (.inr (.inr (.inr (.inr (⟨rfl, _, rfl, rfl, rfl⟩))))), rfl, ?_⟩; refine ⟨rfl, ?_⟩))
section
variable {P : Program} {w : World} {K : PySem.W.Frag} {mg : Str → Option Value} {base : Heap}
/-- two rings are equal by their three numbers -/
def fREq (C : Addr) (N : List Addr) : FD := fun ds μ Q _ => ∃ (n q r : Int) (d : D), ds = [ringD C n q r, d] ∧ ((NoO N d ∧ Q (.v (.bl false)) μ) ∨ ∃ n2 q2 r2 : Int, d = ringD C n2 q2 r2 ∧ Q (.v (.bl (decide (n = n2 ∧ q = q2 ∧ r = r2)))) μ)
theorem eqv_tup3 (a b c d e f : Int) : PyData.eqv (.tuple [.int a, .int b, .int c]) (.tuple [.int d, .int e, .int f]) = decide (a = d ∧ b = e ∧ c = f) := by
  rw [show PyData.eqv (.tuple [.int a, .int b, .int c]) (.tuple [.int d, .int e, .int f]) = PyData.eqvAll ([a, b, c].map .int) ([d, e, f].map .int) by unfold PyData.eqv; rfl, eqv_ints]
  simp
theorem shaped_tup (xs : List Int) : SeqAt.shaped (.tuple (xs.map .int)) = true := by
  unfold SeqAt.shaped
  rw [show PyData.canLay0 (.tuple (xs.map .int)) = PyData.canLayAll0 (xs.map .int) by unfold PyData.canLay0; rfl, lay_ints, show PyData.depth (.tuple (xs.map .int)) = PyData.depthAll (xs.map .int) + 1 by unfold PyData.depth; rfl, dep_ints]
  rfl
theorem eqU_tup3 {a b c d e f : Int} {μ : Sto} {Q : QD} (h : Q (.v (.bl (decide (a = d ∧ b = e ∧ c = f)))) μ) : fEqU false (.tup [.v (.int a), .v (.int b), .v (.int c)]) (.tup [.v (.int d), .v (.int e), .v (.int f)]) μ Q :=
  ⟨_, _, rfl, rfl, shaped_tup [a, b, c], shaped_tup [d, e, f], by rw [eqv_tup3]; exact h⟩
theorem sc_Ring___eq__ : FnScope ["self", "other"] ["self", "other"] (defScope (meth (top 38) 1)) := ⟨rfl, rfl, rfl, by decide +kernel, rfl, by decide +kernel, by decide +kernel⟩
theorem ok_Ring___eq__ (T : Tx K mg) : FnD P w K mg base 2 T.a_Ring___eq__ T.fd_Ring___eq__ ["self", "other"] (fREq T.a_Ring []) := by
  refine fnD _ T.F_Ring___eq__ sc_Ring___eq__ (fun cd A outer s H E B => (d_sone (d_ret (d_and (d_cb (id := "isinstance") (c_isiB rfl T.ow_Ring) T.n_isinstance (by decide +kernel) (d_cons (d_var 1) (d_cons (d_globV (v := .ref _) T.m_Ring rfl) d_nil))) (d_one (d_cmp (o_eqU B) (d_fld (d_var 0)) (d_fld (d_var 1)))))))) ?_
  rintro ds μ QA XA hl ⟨n, q, r, d, rfl, ⟨hN, hQ⟩ | ⟨n2, q2, r2, rfl, hQ⟩⟩
  · refine And.intro rfl (Or.inr ⟨hN, ?_⟩)
    walk_at "all"
    exact hQ
  · refine And.intro rfl (Or.inl ⟨⟨_, _, rfl⟩, ?_⟩)
    walk_at "all"
    show fEqU false (.tup [.v (.int n), .v (.int q), .v (.int r)]) (.tup [.v (.int n2), .v (.int q2), .v (.int r2)]) μ _
    refine eqU_tup3 ?_
    trace_state
    exact hQ
end
end
set_option Elab.async false
set_option linter.all false
set_option maxRecDepth 100000
set_option maxHeartbeats 4000000
section
open PySem L2 DK

theorem cm_of {i j : Int} {a b : Nat} (h1 : i.natAbs < 2 ^ a) (h2 : j.natAbs < 2 ^ b) (h : a + b ≤ 134217728) : CM i j := by
  have e1 := PyProof.Rows.intBits_le h1
  have e2 := PyProof.Rows.intBits_le h2
  refine .inr ?_
  show (_ : Int) ≤ _
  omega
section
variable {P : Program} {w : World} {K : PySem.W.Frag} {mg : Str → Option Value} {base : Heap}
local macro_rules | `(tactic| walk_at "call") => `(tactic| ((with_reducible show fPick _ _ _ _); refine ⟨_, _, _, _, rfl, Or.inl rfl, by simp, by simp, rfl, ‹StC _›, fun d c' hd hc => ?_⟩; obtain ⟨r, er⟩ := pick_int hd rfl; subst er))
def fAny : FD := fun ds μ Q _ => ∃ (c : Cell) (μ' : Sto), ds = [.loc 0] ∧ μ = c :: μ' ∧ StC c ∧ ∀ (r : Int) (c' : Cell), StC c' → Q (.v (.int r)) (c' :: μ')
theorem sc__law_any : FnScope ["store", "kind", "sign", "number", "turn"] ["store"] (defScope (top 47)) := ⟨rfl, rfl, rfl, by decide +kernel, rfl, by decide +kernel, by decide +kernel⟩
theorem ok__law_any (T : Tx K mg) : FnD P w K mg base 4 T.a__law_any T.fd__law_any ["store"] fAny := by
  refine fnD _ T.F__law_any sc__law_any (fun cd A outer s H E B => (d_scons (d_set 1 B.nd (d_call B (ok__law_take T) (by decide) T.m__law_take T.k__law_take T.b__law_take (d_cons (d_var 0) (d_cons d_int d_nil))))
    (d_scons (d_set 2 B.nd (d_bin o_sub d_int (d_bin o_mul d_int (d_call B (ok__law_take T) (by decide) T.m__law_take T.k__law_take T.b__law_take (d_cons (d_var 0) (d_cons d_int d_nil))))))
    (d_scons (d_sif (d_tcmp o_eq (d_var 1) d_int) (d_sone (d_ret (d_bin o_mul (d_var 2) (d_call B (ok__law_pick T) (by decide) T.m__law_pick T.k__law_pick T.b__law_pick (d_cons (d_var 0) (d_cons (d_lst (d_cons d_int (d_cons d_int (d_cons d_int (d_cons d_int (d_cons d_int (d_cons d_int (d_cons d_int (d_cons d_int (d_cons d_int (d_cons d_int (d_cons (d_bin o_sub (d_bin o_pow d_int d_int) d_int) (d_cons (d_bin o_pow d_int d_int) d_nil))))))))))))) d_nil)))))) d_snil)
    (d_scons (d_sif (d_tcmp o_eq (d_var 1) d_int) (d_sone (d_ret (d_bin o_mul (d_var 2) (d_bin o_sub (d_bin o_addU (d_bin o_shl d_int (d_call B (ok__law_take T) (by decide) T.m__law_take T.k__law_take T.b__law_take (d_cons (d_var 0) (d_cons d_int d_nil)))) (d_call B (ok__law_take T) (by decide) T.m__law_take T.k__law_take T.b__law_take (d_cons (d_var 0) (d_cons d_int d_nil)))) d_int)))) d_snil)
    (d_scons (d_sif (d_tcmp o_eq (d_var 1) d_int) (d_scons (d_set 3 B.nd (d_bin o_addU d_int (d_call B (ok__law_take T) (by decide) T.m__law_take T.k__law_take T.b__law_take (d_cons (d_var 0) (d_cons (d_bin o_pow d_int d_int) d_nil)))))
    (d_scons (d_forR1 4 B T.n_range (d_cons (d_call B (ok__law_take T) (by decide) T.m__law_take T.k__law_take T.b__law_take (d_cons (d_var 0) (d_cons d_int d_nil))) d_nil) (d_sone (d_set 3 B.nd (d_bin o_addU (d_bin o_mul (d_var 3) (d_bin o_pow d_int d_int)) (d_call B (ok__law_take T) (by decide) T.m__law_take T.k__law_take T.b__law_take (d_cons (d_var 0) (d_cons (d_bin o_pow d_int d_int) d_nil)))))))
    (d_sone (d_ret (d_bin o_mul (d_var 2) (d_var 3)))))) d_snil)
    (d_sone (d_ret (d_bin o_mul (d_var 2) (d_call B (ok__law_take T) (by decide) T.m__law_take T.k__law_take T.b__law_take (d_cons (d_var 0) (d_cons d_int d_nil)))))))))))) ?_
  rintro ds μ QA XA hl ⟨c, μ', rfl, rfl, hc, hQ⟩
  walk_at "all"
  all_goals first
    | exact hQ _ _ (by assumption)
    | skip
  rename_i kd ck hk0 hk1 hck sg cs hs0 hs1 hcs e0 e1 e2 r3 c3 hr30 hr31 hc3 r4 c4 hr40 hr41 hc4
  refine ⟨fun n ρ m => ∃ (c : Cell) (a : Int) (t : Option D), m = c :: μ' ∧ StC c ∧ a.natAbs < 2 ^ (200 * (n + 1)) ∧ ρ = [some (.loc 0), some (.v (.int kd)), some (.v (.int (1 - 2 * sg))), some (.v (.int a)), t], ⟨_, _, _, rfl, hc4, ?_, rfl⟩, ?_, ?_⟩
  · have hr31 : r3 < 10 ^ 15 := by rcases hr31 with h | h; exact h; omega
    have : (1 + r3).natAbs ≤ 10 ^ 15 := by omega
    exact Nat.lt_of_le_of_lt this (by decide)
  · rintro n ρ' _ hn ⟨c, a, t, rfl, hc, ha, rfl⟩
    have hcm : CM a (10 ^ Int.toNat 60) := cm_of (b := 200) ha (by decide) (by omega)
    walk_at "all"
    rename_i r5 c5 hr50 hr51 hc5
    have hr51 : r5 < 10 ^ 15 := by rcases hr51 with h | h; exact h; omega
    refine ⟨_, _, _, rfl, by assumption, ?_, rfl⟩
    have h1 : (a * 10 ^ Int.toNat 60 + r5).natAbs ≤ a.natAbs * (10 ^ 60) + 10 ^ 60 := by
      have h2 := Int.natAbs_add_le (a * 10 ^ Int.toNat 60) r5
      have h3 : (a * 10 ^ Int.toNat 60).natAbs = a.natAbs * 10 ^ 60 := by rw [Int.natAbs_mul]; rfl
      rw [h3] at h2
      have h4 : r5.natAbs ≤ 10 ^ 60 := by
        have : r5.natAbs ≤ 10 ^ 15 := by omega
        exact Nat.le_trans this (by decide)
      omega
    have h5 : a.natAbs * 10 ^ 60 + 10 ^ 60 = (a.natAbs + 1) * 10 ^ 60 := by rw [Nat.add_mul, Nat.one_mul]
    have h6 : (a.natAbs + 1) * 10 ^ 60 ≤ 2 ^ (200 * (n + 1)) * 10 ^ 60 := Nat.mul_le_mul_right _ ha
    have h7 : 2 ^ (200 * (n + 1)) * 10 ^ 60 < 2 ^ (200 * (n + 1)) * 2 ^ 200 := Nat.mul_lt_mul_of_pos_left (by decide) (Nat.pow_pos (by decide))
    rw [← Nat.pow_add] at h7
    rw [show 200 * (n + 1 + 1) = 200 * (n + 1) + 200 by omega]
    omega
  · rintro ρ' _ ⟨c, a, t, rfl, hc, ha, rfl⟩
    walk_at "all"
    exact hQ _ _ (by assumption)
end
end
set_option Elab.async false
set_option linter.all false
set_option maxRecDepth 100000
set_option maxHeartbeats 4000000
section
open PySem L2 DK

section
variable {P : Program} {w : World} {K : PySem.W.Frag} {mg : Str → Option Value} {base : Heap}
local macro_rules | `(tactic| walk_at "call") => `(tactic| ((with_reducible show fNum _ _ _ _); refine ⟨_, _, rfl, by first | assumption | rfl, ?_⟩))
local macro_rules | `(tactic| walk_at "call") => `(tactic| ((with_reducible show fBet _ _ _ _); refine ⟨_, _, _, _, rfl, by first | assumption | rfl, ?_⟩))
local macro_rules | `(tactic| walk_at "call") => `(tactic| ((with_reducible show fPw _ _ _ _); refine ⟨_, _, _, rfl, by omega, by omega, by omega, by omega, ?_⟩))
theorem sc__law_within : FnScope ["actual", "low", "high"] ["actual", "low", "high"] (defScope (top 52)) := ⟨rfl, rfl, rfl, by decide +kernel, rfl, by decide +kernel, by decide +kernel⟩
theorem ok__law_within (T : Tx K mg) : FnD P w K mg base 2 T.a__law_within T.fd__law_within ["actual", "low", "high"] fBet := by
  refine fnD _ T.F__law_within sc__law_within (fun cd A outer s H E B => (d_sone (d_ret (d_and (d_call B (ok__law_whole T) (by decide) T.m__law_whole T.k__law_whole T.b__law_whole (d_cons (d_var 0) d_nil)) (d_one (d_chain o_le o_le (d_var 1) (d_var 0) (d_var 2))))))) ?_
  rintro ds μ QA XA hl ⟨d, lo, hi, t, rfl, ht, hQ⟩
  cases d with
  | v x =>
    cases x with
    | int i =>
      have hQ' : QA (.v (.bl (decide (lo ≤ i) && decide (i ≤ hi)))) μ := hQ
      walk_at "all"
      · rename_i e
        rw [decide_eq_true e, Bool.true_and] at hQ'
        exact hQ'
      · rename_i e
        rw [decide_eq_false e, Bool.false_and] at hQ'
        exact hQ'
    | _ => first | (cases ht; done) | (walk_at "all"; exact hQ)
  | lst es => walk_at "all"; exact hQ
  | tup es => walk_at "all"; exact hQ
  | dic es => walk_at "all"; exact hQ
  | ins C ns es => walk_at "all"; exact hQ
  | _ => cases ht
/-- the first demand that three values miss -/
def fDem : FD := fun ds μ Q _ => ∃ d e r, ds = [d, e, r] ∧ TyD d ∧ TyD e ∧ TyD r ∧ Q (rfD d e r) μ
theorem sc__law_ring_demand : FnScope ["n", "q", "root"] ["n", "q", "root"] (defScope (top 58)) := ⟨rfl, rfl, rfl, by decide +kernel, rfl, by decide +kernel, by decide +kernel⟩
theorem ok__law_ring_demand (T : Tx K mg) : FnD P w K mg base 3 T.a__law_ring_demand T.fd__law_ring_demand ["n", "q", "root"] fDem := by
  refine fnD _ T.F__law_ring_demand sc__law_ring_demand (fun cd A outer s H E B => (d_scons (d_sif (d_tw (d_wor (d_tnot (d_tval (d_call B (ok__law_whole T) (by decide) T.m__law_whole T.k__law_whole T.b__law_whole (d_cons (d_var 0) d_nil)))) (d_wor1 (d_tcmp o_nin (d_var 0) (d_tup (d_cons d_int (d_cons d_int (d_cons d_int (d_cons d_int (d_cons d_int (d_cons d_int d_nil))))))))))) (d_sone (d_ret d_str)) d_snil)
    (d_scons (d_sif (d_tw (d_wor (d_tnot (d_tval (d_call B (ok__law_within T) (by decide) T.m__law_within T.k__law_within T.b__law_within (d_cons (d_var 1) (d_cons d_int (d_cons d_int d_nil)))))) (d_wor1 (d_tnot (d_tval (d_call B (ok__law_prime T) (by decide) T.m__law_prime T.k__law_prime T.b__law_prime (d_cons (d_var 1) d_nil))))))) (d_sone (d_ret d_str)) d_snil)
    (d_scons (d_sif (d_tw (d_wor (d_tnot (d_tval (d_call B (ok__law_within T) (by decide) T.m__law_within T.k__law_within T.b__law_within (d_cons (d_var 2) (d_cons d_int (d_cons (d_bin o_sub (d_var 1) d_int) d_nil)))))) (d_wor1 (d_tcmp o_ne (d_call B (ok__law_power T) (by decide) T.m__law_power T.k__law_power T.b__law_power (d_cons (d_var 2) (d_cons (d_bin o_div (d_var 0) d_int) (d_cons (d_var 1) d_nil)))) (d_bin o_sub (d_var 1) d_int))))) (d_sone (d_ret d_str)) d_snil)
    (d_sone (d_ret d_non)))))) ?_
  rintro ds μ QA XA hl ⟨d, e0, r0, rfl, ⟨t, ht⟩, ⟨u, hu⟩, ⟨o, ho⟩, hQ⟩
  unfold rfD at hQ
  walk_at "all"
  · have e : numD d = false := by assumption
    have e2 : degD d = false := by
      cases h : degD d with
      | false => rfl
      | true =>
        obtain ⟨n, rfl, _⟩ := deg_inv h
        exact Bool.noConfusion (show true = false from e)
    rw [if_pos e2] at hQ
    exact hQ
  · have e : numD d = true := by assumption
    obtain ⟨i, rfl⟩ := num_inv e
    have e2 : (decide (i ∈ degs)) = inV (.int i) (degs.map fun z => V.int z) := in_ints.symm
    refine And.intro ⟨rfl, rfl⟩ ?_
    show bIf (!inV (.int i) (degs.map fun z => V.int z)) _ _
    rw [← e2]
    cases hd : decide (i ∈ degs) with
    | false =>
      rw [if_pos (show degD (.v (.int i)) = false from hd)] at hQ
      refine And.intro (fun _ => ?_) (fun z => Bool.noConfusion z)
      walk_at "all"
      exact hQ
    | true =>
      rw [if_neg (by rw [show degD (.v (.int i)) = true from hd]; exact Bool.noConfusion)] at hQ
      have hn : i ∈ degs := of_decide_eq_true hd
      obtain ⟨h8, h256⟩ := deg_le hn
      refine And.intro (fun z => Bool.noConfusion z) (fun _ => ?_)
      walk_at "all"
      · have e : betD e0 3 4095 = false := by assumption
        rw [if_pos (op_no e)] at hQ
        exact hQ
      · have e : betD e0 3 4095 = true := by assumption
        obtain ⟨v, rfl, hv0, hv1⟩ := bet_inv e
        rw [op_eq hv0 hv1] at hQ
        refine ⟨_, rfl, hv1, ?_⟩
        walk_at "all"
        · have e : prB v = false := by assumption
          rw [if_pos e] at hQ
          exact hQ
        · have e : prB v = true := by assumption
          rw [if_neg (by rw [e]; exact Bool.noConfusion)] at hQ
          rw [if_neg (by rw [rt_no ‹betD r0 1 (v - 1) = false›]; exact Bool.noConfusion)] at hQ
          exact hQ
        have e : betD r0 1 (v - 1) = true := by assumption
        obtain ⟨z, rfl, hz0, hz1⟩ := bet_inv e
        rw [if_neg (by rw [‹prB v = true›]; exact Bool.noConfusion), rt_eq hz0 hz1] at hQ
        walk_at "all"
        · rename_i e
          rw [if_neg (show ¬ rtB i v z = true from fun h => e (of_decide_eq_true h))] at hQ
          exact hQ
        · rename_i e
          rw [if_pos (show rtB i v z = true from decide_eq_true e)] at hQ
          exact hQ
/-- the numbers of a ring drawn -/
def IsR9 (n q r : Int) : Prop := IsR n q r ∧ 9 ≤ q ∧ (q - 1) % n = 0
abbrev tripD (n q r : Int) : D := .tup [.v (.int n), .v (.int q), .v (.int r)]
local macro_rules | `(tactic| walk_at "call") => `(tactic| ((with_reducible show fPf _ _ _ _); refine ⟨_, _, _, rfl, by assumption, rfl, ‹StC _›, fun q c' hq0 hq1 hp hd hc' => ?_⟩))
local macro_rules | `(tactic| walk_at "call") => `(tactic| ((with_reducible show fRoot _ _ _ _); refine ⟨_, _, _, _, rfl, by assumption, by assumption, by assumption, by assumption, by assumption, rfl, ‹StC _›, fun r c' hR hc' => ?_⟩))
def fSome : FD := fun ds μ Q _ => ∃ (es : List D) (c : Cell) (μ' : Sto), ds = [.loc 0, .lst es] ∧ es.all degD = true ∧ 0 < es.length ∧ es.length < 1000 ∧ μ = c :: μ' ∧ StC c ∧ ∀ (n q r : Int) (c' : Cell), IsR9 n q r → StC c' → Q (tripD n q r) (c' :: μ')
theorem sc__law_some_ring : FnScope ["store", "degrees", "n", "q"] ["store", "degrees"] (defScope (top 61)) := ⟨rfl, rfl, rfl, by decide +kernel, rfl, by decide +kernel, by decide +kernel⟩
theorem ok__law_some_ring (T : Tx K mg) : FnD P w K mg base 7 T.a__law_some_ring T.fd__law_some_ring ["store", "degrees"] fSome := by
  refine fnD _ T.F__law_some_ring sc__law_some_ring (fun cd A outer s H E B => (d_scons (d_set 2 B.nd (d_call B (ok__law_pick T) (by decide) T.m__law_pick T.k__law_pick T.b__law_pick (d_cons (d_var 0) (d_cons (d_var 1) d_nil))))
    (d_scons (d_set 3 B.nd (d_call B (ok__law_prime_for T) (by decide) T.m__law_prime_for T.k__law_prime_for T.b__law_prime_for (d_cons (d_var 0) (d_cons (d_var 2) d_nil))))
    (d_sone (d_ret (d_tup (d_cons (d_var 2) (d_cons (d_var 3) (d_cons (d_call B (ok__law_root T) (by decide) T.m__law_root T.k__law_root T.b__law_root (d_cons (d_var 0) (d_cons (d_var 2) (d_cons (d_var 3) d_nil)))) d_nil))))))))) ?_
  rintro ds μ QA XA hl ⟨es, c, μ', rfl, hd, h0, h1, rfl, hc, hQ⟩
  refine And.intro rfl ⟨_, _, _, _, rfl, Or.inl rfl, h0, h1, rfl, hc, fun d c1 hm hc1 => ?_⟩
  obtain ⟨n, rfl, hn⟩ := deg_inv (List.all_eq_true.mp hd d hm)
  walk_at "all"
  all_goals exact hQ _ _ _ _ ⟨by assumption, by assumption, by assumption⟩ (by assumption)
local macro_rules | `(tactic| walk_at "call") => `(tactic| ((with_reducible show fAny _ _ _ _); refine ⟨_, _, rfl, rfl, ‹StC _›, fun r c' hc => ?_⟩))
/-- plain data drawn -/
abbrev AllLb (μ : Sto) : Prop := ∀ n, ∀ x ∈ μ, lbC n x = true
theorem all_lb {n : Nat} {c : Cell} {μ : Sto} (h : StC c) (ha : AllLb μ) : ∀ x ∈ c :: μ, lbC n x = true := fun x hx => by
  rcases List.mem_cons.mp hx with rfl | hx
  · exact st_lb h
  · exact ha n x hx
theorem lst_lb {n k : Nat} {es : List D} (h : ∀ d ∈ es, plD k d = true) : lbC n (.lst es) = true := (lbs_of fun d hd => pl_lb k d (h d hd)).1
theorem lb_snoc {μ : Sto} {x : Cell} (ha : AllLb μ) (h : ∀ n, lbC n x = true) : AllLb (μ ++ [x]) := fun n y hy => by
  rcases List.mem_append.mp hy with hy | hy
  · exact ha n y hy
  · rw [List.mem_singleton.mp hy]; exact h n
theorem pl_lst {n : Nat} {es : List D} (hl : es.length ≤ 30000) (h : ∀ d ∈ es, plD n d = true) : plD (n + 1) (.lst es) = true := by
  show (decide (es.length ≤ 30000) && es.all (plD n)) = true
  rw [decide_eq_true hl, Bool.true_and, List.all_eq_true]
  exact h
theorem pl_tup {n : Nat} {es : List D} (hl : es.length ≤ 30000) (h : ∀ d ∈ es, plD n d = true) : plD (n + 1) (.tup es) = true := pl_lst hl h
def fPlain : Nat → FD
  | 0 => fun _ _ _ _ => False
  | n + 1 => fun ds μ Q _ => ∃ (c : Cell) (μ' : Sto), ds = [.loc 0, .v (.int n)] ∧ μ = c :: μ' ∧ StC c ∧ AllLb μ' ∧ ∀ (d : D) (c' : Cell), plD (n + 1) d = true → StC c' → Q d (c' :: μ')
local macro_rules | `(tactic| walk_at "call") => `(tactic| ((with_reducible show fPick _ _ _ _); refine ⟨_, _, _, _, rfl, Or.inl rfl, by simp, by simp, rfl, ‹StC _›, fun d c' hd hc => ?_⟩))
local macro_rules | `(tactic| walk_at "mine") => `(tactic| ((with_reducible show _ ∧ _ ∧ _); exact ⟨by omega, by omega, by decide⟩))
local macro_rules | `(tactic| walk_at "call") => `(tactic| ((with_reducible show ∀ _ : Str, _); intro z))
theorem sc__law_plain : FnScope ["store", "depth", "kind", "row", "few", "turn"] ["store", "depth"] (defScope (top 62)) := ⟨rfl, rfl, rfl, by decide +kernel, rfl, by decide +kernel, by decide +kernel⟩
theorem ok__law_plain (T : Tx K mg) (n : Nat) : FnD P w K mg base (4 + n) T.a__law_plain T.fd__law_plain ["store", "depth"] (fPlain n) := by
  induction n with
  | zero => exact fnD_no (fun _ _ _ _ h => h)
  | succ n ih =>
    refine fnD _ T.F__law_plain sc__law_plain (fun cd A outer s H E B => (d_scons (d_set 2 B.nd (d_call B (ok__law_take T) (Nat.le_trans (by decide : _ ≤ 4) (Nat.le_add_right 4 n)) T.m__law_take T.k__law_take T.b__law_take (d_cons (d_var 0) (d_cons d_int d_nil))))
    (d_scons (d_sif (d_tw (d_wor (d_tcmp o_lt (d_var 1) d_int) (d_wor1 (d_tcmp o_lt (d_var 2) d_int)))) (d_scons (d_set 4 B.nd (d_lst (d_cons d_bl (d_cons d_bl (d_cons d_non (d_cons d_str (d_cons d_str (d_cons (d_bin o_repS d_str (d_call B (ok__law_take T) (Nat.le_trans (by decide : _ ≤ 4) (Nat.le_add_right 4 n)) T.m__law_take T.k__law_take T.b__law_take (d_cons (d_var 0) (d_cons d_int d_nil)))) (d_cons d_int (d_cons d_int (d_cons d_int (d_cons (d_un o_neg d_int) (d_cons (d_bin o_pow d_int d_int) d_nil)))))))))))))
    (d_sone (d_ret (d_call B (ok__law_pick T) (Nat.le_trans (by decide : _ ≤ 4) (Nat.le_add_right 4 n)) T.m__law_pick T.k__law_pick T.b__law_pick (d_cons (d_var 0) (d_cons (d_bin o_addU (d_var 4) (d_lst (d_cons (d_call B (ok__law_any T) (Nat.le_trans (by decide : _ ≤ 4) (Nat.le_add_right 4 n)) T.m__law_any T.k__law_any T.b__law_any (d_cons (d_var 0) d_nil)) (d_cons (d_call B (ok__law_take T) (Nat.le_trans (by decide : _ ≤ 4) (Nat.le_add_right 4 n)) T.m__law_take T.k__law_take T.b__law_take (d_cons (d_var 0) (d_cons d_int d_nil))) d_nil)))) d_nil)))))) d_snil)
    (d_scons (d_slcR1W 3 5 B T.n_range (d_cons (d_call B (ok__law_take T) (Nat.le_trans (by decide : _ ≤ 4) (Nat.le_add_right 4 n)) T.m__law_take T.k__law_take T.b__law_take (d_cons (d_var 0) (d_cons d_int d_nil))) d_nil) (fun _ _ _ _ _ => d_ifs0) (fun _ _ _ _ _ B => (d_call B ih (Nat.le_refl _) T.m__law_plain T.k__law_plain T.b__law_plain (d_cons (d_var 0) (d_cons (d_bin o_sub (d_var 1) d_int) d_nil)))) (by show blkC ["store", "depth", "kind", "row", "few", "turn"] (defScope (top 62)) _ _ = true; decide +kernel) (fun _ _ _ _ _ => pg_name B.nd rfl (by first | exact Or.inl rfl | exact Or.inr rfl)))
    (d_sone (d_ret (d_if (d_tcmp o_lt (d_var 2) d_int) (d_var 3) (d_ct c_tuple T.n_tuple (by decide +kernel) (d_cons (d_var 3) d_nil))))))))) ?_
    rintro ds μ QA XA hl ⟨c, μ', rfl, rfl, hc, hlb, hQ⟩
    walk_at "all"
    · refine hQ _ _ (List.all_eq_true.mp (show List.all _ (plD (n + 1)) = true from rfl) _ (by assumption)) (by assumption)
    · refine hQ _ _ (List.all_eq_true.mp (show List.all _ (plD (n + 1)) = true from rfl) _ (by assumption)) (by assumption)
    · rename_i kd c1 k0 k1 hc1 hn h6 r c2 hr0 hr1 hc2
      obtain ⟨n, rfl⟩ : ∃ m, n = m + 1 := ⟨n - 1, by omega⟩
      refine ⟨⟨by rw [List.length_map, List.length_range]; omega, all_lb hc2 hlb⟩, fun k acc m => ∃ c', m = c' :: μ' ∧ StC c' ∧ (∀ d ∈ acc, plD (n + 1) d = true) ∧ acc.length = k, ⟨_, rfl, hc2, fun d hd => by simp at hd, rfl⟩, ?_, ?_⟩
      · rintro k acc x m hx hm ⟨c3, rfl, hc3, hp, hk⟩
        refine ⟨rfl, ?_⟩
        refine And.intro (fun _ => ?_) (fun e => Bool.noConfusion e)
        walk_at "all"
        refine ⟨c3, μ' ++ [.lst acc], by rw [show ((fun i j => V.int (i - j)) (((n + 1 : Nat)) : Int) 1) = V.int (n : Int) by show V.int _ = V.int _; congr 1; omega], rfl, hc3, lb_snoc hlb fun n => lst_lb hp, fun d c4 hd hc4 => ?_⟩
        refine ⟨c4 :: μ', ⟨rfl, rfl⟩, all_lb hc4 hlb, (pl_lb _ _ hd).symm, c4, rfl, hc4, fun y hy => ?_, by rw [List.length_append, hk]; rfl⟩
        rcases List.mem_append.mp hy with hy | hy
        · exact hp y hy
        · rw [List.mem_singleton.mp hy]; exact hd
      · rintro acc m ⟨c3, rfl, hc3, hp, hk⟩
        rw [List.length_map, List.length_range] at hk
        walk_at "all"
        · exact hQ _ _ (pl_lst (by omega) hp) hc3
        · exact hQ _ _ (pl_tup (by omega) hp) hc3
def fComp : FD := fun ds μ Q _ => ∃ (c : Cell) (μ' : Sto), ds = [.loc 0] ∧ μ = c :: μ' ∧ StC c ∧ ∀ (r : Int) (c' : Cell), StC c' → Q (.v (.int r)) (c' :: μ')
theorem sc__law_composite : FnScope ["store", "low"] ["store"] (defScope (top 63)) := ⟨rfl, rfl, rfl, by decide +kernel, rfl, by decide +kernel, by decide +kernel⟩
theorem ok__law_composite (T : Tx K mg) : FnD P w K mg base 4 T.a__law_composite T.fd__law_composite ["store"] fComp := by
  refine fnD _ T.F__law_composite sc__law_composite (fun cd A outer s H E B => (d_scons (d_set 1 B.nd (d_bin o_addU d_int (d_bin o_mul d_int (d_call B (ok__law_take T) (by decide) T.m__law_take T.k__law_take T.b__law_take (d_cons (d_var 0) (d_cons d_int d_nil))))))
    (d_sone (d_ret (d_bin o_mul (d_var 1) (d_bin o_addU d_int (d_bin o_mul d_int (d_call B (ok__law_take T) (by decide) T.m__law_take T.k__law_take T.b__law_take (d_cons (d_var 0) (d_cons (d_bin o_div (d_bin o_sub (d_bin o_div d_int (d_var 1)) d_int) d_int) d_nil)))))))))) ?_
  rintro ds μ QA XA hl ⟨c, μ', rfl, rfl, hc, hQ⟩
  walk_at "all"
  rename_i r c1 hr0 hr1 hc1
  have hd0 : (4095 : Int) / (3 + 2 * r) ≤ 4095 := Int.ediv_le_self _ (by omega)
  have hd1 : 1 ≤ (4095 : Int) / (3 + 2 * r) := (Int.le_ediv_iff_mul_le (by omega)).mpr (by omega)
  generalize (4095 : Int) / (3 + 2 * r) = z at *
  walk_at "all"
  all_goals first
    | exact hQ _ _ (by assumption)
    | trace_state
end
end
set_option Elab.async false
set_option linter.all false
set_option maxRecDepth 100000
set_option maxHeartbeats 4000000
section
open PySem L2 DK

section
variable {P : Program} {w : World} {K : PySem.W.Frag} {mg : Str → Option Value} {base : Heap}
local macro_rules | `(tactic| walk_at "call") => `(tactic| ((with_reducible show fPick _ _ _ _); refine ⟨_, _, _, _, rfl, Or.inl rfl, by simp, by simp, rfl, ‹StC _›, fun d c' hd hc => ?_⟩))
local macro_rules | `(tactic| walk_at "call") => `(tactic| ((with_reducible show fComp _ _ _ _); refine ⟨_, _, rfl, rfl, ‹StC _›, fun r c' hc => ?_⟩))
local macro_rules | `(tactic| walk_at "call") => `(tactic| ((with_reducible show fPick [_, .lst [.v (.int 16), .v (.int 16), .v (.int 16), .v (.int 32), .v (.int 64), .v (.int 128), .v (.int 256)]] _ _ _); refine ⟨_, _, _, _, rfl, Or.inl rfl, by simp, by simp, rfl, ‹StC _›, fun d c' hd hc => ?_⟩; obtain ⟨n, er, hn⟩ := deg_inv (List.all_eq_true.mp (show List.all _ degD = true by decide) d hd); subst er))
local macro_rules | `(tactic| walk_at "call") => `(tactic| ((with_reducible show fPf _ _ _ _); refine ⟨_, _, _, rfl, by assumption, rfl, ‹StC _›, fun q c' hq0 hq1 hp hd hc' => ?_⟩))
local macro_rules | `(tactic| walk_at "call") => `(tactic| ((with_reducible show fRoot _ _ _ _); refine ⟨_, _, _, _, rfl, by assumption, by assumption, by assumption, by assumption, by assumption, rfl, ‹StC _›, fun r c' hR hc' => ?_⟩))
theorem out_pl {lo hi : Int} {d : D} (h : OutD lo hi d) : plD 3 d = true := by
  rcases h with h | ⟨r, rfl, _⟩
  · exact List.all_eq_true.mp (show othersD.all (plD 3) = true from rfl) d h
  · rfl
theorem isr9_b {n q r : Int} (h : IsR9 n q r) : 8 ≤ n ∧ n ≤ 256 ∧ 1 ≤ r ∧ r ≤ q - 1 ∧ 9 ≤ q ∧ q ≤ 4095 := ⟨(deg_le h.1.1).1, (deg_le h.1.1).2, h.1.2.2.2.2.1, h.1.2.2.2.2.2.1, h.2.1, h.1.2.2.1⟩
local macro_rules | `(tactic| walk_at "mine") => `(tactic| ((with_reducible show CM _ _); exact cm_deg ‹8 ≤ _› ‹_ ≤ 256›))
def threeD (d : D) : Bool := match d with | .lst [x, y, z] => plD 3 x && plD 3 y && plD 3 z | _ => false
theorem three_inv {d : D} (h : threeD d = true) : ∃ x y z, d = .lst [x, y, z] ∧ plD 3 x = true ∧ plD 3 y = true ∧ plD 3 z = true := by
  unfold threeD at h
  split at h
  · simp only [Bool.and_eq_true] at h
    exact ⟨_, _, _, rfl, h.1.1, h.1.2, h.2⟩
  · cases h
theorem w_three {c c' : Cell} {μ : Sto} {x y z : D} {QA : QD} (hc : StC c') (hx : plD 3 x = true) (hy : plD 3 y = true) (hz : plD 3 z = true) (q : ∀ (x y z : D) (c' : Cell), plD 3 x = true → plD 3 y = true → plD 3 z = true → StC c' → QA (.lst [x, y, z]) (c' :: μ)) : wQ (c :: μ) QA (.lst [x, y, z]) (c' :: μ) := by
  have h : ∀ d ∈ [x, y, z], plD 3 d = true := fun d hd => by
    simp only [List.mem_cons, List.not_mem_nil, or_false] at hd
    rcases hd with rfl | rfl | rfl <;> assumption
  have hlb := pl_lb (k := (c :: μ).length) 4 _ (pl_lst (Nat.le_of_ble_eq_true rfl : [x, y, z].length ≤ 30000) h)
  exact w_d0 (st_keeps hc) hlb.1 hlb.2 (q _ _ _ _ hx hy hz hc)
theorem pick_pl {n : Nat} {d : D} {es : List D} (h : d ∈ es) (ha : es.all (plD n) = true) : plD n d = true := List.all_eq_true.mp ha d h
theorem pick_three {d : D} {es : List D} (h : d ∈ es) (ha : es.all threeD = true) : ∃ x y z, d = .lst [x, y, z] ∧ plD 3 x = true ∧ plD 3 y = true ∧ plD 3 z = true := three_inv (List.all_eq_true.mp ha d h)
local macro_rules | `(tactic| walk_at "pl3") => `(tactic| first | rfl | (refine pick_pl (by assumption) ?_; first | rfl | (rw [List.all_cons, out_pl (by assumption)]; rfl)))
/-- three numbers beside a ring's -/
def fNearR : FD := fun ds μ Q _ => ∃ (n q r : Int) (c : Cell) (μ' : Sto), ds = [.loc 0, tripD n q r] ∧ IsR9 n q r ∧ μ = c :: μ' ∧ StC c ∧ AllLb μ' ∧ ∀ (x y z : D) (c' : Cell), plD 3 x = true → plD 3 y = true → plD 3 z = true → StC c' → Q (.lst [x, y, z]) (c' :: μ')
theorem sc__law_near : FnScope ["store", "numbers", "n", "q", "root", "kind", "row", "rows"] ["store", "numbers"] (defScope (top 64)) := ⟨rfl, rfl, rfl, by decide +kernel, rfl, by decide +kernel, by decide +kernel⟩
theorem ok__law_near (T : Tx K mg) : FnD P w K mg base 8 T.a__law_near T.fd__law_near ["store", "numbers"] fNearR := by
  refine fnD_frz _ T.F__law_near sc__law_near (fun cd A outer s H E B => (d_scons (d_set 2 B.nd (d_ix (d_var 1) d_int))
    (d_scons (d_set 3 B.nd (d_ix (d_var 1) d_int))
    (d_scons (d_set 4 B.nd (d_ix (d_var 1) d_int))
    (d_scons (d_set 5 B.nd (d_call B (ok__law_take T) (by decide) T.m__law_take T.k__law_take T.b__law_take (d_cons (d_var 0) (d_cons d_int d_nil))))
    (d_scons (d_sif (d_tcmp o_eq (d_var 5) d_int) (d_sone (d_ret (d_lst (d_cons (d_call B (ok__law_pick T) (by decide) T.m__law_pick T.k__law_pick T.b__law_pick (d_cons (d_var 0) (d_cons (d_lst (d_cons d_int (d_cons d_int (d_cons d_int (d_cons d_int (d_cons d_int (d_cons d_int (d_cons d_int (d_cons d_int (d_cons d_int (d_cons d_int (d_cons (d_un o_neg (d_var 2)) (d_cons (d_bin o_addU (d_var 2) d_int) (d_cons (d_bin o_mul d_int (d_var 2)) (d_cons (d_bin o_mul (d_var 2) (d_bin o_pow d_int d_int)) d_nil))))))))))))))) d_nil))) (d_cons (d_var 3) (d_cons (d_var 4) d_nil)))))) d_snil)
    (d_scons (d_sif (d_tcmp o_eq (d_var 5) d_int) (d_sone (d_ret (d_lst (d_cons (d_var 2) (d_cons (d_call B (ok__law_pick T) (by decide) T.m__law_pick T.k__law_pick T.b__law_pick (d_cons (d_var 0) (d_cons (d_lst (d_cons (d_call B (ok__law_beyond T) (by decide) T.m__law_beyond T.k__law_beyond T.b__law_beyond (d_cons (d_var 0) (d_cons d_int (d_cons d_int d_nil)))) (d_cons d_int (d_cons d_int (d_cons d_int (d_cons d_int (d_cons d_int (d_cons d_int (d_cons (d_bin o_addU (d_var 3) d_int) (d_cons (d_un o_neg (d_var 3)) d_nil)))))))))) d_nil))) (d_cons (d_var 4) d_nil)))))) d_snil)
    (d_scons (d_sif (d_tcmp o_eq (d_var 5) d_int) (d_sone (d_ret (d_lst (d_cons (d_var 2) (d_cons (d_call B (ok__law_pick T) (by decide) T.m__law_pick T.k__law_pick T.b__law_pick (d_cons (d_var 0) (d_cons (d_lst (d_cons (d_call B (ok__law_between T) (by decide) T.m__law_between T.k__law_between T.b__law_between (d_cons (d_var 0) (d_cons d_int (d_cons d_int d_nil)))) (d_cons (d_call B (ok__law_composite T) (by decide) T.m__law_composite T.k__law_composite T.b__law_composite (d_cons (d_var 0) d_nil)) d_nil))) d_nil))) (d_cons (d_var 4) d_nil)))))) d_snil)
    (d_scons (d_sif (d_tcmp o_eq (d_var 5) d_int) (d_sone (d_ret (d_lst (d_cons (d_var 2) (d_cons (d_var 3) (d_cons (d_call B (ok__law_pick T) (by decide) T.m__law_pick T.k__law_pick T.b__law_pick (d_cons (d_var 0) (d_cons (d_lst (d_cons (d_call B (ok__law_beyond T) (by decide) T.m__law_beyond T.k__law_beyond T.b__law_beyond (d_cons (d_var 0) (d_cons d_int (d_cons (d_bin o_sub (d_var 3) d_int) d_nil)))) (d_cons d_int (d_cons d_int (d_cons (d_bin o_sub (d_var 3) d_int) (d_cons (d_var 3) (d_cons (d_bin o_addU (d_var 4) (d_var 3)) (d_cons (d_bin o_sub (d_var 4) (d_var 3)) (d_cons (d_un o_neg (d_var 4)) d_nil))))))))) d_nil))) d_nil)))))) d_snil)
    (d_scons (d_sif (d_tcmp o_eq (d_var 5) d_int) (d_sone (d_ret (d_lst (d_cons (d_var 2) (d_cons (d_var 3) (d_cons (d_call B (ok__law_pick T) (by decide) T.m__law_pick T.k__law_pick T.b__law_pick (d_cons (d_var 0) (d_cons (d_lst (d_cons (d_call B (ok__law_between T) (by decide) T.m__law_between T.k__law_between T.b__law_between (d_cons (d_var 0) (d_cons d_int (d_cons (d_bin o_sub (d_var 3) d_int) d_nil)))) (d_cons (d_bin o_mod (d_ct c_int T.n_int (by decide +kernel) (d_cons (d_bin o_mul (d_var 4) (d_var 4)) d_nil)) (d_var 3)) (d_cons d_bl d_nil)))) d_nil))) d_nil)))))) d_snil)
    (d_scons (d_sif (d_tcmp o_eq (d_var 5) d_int) (d_scons (d_set 7 B.nd (d_lst (d_cons (d_lst (d_cons d_bl (d_cons (d_var 3) (d_cons (d_var 4) d_nil)))) (d_cons (d_lst (d_cons (d_var 2) (d_cons d_bl (d_cons (d_var 4) d_nil)))) (d_cons (d_lst (d_cons d_non (d_cons (d_var 3) (d_cons (d_var 4) d_nil)))) (d_cons (d_lst (d_cons (d_var 2) (d_cons d_str (d_cons (d_var 4) d_nil)))) (d_cons (d_lst (d_cons (d_var 2) (d_cons (d_var 3) (d_cons (d_lst (d_cons (d_var 4) d_nil)) d_nil)))) (d_cons (d_lst (d_cons (d_bin o_addU (d_var 2) d_int) (d_cons (d_bin o_addU (d_var 3) d_int) (d_cons d_int d_nil)))) d_nil))))))))
    (d_sone (d_ret (d_call B (ok__law_pick T) (by decide) T.m__law_pick T.k__law_pick T.b__law_pick (d_cons (d_var 0) (d_cons (d_bin o_addU (d_var 7) (d_lst (d_cons (d_lst (d_cons (d_var 2) (d_cons (d_bin o_addU (d_var 3) d_int) (d_cons d_non d_nil)))) (d_cons (d_lst (d_cons (d_bin o_mul d_int (d_var 2)) (d_cons (d_bin o_addU (d_var 3) d_int) (d_cons (d_var 4) d_nil)))) (d_cons (d_lst (d_cons (d_var 2) (d_cons d_non (d_cons d_non d_nil)))) d_nil))))) d_nil)))))) d_snil)
    (d_scons (d_sif (d_tcmp o_eq (d_var 5) d_int) (d_scons (d_set 2 B.nd (d_call B (ok__law_pick T) (by decide) T.m__law_pick T.k__law_pick T.b__law_pick (d_cons (d_var 0) (d_cons (d_lst (d_cons d_int (d_cons d_int (d_cons d_int (d_cons d_int (d_cons d_int (d_cons d_int (d_cons d_int d_nil)))))))) d_nil))))
    (d_scons (d_set 3 B.nd (d_call B (ok__law_prime_for T) (by decide) T.m__law_prime_for T.k__law_prime_for T.b__law_prime_for (d_cons (d_var 0) (d_cons (d_var 2) d_nil))))
    (d_sone (d_ret (d_lst (d_cons (d_bin o_div (d_var 2) d_int) (d_cons (d_var 3) (d_cons (d_call B (ok__law_root T) (by decide) T.m__law_root T.k__law_root T.b__law_root (d_cons (d_var 0) (d_cons (d_var 2) (d_cons (d_var 3) d_nil)))) d_nil)))))))) d_snil)
    (d_scons (d_set 6 B.nd (d_lstM (d_cons (d_var 2) (d_cons (d_var 3) (d_cons (d_var 4) d_nil)))))
    (d_scons (d_setIx (d_call B (ok__law_plain T 3) (by decide) T.m__law_plain T.k__law_plain T.b__law_plain (d_cons (d_var 0) (d_cons d_int d_nil))) (d_var 6) (d_call B (ok__law_take T) (by decide) T.m__law_take T.k__law_take T.b__law_take (d_cons (d_var 0) (d_cons d_int d_nil))))
    (d_sone (d_ret (d_var 6))))))))))))))))) ?_
  rintro ds μ QA XA hl ⟨n, q, r, c, μ', rfl, hR, rfl, hc, hlb, hQ⟩
  obtain ⟨b0, b1, b2, b3, b4, b5⟩ := isr9_b hR
  walk_at "all"
  all_goals first
    | exact w_three ‹StC _› (by walk_at "pl3") (by walk_at "pl3") (by walk_at "pl3") hQ
    | (obtain ⟨x, y, z, e, h1, h2, h3⟩ := pick_three (by assumption) rfl; subst e; exact w_three ‹StC _› h1 h2 h3 hQ)
    | skip
  refine ⟨_, _, rfl, rfl, ‹StC _›, lb_snoc hlb fun n => rfl, fun d c4 hd hc4 => ?_⟩
  walk_at "all"
  rename_i c0 e1 c5 hc5 i c6 hi0 hi1 hc6
  have hi : i < 3 := by omega
  have g : (c6 :: (μ' ++ [Cell.lst [D.v (.int n), .v (.int q), .v (.int r)]]))[μ'.length + 1]? = some (.lst [.v (.int n), .v (.int q), .v (.int r)]) := by
    rw [List.getElem?_cons_succ, List.getElem?_append_right (Nat.le_refl _), Nat.sub_self]
    rfl
  refine set_at g hi0 hi ?_
  have hp : ∀ x ∈ ([D.v (.int n), .v (.int q), .v (.int r)].set i.toNat d), plD 3 x = true := fun x hx => by
    rcases List.mem_or_eq_of_mem_set hx with hx | rfl
    · exact pick_pl hx rfl
    · exact hd
  have hlb := lbs_of (k := (c :: μ').length) fun x hx => pl_lb 3 x (hp x hx)
  have hset : (c6 :: (μ' ++ [Cell.lst [D.v (.int n), .v (.int q), .v (.int r)]])).set (μ'.length + 1) (.lst ([D.v (.int n), .v (.int q), .v (.int r)].set i.toNat d)) = (c6 :: μ') ++ [.lst ([D.v (.int n), .v (.int q), .v (.int r)].set i.toNat d)] := by
    rw [List.set_cons_succ, List.set_append_right _ _ (Nat.le_refl _), Nat.sub_self]
    rfl
  show wQ (c :: μ') QA (.loc (μ'.length + 1)) ((c6 :: (μ' ++ [Cell.lst [D.v (.int n), .v (.int q), .v (.int r)]])).set (μ'.length + 1) (.lst ([D.v (.int n), .v (.int q), .v (.int r)].set i.toNat d)))
  rw [hset]
  refine w_at rfl (show ((c6 :: μ') ++ [Cell.lst ([D.v (.int n), .v (.int q), .v (.int r)].set i.toNat d)])[(c6 :: μ').length]? = _ by rw [List.getElem?_append_right (Nat.le_refl _), Nat.sub_self]; rfl) (Nat.le_refl _) (st_keeps hc6) hlb.1 hlb.2 ?_
  obtain ⟨x, y, z, e⟩ : ∃ x y z, [D.v (.int n), .v (.int q), .v (.int r)].set i.toNat d = [x, y, z] := by
    rcases (show i.toNat = 0 ∨ i.toNat = 1 ∨ i.toNat = 2 by omega) with h | h | h <;> rw [h] <;> exact ⟨_, _, _, rfl⟩
  rw [e] at hp ⊢
  exact hQ _ _ _ _ (hp x (by simp)) (hp y (by simp)) (hp z (by simp)) hc6
end
end
set_option Elab.async false
set_option linter.all false
set_option maxRecDepth 100000
set_option maxHeartbeats 4000000
section
open PySem L2 DK

section
variable {P : Program} {w : World} {K : PySem.W.Frag} {mg : Str → Option Value} {base : Heap}
local macro_rules | `(tactic| walk_at "call") => `(tactic| ((with_reducible show fPrm _ _ _ _); refine ⟨_, rfl, by omega, ?_⟩))
def xs17 : List D := (List.range 510).map fun (k : Nat) => .v (.int (17 + (k : Int) * 8))
def pA (r : Int) (d : D) : Bool := match d with | .v (.int q) => decide (r < q) && decide ((r * r * r * r + 1) % q = 0) | _ => false
def pB (d : D) : Bool := match d with | .v (.int q) => prB q | _ => false
theorem rg17 : RgC 17 4096 8 510 := by unfold RgC; decide +kernel
theorem x17_get {n : Nat} {x : D} (h : xs17[n]? = some x) : n < 510 ∧ x = .v (.int (17 + (n : Int) * 8)) := by
  unfold xs17 at h
  rw [List.getElem?_map, Option.map_eq_some_iff] at h
  obtain ⟨j, hj, rfl⟩ := h
  obtain ⟨h1, h2⟩ := List.getElem?_eq_some_iff.mp hj
  rw [List.getElem_range] at h2
  rw [List.length_range] at h1
  exact ⟨h1, by rw [h2]⟩
theorem fil_snoc {xs : List D} {n : Nat} {x : D} {p : D → Bool} (h : xs[n]? = some x) : (xs.take (n + 1)).filter p = (xs.take n).filter p ++ (if p x = true then [x] else []) := by
  rw [List.take_succ, h, List.filter_append]
  show _ ++ List.filter p [x] = _
  congr 1
  cases hp : p x <;> simp [hp]
theorem pA_yes {r q : Int} (h1 : r < q) (h2 : (r * r * r * r + 1) % q = 0) : pA r (.v (.int q)) = true := by
  show (decide _ && decide _) = true
  rw [decide_eq_true h1, decide_eq_true h2]
  rfl
theorem pA_no {r q : Int} (h : ¬ r < q ∨ ¬ (r * r * r * r + 1) % q = 0) : ¬ pA r (.v (.int q)) = true := fun e => by
  have e : (decide (r < q) && decide ((r * r * r * r + 1) % q = 0)) = true := e
  rw [Bool.and_eq_true, decide_eq_true_eq, decide_eq_true_eq] at e
  rcases h with h | h
  · exact h e.1
  · exact h e.2
theorem pA_mem {r : Int} {x : D} (h : x ∈ xs17.filter (pA r)) : ∃ q : Int, x = .v (.int q) ∧ 17 ≤ q ∧ q ≤ 4095 ∧ (q - 1) % 8 = 0 ∧ r < q ∧ (r * r * r * r + 1) % q = 0 := by
  obtain ⟨h1, h2⟩ := List.mem_filter.mp h
  obtain ⟨n, hn⟩ := List.mem_iff_getElem?.mp h1
  obtain ⟨hn, rfl⟩ := x17_get hn
  have e : (decide (r < 17 + (n : Int) * 8) && decide ((r * r * r * r + 1) % (17 + (n : Int) * 8) = 0)) = true := h2
  rw [Bool.and_eq_true, decide_eq_true_eq, decide_eq_true_eq] at e
  exact ⟨_, rfl, by omega, by omega, by omega, e.1, e.2⟩
theorem x17_all : xs17.take 510 = xs17 := List.take_of_length_le (by decide)
theorem fin10 {z : Int} : z = 8 → 1 < ((xs17.filter (pA (2 + z))).filter pB).length := fun h => by
  subst h
  decide +kernel
theorem ro_ring {q r : Int} (h0 : 17 ≤ q) (h1 : q ≤ 4095) (h2 : (q - 1) % 8 = 0) (h3 : 1 ≤ r) (h4 : r < q) (hp : prB q = true) (h : (r * r * r * r + 1) % q = 0) : IsR 8 q r := by
  refine ⟨by decide, by omega, h1, hp, h3, by omega, ?_⟩
  show decide (r ^ (8 / 2 : Int).toNat % q = q - 1) = true
  refine decide_eq_true ?_
  rw [show r ^ (8 / 2 : Int).toNat = r * r * r * r by show r ^ 4 = _; rw [Int.pow_succ, Int.pow_succ, Int.pow_succ, Int.pow_succ, Int.pow_zero, Int.one_mul]]
  have e1 := Int.emod_nonneg (r * r * r * r) (show q ≠ 0 by omega)
  have e2 := Int.emod_lt_of_pos (r * r * r * r) (show 0 < q by omega)
  rw [Int.add_emod] at h
  generalize r * r * r * r % q = y at *
  rw [Int.emod_eq_of_lt (show (0 : Int) ≤ 1 by omega) (show (1 : Int) < q by omega)] at h
  by_cases z : y + 1 < q
  · rw [Int.emod_eq_of_lt (by omega) z] at h
    omega
  · omega
theorem pow_small {z : Int} (h0 : 0 ≤ z) (h1 : z < 59) : (0 ≤ (2 + z) * (2 + z) ∧ (2 + z) * (2 + z) ≤ 3600) ∧ (0 ≤ (2 + z) * (2 + z) * (2 + z) ∧ (2 + z) * (2 + z) * (2 + z) ≤ 216000) ∧ (0 ≤ (2 + z) * (2 + z) * (2 + z) * (2 + z) ∧ (2 + z) * (2 + z) * (2 + z) * (2 + z) ≤ 12960000) := by
  generalize h : 2 + z = r
  have a : 0 ≤ r := by omega
  have b : r ≤ 60 := by omega
  have a2 := Int.mul_nonneg a a
  have b2 : r * r ≤ 60 * 60 := Int.mul_le_mul b b a (by decide)
  have a3 := Int.mul_nonneg a2 a
  have b3 : r * r * r ≤ 60 * 60 * 60 := Int.mul_le_mul b2 b a (by decide)
  have a4 := Int.mul_nonneg a3 a
  have b4 : r * r * r * r ≤ 60 * 60 * 60 * 60 := Int.mul_le_mul b3 b a (by decide)
  exact ⟨⟨a2, by omega⟩, ⟨a3, by omega⟩, ⟨a4, by omega⟩⟩
/-- two rings of degree 8 with one root -/
def fRoT : FD := fun ds μ Q _ => ∃ (c : Cell) (μ' : Sto), ds = [.loc 0] ∧ μ = c :: μ' ∧ StC c ∧ AllLb μ' ∧ ∀ (q q2 r : Int) (c' : Cell), IsR9 8 q r → IsR9 8 q2 r → StC c' → Q (.lst [tripD 8 q r, tripD 8 q2 r]) (c' :: μ')
theorem sc__law_root_of_two : FnScope ["store", "start", "found", "root", "turn", "q"] ["store"] (defScope (top 65)) := ⟨rfl, rfl, rfl, by decide +kernel, rfl, by decide +kernel, by decide +kernel⟩
theorem ok__law_root_of_two (T : Tx K mg) : FnD P w K mg base 4 T.a__law_root_of_two T.fd__law_root_of_two ["store"] fRoT := by
  refine fnD _ T.F__law_root_of_two sc__law_root_of_two (fun cd A outer s H E B => (d_scons (d_set 1 B.nd (d_call B (ok__law_take T) (by decide) T.m__law_take T.k__law_take T.b__law_take (d_cons (d_var 0) (d_cons d_int d_nil))))
    (d_scons (d_set 2 B.nd (d_lst (d_cons d_int (d_cons d_int d_nil))))
    (d_scons (d_set 3 B.nd d_int)
    (d_scons (d_forR1 4 B T.n_range (d_cons d_int d_nil) (d_scons (d_set 3 B.nd (d_bin o_addU d_int (d_bin o_mod (d_ct c_int T.n_int (by decide +kernel) (d_cons (d_bin o_addU (d_var 1) (d_var 4)) d_nil)) d_int)))
    (d_scons (d_slcR3W 2 5 B T.n_range (d_cons d_int (d_cons d_int (d_cons d_int d_nil))) (fun _ _ _ _ _ => (d_ifs1 (d_tw (d_wand (d_tcmp o_gt (d_var 5) (d_var 3)) (d_wand1 (d_tcmp o_eq (d_bin o_mod (d_ct c_int T.n_int (by decide +kernel) (d_cons (d_bin o_addU (d_bin o_mul (d_bin o_mul (d_bin o_mul (d_var 3) (d_var 3)) (d_var 3)) (d_var 3)) d_int) d_nil)) (d_var 5)) d_int)))))) (fun _ _ _ _ _ B => (d_var 5)) (by show blkC ["store", "start", "found", "root", "turn", "q"] (defScope (top 65)) _ _ = true; decide +kernel) (fun _ _ _ _ _ => pg_name B.nd rfl (by first | exact Or.inl rfl | exact Or.inr rfl)))
    (d_scons (d_slcL 2 5 B (d_var 2) (fun s H C cl fp => (fun B => (d_ifs1 (d_tval (d_call B (ok__law_prime T) (by decide) T.m__law_prime T.k__law_prime T.b__law_prime (d_cons (d_var 5) d_nil))))) (B.blk s H _ _ fp)) (fun _ _ _ _ _ B => (d_var 5)) (by show blkC ["store", "start", "found", "root", "turn", "q"] (defScope (top 65)) _ _ = true; decide +kernel) (fun _ _ _ _ _ => pg_name B.nd rfl (by first | exact Or.inl rfl | exact Or.inr rfl)))
    (d_sone (d_sif (d_tcmp o_gt (d_cb (id := "len") c_len T.n_len (by decide +kernel) (d_cons (d_var 2) d_nil)) d_int) (d_sone d_break) d_snil))))))
    (d_sone (d_ret (d_lst (d_cons (d_tup (d_cons d_int (d_cons (d_ix (d_var 2) d_int) (d_cons (d_var 3) d_nil)))) (d_cons (d_tup (d_cons d_int (d_cons (d_ix (d_var 2) (d_bin o_sub (d_cb (id := "len") c_len T.n_len (by decide +kernel) (d_cons (d_var 2) d_nil)) d_int)) (d_cons (d_var 3) d_nil)))) d_nil)))))))))) ?_
  rintro ds μ QA XA hl ⟨c, μ', rfl, rfl, hc, hlb, hQ⟩
  walk_at "all"
  rename_i st c1 hs0 hs1 hc1
  refine inv_R [2, 3] (fun k vs m => m = c1 :: μ' ∧ (∃ f r, vs = [some f, some r]) ∧ ∀ j : Nat, j < k → (st + (0 + (j : Int))) % 59 ≠ 8) [_, _] _ rfl ⟨rfl, ⟨_, _, rfl⟩, fun j h => absurd h (Nat.not_lt_zero j)⟩ ?_ ?_
  · rintro k vs m hk ⟨rfl, ⟨f0, r0, rfl⟩, hall⟩
    have a0 := Int.emod_nonneg (st + (0 + (k : Int))) (show (59 : Int) ≠ 0 by omega)
    have a1 := Int.emod_lt_of_pos (st + (0 + (k : Int))) (show (0 : Int) < 59 by omega)
    have hall' : (st + (0 + (k : Int))) % 59 ≠ 8 → ∀ j : Nat, j < k + 1 → (st + (0 + (j : Int))) % 59 ≠ 8 := fun e j hj => by
      by_cases z : j = k
      · rw [z]; exact e
      · exact hall j (by omega)
    walk_at "all"
    refine ⟨510, rg17, ⟨Nat.le_of_ble_eq_true rfl, all_lb hc1 hlb⟩, fun n acc m => m = c1 :: μ' ∧ acc = (xs17.take n).filter (pA (2 + (st + (0 + (k : Int))) % 59)), ⟨rfl, rfl⟩, ?_, ?_⟩
    · rintro n acc x m hx hm ⟨rfl, rfl⟩
      obtain ⟨hn, rfl⟩ := x17_get hx
      obtain ⟨p2, p3, p4⟩ := pow_small (z := (st + (0 + (k : Int))) % 59) a0 a1
      walk_at "all"
      · rename_i e1 e2
        refine ⟨c1 :: μ', ⟨rfl, rfl⟩, all_lb hc1 hlb, ⟨rfl, rfl⟩, rfl, ?_⟩
        rw [fil_snoc (show xs17[n]? = _ from hx), if_pos (pA_yes e1 e2)]
      · rename_i e1 e2
        rw [fil_snoc (show xs17[n]? = _ from hx), if_neg (pA_no (.inr e2)), List.append_nil]
      · rename_i e1 e2
        rw [fil_snoc (show xs17[n]? = _ from hx), if_neg (pA_no (.inl e1)), List.append_nil]
    · rintro acc m ⟨rfl, rfl⟩
      have hpA : ∀ (i : Nat) (x : D), (xs17.filter (pA (2 + (st + (0 + (k : Int))) % 59)))[i]? = some x → ∃ q : Int, x = .v (.int q) ∧ 17 ≤ q ∧ q ≤ 4095 ∧ (q - 1) % 8 = 0 ∧ 2 + (st + (0 + (k : Int))) % 59 < q ∧ ((2 + (st + (0 + (k : Int))) % 59) * (2 + (st + (0 + (k : Int))) % 59) * (2 + (st + (0 + (k : Int))) % 59) * (2 + (st + (0 + (k : Int))) % 59) + 1) % q = 0 := fun i x h => pA_mem (List.mem_of_getElem? h)
      have hyl : (xs17.filter (pA (2 + (st + (0 + (k : Int))) % 59))).length ≤ 510 := Nat.le_trans (List.length_filter_le _ _) (by decide)
      have hfin := fin10 (z := (st + (0 + (k : Int))) % 59)
      rw [show ((List.map (fun (k : Nat) => D.v (.int (17 + (k : Int) * 8))) (List.range 510)).length) = 510 by rw [List.length_map, List.length_range], x17_all]
      generalize xs17.filter (pA (2 + (st + (0 + (k : Int))) % 59)) = ys at *
      generalize hr : 2 + (st + (0 + (k : Int))) % 59 = r at *
      refine ⟨by omega, fun k acc => acc = (ys.take k).filter pB, rfl, ?_, ?_⟩
      · rintro j acc x hx rfl
        obtain ⟨q, rfl, q0, q1, q2, q3, q4⟩ := hpA j x hx
        walk_at "all"
        · rename_i e
          show _ = (ys.take (j + 1)).filter pB
          rw [fil_snoc hx, if_pos (show pB (.v (.int q)) = true from e)]
        · rename_i e
          show _ = (ys.take (j + 1)).filter pB
          rw [fil_snoc hx, if_neg (show ¬ pB (.v (.int q)) = true by rw [show pB (.v (.int q)) = false from e]; exact Bool.noConfusion), List.append_nil]
      · rintro acc rfl
        rw [List.take_length] at *
        walk_at "all"
        · rename_i e
          have hg : ∀ d ∈ ys.filter pB, ∃ q : Int, d = .v (.int q) ∧ IsR9 8 q r := fun d hd => by
            obtain ⟨h1, h2⟩ := List.mem_filter.mp hd
            obtain ⟨i, hi⟩ := List.mem_iff_getElem?.mp h1
            obtain ⟨q, rfl, q0, q1, q2, q3, q4⟩ := hpA i d hi
            exact ⟨q, rfl, ro_ring q0 q1 q2 (by omega) q3 h2 q4, by omega, q2⟩
          generalize ys.filter pB = gs at *
          obtain ⟨d1, ea, ea'⟩ := atI_in (xs := gs) (i := 0) (by omega) (by omega)
          obtain ⟨d2, eb, eb'⟩ := atI_in (xs := gs) (i := (gs.length : Int) - 1) (by omega) (by omega)
          obtain ⟨qa, rfl, ha⟩ := hg d1 (List.mem_of_getElem? ea')
          obtain ⟨qb, rfl, hb⟩ := hg d2 (List.mem_of_getElem? eb')
          conv => whnf
          rw [ea]
          walk_at "all"
          conv => whnf
          rw [eb]
          walk_at "all"
          exact hQ _ _ _ _ ha hb hc1
        · rename_i e
          refine ⟨_, [_, _], rfl, rfl, ⟨_, _, rfl⟩, hall' fun h => ?_⟩
          exact e (by have := hfin h; omega)
  · rintro t vs m ⟨rfl, ⟨f0, r0, rfl⟩, hall⟩
    exfalso
    have := hall ((8 - st) % 59).toNat (by omega)
    omega
end
end
set_option Elab.async false
set_option linter.all false
set_option maxRecDepth 100000
set_option maxHeartbeats 4000000
section
open PySem L2 DK

section
variable {P : Program} {w : World} {K : PySem.W.Frag} {mg : Str → Option Value} {base : Heap}
local macro_rules | `(tactic| walk_at "call") => `(tactic| ((with_reducible show fSome _ _ _ _); refine ⟨_, _, _, rfl, rfl, by decide, by decide, rfl, ‹StC _›, fun n q r c' hR hc' => ?_⟩; obtain ⟨b0, b1, b2, b3, b4, b5⟩ := isr9_b hR))
local macro_rules | `(tactic| walk_at "call") => `(tactic| ((with_reducible show fRoT _ _ _ _); refine ⟨_, _, rfl, rfl, ‹StC _›, ‹AllLb _›, fun q q2 r c' hR hR2 hc' => ?_⟩; obtain ⟨b0, b1, b2, b3, b4, b5⟩ := isr9_b hR; obtain ⟨d0, d1, d2, d3, d4, d5⟩ := isr9_b hR2))
local macro_rules | `(tactic| walk_at "call") => `(tactic| ((with_reducible show fNearR _ _ _ _); refine ⟨_, _, _, _, _, rfl, by assumption, rfl, ‹StC _›, ‹AllLb _›, fun x y z c' hx hy hz hc' => ?_⟩))
def threeL (d : D) : Prop := ∃ x y z, d = .lst [x, y, z] ∧ plD 3 x = true ∧ plD 3 y = true ∧ plD 3 z = true
theorem three_pl {d : D} (h : threeL d) : plD 4 d = true := by
  obtain ⟨x, y, z, rfl, hx, hy, hz⟩ := h
  refine pl_lst (Nat.le_of_ble_eq_true rfl) fun d hd => ?_
  simp only [List.mem_cons, List.not_mem_nil, or_false] at hd
  rcases hd with rfl | rfl | rfl <;> assumption
theorem plain_go {c : Cell} {μ : Sto} {xs : List D} {Q : QD} {X : QX} (hc : StC c) (hlb : AllLb μ) (hx : ∀ d ∈ xs, threeL d) (h : ∀ (d : D) (c' : Cell), plD 3 d = true → StC c' → Q d (c' :: (μ ++ [.lst xs]))) : fPlain 3 [.loc 0, .v (.int 2)] (c :: (μ ++ [.lst xs])) Q X :=
  ⟨c, μ ++ [.lst xs], rfl, rfl, hc, lb_snoc hlb fun n => lst_lb fun d hd => three_pl (hx d hd), h⟩
local macro_rules | `(tactic| walk_at "threes") => `(tactic| ((try simp only [List.cons_append, List.nil_append, List.forall_mem_cons]); repeat' (first | (refine And.intro ⟨_, _, _, rfl, ?_, ?_, ?_⟩ ?_) | rfl | assumption | (intro x hx; cases hx; done))))
local macro_rules | `(tactic| walk_at "call") => `(tactic| ((with_reducible show fPlain 3 _ _ _ _); refine plain_go ‹StC _› ‹AllLb _› (by walk_at "threes") fun d c' hd hc => ?_))
theorem get_newc {c x : Cell} {μ : Sto} : (c :: (μ ++ [x]))[μ.length + 1]? = some x := by
  rw [List.getElem?_cons_succ, List.getElem?_append_right (Nat.le_refl _), Nat.sub_self]
  rfl
theorem isL_newc {c : Cell} {μ : Sto} {xs : List D} : isL (.loc (μ.length + 1)) (c :: (μ ++ [.lst xs])) = true := isL_at (es := xs) get_newc
theorem app_newc {c : Cell} {μ : Sto} {xs : List D} {d : D} {Q : Sto → Prop} (hl : xs.length ≤ 1000000) (h : Q (c :: (μ ++ [.lst (xs ++ [d])]))) : appIt (.loc (μ.length + 1)) d (c :: (μ ++ [.lst xs])) Q := by
  refine app_at get_newc hl ?_
  rw [List.set_cons_succ, List.set_append_right _ _ (Nat.le_refl _), Nat.sub_self]
  exact h
local macro_rules | `(tactic| walk_at "mine") => `(tactic| ((with_reducible show isL _ _ = true); exact isL_newc))
local macro_rules | `(tactic| walk_at "call") => `(tactic| ((with_reducible show appIt (D.loc _) _ _ _); refine app_newc (Nat.le_of_ble_eq_true rfl) ?_))
local macro_rules | `(tactic| walk_at "call") => `(tactic| ((with_reducible show fSl (D.loc _) _ _ _ _); refine sl_newc ?_))
/-- rows of three, the first a ring -/
def fTri : FD := fun ds μ Q _ => ∃ (c : Cell) (μ' : Sto), ds = [.loc 0] ∧ μ = c :: μ' ∧ StC c ∧ AllLb μ' ∧ ∀ (n q r : Int) (rs : List D) (c' : Cell), IsR9 n q r → rs.length = 8 → (∀ d ∈ rs, threeL d) → StC c' → Q (.lst (.lst [.v (.int n), .v (.int q), .v (.int r)] :: rs)) (c' :: μ')
theorem cut_tl {h : D} {ts : List D} (hl : ts.length = 8) : cutD (h :: ts) (some 1) none = ts := by
  unfold cutD
  rw [List.length_cons, hl]
  exact List.take_of_length_le (by rw [show List.drop (HT.sIx (8 + 1) 0 (some 1)) (h :: ts) = ts from rfl, hl]; decide)
theorem cut_hd {h : D} {ts : List D} (hl : ts.length = 8) : cutD (h :: ts) none (some 1) = [h] := by
  unfold cutD
  rw [List.length_cons, hl]
  rfl
theorem shuf_go {c c' : Cell} {μ : Sto} {xs ts : List D} {n q r : Int} {QA : QD} {XA : QX} {X : QX} (hx : xs = .lst [.v (.int n), .v (.int q), .v (.int r)] :: ts) (hR : IsR9 n q r) (hl : ts.length = 8) (ht : ∀ d ∈ ts, threeL d) (hc : StC c')
    (hQ : ∀ (n q r : Int) (rs : List D) (c' : Cell), IsR9 n q r → rs.length = 8 → (∀ d ∈ rs, threeL d) → StC c' → QA (.lst (.lst [.v (.int n), .v (.int q), .v (.int r)] :: rs)) (c' :: μ)) :
    fShufG [.loc 0, .lst (cutD xs (some 1) none)] (c' :: (μ ++ [.lst xs])) (fun y μ2 => fAddU (.lst (cutD xs none (some 1))) y μ2 (dEnds (wQ (c :: μ) QA) (wX (c :: μ) XA)).rt) X := by
  subst hx
  rw [cut_tl hl, cut_hd hl]
  refine ⟨ts, c', μ ++ [.lst (.lst [.v (.int n), .v (.int q), .v (.int r)] :: ts)], rfl, rfl, hc, by omega, fun d hd => three_pl (ht d hd), fun js c2 hp hc2 => ?_⟩
  have hj : js.length = 8 := hp.length_eq.trans hl
  have hall : ∀ d ∈ js, threeL d := fun d hd => ht d (hp.mem_iff.mp hd)
  have hpl : ∀ d ∈ (.lst [.v (.int n), .v (.int q), .v (.int r)] :: js), plD 4 d = true := fun d hd => by
    rcases List.mem_cons.mp hd with rfl | hd
    · rfl
    · exact three_pl (hall d hd)
  have hlb := lbs_of (k := (c :: μ).length) fun d hd => pl_lb 4 d (hpl d hd)
  show _ ∧ _
  refine ⟨?_, ?_⟩
  · rw [hj]
    exact Nat.le_of_ble_eq_true rfl
  · exact w_d (μc := c2 :: μ) (st_keeps hc2) hlb.1 hlb.2 (hQ n q r js c2 hR hj hall hc2)
theorem sc__law_triples : FnScope ["store", "degrees", "one", "other", "q", "rows", "pair"] ["store"] (defScope (top 66)) := ⟨rfl, rfl, rfl, by decide +kernel, rfl, by decide +kernel, by decide +kernel⟩
theorem ok__law_triples (T : Tx K mg) : FnD P w K mg base 9 T.a__law_triples T.fd__law_triples ["store"] fTri := by
  refine fnD_frz _ T.F__law_triples sc__law_triples (fun cd A outer s H E B => (d_scons (d_set 1 B.nd (d_lst (d_cons d_int (d_cons d_int (d_cons d_int (d_cons d_int (d_cons d_int (d_cons d_int (d_cons d_int (d_cons d_int (d_cons d_int (d_cons d_int (d_cons d_int (d_cons d_int (d_cons d_int (d_cons d_int d_nil))))))))))))))))
    (d_scons (d_set 2 B.nd (d_call B (ok__law_some_ring T) (by decide) T.m__law_some_ring T.k__law_some_ring T.b__law_some_ring (d_cons (d_var 0) (d_cons (d_var 1) d_nil))))
    (d_scons (d_set 3 B.nd (d_call B (ok__law_some_ring T) (by decide) T.m__law_some_ring T.k__law_some_ring T.b__law_some_ring (d_cons (d_var 0) (d_cons (d_var 1) d_nil))))
    (d_scons (d_sif (d_tcmp o_eq (d_call B (ok__law_take T) (by decide) T.m__law_take T.k__law_take T.b__law_take (d_cons (d_var 0) (d_cons d_int d_nil))) d_int) (d_scons (d_set 6 B.nd (d_call B (ok__law_root_of_two T) (by decide) T.m__law_root_of_two T.k__law_root_of_two T.b__law_root_of_two (d_cons (d_var 0) d_nil)))
    (d_scons (d_set 2 B.nd (d_ix (d_var 6) d_int))
    (d_sone (d_set 3 B.nd (d_ix (d_var 6) d_int))))) d_snil)
    (d_scons (d_set 4 B.nd (d_ix (d_var 2) d_int))
    (d_scons (d_set 5 B.nd (d_lst (d_cons (d_ct c_list T.n_list (by decide +kernel) (d_cons (d_var 2) d_nil)) (d_cons (d_ct c_list T.n_list (by decide +kernel) (d_cons (d_var 2) d_nil)) (d_cons (d_lst (d_cons (d_ix (d_var 2) d_int) (d_cons (d_var 4) (d_cons (d_bin o_sub (d_var 4) (d_ix (d_var 2) d_int)) d_nil)))) (d_cons (d_lst (d_cons (d_bin o_div (d_ix (d_var 2) d_int) d_int) (d_cons (d_var 4) (d_cons (d_bin o_mod (d_ct c_int T.n_int (by decide +kernel) (d_cons (d_bin o_mul (d_ix (d_var 2) d_int) (d_ix (d_var 2) d_int)) d_nil)) (d_var 4)) d_nil)))) (d_cons (d_ct c_list T.n_list (by decide +kernel) (d_cons (d_var 3) d_nil)) d_nil)))))))
    (d_scons (d_set 5 B.nd (d_bin o_addM (d_var 5) (d_lst (d_cons (d_call B (ok__law_near T) (by decide) T.m__law_near T.k__law_near T.b__law_near (d_cons (d_var 0) (d_cons (d_var 2) d_nil))) (d_cons (d_call B (ok__law_near T) (by decide) T.m__law_near T.k__law_near T.b__law_near (d_cons (d_var 0) (d_cons (d_var 3) d_nil))) (d_cons (d_call B (ok__law_near T) (by decide) T.m__law_near T.k__law_near T.b__law_near (d_cons (d_var 0) (d_cons (d_var 2) d_nil))) d_nil))))))
    (d_scons (d_expr (d_append (d_var 5) (d_lst (d_cons (d_call B (ok__law_plain T 3) (by decide) T.m__law_plain T.k__law_plain T.b__law_plain (d_cons (d_var 0) (d_cons d_int d_nil))) (d_cons (d_call B (ok__law_plain T 3) (by decide) T.m__law_plain T.k__law_plain T.b__law_plain (d_cons (d_var 0) (d_cons d_int d_nil))) (d_cons (d_call B (ok__law_plain T 3) (by decide) T.m__law_plain T.k__law_plain T.b__law_plain (d_cons (d_var 0) (d_cons d_int d_nil))) d_nil))))))
    (d_sone (d_ret (d_bin o_addU (d_slice (d_var 5) d_no (d_part d_int)) (d_call B (ok__law_shuffle T) (by decide) T.m__law_shuffle T.k__law_shuffle T.b__law_shuffle (d_cons (d_var 0) (d_cons (d_slice (d_var 5) (d_part d_int) d_no) d_nil))))))))))))))) ?_
  rintro ds μ QA XA hl ⟨c, μ', rfl, rfl, hc, hlb, hQ⟩
  walk_at "all"
  all_goals
    conv => whnf
    rw [get_newc]
    walk_at "all"
    conv => whnf
    rw [get_newc]
    walk_at "all"
  all_goals
    refine shuf_go (ts := [_, _, _, _, _, _, _, _]) rfl (by assumption) rfl (by walk_at "threes") (by assumption) hQ
end
end
set_option Elab.async false
set_option linter.all false
set_option maxRecDepth 100000
set_option maxHeartbeats 4000000
section
open PySem L2 DK

local macro_rules | `(tactic| walk_at "reflen") => `(tactic| ((conv => whnf); simp only [Tx.exm_BadLength ‹Tx _ _›]; refine And.intro rfl ⟨_, _, _, by first | exact .inl ⟨rfl, _, _, rfl, rfl, rfl, rfl⟩ | exact ⟨rfl, _, _, rfl, rfl, rfl, rfl⟩ | exact .inr (.inl ⟨rfl, _, _, rfl, rfl, rfl, rfl⟩) | exact .inr (⟨rfl, _, _, rfl, rfl, rfl, rfl⟩) | exact .inr (.inr (.inl ⟨rfl, _, _, rfl, rfl, rfl, rfl⟩)) | exact .inr (.inr (⟨rfl, _, _, rfl, rfl, rfl, rfl⟩)) | exact .inr (.inr (.inr (.inl ⟨rfl, _, _, rfl, rfl, rfl, rfl⟩))) | exact .inr (.inr (.inr (⟨rfl, _, _, rfl, rfl, rfl, rfl⟩))) | exact .inr (.inr (.inr (.inr (.inl ⟨rfl, _, _, rfl, rfl, rfl, rfl⟩)))) | exact .inr (.inr (.inr (.inr (⟨rfl, _, _, rfl, rfl, rfl, rfl⟩)))) | exact .inr (.inr (.inr (.inr (.inr (.inl ⟨rfl, _, _, rfl, rfl, rfl, rfl⟩))))) | exact .inr (.inr (.inr (.inr (.inr (⟨rfl, _, _, rfl, rfl, rfl, rfl⟩))))), rfl, ?_⟩; refine ⟨rfl, ?_⟩))
local macro_rules | `(tactic| walk_at "refitem") => `(tactic| ((conv => whnf); simp only [Tx.exm_BadItem ‹Tx _ _›]; refine And.intro rfl ⟨_, _, _, by first | exact .inl ⟨rfl, _, rfl, rfl, rfl⟩ | exact ⟨rfl, _, rfl, rfl, rfl⟩ | exact .inr (.inl ⟨rfl, _, rfl, rfl, rfl⟩) | exact .inr (⟨rfl, _, rfl, rfl, rfl⟩) | exact .inr (.inr (.inl ⟨rfl, _, rfl, rfl, rfl⟩)) | exact .inr (.inr (⟨rfl, _, rfl, rfl, rfl⟩)) | exact .inr (.inr (.inr (.inl ⟨rfl, _, rfl, rfl, rfl⟩))) | exact .inr (.inr (.inr (⟨rfl, _, rfl, rfl, rfl⟩))) | exact .inr (.inr (.inr (.inr (.inl ⟨rfl, _, rfl, rfl, rfl⟩)))) | exact .inr (.inr (.inr (.inr (⟨rfl, _, rfl, rfl, rfl⟩)))) | exact .inr (.inr (.inr (.inr (.inr (.inl ⟨rfl, _, rfl, rfl, rfl⟩))))) | exact .inr (.inr (.inr (.inr (.inr (⟨rfl, _, rfl, rfl, rfl⟩))))), rfl, ?_⟩; refine ⟨rfl, ?_⟩))
local macro_rules | `(tactic| walk_at "refout") => `(tactic| ((conv => whnf); simp only [Tx.exm_OutOfRange ‹Tx _ _›]; refine And.intro rfl ⟨_, _, _, by first | exact .inl ⟨rfl, _, rfl, rfl, rfl⟩ | exact ⟨rfl, _, rfl, rfl, rfl⟩ | exact .inr (.inl ⟨rfl, _, rfl, rfl, rfl⟩) | exact .inr (⟨rfl, _, rfl, rfl, rfl⟩) | exact .inr (.inr (.inl ⟨rfl, _, rfl, rfl, rfl⟩)) | exact .inr (.inr (⟨rfl, _, rfl, rfl, rfl⟩)) | exact .inr (.inr (.inr (.inl ⟨rfl, _, rfl, rfl, rfl⟩))) | exact .inr (.inr (.inr (⟨rfl, _, rfl, rfl, rfl⟩))) | exact .inr (.inr (.inr (.inr (.inl ⟨rfl, _, rfl, rfl, rfl⟩)))) | exact .inr (.inr (.inr (.inr (⟨rfl, _, rfl, rfl, rfl⟩)))) | exact .inr (.inr (.inr (.inr (.inr (.inl ⟨rfl, _, rfl, rfl, rfl⟩))))) | exact .inr (.inr (.inr (.inr (.inr (⟨rfl, _, rfl, rfl, rfl⟩))))), rfl, ?_⟩; refine ⟨rfl, ?_⟩))
section
variable {P : Program} {w : World} {K : PySem.W.Frag} {mg : Str → Option Value} {base : Heap}
abbrev refRing (s : Str) : D := .tup [.v (.str "refused"), .v (.str "BadRing"), .v (.str s)]
local macro_rules | `(tactic| walk_at "refring") => `(tactic| ((conv => whnf); simp only [Tx.exm_BadRing ‹Tx _ _›]; refine And.intro rfl ⟨_, _, _, .inr ⟨rfl, _, rfl, rfl, rfl⟩, rfl, ?_⟩; refine ⟨rfl, ?_⟩))
/-- a ring of three values, or what is told of the demand that they miss -/
def fMade (C : Addr) : FD := fun ds μ Q _ => ∃ x y z, ds = [.lst [x, y, z]] ∧ TyD x ∧ TyD y ∧ TyD z ∧ (∀ s : Str, rfD x y z = .v (.str s) → Q (refRing s) μ) ∧ ∀ n q v : Int, x = .v (.int n) → y = .v (.int q) → z = .v (.int v) → IsR n q v → Q (.tup [.v (.str "made"), ringD C n q v]) μ
theorem sc__law_made : FnScope ["values", "e"] ["values"] (defScope (top 67)) := ⟨rfl, rfl, rfl, by decide +kernel, rfl, by decide +kernel, by decide +kernel⟩
theorem ok__law_made (T : Tx K mg) : FnD P w K mg base 11 T.a__law_made T.fd__law_made ["values"] (fMade T.a_Ring) := by
  refine fnD _ T.F__law_made sc__law_made (fun cd A outer s H E B => (d_sone (d_tryRet 1 B (fun C => PySem.W.exmOne _ (.ref C) (.ref T.a_NoiseboundError)) ⟨rfl, by decide, Or.inl T.m_NoiseboundError⟩ (fun _ _ h => h) (fun _ _ _ B => (d_sone (d_ret (d_tup (d_cons d_str (d_cons (d_fzk (d_make B T.ck_Ring T.mk_Ring (ok_Ring___init__ T) (by decide) T.m_Ring T.b_Ring___init__ (d_cons (d_ix (d_var 0) d_int) (d_cons (d_ix (d_var 0) d_int) (d_cons (d_ix (d_var 0) d_int) d_nil))))) d_nil)))))) (fun _ _ _ _ _ z hf => (fun B => (d_sone (d_ret (d_callH B (ok__law_refused T) (by decide) T.m__law_refused T.k__law_refused T.b__law_refused (d_cons (d_var 1) d_nil))))) (bd_suite B z hf))))) ?_
  rintro ds μ QA XA hl ⟨x, y, z, rfl, hx, hy, hz, h1, h2⟩
  walk_at "all"
  refine new_ring hx hy hz (fun s hs => ?_) fun n q v e1 e2 e3 h => ?_
  · walk_at "refring"
    exact h1 s hs
  · walk_at "all"
    exact h2 n q v e1 e2 e3 h
/-- a ring looks as its numbers ask -/
def fLooks (C : Addr) : FD := fun ds μ Q _ => ∃ n q v : Int, ds = [ringD C n q v, .lst [.v (.int n), .v (.int q), .v (.int v)]] ∧ Q (.v (.bl true)) μ
theorem sc__law_looks : FnScope ["ring", "values", "q", "due"] ["ring", "values"] (defScope (top 68)) := ⟨rfl, rfl, rfl, by decide +kernel, rfl, by decide +kernel, by decide +kernel⟩
theorem ok__law_looks (T : Tx K mg) : FnD P w K mg base 6 T.a__law_looks T.fd__law_looks ["ring", "values"] (fLooks T.a_Ring) := by
  refine fnD _ T.F__law_looks sc__law_looks (fun cd A outer s H E B => (d_scons (d_sif (d_tnot (d_tval (d_cb (id := "isinstance") (c_isiB rfl T.ow_Ring) T.n_isinstance (by decide +kernel) (d_cons (d_var 0) (d_cons (d_globV (v := .ref _) T.m_Ring rfl) d_nil))))) (d_sone (d_ret d_bl)) d_snil)
    (d_scons (d_set 2 B.nd (d_ix (d_var 1) d_int))
    (d_scons (d_set 3 B.nd (d_tup (d_cons (d_ix (d_var 1) d_int) (d_cons (d_var 2) (d_cons (d_ix (d_var 1) d_int) (d_cons (d_bin o_div (d_bin o_addU (d_var 2) d_int) d_int) (d_cons (d_bin o_div (d_bin o_sub (d_var 2) d_int) d_int) (d_cons (d_tup (d_cons (d_ix (d_var 1) d_int) (d_cons (d_var 2) (d_cons (d_ix (d_var 1) d_int) d_nil)))) d_nil))))))))
    (d_sone (d_ret (d_call B (ok__law_same T 5) (by decide) T.m__law_same T.k__law_same T.b__law_same (d_cons (d_tup (d_cons (d_fld (d_var 0)) (d_cons (d_fld (d_var 0)) (d_cons (d_fld (d_var 0)) (d_cons (d_fld (d_var 0)) (d_cons (d_fld (d_var 0)) (d_cons (d_fld (d_var 0)) d_nil))))))) (d_cons (d_var 3) d_nil))))))))) ?_
  rintro ds μ QA XA hl ⟨n, q, v, rfl, hQ⟩
  refine And.intro rfl (Or.inl ⟨⟨_, _, rfl⟩, ?_⟩)
  walk_at "all"
  refine same_rfl (n := 4) rfl ?_
  walk_at "all"
  exact hQ
local macro_rules | `(tactic| walk_at "call") => `(tactic| ((with_reducible show (IsO _ _ ∧ _) ∧ _); refine And.intro ⟨⟨_, _, rfl⟩, .inr ‹NoO _ _›⟩ ⟨_, _, _, _, rfl, .inl ⟨‹NoO _ _›, _, rfl, ?_⟩⟩))
local macro_rules | `(tactic| walk_at "call") => `(tactic| ((with_reducible show fSame 5 _ _ _ _); refine same_ok (n := 4) rfl rfl rfl ?_))
/-- a ring is like no other thing -/
def fUnl (C : Addr) : FD := fun ds μ Q _ => ∃ (n q v : Int) (x y z : D), ds = [ringD C n q v, .lst [.v (.int n), .v (.int q), .v (.int v)], .lst [x, y, z]] ∧ Q (.v (.bl true)) μ
theorem sc__law_unlike : FnScope ["ring", "values", "bad", "thing"] ["ring", "values", "bad"] (defScope (top 70)) := ⟨rfl, rfl, rfl, by decide +kernel, rfl, by decide +kernel, by decide +kernel⟩
theorem ok__law_unlike (T : Tx K mg) : FnD P w K mg base 6 T.a__law_unlike T.fd__law_unlike ["ring", "values", "bad"] (fUnl T.a_Ring) := by
  refine fnD _ T.F__law_unlike sc__law_unlike (fun cd A outer s H E B => (d_scons (d_forL 3 B (d_lst (d_cons (d_ct c_tuple T.n_tuple (by decide +kernel) (d_cons (d_var 1) d_nil)) (d_cons (d_ct c_list T.n_list (by decide +kernel) (d_cons (d_var 1) d_nil)) (d_cons (d_ix (d_var 1) d_int) (d_cons (d_ix (d_var 1) d_int) (d_cons d_str (d_cons d_non (d_cons d_bl (d_cons (d_var 2) d_nil))))))))) (d_sone (d_sif (d_tw (d_wor (d_tnot (d_tval (d_call B (ok__law_same T 5) (by decide) T.m__law_same T.k__law_same T.b__law_same (d_cons (d_cmp (o_eqO B T.ow_Ring (ok_Ring___eq__ T) (by decide) rfl T.oe_Ring T.b_Ring___eq__) (d_var 0) (d_var 3)) (d_cons d_bl d_nil))))) (d_wor1 (d_tnot (d_tval (d_call B (ok__law_same T 5) (by decide) T.m__law_same T.k__law_same T.b__law_same (d_cons (d_cmp (o_neO B T.ow_Ring (ok_Ring___eq__ T) (by decide) rfl T.oe_Ring T.b_Ring___eq__) (d_var 0) (d_var 3)) (d_cons d_bl d_nil)))))))) (d_sone (d_ret d_bl)) d_snil)))
    (d_sone (d_ret d_bl)))) ?_
  rintro ds μ QA XA hl ⟨n, q, v, x, y, z, rfl, hQ⟩
  walk_at "all"
  refine ⟨_, .inl rfl, fun k ρ m => m = μ ∧ ∃ t, ρ = [some (ringD T.a_Ring n q v), some (.lst [.v (.int n), .v (.int q), .v (.int v)]), some (.lst [x, y, z]), t], ⟨rfl, _, rfl⟩, ?_, ?_⟩
  · rintro k ρ' m d hd ⟨rfl, t, rfl⟩
    have hN : NoO [] d := by
      have hm := List.mem_of_getElem? hd
      simp only [List.mem_cons, List.not_mem_nil, or_false] at hm
      rcases hm with rfl | rfl | rfl | rfl | rfl | rfl | rfl | rfl <;> exact .inl ⟨_, rfl, by decide⟩
    walk_at "all"
    exact ⟨_, rfl⟩
  · rintro ρ' m ⟨rfl, t, rfl⟩
    walk_at "all"
    exact hQ
end
end
set_option Elab.async false
set_option linter.all false
set_option maxRecDepth 100000
set_option maxHeartbeats 4000000
section
open PySem L2 DK

local macro_rules | `(tactic| walk_at "reflen") => `(tactic| ((conv => whnf); simp only [Tx.exm_BadLength ‹Tx _ _›]; refine And.intro rfl ⟨_, _, _, by first | exact .inl ⟨rfl, _, _, rfl, rfl, rfl, rfl⟩ | exact ⟨rfl, _, _, rfl, rfl, rfl, rfl⟩ | exact .inr (.inl ⟨rfl, _, _, rfl, rfl, rfl, rfl⟩) | exact .inr (⟨rfl, _, _, rfl, rfl, rfl, rfl⟩) | exact .inr (.inr (.inl ⟨rfl, _, _, rfl, rfl, rfl, rfl⟩)) | exact .inr (.inr (⟨rfl, _, _, rfl, rfl, rfl, rfl⟩)) | exact .inr (.inr (.inr (.inl ⟨rfl, _, _, rfl, rfl, rfl, rfl⟩))) | exact .inr (.inr (.inr (⟨rfl, _, _, rfl, rfl, rfl, rfl⟩))) | exact .inr (.inr (.inr (.inr (.inl ⟨rfl, _, _, rfl, rfl, rfl, rfl⟩)))) | exact .inr (.inr (.inr (.inr (⟨rfl, _, _, rfl, rfl, rfl, rfl⟩)))) | exact .inr (.inr (.inr (.inr (.inr (.inl ⟨rfl, _, _, rfl, rfl, rfl, rfl⟩))))) | exact .inr (.inr (.inr (.inr (.inr (⟨rfl, _, _, rfl, rfl, rfl, rfl⟩))))), rfl, ?_⟩; refine ⟨rfl, ?_⟩))
local macro_rules | `(tactic| walk_at "refitem") => `(tactic| ((conv => whnf); simp only [Tx.exm_BadItem ‹Tx _ _›]; refine And.intro rfl ⟨_, _, _, by first | exact .inl ⟨rfl, _, rfl, rfl, rfl⟩ | exact ⟨rfl, _, rfl, rfl, rfl⟩ | exact .inr (.inl ⟨rfl, _, rfl, rfl, rfl⟩) | exact .inr (⟨rfl, _, rfl, rfl, rfl⟩) | exact .inr (.inr (.inl ⟨rfl, _, rfl, rfl, rfl⟩)) | exact .inr (.inr (⟨rfl, _, rfl, rfl, rfl⟩)) | exact .inr (.inr (.inr (.inl ⟨rfl, _, rfl, rfl, rfl⟩))) | exact .inr (.inr (.inr (⟨rfl, _, rfl, rfl, rfl⟩))) | exact .inr (.inr (.inr (.inr (.inl ⟨rfl, _, rfl, rfl, rfl⟩)))) | exact .inr (.inr (.inr (.inr (⟨rfl, _, rfl, rfl, rfl⟩)))) | exact .inr (.inr (.inr (.inr (.inr (.inl ⟨rfl, _, rfl, rfl, rfl⟩))))) | exact .inr (.inr (.inr (.inr (.inr (⟨rfl, _, rfl, rfl, rfl⟩))))), rfl, ?_⟩; refine ⟨rfl, ?_⟩))
local macro_rules | `(tactic| walk_at "refout") => `(tactic| ((conv => whnf); simp only [Tx.exm_OutOfRange ‹Tx _ _›]; refine And.intro rfl ⟨_, _, _, by first | exact .inl ⟨rfl, _, rfl, rfl, rfl⟩ | exact ⟨rfl, _, rfl, rfl, rfl⟩ | exact .inr (.inl ⟨rfl, _, rfl, rfl, rfl⟩) | exact .inr (⟨rfl, _, rfl, rfl, rfl⟩) | exact .inr (.inr (.inl ⟨rfl, _, rfl, rfl, rfl⟩)) | exact .inr (.inr (⟨rfl, _, rfl, rfl, rfl⟩)) | exact .inr (.inr (.inr (.inl ⟨rfl, _, rfl, rfl, rfl⟩))) | exact .inr (.inr (.inr (⟨rfl, _, rfl, rfl, rfl⟩))) | exact .inr (.inr (.inr (.inr (.inl ⟨rfl, _, rfl, rfl, rfl⟩)))) | exact .inr (.inr (.inr (.inr (⟨rfl, _, rfl, rfl, rfl⟩)))) | exact .inr (.inr (.inr (.inr (.inr (.inl ⟨rfl, _, rfl, rfl, rfl⟩))))) | exact .inr (.inr (.inr (.inr (.inr (⟨rfl, _, rfl, rfl, rfl⟩))))), rfl, ?_⟩; refine ⟨rfl, ?_⟩))
section
variable {P : Program} {w : World} {K : PySem.W.Frag} {mg : Str → Option Value} {base : Heap}
/-- rings, and their numbers -/
abbrev Tri := Int × Int × Int
def rgD (C : Addr) (l : List Tri) : List D := l.map fun p => ringD C p.1 p.2.1 p.2.2
def nuD (l : List Tri) : List D := l.map fun p => .lst [.v (.int p.1), .v (.int p.2.1), .v (.int p.2.2)]
theorem rgD_get {C : Addr} {l : List Tri} {k : Nat} {p : Tri} (h : l[k]? = some p) : (rgD C l)[k]? = some (ringD C p.1 p.2.1 p.2.2) := by
  unfold rgD
  rw [List.getElem?_map, h]
  rfl
theorem nuD_get {l : List Tri} {k : Nat} {p : Tri} (h : l[k]? = some p) : (nuD l)[k]? = some (.lst [.v (.int p.1), .v (.int p.2.1), .v (.int p.2.2)]) := by
  unfold nuD
  rw [List.getElem?_map, h]
  rfl
theorem rgD_len {C : Addr} {l : List Tri} : (rgD C l).length = l.length := List.length_map ..
theorem nuD_len {l : List Tri} : (nuD l).length = l.length := List.length_map ..
theorem at_nat {ds : List D} {k : Nat} {d : D} (h : ds[k]? = some d) : atI ds (0 + (k : Int)) = some d := atI_nat (by omega) (by rw [show (0 + (k : Int)).toNat = k by omega]; exact h)
theorem same_bl {x y : Bool} {μ : Sto} {Q : QD} {X : QX} (h : x = y) (q : Q (.v (.bl true)) μ) : fSame 5 [.v (.bl x), .v (.bl y)] μ Q X := by
  subst h
  exact same_rfl (n := 4) (by cases x <;> rfl) q
theorem ne_f (b : Bool) : (b != false) = b := by cases b <;> rfl
theorem ne_t (b : Bool) : (b != true) = !b := by cases b <;> rfl
theorem dec3 {a b c d e f : Int} : decide ([a, b, c] = [d, e, f]) = decide (a = d ∧ b = e ∧ c = f) := by simp
local macro_rules | `(tactic| walk_at "call") => `(tactic| ((with_reducible show (IsO _ _ ∧ _) ∧ _); refine And.intro ⟨⟨_, _, rfl⟩, .inl ⟨_, _, rfl⟩⟩ ⟨_, _, _, _, rfl, .inr ⟨_, _, _, rfl, _, rfl, ?_⟩⟩))
local macro_rules | `(tactic| walk_at "call") => `(tactic| ((with_reducible show fSame 5 _ _ _ _); refine same_bl (by first | exact (ne_f _).trans dec3.symm | exact (ne_t _).trans (congrArg Bool.not dec3.symm)) ?_))
def fEqs (C : Addr) : FD := fun ds μ Q _ => ∃ (i j : Nat) (l : List Tri), ds = [.loc i, .loc j] ∧ l.length ≤ 100 ∧ μ[i]? = some (.lst (rgD C l)) ∧ μ[j]? = some (.lst (nuD l)) ∧ Q (.v (.bl true)) μ
theorem sc__law_equals : FnScope ["rings", "numbers", "at", "place", "alike"] ["rings", "numbers"] (defScope (top 69)) := ⟨rfl, rfl, rfl, by decide +kernel, rfl, by decide +kernel, by decide +kernel⟩
theorem ok__law_equals (T : Tx K mg) : FnD P w K mg base 6 T.a__law_equals T.fd__law_equals ["rings", "numbers"] (fEqs T.a_Ring) := by
  refine fnD _ T.F__law_equals sc__law_equals (fun cd A outer s H E B => (d_scons (d_forR1 2 B T.n_range (d_cons (d_cb (id := "len") c_len T.n_len (by decide +kernel) (d_cons (d_var 0) d_nil)) d_nil) (d_sone (d_forR1 3 B T.n_range (d_cons (d_cb (id := "len") c_len T.n_len (by decide +kernel) (d_cons (d_var 0) d_nil)) d_nil) (d_scons (d_set 4 B.nd (d_cmp (o_eqU B) (d_ixV (d_var 1) (d_var 2)) (d_ixV (d_var 1) (d_var 3))))
    (d_scons (d_sif (d_tnot (d_tval (d_call B (ok__law_same T 5) (by decide) T.m__law_same T.k__law_same T.b__law_same (d_cons (d_cmp (o_eqO B T.ow_Ring (ok_Ring___eq__ T) (by decide) rfl T.oe_Ring T.b_Ring___eq__) (d_ixV (d_var 0) (d_var 2)) (d_ixV (d_var 0) (d_var 3))) (d_cons (d_var 4) d_nil))))) (d_sone (d_ret d_bl)) d_snil)
    (d_sone (d_sif (d_tnot (d_tval (d_call B (ok__law_same T 5) (by decide) T.m__law_same T.k__law_same T.b__law_same (d_cons (d_cmp (o_neO B T.ow_Ring (ok_Ring___eq__ T) (by decide) rfl T.oe_Ring T.b_Ring___eq__) (d_ixV (d_var 0) (d_var 2)) (d_ixV (d_var 0) (d_var 3))) (d_cons (d_not (d_var 4)) d_nil))))) (d_sone (d_ret d_bl)) d_snil)))))))
    (d_sone (d_ret d_bl)))) ?_
  rintro ds μ QA XA hl ⟨i, j, l, rfl, hle, hi, hj, hQ⟩
  have ti := ty_at hi
  have ii := it_at hi
  have ij := it_at hj
  have lr : (rgD T.a_Ring l).length = l.length := rgD_len
  have ln : (nuD l).length = l.length := nuD_len
  walk_at "all"
  refine inv_R [3, 4] (fun k vs m => m = μ ∧ ∃ a b, vs = [a, b]) [_, _] _ rfl ⟨rfl, _, _, rfl⟩ ?_ ?_
  · rintro k vs m hk ⟨rfl, a, b, rfl⟩
    obtain ⟨p, hp⟩ : ∃ p, l[k]? = some p := ⟨l[k]'(by omega), List.getElem?_eq_getElem (by omega)⟩
    walk_at "all"
    refine inv_R [4] (fun k vs m' => m' = m ∧ ∃ b, vs = [b]) [_] _ rfl ⟨rfl, _, rfl⟩ ?_ ?_
    · rintro k2 vs m' hk2 ⟨rfl, b, rfl⟩
      obtain ⟨p2, hp2⟩ : ∃ p, l[k2]? = some p := ⟨l[k2]'(by omega), List.getElem?_eq_getElem (by omega)⟩
      have an := at_nat (nuD_get hp)
      have an2 := at_nat (nuD_get hp2)
      have ar := at_nat (rgD_get (C := T.a_Ring) hp)
      have ar2 := at_nat (rgD_get (C := T.a_Ring) hp2)
      walk_at "all"
      refine Exists.intro _ (And.intro an ?_)
      walk_at "all"
      refine Exists.intro _ (And.intro an2 ?_)
      walk_at "all"
      refine eqU_int0 (a := [p.1, p.2.1, p.2.2]) (b := [p2.1, p2.2.1, p2.2.2]) ?_
      walk_at "all"
      refine Exists.intro _ (And.intro ar ?_)
      walk_at "all"
      refine Exists.intro _ (And.intro ar2 ?_)
      walk_at "all"
      refine Exists.intro _ (And.intro ar ?_)
      walk_at "all"
      refine Exists.intro _ (And.intro ar2 ?_)
      walk_at "all"
      exact ⟨_, [_], rfl, rfl, _, rfl⟩
    · rintro t vs m' ⟨rfl, b, rfl⟩
      exact ⟨_, [_, _], rfl, rfl, _, _, rfl⟩
  · rintro t vs m ⟨rfl, a, b, rfl⟩
    walk_at "all"
    exact hQ
end
end
set_option Elab.async false
set_option linter.all false
set_option maxRecDepth 100000
set_option maxHeartbeats 4000000
section
open PySem L2 DK

section
variable {P : Program} {w : World} {K : PySem.W.Frag} {mg : Str → Option Value} {base : Heap}
def fCopy : Nat → FD
  | 0 => fun _ _ _ _ => False
  | n + 1 => fun ds μ Q _ => ∃ d, ds = [d] ∧ plD (n + 1) d = true ∧ Q d μ
theorem sc__law_copy : FnScope ["thing", "item"] ["thing"] (defScope (top 53)) := ⟨rfl, rfl, rfl, by decide +kernel, rfl, by decide +kernel, by decide +kernel⟩
theorem ok__law_copy (T : Tx K mg) (n : Nat) : FnD P w K mg base n T.a__law_copy T.fd__law_copy ["thing"] (fCopy n) := by
  induction n with
  | zero => exact fnD_no (fun _ _ _ _ h => h)
  | succ n ih =>
    refine fnD _ T.F__law_copy sc__law_copy (fun cd A outer s H E B => (d_scons (d_sif (d_tval (d_cb (id := "isinstance") c_isi T.n_isinstance (by decide +kernel) (d_cons (d_var 0) (d_cons (d_ty (T := "list") T.n_list (by decide +kernel)) d_nil)))) (d_sone (d_ret (d_lcL 1 B (d_var 0) (fun _ _ _ _ _ => d_ifs0) (fun _ _ _ _ _ B => (d_call B ih (Nat.le_refl n) T.m__law_copy T.k__law_copy T.b__law_copy (d_cons (d_var 1) d_nil))) (by show blkC ["thing", "item"] (defScope (top 53)) _ _ = true; decide +kernel) (fun _ _ _ _ _ => pg_name B.nd rfl (by first | exact Or.inl rfl | exact Or.inr rfl))))) d_snil)
    (d_scons (d_sif (d_tval (d_cb (id := "isinstance") c_isi T.n_isinstance (by decide +kernel) (d_cons (d_var 0) (d_cons (d_ty (T := "tuple") T.n_tuple (by decide +kernel)) d_nil)))) (d_sone (d_ret (d_ct c_tuple T.n_tuple (by decide +kernel) (d_cons (d_lcT 1 B (d_var 0) (fun _ _ _ _ _ => d_ifs0) (fun _ _ _ _ _ B => (d_call B ih (Nat.le_refl n) T.m__law_copy T.k__law_copy T.b__law_copy (d_cons (d_var 1) d_nil))) (by show blkC ["thing", "item"] (defScope (top 53)) _ _ = true; decide +kernel) (fun _ _ _ _ _ => pg_name B.nd rfl (by first | exact Or.inl rfl | exact Or.inr rfl))) d_nil)))) d_snil)
    (d_sone (d_ret (d_var 0)))))) ?_
    rintro ds μ QA XA hl ⟨d, rfl, hp, hQ⟩
    cases d with
    | v x => cases x <;> first | (cases hp; done) | (walk_at "all"; exact hQ)
    | lst es =>
      obtain ⟨h1, h2⟩ := Bool.and_eq_true_iff.mp (show (decide (es.length ≤ 30000) && es.all (plD n)) = true from hp)
      have h1 := of_decide_eq_true h1
      walk_at "all"
      refine ⟨by omega, fun k acc => acc = es.take k, rfl, ?_, ?_⟩
      · rintro k acc x hx rfl
        have hxp := List.all_eq_true.mp h2 x (List.mem_of_getElem? hx)
        cases n with
        | zero => exact Bool.noConfusion hxp
        | succ m =>
          refine And.intro rfl (And.intro (fun _ => ?_) (fun e => Bool.noConfusion e))
          refine And.intro rfl ⟨x, rfl, hxp, ?_⟩
          refine ⟨rfl, (pl_lb _ _ hxp).symm, ?_⟩
          show List.take k es ++ [x] = List.take (k + 1) es
          rw [List.take_succ, hx]
          rfl
      · rintro acc rfl
        rw [List.take_length]
        exact hQ
    | tup es =>
      obtain ⟨h1, h2⟩ := Bool.and_eq_true_iff.mp (show (decide (es.length ≤ 30000) && es.all (plD n)) = true from hp)
      have h1 := of_decide_eq_true h1
      walk_at "all"
      refine ⟨by omega, fun k acc => acc = es.take k, rfl, ?_, ?_⟩
      · rintro k acc x hx rfl
        have hxp := List.all_eq_true.mp h2 x (List.mem_of_getElem? hx)
        cases n with
        | zero => exact Bool.noConfusion hxp
        | succ m =>
          refine And.intro rfl (And.intro (fun _ => ?_) (fun e => Bool.noConfusion e))
          refine And.intro rfl ⟨x, rfl, hxp, ?_⟩
          refine ⟨rfl, (pl_lb _ _ hxp).symm, ?_⟩
          show List.take k es ++ [x] = List.take (k + 1) es
          rw [List.take_succ, hx]
          rfl
      · rintro acc rfl
        rw [List.take_length]
        exact hQ
    | _ => cases hp
end
end
set_option Elab.async false
set_option linter.all false
set_option maxRecDepth 100000
set_option maxHeartbeats 4000000
section
open PySem L2 DK

local macro_rules | `(tactic| walk_at "reflen") => `(tactic| ((conv => whnf); simp only [Tx.exm_BadLength ‹Tx _ _›]; refine And.intro rfl ⟨_, _, _, by first | exact .inl ⟨rfl, _, _, rfl, rfl, rfl, rfl⟩ | exact ⟨rfl, _, _, rfl, rfl, rfl, rfl⟩ | exact .inr (.inl ⟨rfl, _, _, rfl, rfl, rfl, rfl⟩) | exact .inr (⟨rfl, _, _, rfl, rfl, rfl, rfl⟩) | exact .inr (.inr (.inl ⟨rfl, _, _, rfl, rfl, rfl, rfl⟩)) | exact .inr (.inr (⟨rfl, _, _, rfl, rfl, rfl, rfl⟩)) | exact .inr (.inr (.inr (.inl ⟨rfl, _, _, rfl, rfl, rfl, rfl⟩))) | exact .inr (.inr (.inr (⟨rfl, _, _, rfl, rfl, rfl, rfl⟩))) | exact .inr (.inr (.inr (.inr (.inl ⟨rfl, _, _, rfl, rfl, rfl, rfl⟩)))) | exact .inr (.inr (.inr (.inr (⟨rfl, _, _, rfl, rfl, rfl, rfl⟩)))) | exact .inr (.inr (.inr (.inr (.inr (.inl ⟨rfl, _, _, rfl, rfl, rfl, rfl⟩))))) | exact .inr (.inr (.inr (.inr (.inr (⟨rfl, _, _, rfl, rfl, rfl, rfl⟩))))), rfl, ?_⟩; refine ⟨rfl, ?_⟩))
local macro_rules | `(tactic| walk_at "refitem") => `(tactic| ((conv => whnf); simp only [Tx.exm_BadItem ‹Tx _ _›]; refine And.intro rfl ⟨_, _, _, by first | exact .inl ⟨rfl, _, rfl, rfl, rfl⟩ | exact ⟨rfl, _, rfl, rfl, rfl⟩ | exact .inr (.inl ⟨rfl, _, rfl, rfl, rfl⟩) | exact .inr (⟨rfl, _, rfl, rfl, rfl⟩) | exact .inr (.inr (.inl ⟨rfl, _, rfl, rfl, rfl⟩)) | exact .inr (.inr (⟨rfl, _, rfl, rfl, rfl⟩)) | exact .inr (.inr (.inr (.inl ⟨rfl, _, rfl, rfl, rfl⟩))) | exact .inr (.inr (.inr (⟨rfl, _, rfl, rfl, rfl⟩))) | exact .inr (.inr (.inr (.inr (.inl ⟨rfl, _, rfl, rfl, rfl⟩)))) | exact .inr (.inr (.inr (.inr (⟨rfl, _, rfl, rfl, rfl⟩)))) | exact .inr (.inr (.inr (.inr (.inr (.inl ⟨rfl, _, rfl, rfl, rfl⟩))))) | exact .inr (.inr (.inr (.inr (.inr (⟨rfl, _, rfl, rfl, rfl⟩))))), rfl, ?_⟩; refine ⟨rfl, ?_⟩))
local macro_rules | `(tactic| walk_at "refout") => `(tactic| ((conv => whnf); simp only [Tx.exm_OutOfRange ‹Tx _ _›]; refine And.intro rfl ⟨_, _, _, by first | exact .inl ⟨rfl, _, rfl, rfl, rfl⟩ | exact ⟨rfl, _, rfl, rfl, rfl⟩ | exact .inr (.inl ⟨rfl, _, rfl, rfl, rfl⟩) | exact .inr (⟨rfl, _, rfl, rfl, rfl⟩) | exact .inr (.inr (.inl ⟨rfl, _, rfl, rfl, rfl⟩)) | exact .inr (.inr (⟨rfl, _, rfl, rfl, rfl⟩)) | exact .inr (.inr (.inr (.inl ⟨rfl, _, rfl, rfl, rfl⟩))) | exact .inr (.inr (.inr (⟨rfl, _, rfl, rfl, rfl⟩))) | exact .inr (.inr (.inr (.inr (.inl ⟨rfl, _, rfl, rfl, rfl⟩)))) | exact .inr (.inr (.inr (.inr (⟨rfl, _, rfl, rfl, rfl⟩)))) | exact .inr (.inr (.inr (.inr (.inr (.inl ⟨rfl, _, rfl, rfl, rfl⟩))))) | exact .inr (.inr (.inr (.inr (.inr (⟨rfl, _, rfl, rfl, rfl⟩))))), rfl, ?_⟩; refine ⟨rfl, ?_⟩))
section
variable {P : Program} {w : World} {K : PySem.W.Frag} {mg : Str → Option Value} {base : Heap}
theorem ty_pl : ∀ {n : Nat} {d : D}, plD n d = true → TyD d
  | 0, _, h => Bool.noConfusion h
  | n + 1, d, h => by
    cases d with
    | v x => cases x <;> first | (cases h; done) | exact ⟨_, rfl⟩
    | lst es => exact ⟨_, rfl⟩
    | tup es => exact ⟨_, rfl⟩
    | _ => cases h
local macro_rules | `(tactic| walk_at "call") => `(tactic| ((with_reducible show fTri _ _ _ _); refine ⟨_, [], rfl, rfl, ‹StC _›, fun n x hx => absurd hx List.not_mem_nil, fun n q r rs c' hR hrl hrs hc' => ?_⟩))
def fLaw : FD := fun ds μ Q _ => ∃ ns : List Int, ds = [.rl (ns.map fun z => .v (.int z))] ∧ ns.length ≤ 63 ∧ μ = [] ∧ ∀ μ', Q (.v (.bl true)) μ'
theorem rgD_app {C : Addr} {l : List Tri} {n q v : Int} : rgD C (l ++ [(n, q, v)]) = rgD C l ++ [ringD C n q v] := List.map_append ..
theorem nuD_app {l : List Tri} {n q v : Int} : nuD (l ++ [(n, q, v)]) = nuD l ++ [.lst [.v (.int n), .v (.int q), .v (.int v)]] := List.map_append ..
local macro_rules | `(tactic| walk_at "mine") => `(tactic| ((with_reducible show (_ = _) ∧ (∀ _ : D, _ = _)); exact ⟨rfl, fun _ => rfl⟩))
local macro_rules | `(tactic| walk_at "call") => `(tactic| ((with_reducible show fDem _ _ _ _); refine ⟨_, _, _, rfl, ty_pl (by assumption), ty_pl (by assumption), ty_pl (by assumption), ?_⟩))
local macro_rules | `(tactic| walk_at "call") => `(tactic| ((with_reducible show fFault _ _ _ _); refine ⟨_, _, _, rfl, ty_pl (by assumption), ty_pl (by assumption), ty_pl (by assumption), ?_⟩))
theorem rf_same {x y z : D} {μ : Sto} {Q : QD} {X : QX} (q : Q (.v (.bl true)) μ) : fSame 5 [rfD x y z, rfD x y z] μ Q X := by
  rcases rf_str x y z with h | ⟨s, h⟩ <;> rw [h] <;> exact same_rfl (n := 4) rfl q
local macro_rules | `(tactic| walk_at "call") => `(tactic| ((with_reducible show fSame 5 [rfD _ _ _, rfD _ _ _] _ _ _); refine rf_same ?_))
theorem sc_law : FnScope ["script", "store", "rows", "kept", "rings", "numbers", "values", "chosen", "at", "named", "due", "made"] ["script"] (defScope (top 71)) := ⟨rfl, rfl, rfl, by decide +kernel, rfl, by decide +kernel, by decide +kernel⟩
theorem ok_law (T : Tx K mg) : FnD P w K mg base 12 T.a_law T.fd_law ["script"] fLaw := by
  refine fnD _ T.F_law sc_law (fun cd A outer s H E B => (d_scons (d_set 1 B.nd (d_call B (ok__law_begin T) (by decide) T.m__law_begin T.k__law_begin T.b__law_begin (d_cons (d_var 0) d_nil)))
    (d_scons (d_set 2 B.nd (d_call B (ok__law_triples T) (by decide) T.m__law_triples T.k__law_triples T.b__law_triples (d_cons (d_var 1) d_nil)))
    (d_scons (d_set 3 B.nd (d_call B (ok__law_copy T 5) (by decide) T.m__law_copy T.k__law_copy T.b__law_copy (d_cons (d_var 2) d_nil)))
    (d_scons (d_set 4 B.nd (d_lstM d_nil))
    (d_scons (d_set 5 B.nd (d_lstM d_nil))
    (d_scons (d_forL 6 B (d_var 2) (d_scons (d_set 10 B.nd (d_call B (ok__law_ring_demand T) (by decide) T.m__law_ring_demand T.k__law_ring_demand T.b__law_ring_demand (d_cons (d_ix (d_var 6) d_int) (d_cons (d_ix (d_var 6) d_int) (d_cons (d_ix (d_var 6) d_int) d_nil)))))
    (d_scons (d_sif (d_tnot (d_tval (d_call B (ok__law_same T 5) (by decide) T.m__law_same T.k__law_same T.b__law_same (d_cons (d_call B (ok_ring_fault T) (by decide) T.m_ring_fault T.k_ring_fault T.b_ring_fault (d_cons (d_ix (d_var 6) d_int) (d_cons (d_ix (d_var 6) d_int) (d_cons (d_ix (d_var 6) d_int) d_nil)))) (d_cons (d_var 10) d_nil))))) (d_sone (d_ret d_bl)) d_snil)
    (d_scons (d_set 11 B.nd (d_call B (ok__law_made T) (by decide) T.m__law_made T.k__law_made T.b__law_made (d_cons (d_var 6) d_nil)))
    (d_scons (d_sif (d_tw (d_wand (d_tcmp o_isn (d_var 10) d_non) (d_wand1 (d_tnot (d_tval (d_call B (ok__law_same T 5) (by decide) T.m__law_same T.k__law_same T.b__law_same (d_cons (d_var 11) (d_cons (d_tup (d_cons d_str (d_cons d_str (d_cons (d_var 10) d_nil)))) d_nil)))))))) (d_sone (d_ret d_bl)) d_snil)
    (d_scons (d_sif (d_tw (d_wand (d_tcmp o_is (d_var 10) d_non) (d_wand1 (d_tw (d_wor (d_tcmp o_ne (d_ix (d_var 11) d_int) d_str) (d_wor1 (d_tnot (d_tval (d_call B (ok__law_looks T) (by decide) T.m__law_looks T.k__law_looks T.b__law_looks (d_cons (d_ix (d_var 11) d_int) (d_cons (d_var 6) d_nil))))))))))) (d_sone (d_ret d_bl)) d_snil)
    (d_sone (d_sif (d_tcmp o_is (d_var 10) d_non) (d_scons (d_expr (d_append (d_var 4) (d_ix (d_var 11) d_int)))
    (d_sone (d_expr (d_append (d_var 5) (d_ct c_list T.n_list (by decide +kernel) (d_cons (d_var 6) d_nil)))))) d_snil))))))))
    (d_scons (d_sif (d_tw (d_wor (d_tnot (d_tval (d_call B (ok__law_same T 5) (by decide) T.m__law_same T.k__law_same T.b__law_same (d_cons (d_var 2) (d_cons (d_var 3) d_nil))))) (d_wor1 (d_tnot (d_tval (d_call B (ok__law_equals T) (by decide) T.m__law_equals T.k__law_equals T.b__law_equals (d_cons (d_var 4) (d_cons (d_var 5) d_nil)))))))) (d_sone (d_ret d_bl)) d_snil)
    (d_scons (d_set 7 B.nd (d_call B (ok__law_take T) (by decide) T.m__law_take T.k__law_take T.b__law_take (d_cons (d_var 1) (d_cons (d_cb (id := "len") c_len T.n_len (by decide +kernel) (d_cons (d_var 4) d_nil)) d_nil))))
    (d_scons (d_sif (d_tnot (d_tval (d_call B (ok__law_unlike T) (by decide) T.m__law_unlike T.k__law_unlike T.b__law_unlike (d_cons (d_ixV (d_var 4) (d_var 7)) (d_cons (d_ixV (d_var 5) (d_var 7)) (d_cons (d_ixV (d_var 2) (d_call B (ok__law_take T) (by decide) T.m__law_take T.k__law_take T.b__law_take (d_cons (d_var 1) (d_cons (d_cb (id := "len") c_len T.n_len (by decide +kernel) (d_cons (d_var 2) d_nil)) d_nil)))) d_nil)))))) (d_sone (d_ret d_bl)) d_snil)
    (d_scons (d_forR1 8 B T.n_range (d_cons (d_cb (id := "len") c_len T.n_len (by decide +kernel) (d_cons (d_var 4) d_nil)) d_nil) (d_sone (d_sif (d_tnot (d_tval (d_call B (ok__law_looks T) (by decide) T.m__law_looks T.k__law_looks T.b__law_looks (d_cons (d_ixV (d_var 4) (d_var 8)) (d_cons (d_ixV (d_var 5) (d_var 8)) d_nil))))) (d_sone (d_ret d_bl)) d_snil)))
    (d_scons (d_set 9 B.nd (d_fzk (d_makeK B T.ck_Ring T.mk_Ring (ok_Ring___init__ T) (by decide) T.m_Ring T.kn_Ring___init___root_n_q (permN_of perm_pm120) (dk_cons (d_ix (d_ix (d_var 3) d_int) d_int) (dk_cons (d_ix (d_ix (d_var 3) d_int) d_int) (dk_cons (d_ix (d_ix (d_var 3) d_int) d_int) dk_nil))))))
    (d_scons (d_sif (d_tw (d_wor (d_tnot (d_tval (d_call B (ok__law_same T 5) (by decide) T.m__law_same T.k__law_same T.b__law_same (d_cons (d_cmp (o_eqO B T.ow_Ring (ok_Ring___eq__ T) (by decide) rfl T.oe_Ring T.b_Ring___eq__) (d_var 9) (d_ix (d_var 4) d_int)) (d_cons d_bl d_nil))))) (d_wor1 (d_tnot (d_tval (d_call B (ok__law_looks T) (by decide) T.m__law_looks T.k__law_looks T.b__law_looks (d_cons (d_var 9) (d_cons (d_ix (d_var 3) d_int) d_nil)))))))) (d_sone (d_ret d_bl)) d_snil)
    (d_sone (d_ret (d_call B (ok__law_same T 5) (by decide) T.m__law_same T.k__law_same T.b__law_same (d_cons (d_callK0 B (ok_ring_fault T) (by decide) T.m_ring_fault T.k_ring_fault T.kb_ring_fault perm_pm201 (dk_cons (d_ix (d_ix (d_var 3) d_int) d_int) (dk_cons (d_ix (d_ix (d_var 3) d_int) d_int) (dk_cons (d_ix (d_ix (d_var 3) d_int) d_int) dk_nil)))) (d_cons d_non d_nil)))))))))))))))))) ?_
  rintro ds μ QA XA hl ⟨ns, rfl, hn, rfl, hQ⟩
  refine And.intro rfl ⟨ns, rfl, hn, fun c hc => ?_⟩
  walk_at "all"
  rename_i n q r rs c1 hR hrl hrs hc1
  have hth : ∀ d ∈ (.lst [.v (.int n), .v (.int q), .v (.int r)] :: rs), threeL d := fun d hd => by
    rcases List.mem_cons.mp hd with rfl | hd
    · exact ⟨_, _, _, rfl, rfl, rfl, rfl⟩
    · exact hrs d hd
  have hpl : plD 5 (.lst (.lst [.v (.int n), .v (.int q), .v (.int r)] :: rs)) = true := pl_lst (by rw [List.length_cons, hrl]; decide) fun d hd => three_pl (hth d hd)
  refine ⟨_, rfl, hpl, ?_⟩
  walk_at "all"
  generalize hxs : (.lst [.v (.int n), .v (.int q), .v (.int r)] :: rs) = xs at *
  have hx0 : xs[0]? = some (.lst [.v (.int n), .v (.int q), .v (.int r)]) := by rw [← hxs]; rfl
  have hxl : xs.length = 9 := by rw [← hxs, List.length_cons, hrl]
  refine ⟨xs, .inl rfl, fun k ρ m => ∃ (l : List Tri) (t6 t10 t11 : Option D), m = [c1, .lst (rgD T.a_Ring l), .lst (nuD l)] ∧ l.length ≤ k ∧ (0 < k → ∃ l', l = (n, q, r) :: l') ∧ ρ = [some (.rl (ns.map fun z => .v (.int z))), some (.loc 0), some (.lst xs), some (.lst xs), some (.loc 1), some (.loc 2), t6, none, none, none, t10, t11], ⟨[], _, _, _, rfl, Nat.le_refl _, fun h => absurd h (Nat.lt_irrefl 0), rfl⟩, ?_, ?_⟩
  · rintro k ρ' m d hd ⟨l, t6, t10, t11, rfl, hlk, hl0, rfl⟩
    obtain ⟨x, y, z, rfl, hx, hy, hz⟩ := hth d (List.mem_of_getElem? hd)
    have hk : k < 9 := by have := (List.getElem?_eq_some_iff.mp hd).1; omega
    have lr : (rgD T.a_Ring l).length ≤ 1000000 := by rw [rgD_len]; omega
    have ln : (nuD l).length ≤ 1000000 := by rw [nuD_len]; omega
    walk_at "all"
    refine ⟨x, y, z, rfl, ty_pl hx, ty_pl hy, ty_pl hz, fun s hs => ?_, fun n2 q2 v e1 e2 e3 hI => ?_⟩
    · rw [hs]
      walk_at "all"
      refine same_rfl (n := 4) rfl ?_
      walk_at "all"
      refine ⟨l, _, _, _, rfl, by omega, fun _ => ?_, rfl⟩
      rcases Nat.eq_zero_or_pos k with rfl | h
      · rw [hx0] at hd
        cases hd
        rw [rf_ok hR.1] at hs
        cases hs
      · exact hl0 h
    · subst e1
      subst e2
      subst e3
      rw [rf_ok hI]
      walk_at "all"
      refine ⟨n2, q2, v, rfl, ?_⟩
      walk_at "all"
      refine ⟨l ++ [(n2, q2, v)], _, _, _, by rw [rgD_app, nuD_app]; rfl, by rw [List.length_append]; exact Nat.succ_le_succ hlk, fun _ => ?_, rfl⟩
      rcases Nat.eq_zero_or_pos k with rfl | h
      · rw [hx0] at hd
        cases hd
        rw [List.eq_nil_of_length_eq_zero (by omega : l.length = 0)]
        exact ⟨[], rfl⟩
      · obtain ⟨l', e⟩ := hl0 h
        exact ⟨l' ++ [(n2, q2, v)], by rw [e]; rfl⟩
  · rintro ρ' m ⟨l, t6, t10, t11, rfl, hlk, hl0, rfl⟩
    obtain ⟨l', hl'⟩ := hl0 (by omega)
    have lr : (rgD T.a_Ring l).length = l.length := rgD_len
    have ln : (nuD l).length = l.length := nuD_len
    walk_at "all"
    refine same_rfl (n := 4) hpl ?_
    walk_at "all"
    refine ⟨1, 2, l, rfl, by omega, rfl, rfl, ?_⟩
    walk_at "all"
    rename_i ch c2 ch0 ch1 hc2
    have hpos : 0 < l.length := by rw [hl']; exact Nat.succ_pos _
    obtain ⟨p, hp⟩ : ∃ p, l[ch.toNat]? = some p := ⟨l[ch.toNat]'(by omega), List.getElem?_eq_getElem (by omega)⟩
    refine Exists.intro _ (And.intro (atI_nat ch0 (rgD_get hp)) ?_)
    walk_at "all"
    refine Exists.intro _ (And.intro (atI_nat ch0 (nuD_get hp)) ?_)
    walk_at "all"
    rename_i at2 c3 at0 at1 hc3
    obtain ⟨d, hd⟩ : ∃ d, xs[at2.toNat]? = some d := ⟨xs[at2.toNat]'(by omega), List.getElem?_eq_getElem (by omega)⟩
    obtain ⟨x, y, z, rfl, _, _, _⟩ := hth d (List.mem_of_getElem? hd)
    refine Exists.intro _ (And.intro (atI_nat at0 hd) ?_)
    walk_at "all"
    refine ⟨_, _, _, x, y, z, rfl, ?_⟩
    walk_at "all"
    refine inv_R [] (fun k vs m => m = [c3, .lst (rgD T.a_Ring l), .lst (nuD l)] ∧ vs = []) [] _ rfl ⟨rfl, rfl⟩ ?_ ?_
    · rintro k vs m hk ⟨rfl, rfl⟩
      obtain ⟨p2, hp2⟩ : ∃ p, l[k]? = some p := ⟨l[k]'(by omega), List.getElem?_eq_getElem (by omega)⟩
      walk_at "all"
      refine Exists.intro _ (And.intro (at_nat (rgD_get hp2)) ?_)
      walk_at "all"
      refine Exists.intro _ (And.intro (at_nat (nuD_get hp2)) ?_)
      walk_at "all"
      refine ⟨_, _, _, rfl, ?_⟩
      walk_at "all"
      exact ⟨_, [], rfl, rfl, rfl⟩
    · rintro t vs m ⟨rfl, rfl⟩
      subst hl'
      subst hxs
      walk_at "all"
      refine new_ringOk hR.1 ?_
      walk_at "all"
      refine And.intro ⟨⟨_, _, rfl⟩, .inl ⟨_, _, rfl⟩⟩ ⟨n, q, r, _, rfl, .inr ⟨n, q, r, rfl, _, rfl, ?_⟩⟩
      walk_at "all"
      refine same_bl (by simp) ?_
      walk_at "all"
      refine ⟨n, q, r, rfl, ?_⟩
      walk_at "all"
      refine ⟨_, _, _, rfl, TyD.int, TyD.int, TyD.int, ?_⟩
      rw [rf_ok hR.1]
      walk_at "all"
      refine same_rfl (n := 4) rfl ?_
      exact hQ _
end
end
set_option Elab.async false
set_option linter.all false
set_option maxRecDepth 100000
set_option maxHeartbeats 4000000
section
open PySem L2 DK PyProof.Rows
theorem all_mk {P : Program} {w : World} {K : PySem.W.Frag} {h : Heap} {mg : Str → Option Value} {fa : Addr} (X : K.In h) (G : h.Ns mainGlobals mg) (hfa : mg "law" = some (.ref fa))
    {o_DEGREES : Addr} {od_DEGREES : Option Addr} {its_DEGREES : Array Value} {n_DEGREES : Nat} {sl_DEGREES : Array (Option Value)}
    {t_GREATEST_MODULUS : Tok}
    {a_NoiseboundError : Addr}
    {a_OutOfRange : Addr}
    {a_BadItem : Addr}
    {a_BadLength : Addr}
    {a_BadText : Addr}
    {a_BadPadding : Addr}
    {a_WrongPhase : Addr}
    {a_NotInvertible : Addr}
    {a_BadRing : Addr}
    {a_BadParameters : Addr}
    {a_UnknownName : Addr}
    {a_DifferentRings : Addr}
    {a_BadKey : Addr}
    {a_BadLetter : Addr}
    {a_BadKeyText : Addr}
    {a_BadRecord : Addr}
    {a_BadCommand : Addr}
    {a_NoEntry : Addr}
    {a_NothingLeft : Addr}
    {a_Ring : Addr}
    {a_is_number : Addr} {od_is_number an_is_number : Option Addr} {sl_is_number : Array (Option Value)} {oc_is_number kV_is_number dc_is_number pm_is_number cd_is_number ct_is_number : Value}
    {a_is_between : Addr} {od_is_between an_is_between : Option Addr} {sl_is_between : Array (Option Value)} {oc_is_between kV_is_between dc_is_between pm_is_between cd_is_between ct_is_between : Value}
    {a_check_number : Addr} {od_check_number an_check_number : Option Addr} {sl_check_number : Array (Option Value)} {oc_check_number kV_check_number dc_check_number pm_check_number cd_check_number ct_check_number : Value}
    {a_check_between : Addr} {od_check_between an_check_between : Option Addr} {sl_check_between : Array (Option Value)} {oc_check_between kV_check_between dc_check_between pm_check_between cd_check_between ct_check_between : Value}
    {a_check_modulus : Addr} {od_check_modulus an_check_modulus : Option Addr} {sl_check_modulus : Array (Option Value)} {oc_check_modulus kV_check_modulus dc_check_modulus pm_check_modulus cd_check_modulus ct_check_modulus : Value}
    {a_is_degree : Addr} {od_is_degree an_is_degree : Option Addr} {sl_is_degree : Array (Option Value)} {oc_is_degree kV_is_degree dc_is_degree pm_is_degree cd_is_degree ct_is_degree : Value}
    {a_power : Addr} {od_power an_power : Option Addr} {sl_power : Array (Option Value)} {oc_power kV_power dc_power pm_power cd_power ct_power : Value}
    {a_least_divisor : Addr} {od_least_divisor an_least_divisor : Option Addr} {sl_least_divisor : Array (Option Value)} {oc_least_divisor kV_least_divisor dc_least_divisor pm_least_divisor cd_least_divisor ct_least_divisor : Value}
    {a_is_prime : Addr} {od_is_prime an_is_prime : Option Addr} {sl_is_prime : Array (Option Value)} {oc_is_prime kV_is_prime dc_is_prime pm_is_prime cd_is_prime ct_is_prime : Value}
    {a_is_odd_prime : Addr} {od_is_odd_prime an_is_odd_prime : Option Addr} {sl_is_odd_prime : Array (Option Value)} {oc_is_odd_prime kV_is_odd_prime dc_is_odd_prime pm_is_odd_prime cd_is_odd_prime ct_is_odd_prime : Value}
    {a_is_root : Addr} {od_is_root an_is_root : Option Addr} {sl_is_root : Array (Option Value)} {oc_is_root kV_is_root dc_is_root pm_is_root cd_is_root ct_is_root : Value}
    {a_ring_fault : Addr} {od_ring_fault an_ring_fault : Option Addr} {sl_ring_fault : Array (Option Value)} {oc_ring_fault kV_ring_fault dc_ring_fault pm_ring_fault cd_ring_fault ct_ring_fault : Value}
    {a_size_fault : Addr} {od_size_fault an_size_fault : Option Addr} {sl_size_fault : Array (Option Value)} {oc_size_fault kV_size_fault dc_size_fault pm_size_fault cd_size_fault ct_size_fault : Value}
    {a__law_begin : Addr} {od__law_begin an__law_begin : Option Addr} {sl__law_begin : Array (Option Value)} {oc__law_begin kV__law_begin dc__law_begin pm__law_begin cd__law_begin ct__law_begin : Value}
    {a__law_mixed : Addr} {od__law_mixed an__law_mixed : Option Addr} {sl__law_mixed : Array (Option Value)} {oc__law_mixed kV__law_mixed dc__law_mixed pm__law_mixed cd__law_mixed ct__law_mixed : Value}
    {a__law_take : Addr} {od__law_take an__law_take : Option Addr} {sl__law_take : Array (Option Value)} {oc__law_take kV__law_take dc__law_take pm__law_take cd__law_take ct__law_take : Value}
    {a__law_wide : Addr} {od__law_wide an__law_wide : Option Addr} {sl__law_wide : Array (Option Value)} {oc__law_wide kV__law_wide dc__law_wide pm__law_wide cd__law_wide ct__law_wide : Value}
    {a__law_pick : Addr} {od__law_pick an__law_pick : Option Addr} {sl__law_pick : Array (Option Value)} {oc__law_pick kV__law_pick dc__law_pick pm__law_pick cd__law_pick ct__law_pick : Value}
    {a__law_between : Addr} {od__law_between an__law_between : Option Addr} {sl__law_between : Array (Option Value)} {oc__law_between kV__law_between dc__law_between pm__law_between cd__law_between ct__law_between : Value}
    {a__law_shuffle : Addr} {od__law_shuffle an__law_shuffle : Option Addr} {sl__law_shuffle : Array (Option Value)} {oc__law_shuffle kV__law_shuffle dc__law_shuffle pm__law_shuffle cd__law_shuffle ct__law_shuffle : Value}
    {a__law_any : Addr} {od__law_any an__law_any : Option Addr} {sl__law_any : Array (Option Value)} {oc__law_any kV__law_any dc__law_any pm__law_any cd__law_any ct__law_any : Value}
    {a__law_other : Addr} {od__law_other an__law_other : Option Addr} {sl__law_other : Array (Option Value)} {oc__law_other kV__law_other dc__law_other pm__law_other cd__law_other ct__law_other : Value}
    {a__law_beyond : Addr} {od__law_beyond an__law_beyond : Option Addr} {sl__law_beyond : Array (Option Value)} {oc__law_beyond kV__law_beyond dc__law_beyond pm__law_beyond cd__law_beyond ct__law_beyond : Value}
    {a__law_same : Addr} {od__law_same an__law_same : Option Addr} {sl__law_same : Array (Option Value)} {oc__law_same kV__law_same dc__law_same pm__law_same cd__law_same ct__law_same : Value}
    {a__law_whole : Addr} {od__law_whole an__law_whole : Option Addr} {sl__law_whole : Array (Option Value)} {oc__law_whole kV__law_whole dc__law_whole pm__law_whole cd__law_whole ct__law_whole : Value}
    {a__law_within : Addr} {od__law_within an__law_within : Option Addr} {sl__law_within : Array (Option Value)} {oc__law_within kV__law_within dc__law_within pm__law_within cd__law_within ct__law_within : Value}
    {a__law_copy : Addr} {od__law_copy an__law_copy : Option Addr} {sl__law_copy : Array (Option Value)} {oc__law_copy kV__law_copy dc__law_copy pm__law_copy cd__law_copy ct__law_copy : Value}
    {a__law_kin : Addr} {od__law_kin an__law_kin : Option Addr} {sl__law_kin : Array (Option Value)} {oc__law_kin kV__law_kin dc__law_kin pm__law_kin cd__law_kin ct__law_kin : Value}
    {a__law_prime : Addr} {od__law_prime an__law_prime : Option Addr} {sl__law_prime : Array (Option Value)} {oc__law_prime kV__law_prime dc__law_prime pm__law_prime cd__law_prime ct__law_prime : Value}
    {a__law_power : Addr} {od__law_power an__law_power : Option Addr} {sl__law_power : Array (Option Value)} {oc__law_power kV__law_power dc__law_power pm__law_power cd__law_power ct__law_power : Value}
    {a__law_root : Addr} {od__law_root an__law_root : Option Addr} {sl__law_root : Array (Option Value)} {oc__law_root kV__law_root dc__law_root pm__law_root cd__law_root ct__law_root : Value}
    {a__law_ring_demand : Addr} {od__law_ring_demand an__law_ring_demand : Option Addr} {sl__law_ring_demand : Array (Option Value)} {oc__law_ring_demand kV__law_ring_demand dc__law_ring_demand pm__law_ring_demand cd__law_ring_demand ct__law_ring_demand : Value}
    {a__law_refused : Addr} {od__law_refused an__law_refused : Option Addr} {sl__law_refused : Array (Option Value)} {oc__law_refused kV__law_refused dc__law_refused pm__law_refused cd__law_refused ct__law_refused : Value}
    {a__law_prime_for : Addr} {od__law_prime_for an__law_prime_for : Option Addr} {sl__law_prime_for : Array (Option Value)} {oc__law_prime_for kV__law_prime_for dc__law_prime_for pm__law_prime_for cd__law_prime_for ct__law_prime_for : Value}
    {a__law_some_ring : Addr} {od__law_some_ring an__law_some_ring : Option Addr} {sl__law_some_ring : Array (Option Value)} {oc__law_some_ring kV__law_some_ring dc__law_some_ring pm__law_some_ring cd__law_some_ring ct__law_some_ring : Value}
    {a__law_plain : Addr} {od__law_plain an__law_plain : Option Addr} {sl__law_plain : Array (Option Value)} {oc__law_plain kV__law_plain dc__law_plain pm__law_plain cd__law_plain ct__law_plain : Value}
    {a__law_composite : Addr} {od__law_composite an__law_composite : Option Addr} {sl__law_composite : Array (Option Value)} {oc__law_composite kV__law_composite dc__law_composite pm__law_composite cd__law_composite ct__law_composite : Value}
    {a__law_near : Addr} {od__law_near an__law_near : Option Addr} {sl__law_near : Array (Option Value)} {oc__law_near kV__law_near dc__law_near pm__law_near cd__law_near ct__law_near : Value}
    {a__law_root_of_two : Addr} {od__law_root_of_two an__law_root_of_two : Option Addr} {sl__law_root_of_two : Array (Option Value)} {oc__law_root_of_two kV__law_root_of_two dc__law_root_of_two pm__law_root_of_two cd__law_root_of_two ct__law_root_of_two : Value}
    {a__law_triples : Addr} {od__law_triples an__law_triples : Option Addr} {sl__law_triples : Array (Option Value)} {oc__law_triples kV__law_triples dc__law_triples pm__law_triples cd__law_triples ct__law_triples : Value}
    {a__law_made : Addr} {od__law_made an__law_made : Option Addr} {sl__law_made : Array (Option Value)} {oc__law_made kV__law_made dc__law_made pm__law_made cd__law_made ct__law_made : Value}
    {a__law_looks : Addr} {od__law_looks an__law_looks : Option Addr} {sl__law_looks : Array (Option Value)} {oc__law_looks kV__law_looks dc__law_looks pm__law_looks cd__law_looks ct__law_looks : Value}
    {a__law_equals : Addr} {od__law_equals an__law_equals : Option Addr} {sl__law_equals : Array (Option Value)} {oc__law_equals kV__law_equals dc__law_equals pm__law_equals cd__law_equals ct__law_equals : Value}
    {a__law_unlike : Addr} {od__law_unlike an__law_unlike : Option Addr} {sl__law_unlike : Array (Option Value)} {oc__law_unlike kV__law_unlike dc__law_unlike pm__law_unlike cd__law_unlike ct__law_unlike : Value}
    {a_law : Addr} {od_law an_law : Option Addr} {sl_law : Array (Option Value)} {oc_law kV_law dc_law pm_law cd_law ct_law : Value}
    {a_Ring___init__ : Addr} {od_Ring___init__ an_Ring___init__ : Option Addr} {sl_Ring___init__ : Array (Option Value)} {oc_Ring___init__ kV_Ring___init__ dc_Ring___init__ pm_Ring___init__ cd_Ring___init__ ct_Ring___init__ : Value}
    {a_Ring___eq__ : Addr} {od_Ring___eq__ an_Ring___eq__ : Option Addr} {sl_Ring___eq__ : Array (Option Value)} {oc_Ring___eq__ kV_Ring___eq__ dc_Ring___eq__ pm_Ring___eq__ cd_Ring___eq__ ct_Ring___eq__ : Value}
    {nm_OutOfRange q_OutOfRange : Str} {N_OutOfRange : Addr} {bs_OutOfRange : List Value} {sn_OutOfRange : List Str} {sub_OutOfRange : List Value} {ab_OutOfRange : Bool} {col_OutOfRange : Option Bool} {dd_OutOfRange : Option Addr} {m0_OutOfRange m1_OutOfRange m2_OutOfRange m3_OutOfRange m5_OutOfRange : Option Value}
    {fi_OutOfRange : Addr} {od_IOutOfRange an_IOutOfRange : Option Addr} {sl_IOutOfRange : Array (Option Value)} {oc_IOutOfRange kV_IOutOfRange dc_IOutOfRange pm_IOutOfRange cd_IOutOfRange ct_IOutOfRange : Value}
    {nm_BadRing q_BadRing : Str} {N_BadRing : Addr} {bs_BadRing : List Value} {sn_BadRing : List Str} {sub_BadRing : List Value} {ab_BadRing : Bool} {col_BadRing : Option Bool} {dd_BadRing : Option Addr} {m0_BadRing m1_BadRing m2_BadRing m3_BadRing m5_BadRing : Option Value}
    {fi_BadRing : Addr} {od_IBadRing an_IBadRing : Option Addr} {sl_IBadRing : Array (Option Value)} {oc_IBadRing kV_IBadRing dc_IBadRing pm_IBadRing cd_IBadRing ct_IBadRing : Value}
    (z_ValueError : PySem.W.nsIn K mainGlobals "ValueError" = some none)
    (z_max : PySem.W.nsIn K mainGlobals "max" = some none)
    (z_range : PySem.W.nsIn K mainGlobals "range" = some none)
    (z_list : PySem.W.nsIn K mainGlobals "list" = some none)
    (z_isinstance : PySem.W.nsIn K mainGlobals "isinstance" = some none)
    (z_int : PySem.W.nsIn K mainGlobals "int" = some none)
    (z_str : PySem.W.nsIn K mainGlobals "str" = some none)
    (z_tuple : PySem.W.nsIn K mainGlobals "tuple" = some none)
    (z_min : PySem.W.nsIn K mainGlobals "min" = some none)
    (z_len : PySem.W.nsIn K mainGlobals "len" = some none)
    (z_bool : PySem.W.nsIn K mainGlobals "bool" = some none)
    (ac_DEGREES : PySem.W.nsIn K mainGlobals "DEGREES" = some (some (.ref o_DEGREES)))
    (lk_DEGREES : K.lookup o_DEGREES = some ⟨.type "tuple", od_DEGREES, .seq its_DEGREES n_DEGREES, sl_DEGREES⟩)
    (vs_DEGREES : Vals (([8, 16, 32, 64, 128, 256] : List Int).map V.int) its_DEGREES.toList)
    (sz_DEGREES : its_DEGREES.size ≤ sizeLine)
    (ac_GREATEST_MODULUS : PySem.W.nsIn K mainGlobals "GREATEST_MODULUS" = some (some (.int 4095 t_GREATEST_MODULUS)))
    (x_NoiseboundError : PySem.W.nsIn K mainGlobals "NoiseboundError" = some (some (.ref a_NoiseboundError)))
    (x_OutOfRange : PySem.W.nsIn K mainGlobals "OutOfRange" = some (some (.ref a_OutOfRange)))
    (x_BadItem : PySem.W.nsIn K mainGlobals "BadItem" = some (some (.ref a_BadItem)))
    (x_BadLength : PySem.W.nsIn K mainGlobals "BadLength" = some (some (.ref a_BadLength)))
    (x_BadText : PySem.W.nsIn K mainGlobals "BadText" = some (some (.ref a_BadText)))
    (x_BadPadding : PySem.W.nsIn K mainGlobals "BadPadding" = some (some (.ref a_BadPadding)))
    (x_WrongPhase : PySem.W.nsIn K mainGlobals "WrongPhase" = some (some (.ref a_WrongPhase)))
    (x_NotInvertible : PySem.W.nsIn K mainGlobals "NotInvertible" = some (some (.ref a_NotInvertible)))
    (x_BadRing : PySem.W.nsIn K mainGlobals "BadRing" = some (some (.ref a_BadRing)))
    (x_BadParameters : PySem.W.nsIn K mainGlobals "BadParameters" = some (some (.ref a_BadParameters)))
    (x_UnknownName : PySem.W.nsIn K mainGlobals "UnknownName" = some (some (.ref a_UnknownName)))
    (x_DifferentRings : PySem.W.nsIn K mainGlobals "DifferentRings" = some (some (.ref a_DifferentRings)))
    (x_BadKey : PySem.W.nsIn K mainGlobals "BadKey" = some (some (.ref a_BadKey)))
    (x_BadLetter : PySem.W.nsIn K mainGlobals "BadLetter" = some (some (.ref a_BadLetter)))
    (x_BadKeyText : PySem.W.nsIn K mainGlobals "BadKeyText" = some (some (.ref a_BadKeyText)))
    (x_BadRecord : PySem.W.nsIn K mainGlobals "BadRecord" = some (some (.ref a_BadRecord)))
    (x_BadCommand : PySem.W.nsIn K mainGlobals "BadCommand" = some (some (.ref a_BadCommand)))
    (x_NoEntry : PySem.W.nsIn K mainGlobals "NoEntry" = some (some (.ref a_NoEntry)))
    (x_NothingLeft : PySem.W.nsIn K mainGlobals "NothingLeft" = some (some (.ref a_NothingLeft)))
    (x_Ring : PySem.W.nsIn K mainGlobals "Ring" = some (some (.ref a_Ring)))
    (exN : PySem.W.subIn K (.ref a_NoiseboundError) (.type "BaseException") = some true)
    (ic_NoiseboundError : PySem.W.isClsIn K a_NoiseboundError = true)
    (tyc_NoiseboundError : PySem.W.typeIn K (.ref a_NoiseboundError) = some (.type "type"))
    (ic_OutOfRange : PySem.W.isClsIn K a_OutOfRange = true)
    (tyc_OutOfRange : PySem.W.typeIn K (.ref a_OutOfRange) = some (.type "type"))
    (ic_BadItem : PySem.W.isClsIn K a_BadItem = true)
    (tyc_BadItem : PySem.W.typeIn K (.ref a_BadItem) = some (.type "type"))
    (ic_BadLength : PySem.W.isClsIn K a_BadLength = true)
    (tyc_BadLength : PySem.W.typeIn K (.ref a_BadLength) = some (.type "type"))
    (ic_BadText : PySem.W.isClsIn K a_BadText = true)
    (tyc_BadText : PySem.W.typeIn K (.ref a_BadText) = some (.type "type"))
    (ic_BadPadding : PySem.W.isClsIn K a_BadPadding = true)
    (tyc_BadPadding : PySem.W.typeIn K (.ref a_BadPadding) = some (.type "type"))
    (ic_WrongPhase : PySem.W.isClsIn K a_WrongPhase = true)
    (tyc_WrongPhase : PySem.W.typeIn K (.ref a_WrongPhase) = some (.type "type"))
    (ic_NotInvertible : PySem.W.isClsIn K a_NotInvertible = true)
    (tyc_NotInvertible : PySem.W.typeIn K (.ref a_NotInvertible) = some (.type "type"))
    (ic_BadRing : PySem.W.isClsIn K a_BadRing = true)
    (tyc_BadRing : PySem.W.typeIn K (.ref a_BadRing) = some (.type "type"))
    (ic_BadParameters : PySem.W.isClsIn K a_BadParameters = true)
    (tyc_BadParameters : PySem.W.typeIn K (.ref a_BadParameters) = some (.type "type"))
    (ic_UnknownName : PySem.W.isClsIn K a_UnknownName = true)
    (tyc_UnknownName : PySem.W.typeIn K (.ref a_UnknownName) = some (.type "type"))
    (ic_DifferentRings : PySem.W.isClsIn K a_DifferentRings = true)
    (tyc_DifferentRings : PySem.W.typeIn K (.ref a_DifferentRings) = some (.type "type"))
    (ic_BadKey : PySem.W.isClsIn K a_BadKey = true)
    (tyc_BadKey : PySem.W.typeIn K (.ref a_BadKey) = some (.type "type"))
    (ic_BadLetter : PySem.W.isClsIn K a_BadLetter = true)
    (tyc_BadLetter : PySem.W.typeIn K (.ref a_BadLetter) = some (.type "type"))
    (ic_BadKeyText : PySem.W.isClsIn K a_BadKeyText = true)
    (tyc_BadKeyText : PySem.W.typeIn K (.ref a_BadKeyText) = some (.type "type"))
    (ic_BadRecord : PySem.W.isClsIn K a_BadRecord = true)
    (tyc_BadRecord : PySem.W.typeIn K (.ref a_BadRecord) = some (.type "type"))
    (ic_BadCommand : PySem.W.isClsIn K a_BadCommand = true)
    (tyc_BadCommand : PySem.W.typeIn K (.ref a_BadCommand) = some (.type "type"))
    (ic_NoEntry : PySem.W.isClsIn K a_NoEntry = true)
    (tyc_NoEntry : PySem.W.typeIn K (.ref a_NoEntry) = some (.type "type"))
    (ic_NothingLeft : PySem.W.isClsIn K a_NothingLeft = true)
    (tyc_NothingLeft : PySem.W.typeIn K (.ref a_NothingLeft) = some (.type "type"))
    (ic_Ring : PySem.W.isClsIn K a_Ring = true)
    (tyc_Ring : PySem.W.typeIn K (.ref a_Ring) = some (.type "type"))
    (a_is_number' : PySem.W.nsIn K mainGlobals "is_number" = some (some (.ref a_is_number)))
    (l_is_number : K.lookup a_is_number = some ⟨oc_is_number, od_is_number, .func (PySem.W.fnOf "is_number" "is_number" (defArgs (top 21)) (defBody (top 21)) (defScope (top 21)) .none kV_is_number dc_is_number pm_is_number an_is_number cd_is_number ct_is_number), sl_is_number⟩)
    (c_is_number : PySem.W.codeIn K cd_is_number "is_number" = true)
    (k_is_number : PySem.W.keepIn K (.ref a_is_number) = true)
    (a_is_between' : PySem.W.nsIn K mainGlobals "is_between" = some (some (.ref a_is_between)))
    (l_is_between : K.lookup a_is_between = some ⟨oc_is_between, od_is_between, .func (PySem.W.fnOf "is_between" "is_between" (defArgs (top 22)) (defBody (top 22)) (defScope (top 22)) .none kV_is_between dc_is_between pm_is_between an_is_between cd_is_between ct_is_between), sl_is_between⟩)
    (c_is_between : PySem.W.codeIn K cd_is_between "is_between" = true)
    (k_is_between : PySem.W.keepIn K (.ref a_is_between) = true)
    (a_check_number' : PySem.W.nsIn K mainGlobals "check_number" = some (some (.ref a_check_number)))
    (l_check_number : K.lookup a_check_number = some ⟨oc_check_number, od_check_number, .func (PySem.W.fnOf "check_number" "check_number" (defArgs (top 23)) (defBody (top 23)) (defScope (top 23)) .none kV_check_number dc_check_number pm_check_number an_check_number cd_check_number ct_check_number), sl_check_number⟩)
    (c_check_number : PySem.W.codeIn K cd_check_number "check_number" = true)
    (k_check_number : PySem.W.keepIn K (.ref a_check_number) = true)
    (a_check_between' : PySem.W.nsIn K mainGlobals "check_between" = some (some (.ref a_check_between)))
    (l_check_between : K.lookup a_check_between = some ⟨oc_check_between, od_check_between, .func (PySem.W.fnOf "check_between" "check_between" (defArgs (top 24)) (defBody (top 24)) (defScope (top 24)) .none kV_check_between dc_check_between pm_check_between an_check_between cd_check_between ct_check_between), sl_check_between⟩)
    (c_check_between : PySem.W.codeIn K cd_check_between "check_between" = true)
    (k_check_between : PySem.W.keepIn K (.ref a_check_between) = true)
    (a_check_modulus' : PySem.W.nsIn K mainGlobals "check_modulus" = some (some (.ref a_check_modulus)))
    (l_check_modulus : K.lookup a_check_modulus = some ⟨oc_check_modulus, od_check_modulus, .func (PySem.W.fnOf "check_modulus" "check_modulus" (defArgs (top 28)) (defBody (top 28)) (defScope (top 28)) .none kV_check_modulus dc_check_modulus pm_check_modulus an_check_modulus cd_check_modulus ct_check_modulus), sl_check_modulus⟩)
    (c_check_modulus : PySem.W.codeIn K cd_check_modulus "check_modulus" = true)
    (k_check_modulus : PySem.W.keepIn K (.ref a_check_modulus) = true)
    (a_is_degree' : PySem.W.nsIn K mainGlobals "is_degree" = some (some (.ref a_is_degree)))
    (l_is_degree : K.lookup a_is_degree = some ⟨oc_is_degree, od_is_degree, .func (PySem.W.fnOf "is_degree" "is_degree" (defArgs (top 29)) (defBody (top 29)) (defScope (top 29)) .none kV_is_degree dc_is_degree pm_is_degree an_is_degree cd_is_degree ct_is_degree), sl_is_degree⟩)
    (c_is_degree : PySem.W.codeIn K cd_is_degree "is_degree" = true)
    (k_is_degree : PySem.W.keepIn K (.ref a_is_degree) = true)
    (a_power' : PySem.W.nsIn K mainGlobals "power" = some (some (.ref a_power)))
    (l_power : K.lookup a_power = some ⟨oc_power, od_power, .func (PySem.W.fnOf "power" "power" (defArgs (top 30)) (defBody (top 30)) (defScope (top 30)) .none kV_power dc_power pm_power an_power cd_power ct_power), sl_power⟩)
    (c_power : PySem.W.codeIn K cd_power "power" = true)
    (k_power : PySem.W.keepIn K (.ref a_power) = true)
    (a_least_divisor' : PySem.W.nsIn K mainGlobals "least_divisor" = some (some (.ref a_least_divisor)))
    (l_least_divisor : K.lookup a_least_divisor = some ⟨oc_least_divisor, od_least_divisor, .func (PySem.W.fnOf "least_divisor" "least_divisor" (defArgs (top 31)) (defBody (top 31)) (defScope (top 31)) .none kV_least_divisor dc_least_divisor pm_least_divisor an_least_divisor cd_least_divisor ct_least_divisor), sl_least_divisor⟩)
    (c_least_divisor : PySem.W.codeIn K cd_least_divisor "least_divisor" = true)
    (k_least_divisor : PySem.W.keepIn K (.ref a_least_divisor) = true)
    (a_is_prime' : PySem.W.nsIn K mainGlobals "is_prime" = some (some (.ref a_is_prime)))
    (l_is_prime : K.lookup a_is_prime = some ⟨oc_is_prime, od_is_prime, .func (PySem.W.fnOf "is_prime" "is_prime" (defArgs (top 32)) (defBody (top 32)) (defScope (top 32)) .none kV_is_prime dc_is_prime pm_is_prime an_is_prime cd_is_prime ct_is_prime), sl_is_prime⟩)
    (c_is_prime : PySem.W.codeIn K cd_is_prime "is_prime" = true)
    (k_is_prime : PySem.W.keepIn K (.ref a_is_prime) = true)
    (a_is_odd_prime' : PySem.W.nsIn K mainGlobals "is_odd_prime" = some (some (.ref a_is_odd_prime)))
    (l_is_odd_prime : K.lookup a_is_odd_prime = some ⟨oc_is_odd_prime, od_is_odd_prime, .func (PySem.W.fnOf "is_odd_prime" "is_odd_prime" (defArgs (top 33)) (defBody (top 33)) (defScope (top 33)) .none kV_is_odd_prime dc_is_odd_prime pm_is_odd_prime an_is_odd_prime cd_is_odd_prime ct_is_odd_prime), sl_is_odd_prime⟩)
    (c_is_odd_prime : PySem.W.codeIn K cd_is_odd_prime "is_odd_prime" = true)
    (k_is_odd_prime : PySem.W.keepIn K (.ref a_is_odd_prime) = true)
    (a_is_root' : PySem.W.nsIn K mainGlobals "is_root" = some (some (.ref a_is_root)))
    (l_is_root : K.lookup a_is_root = some ⟨oc_is_root, od_is_root, .func (PySem.W.fnOf "is_root" "is_root" (defArgs (top 34)) (defBody (top 34)) (defScope (top 34)) .none kV_is_root dc_is_root pm_is_root an_is_root cd_is_root ct_is_root), sl_is_root⟩)
    (c_is_root : PySem.W.codeIn K cd_is_root "is_root" = true)
    (k_is_root : PySem.W.keepIn K (.ref a_is_root) = true)
    (a_ring_fault' : PySem.W.nsIn K mainGlobals "ring_fault" = some (some (.ref a_ring_fault)))
    (l_ring_fault : K.lookup a_ring_fault = some ⟨oc_ring_fault, od_ring_fault, .func (PySem.W.fnOf "ring_fault" "ring_fault" (defArgs (top 36)) (defBody (top 36)) (defScope (top 36)) .none kV_ring_fault dc_ring_fault pm_ring_fault an_ring_fault cd_ring_fault ct_ring_fault), sl_ring_fault⟩)
    (c_ring_fault : PySem.W.codeIn K cd_ring_fault "ring_fault" = true)
    (k_ring_fault : PySem.W.keepIn K (.ref a_ring_fault) = true)
    (a_size_fault' : PySem.W.nsIn K mainGlobals "size_fault" = some (some (.ref a_size_fault)))
    (l_size_fault : K.lookup a_size_fault = some ⟨oc_size_fault, od_size_fault, .func (PySem.W.fnOf "size_fault" "size_fault" (defArgs (top 37)) (defBody (top 37)) (defScope (top 37)) .none kV_size_fault dc_size_fault pm_size_fault an_size_fault cd_size_fault ct_size_fault), sl_size_fault⟩)
    (c_size_fault : PySem.W.codeIn K cd_size_fault "size_fault" = true)
    (k_size_fault : PySem.W.keepIn K (.ref a_size_fault) = true)
    (a__law_begin' : PySem.W.nsIn K mainGlobals "_law_begin" = some (some (.ref a__law_begin)))
    (l__law_begin : K.lookup a__law_begin = some ⟨oc__law_begin, od__law_begin, .func (PySem.W.fnOf "_law_begin" "_law_begin" (defArgs (top 40)) (defBody (top 40)) (defScope (top 40)) .none kV__law_begin dc__law_begin pm__law_begin an__law_begin cd__law_begin ct__law_begin), sl__law_begin⟩)
    (c__law_begin : PySem.W.codeIn K cd__law_begin "_law_begin" = true)
    (k__law_begin : PySem.W.keepIn K (.ref a__law_begin) = true)
    (a__law_mixed' : PySem.W.nsIn K mainGlobals "_law_mixed" = some (some (.ref a__law_mixed)))
    (l__law_mixed : K.lookup a__law_mixed = some ⟨oc__law_mixed, od__law_mixed, .func (PySem.W.fnOf "_law_mixed" "_law_mixed" (defArgs (top 41)) (defBody (top 41)) (defScope (top 41)) .none kV__law_mixed dc__law_mixed pm__law_mixed an__law_mixed cd__law_mixed ct__law_mixed), sl__law_mixed⟩)
    (c__law_mixed : PySem.W.codeIn K cd__law_mixed "_law_mixed" = true)
    (k__law_mixed : PySem.W.keepIn K (.ref a__law_mixed) = true)
    (a__law_take' : PySem.W.nsIn K mainGlobals "_law_take" = some (some (.ref a__law_take)))
    (l__law_take : K.lookup a__law_take = some ⟨oc__law_take, od__law_take, .func (PySem.W.fnOf "_law_take" "_law_take" (defArgs (top 42)) (defBody (top 42)) (defScope (top 42)) .none kV__law_take dc__law_take pm__law_take an__law_take cd__law_take ct__law_take), sl__law_take⟩)
    (c__law_take : PySem.W.codeIn K cd__law_take "_law_take" = true)
    (k__law_take : PySem.W.keepIn K (.ref a__law_take) = true)
    (a__law_wide' : PySem.W.nsIn K mainGlobals "_law_wide" = some (some (.ref a__law_wide)))
    (l__law_wide : K.lookup a__law_wide = some ⟨oc__law_wide, od__law_wide, .func (PySem.W.fnOf "_law_wide" "_law_wide" (defArgs (top 43)) (defBody (top 43)) (defScope (top 43)) .none kV__law_wide dc__law_wide pm__law_wide an__law_wide cd__law_wide ct__law_wide), sl__law_wide⟩)
    (c__law_wide : PySem.W.codeIn K cd__law_wide "_law_wide" = true)
    (k__law_wide : PySem.W.keepIn K (.ref a__law_wide) = true)
    (a__law_pick' : PySem.W.nsIn K mainGlobals "_law_pick" = some (some (.ref a__law_pick)))
    (l__law_pick : K.lookup a__law_pick = some ⟨oc__law_pick, od__law_pick, .func (PySem.W.fnOf "_law_pick" "_law_pick" (defArgs (top 44)) (defBody (top 44)) (defScope (top 44)) .none kV__law_pick dc__law_pick pm__law_pick an__law_pick cd__law_pick ct__law_pick), sl__law_pick⟩)
    (c__law_pick : PySem.W.codeIn K cd__law_pick "_law_pick" = true)
    (k__law_pick : PySem.W.keepIn K (.ref a__law_pick) = true)
    (a__law_between' : PySem.W.nsIn K mainGlobals "_law_between" = some (some (.ref a__law_between)))
    (l__law_between : K.lookup a__law_between = some ⟨oc__law_between, od__law_between, .func (PySem.W.fnOf "_law_between" "_law_between" (defArgs (top 45)) (defBody (top 45)) (defScope (top 45)) .none kV__law_between dc__law_between pm__law_between an__law_between cd__law_between ct__law_between), sl__law_between⟩)
    (c__law_between : PySem.W.codeIn K cd__law_between "_law_between" = true)
    (k__law_between : PySem.W.keepIn K (.ref a__law_between) = true)
    (a__law_shuffle' : PySem.W.nsIn K mainGlobals "_law_shuffle" = some (some (.ref a__law_shuffle)))
    (l__law_shuffle : K.lookup a__law_shuffle = some ⟨oc__law_shuffle, od__law_shuffle, .func (PySem.W.fnOf "_law_shuffle" "_law_shuffle" (defArgs (top 46)) (defBody (top 46)) (defScope (top 46)) .none kV__law_shuffle dc__law_shuffle pm__law_shuffle an__law_shuffle cd__law_shuffle ct__law_shuffle), sl__law_shuffle⟩)
    (c__law_shuffle : PySem.W.codeIn K cd__law_shuffle "_law_shuffle" = true)
    (k__law_shuffle : PySem.W.keepIn K (.ref a__law_shuffle) = true)
    (a__law_any' : PySem.W.nsIn K mainGlobals "_law_any" = some (some (.ref a__law_any)))
    (l__law_any : K.lookup a__law_any = some ⟨oc__law_any, od__law_any, .func (PySem.W.fnOf "_law_any" "_law_any" (defArgs (top 47)) (defBody (top 47)) (defScope (top 47)) .none kV__law_any dc__law_any pm__law_any an__law_any cd__law_any ct__law_any), sl__law_any⟩)
    (c__law_any : PySem.W.codeIn K cd__law_any "_law_any" = true)
    (k__law_any : PySem.W.keepIn K (.ref a__law_any) = true)
    (a__law_other' : PySem.W.nsIn K mainGlobals "_law_other" = some (some (.ref a__law_other)))
    (l__law_other : K.lookup a__law_other = some ⟨oc__law_other, od__law_other, .func (PySem.W.fnOf "_law_other" "_law_other" (defArgs (top 48)) (defBody (top 48)) (defScope (top 48)) .none kV__law_other dc__law_other pm__law_other an__law_other cd__law_other ct__law_other), sl__law_other⟩)
    (c__law_other : PySem.W.codeIn K cd__law_other "_law_other" = true)
    (k__law_other : PySem.W.keepIn K (.ref a__law_other) = true)
    (a__law_beyond' : PySem.W.nsIn K mainGlobals "_law_beyond" = some (some (.ref a__law_beyond)))
    (l__law_beyond : K.lookup a__law_beyond = some ⟨oc__law_beyond, od__law_beyond, .func (PySem.W.fnOf "_law_beyond" "_law_beyond" (defArgs (top 49)) (defBody (top 49)) (defScope (top 49)) .none kV__law_beyond dc__law_beyond pm__law_beyond an__law_beyond cd__law_beyond ct__law_beyond), sl__law_beyond⟩)
    (c__law_beyond : PySem.W.codeIn K cd__law_beyond "_law_beyond" = true)
    (k__law_beyond : PySem.W.keepIn K (.ref a__law_beyond) = true)
    (a__law_same' : PySem.W.nsIn K mainGlobals "_law_same" = some (some (.ref a__law_same)))
    (l__law_same : K.lookup a__law_same = some ⟨oc__law_same, od__law_same, .func (PySem.W.fnOf "_law_same" "_law_same" (defArgs (top 50)) (defBody (top 50)) (defScope (top 50)) .none kV__law_same dc__law_same pm__law_same an__law_same cd__law_same ct__law_same), sl__law_same⟩)
    (c__law_same : PySem.W.codeIn K cd__law_same "_law_same" = true)
    (k__law_same : PySem.W.keepIn K (.ref a__law_same) = true)
    (a__law_whole' : PySem.W.nsIn K mainGlobals "_law_whole" = some (some (.ref a__law_whole)))
    (l__law_whole : K.lookup a__law_whole = some ⟨oc__law_whole, od__law_whole, .func (PySem.W.fnOf "_law_whole" "_law_whole" (defArgs (top 51)) (defBody (top 51)) (defScope (top 51)) .none kV__law_whole dc__law_whole pm__law_whole an__law_whole cd__law_whole ct__law_whole), sl__law_whole⟩)
    (c__law_whole : PySem.W.codeIn K cd__law_whole "_law_whole" = true)
    (k__law_whole : PySem.W.keepIn K (.ref a__law_whole) = true)
    (a__law_within' : PySem.W.nsIn K mainGlobals "_law_within" = some (some (.ref a__law_within)))
    (l__law_within : K.lookup a__law_within = some ⟨oc__law_within, od__law_within, .func (PySem.W.fnOf "_law_within" "_law_within" (defArgs (top 52)) (defBody (top 52)) (defScope (top 52)) .none kV__law_within dc__law_within pm__law_within an__law_within cd__law_within ct__law_within), sl__law_within⟩)
    (c__law_within : PySem.W.codeIn K cd__law_within "_law_within" = true)
    (k__law_within : PySem.W.keepIn K (.ref a__law_within) = true)
    (a__law_copy' : PySem.W.nsIn K mainGlobals "_law_copy" = some (some (.ref a__law_copy)))
    (l__law_copy : K.lookup a__law_copy = some ⟨oc__law_copy, od__law_copy, .func (PySem.W.fnOf "_law_copy" "_law_copy" (defArgs (top 53)) (defBody (top 53)) (defScope (top 53)) .none kV__law_copy dc__law_copy pm__law_copy an__law_copy cd__law_copy ct__law_copy), sl__law_copy⟩)
    (c__law_copy : PySem.W.codeIn K cd__law_copy "_law_copy" = true)
    (k__law_copy : PySem.W.keepIn K (.ref a__law_copy) = true)
    (a__law_kin' : PySem.W.nsIn K mainGlobals "_law_kin" = some (some (.ref a__law_kin)))
    (l__law_kin : K.lookup a__law_kin = some ⟨oc__law_kin, od__law_kin, .func (PySem.W.fnOf "_law_kin" "_law_kin" (defArgs (top 54)) (defBody (top 54)) (defScope (top 54)) .none kV__law_kin dc__law_kin pm__law_kin an__law_kin cd__law_kin ct__law_kin), sl__law_kin⟩)
    (c__law_kin : PySem.W.codeIn K cd__law_kin "_law_kin" = true)
    (k__law_kin : PySem.W.keepIn K (.ref a__law_kin) = true)
    (a__law_prime' : PySem.W.nsIn K mainGlobals "_law_prime" = some (some (.ref a__law_prime)))
    (l__law_prime : K.lookup a__law_prime = some ⟨oc__law_prime, od__law_prime, .func (PySem.W.fnOf "_law_prime" "_law_prime" (defArgs (top 55)) (defBody (top 55)) (defScope (top 55)) .none kV__law_prime dc__law_prime pm__law_prime an__law_prime cd__law_prime ct__law_prime), sl__law_prime⟩)
    (c__law_prime : PySem.W.codeIn K cd__law_prime "_law_prime" = true)
    (k__law_prime : PySem.W.keepIn K (.ref a__law_prime) = true)
    (a__law_power' : PySem.W.nsIn K mainGlobals "_law_power" = some (some (.ref a__law_power)))
    (l__law_power : K.lookup a__law_power = some ⟨oc__law_power, od__law_power, .func (PySem.W.fnOf "_law_power" "_law_power" (defArgs (top 56)) (defBody (top 56)) (defScope (top 56)) .none kV__law_power dc__law_power pm__law_power an__law_power cd__law_power ct__law_power), sl__law_power⟩)
    (c__law_power : PySem.W.codeIn K cd__law_power "_law_power" = true)
    (k__law_power : PySem.W.keepIn K (.ref a__law_power) = true)
    (a__law_root' : PySem.W.nsIn K mainGlobals "_law_root" = some (some (.ref a__law_root)))
    (l__law_root : K.lookup a__law_root = some ⟨oc__law_root, od__law_root, .func (PySem.W.fnOf "_law_root" "_law_root" (defArgs (top 57)) (defBody (top 57)) (defScope (top 57)) .none kV__law_root dc__law_root pm__law_root an__law_root cd__law_root ct__law_root), sl__law_root⟩)
    (c__law_root : PySem.W.codeIn K cd__law_root "_law_root" = true)
    (k__law_root : PySem.W.keepIn K (.ref a__law_root) = true)
    (a__law_ring_demand' : PySem.W.nsIn K mainGlobals "_law_ring_demand" = some (some (.ref a__law_ring_demand)))
    (l__law_ring_demand : K.lookup a__law_ring_demand = some ⟨oc__law_ring_demand, od__law_ring_demand, .func (PySem.W.fnOf "_law_ring_demand" "_law_ring_demand" (defArgs (top 58)) (defBody (top 58)) (defScope (top 58)) .none kV__law_ring_demand dc__law_ring_demand pm__law_ring_demand an__law_ring_demand cd__law_ring_demand ct__law_ring_demand), sl__law_ring_demand⟩)
    (c__law_ring_demand : PySem.W.codeIn K cd__law_ring_demand "_law_ring_demand" = true)
    (k__law_ring_demand : PySem.W.keepIn K (.ref a__law_ring_demand) = true)
    (a__law_refused' : PySem.W.nsIn K mainGlobals "_law_refused" = some (some (.ref a__law_refused)))
    (l__law_refused : K.lookup a__law_refused = some ⟨oc__law_refused, od__law_refused, .func (PySem.W.fnOf "_law_refused" "_law_refused" (defArgs (top 59)) (defBody (top 59)) (defScope (top 59)) .none kV__law_refused dc__law_refused pm__law_refused an__law_refused cd__law_refused ct__law_refused), sl__law_refused⟩)
    (c__law_refused : PySem.W.codeIn K cd__law_refused "_law_refused" = true)
    (k__law_refused : PySem.W.keepIn K (.ref a__law_refused) = true)
    (a__law_prime_for' : PySem.W.nsIn K mainGlobals "_law_prime_for" = some (some (.ref a__law_prime_for)))
    (l__law_prime_for : K.lookup a__law_prime_for = some ⟨oc__law_prime_for, od__law_prime_for, .func (PySem.W.fnOf "_law_prime_for" "_law_prime_for" (defArgs (top 60)) (defBody (top 60)) (defScope (top 60)) .none kV__law_prime_for dc__law_prime_for pm__law_prime_for an__law_prime_for cd__law_prime_for ct__law_prime_for), sl__law_prime_for⟩)
    (c__law_prime_for : PySem.W.codeIn K cd__law_prime_for "_law_prime_for" = true)
    (k__law_prime_for : PySem.W.keepIn K (.ref a__law_prime_for) = true)
    (a__law_some_ring' : PySem.W.nsIn K mainGlobals "_law_some_ring" = some (some (.ref a__law_some_ring)))
    (l__law_some_ring : K.lookup a__law_some_ring = some ⟨oc__law_some_ring, od__law_some_ring, .func (PySem.W.fnOf "_law_some_ring" "_law_some_ring" (defArgs (top 61)) (defBody (top 61)) (defScope (top 61)) .none kV__law_some_ring dc__law_some_ring pm__law_some_ring an__law_some_ring cd__law_some_ring ct__law_some_ring), sl__law_some_ring⟩)
    (c__law_some_ring : PySem.W.codeIn K cd__law_some_ring "_law_some_ring" = true)
    (k__law_some_ring : PySem.W.keepIn K (.ref a__law_some_ring) = true)
    (a__law_plain' : PySem.W.nsIn K mainGlobals "_law_plain" = some (some (.ref a__law_plain)))
    (l__law_plain : K.lookup a__law_plain = some ⟨oc__law_plain, od__law_plain, .func (PySem.W.fnOf "_law_plain" "_law_plain" (defArgs (top 62)) (defBody (top 62)) (defScope (top 62)) .none kV__law_plain dc__law_plain pm__law_plain an__law_plain cd__law_plain ct__law_plain), sl__law_plain⟩)
    (c__law_plain : PySem.W.codeIn K cd__law_plain "_law_plain" = true)
    (k__law_plain : PySem.W.keepIn K (.ref a__law_plain) = true)
    (a__law_composite' : PySem.W.nsIn K mainGlobals "_law_composite" = some (some (.ref a__law_composite)))
    (l__law_composite : K.lookup a__law_composite = some ⟨oc__law_composite, od__law_composite, .func (PySem.W.fnOf "_law_composite" "_law_composite" (defArgs (top 63)) (defBody (top 63)) (defScope (top 63)) .none kV__law_composite dc__law_composite pm__law_composite an__law_composite cd__law_composite ct__law_composite), sl__law_composite⟩)
    (c__law_composite : PySem.W.codeIn K cd__law_composite "_law_composite" = true)
    (k__law_composite : PySem.W.keepIn K (.ref a__law_composite) = true)
    (a__law_near' : PySem.W.nsIn K mainGlobals "_law_near" = some (some (.ref a__law_near)))
    (l__law_near : K.lookup a__law_near = some ⟨oc__law_near, od__law_near, .func (PySem.W.fnOf "_law_near" "_law_near" (defArgs (top 64)) (defBody (top 64)) (defScope (top 64)) .none kV__law_near dc__law_near pm__law_near an__law_near cd__law_near ct__law_near), sl__law_near⟩)
    (c__law_near : PySem.W.codeIn K cd__law_near "_law_near" = true)
    (k__law_near : PySem.W.keepIn K (.ref a__law_near) = true)
    (a__law_root_of_two' : PySem.W.nsIn K mainGlobals "_law_root_of_two" = some (some (.ref a__law_root_of_two)))
    (l__law_root_of_two : K.lookup a__law_root_of_two = some ⟨oc__law_root_of_two, od__law_root_of_two, .func (PySem.W.fnOf "_law_root_of_two" "_law_root_of_two" (defArgs (top 65)) (defBody (top 65)) (defScope (top 65)) .none kV__law_root_of_two dc__law_root_of_two pm__law_root_of_two an__law_root_of_two cd__law_root_of_two ct__law_root_of_two), sl__law_root_of_two⟩)
    (c__law_root_of_two : PySem.W.codeIn K cd__law_root_of_two "_law_root_of_two" = true)
    (k__law_root_of_two : PySem.W.keepIn K (.ref a__law_root_of_two) = true)
    (a__law_triples' : PySem.W.nsIn K mainGlobals "_law_triples" = some (some (.ref a__law_triples)))
    (l__law_triples : K.lookup a__law_triples = some ⟨oc__law_triples, od__law_triples, .func (PySem.W.fnOf "_law_triples" "_law_triples" (defArgs (top 66)) (defBody (top 66)) (defScope (top 66)) .none kV__law_triples dc__law_triples pm__law_triples an__law_triples cd__law_triples ct__law_triples), sl__law_triples⟩)
    (c__law_triples : PySem.W.codeIn K cd__law_triples "_law_triples" = true)
    (k__law_triples : PySem.W.keepIn K (.ref a__law_triples) = true)
    (a__law_made' : PySem.W.nsIn K mainGlobals "_law_made" = some (some (.ref a__law_made)))
    (l__law_made : K.lookup a__law_made = some ⟨oc__law_made, od__law_made, .func (PySem.W.fnOf "_law_made" "_law_made" (defArgs (top 67)) (defBody (top 67)) (defScope (top 67)) .none kV__law_made dc__law_made pm__law_made an__law_made cd__law_made ct__law_made), sl__law_made⟩)
    (c__law_made : PySem.W.codeIn K cd__law_made "_law_made" = true)
    (k__law_made : PySem.W.keepIn K (.ref a__law_made) = true)
    (a__law_looks' : PySem.W.nsIn K mainGlobals "_law_looks" = some (some (.ref a__law_looks)))
    (l__law_looks : K.lookup a__law_looks = some ⟨oc__law_looks, od__law_looks, .func (PySem.W.fnOf "_law_looks" "_law_looks" (defArgs (top 68)) (defBody (top 68)) (defScope (top 68)) .none kV__law_looks dc__law_looks pm__law_looks an__law_looks cd__law_looks ct__law_looks), sl__law_looks⟩)
    (c__law_looks : PySem.W.codeIn K cd__law_looks "_law_looks" = true)
    (k__law_looks : PySem.W.keepIn K (.ref a__law_looks) = true)
    (a__law_equals' : PySem.W.nsIn K mainGlobals "_law_equals" = some (some (.ref a__law_equals)))
    (l__law_equals : K.lookup a__law_equals = some ⟨oc__law_equals, od__law_equals, .func (PySem.W.fnOf "_law_equals" "_law_equals" (defArgs (top 69)) (defBody (top 69)) (defScope (top 69)) .none kV__law_equals dc__law_equals pm__law_equals an__law_equals cd__law_equals ct__law_equals), sl__law_equals⟩)
    (c__law_equals : PySem.W.codeIn K cd__law_equals "_law_equals" = true)
    (k__law_equals : PySem.W.keepIn K (.ref a__law_equals) = true)
    (a__law_unlike' : PySem.W.nsIn K mainGlobals "_law_unlike" = some (some (.ref a__law_unlike)))
    (l__law_unlike : K.lookup a__law_unlike = some ⟨oc__law_unlike, od__law_unlike, .func (PySem.W.fnOf "_law_unlike" "_law_unlike" (defArgs (top 70)) (defBody (top 70)) (defScope (top 70)) .none kV__law_unlike dc__law_unlike pm__law_unlike an__law_unlike cd__law_unlike ct__law_unlike), sl__law_unlike⟩)
    (c__law_unlike : PySem.W.codeIn K cd__law_unlike "_law_unlike" = true)
    (k__law_unlike : PySem.W.keepIn K (.ref a__law_unlike) = true)
    (a_law' : PySem.W.nsIn K mainGlobals "law" = some (some (.ref a_law)))
    (l_law : K.lookup a_law = some ⟨oc_law, od_law, .func (PySem.W.fnOf "law" "law" (defArgs (top 71)) (defBody (top 71)) (defScope (top 71)) .none kV_law dc_law pm_law an_law cd_law ct_law), sl_law⟩)
    (c_law : PySem.W.codeIn K cd_law "law" = true)
    (k_law : PySem.W.keepIn K (.ref a_law) = true)
    (pg_Ring : PySem.W.plainGet K a_Ring Str.empty = true)
    (hdk_Ring : PySem.W.hasDictIn K a_Ring = true)
    (po_Ring : PySem.W.plainOver K a_Ring = true)
    (sak_Ring : PySem.W.findIn K (.ref a_Ring) "__setattr__" = some (some (.builtin "object.__setattr__")))
    (hak_Ring : PySem.W.findIn K (.ref a_Ring) "__class__" = some (some (.builtin "object.__class__")))
    (hnk_Ring : PySem.W.specialIn K (.builtin "object.__class__") "__get__" = some (some (.builtin "getset_descriptor.__get__")))
    (htk_Ring : PySem.W.takesIn K (.builtin "object.__class__") = some true)
    (hmk_Ring : PySem.W.mroIn K a_Ring (.type "object") = some true)
    (kt0_Ring : PySem.W.subIn K (.ref a_Ring) (.type "int") = some false)
    (kt1_Ring : PySem.W.subIn K (.ref a_Ring) (.type "bool") = some false)
    (kt2_Ring : PySem.W.subIn K (.ref a_Ring) (.type "str") = some false)
    (kt3_Ring : PySem.W.subIn K (.ref a_Ring) (.type "list") = some false)
    (kt4_Ring : PySem.W.subIn K (.ref a_Ring) (.type "tuple") = some false)
    (so_Ring : PySem.W.subIn K (.ref a_Ring) (.ref a_Ring) = some true)
    (no_Ring_n : PySem.W.findIn K (.ref a_Ring) "n" = some none)
    (no_Ring_q : PySem.W.findIn K (.ref a_Ring) "q" = some none)
    (no_Ring_root : PySem.W.findIn K (.ref a_Ring) "root" = some none)
    (no_Ring_half : PySem.W.findIn K (.ref a_Ring) "half" = some none)
    (no_Ring_quarter : PySem.W.findIn K (.ref a_Ring) "quarter" = some none)
    (no_Ring_triple : PySem.W.findIn K (.ref a_Ring) "triple" = some none)
    (at_Ring___init__ : PySem.W.findIn K (.ref a_Ring) "__init__" = some (some (.ref a_Ring___init__)))
    (fn_Ring___init__ : PySem.W.isFn K (.ref a_Ring___init__) = true)
    (l_Ring___init__ : K.lookup a_Ring___init__ = some ⟨oc_Ring___init__, od_Ring___init__, .func (PySem.W.fnOf "__init__" "Ring.__init__" (defArgs (meth (top 38) 0)) (defBody (meth (top 38) 0)) (defScope (meth (top 38) 0)) .none kV_Ring___init__ dc_Ring___init__ pm_Ring___init__ an_Ring___init__ cd_Ring___init__ ct_Ring___init__), sl_Ring___init__⟩)
    (c_Ring___init__ : PySem.W.codeIn K cd_Ring___init__ "Ring.__init__" = true)
    (k_Ring___init__ : PySem.W.keepIn K (.ref a_Ring___init__) = true)
    (mks_Ring : PySem.W.makesIn K a_Ring = true)
    (kpc_Ring : PySem.W.keepIn K (.ref a_Ring) = true)
    (at_Ring___eq__ : PySem.W.findIn K (.ref a_Ring) "__eq__" = some (some (.ref a_Ring___eq__)))
    (fn_Ring___eq__ : PySem.W.isFn K (.ref a_Ring___eq__) = true)
    (l_Ring___eq__ : K.lookup a_Ring___eq__ = some ⟨oc_Ring___eq__, od_Ring___eq__, .func (PySem.W.fnOf "__eq__" "Ring.__eq__" (defArgs (meth (top 38) 1)) (defBody (meth (top 38) 1)) (defScope (meth (top 38) 1)) .none kV_Ring___eq__ dc_Ring___eq__ pm_Ring___eq__ an_Ring___eq__ cd_Ring___eq__ ct_Ring___eq__), sl_Ring___eq__⟩)
    (c_Ring___eq__ : PySem.W.codeIn K cd_Ring___eq__ "Ring.__eq__" = true)
    (k_Ring___eq__ : PySem.W.keepIn K (.ref a_Ring___eq__) = true)
    (nq_Ring : PySem.W.findIn K (.ref a_Ring) "__ne__" = some (some (.builtin "object.__ne__")))
    (xL_OutOfRange : K.lookup a_OutOfRange = some (excClassObj nm_OutOfRange q_OutOfRange a_OutOfRange N_OutOfRange bs_OutOfRange [.ref a_NoiseboundError, .type "ValueError", .type "Exception", .type "BaseException", .type "object"] true sn_OutOfRange sub_OutOfRange ab_OutOfRange col_OutOfRange dd_OutOfRange m0_OutOfRange m1_OutOfRange m2_OutOfRange m3_OutOfRange m5_OutOfRange "ValueError.__new__"))
    (sa_OutOfRange : PySem.W.findIn K (.ref a_OutOfRange) "__setattr__" = some (some (.builtin "object.__setattr__")))
    (ga_OutOfRange : PySem.W.findIn K (.ref a_OutOfRange) "__getattribute__" = some (some (.builtin "BaseException.__getattribute__")))
    (gg_OutOfRange : PySem.W.findIn K (.ref a_OutOfRange) "__getattr__" = some none)
    (ex_OutOfRange : PySem.W.subIn K (.ref a_OutOfRange) (.type "BaseException") = some true)
    (ty_OutOfRange : PySem.W.typeIn K (.ref a_OutOfRange) = some (.type "type"))
    (kc_OutOfRange : PySem.W.keepIn K (.ref a_OutOfRange) = true)
    (cl_OutOfRange : PySem.W.findIn K (.ref a_OutOfRange) "__class__" = some (some (.builtin "object.__class__")))
    (hd_OutOfRange : PySem.W.hasDictIn K a_OutOfRange = true)
    (sg_OutOfRange : PySem.W.specialIn K (.builtin "object.__class__") "__get__" = some (some (.builtin "getset_descriptor.__get__")))
    (tk_OutOfRange : PySem.W.takesIn K (.builtin "object.__class__") = some true)
    (ob_OutOfRange : PySem.W.mroIn K a_OutOfRange (.type "object") = some true)
    (g_OutOfRange_name : PySem.W.findIn K (.ref a_OutOfRange) "name" = some none)
    (iC_OutOfRange : PySem.W.findIn K (.ref a_OutOfRange) "__init__" = some (some (.ref fi_OutOfRange)))
    (tI_OutOfRange : PySem.W.typeIn K (.ref fi_OutOfRange) = some (.type "function"))
    (l_IOutOfRange : K.lookup fi_OutOfRange = some ⟨oc_IOutOfRange, od_IOutOfRange, .func (PySem.W.fnOf "__init__" "OutOfRange.__init__" (defArgs (meth (top 2) 0)) (defBody (meth (top 2) 0)) (defScope (meth (top 2) 0)) .none kV_IOutOfRange dc_IOutOfRange pm_IOutOfRange an_IOutOfRange cd_IOutOfRange ct_IOutOfRange), sl_IOutOfRange⟩)
    (c_IOutOfRange : PySem.W.codeIn K cd_IOutOfRange "OutOfRange.__init__" = true)
    (k_IOutOfRange : PySem.W.keepIn K (.ref fi_OutOfRange) = true)
    (s_OutOfRange_ValueError : PySem.W.subIn K (.ref a_OutOfRange) (.type "ValueError") = some true)
    (s_OutOfRange_NoiseboundError : PySem.W.subIn K (.ref a_OutOfRange) (.ref a_NoiseboundError) = some true)
    (s_OutOfRange_OutOfRange : PySem.W.subIn K (.ref a_OutOfRange) (.ref a_OutOfRange) = some true)
    (s_OutOfRange_BadItem : PySem.W.subIn K (.ref a_OutOfRange) (.ref a_BadItem) = some false)
    (s_OutOfRange_BadLength : PySem.W.subIn K (.ref a_OutOfRange) (.ref a_BadLength) = some false)
    (s_OutOfRange_BadText : PySem.W.subIn K (.ref a_OutOfRange) (.ref a_BadText) = some false)
    (s_OutOfRange_BadPadding : PySem.W.subIn K (.ref a_OutOfRange) (.ref a_BadPadding) = some false)
    (s_OutOfRange_WrongPhase : PySem.W.subIn K (.ref a_OutOfRange) (.ref a_WrongPhase) = some false)
    (s_OutOfRange_NotInvertible : PySem.W.subIn K (.ref a_OutOfRange) (.ref a_NotInvertible) = some false)
    (s_OutOfRange_BadRing : PySem.W.subIn K (.ref a_OutOfRange) (.ref a_BadRing) = some false)
    (s_OutOfRange_BadParameters : PySem.W.subIn K (.ref a_OutOfRange) (.ref a_BadParameters) = some false)
    (s_OutOfRange_UnknownName : PySem.W.subIn K (.ref a_OutOfRange) (.ref a_UnknownName) = some false)
    (s_OutOfRange_DifferentRings : PySem.W.subIn K (.ref a_OutOfRange) (.ref a_DifferentRings) = some false)
    (s_OutOfRange_BadKey : PySem.W.subIn K (.ref a_OutOfRange) (.ref a_BadKey) = some false)
    (s_OutOfRange_BadLetter : PySem.W.subIn K (.ref a_OutOfRange) (.ref a_BadLetter) = some false)
    (s_OutOfRange_BadKeyText : PySem.W.subIn K (.ref a_OutOfRange) (.ref a_BadKeyText) = some false)
    (s_OutOfRange_BadRecord : PySem.W.subIn K (.ref a_OutOfRange) (.ref a_BadRecord) = some false)
    (s_OutOfRange_BadCommand : PySem.W.subIn K (.ref a_OutOfRange) (.ref a_BadCommand) = some false)
    (s_OutOfRange_NoEntry : PySem.W.subIn K (.ref a_OutOfRange) (.ref a_NoEntry) = some false)
    (s_OutOfRange_NothingLeft : PySem.W.subIn K (.ref a_OutOfRange) (.ref a_NothingLeft) = some false)
    (s_OutOfRange_Ring : PySem.W.subIn K (.ref a_OutOfRange) (.ref a_Ring) = some false)
    (xL_BadRing : K.lookup a_BadRing = some (excClassObj nm_BadRing q_BadRing a_BadRing N_BadRing bs_BadRing [.ref a_NoiseboundError, .type "ValueError", .type "Exception", .type "BaseException", .type "object"] true sn_BadRing sub_BadRing ab_BadRing col_BadRing dd_BadRing m0_BadRing m1_BadRing m2_BadRing m3_BadRing m5_BadRing "ValueError.__new__"))
    (sa_BadRing : PySem.W.findIn K (.ref a_BadRing) "__setattr__" = some (some (.builtin "object.__setattr__")))
    (ga_BadRing : PySem.W.findIn K (.ref a_BadRing) "__getattribute__" = some (some (.builtin "BaseException.__getattribute__")))
    (gg_BadRing : PySem.W.findIn K (.ref a_BadRing) "__getattr__" = some none)
    (ex_BadRing : PySem.W.subIn K (.ref a_BadRing) (.type "BaseException") = some true)
    (ty_BadRing : PySem.W.typeIn K (.ref a_BadRing) = some (.type "type"))
    (kc_BadRing : PySem.W.keepIn K (.ref a_BadRing) = true)
    (cl_BadRing : PySem.W.findIn K (.ref a_BadRing) "__class__" = some (some (.builtin "object.__class__")))
    (hd_BadRing : PySem.W.hasDictIn K a_BadRing = true)
    (sg_BadRing : PySem.W.specialIn K (.builtin "object.__class__") "__get__" = some (some (.builtin "getset_descriptor.__get__")))
    (tk_BadRing : PySem.W.takesIn K (.builtin "object.__class__") = some true)
    (ob_BadRing : PySem.W.mroIn K a_BadRing (.type "object") = some true)
    (g_BadRing_demand : PySem.W.findIn K (.ref a_BadRing) "demand" = some none)
    (iC_BadRing : PySem.W.findIn K (.ref a_BadRing) "__init__" = some (some (.ref fi_BadRing)))
    (tI_BadRing : PySem.W.typeIn K (.ref fi_BadRing) = some (.type "function"))
    (l_IBadRing : K.lookup fi_BadRing = some ⟨oc_IBadRing, od_IBadRing, .func (PySem.W.fnOf "__init__" "BadRing.__init__" (defArgs (meth (top 9) 0)) (defBody (meth (top 9) 0)) (defScope (meth (top 9) 0)) .none kV_IBadRing dc_IBadRing pm_IBadRing an_IBadRing cd_IBadRing ct_IBadRing), sl_IBadRing⟩)
    (c_IBadRing : PySem.W.codeIn K cd_IBadRing "BadRing.__init__" = true)
    (k_IBadRing : PySem.W.keepIn K (.ref fi_BadRing) = true)
    (s_BadRing_ValueError : PySem.W.subIn K (.ref a_BadRing) (.type "ValueError") = some true)
    (s_BadRing_NoiseboundError : PySem.W.subIn K (.ref a_BadRing) (.ref a_NoiseboundError) = some true)
    (s_BadRing_OutOfRange : PySem.W.subIn K (.ref a_BadRing) (.ref a_OutOfRange) = some false)
    (s_BadRing_BadItem : PySem.W.subIn K (.ref a_BadRing) (.ref a_BadItem) = some false)
    (s_BadRing_BadLength : PySem.W.subIn K (.ref a_BadRing) (.ref a_BadLength) = some false)
    (s_BadRing_BadText : PySem.W.subIn K (.ref a_BadRing) (.ref a_BadText) = some false)
    (s_BadRing_BadPadding : PySem.W.subIn K (.ref a_BadRing) (.ref a_BadPadding) = some false)
    (s_BadRing_WrongPhase : PySem.W.subIn K (.ref a_BadRing) (.ref a_WrongPhase) = some false)
    (s_BadRing_NotInvertible : PySem.W.subIn K (.ref a_BadRing) (.ref a_NotInvertible) = some false)
    (s_BadRing_BadRing : PySem.W.subIn K (.ref a_BadRing) (.ref a_BadRing) = some true)
    (s_BadRing_BadParameters : PySem.W.subIn K (.ref a_BadRing) (.ref a_BadParameters) = some false)
    (s_BadRing_UnknownName : PySem.W.subIn K (.ref a_BadRing) (.ref a_UnknownName) = some false)
    (s_BadRing_DifferentRings : PySem.W.subIn K (.ref a_BadRing) (.ref a_DifferentRings) = some false)
    (s_BadRing_BadKey : PySem.W.subIn K (.ref a_BadRing) (.ref a_BadKey) = some false)
    (s_BadRing_BadLetter : PySem.W.subIn K (.ref a_BadRing) (.ref a_BadLetter) = some false)
    (s_BadRing_BadKeyText : PySem.W.subIn K (.ref a_BadRing) (.ref a_BadKeyText) = some false)
    (s_BadRing_BadRecord : PySem.W.subIn K (.ref a_BadRing) (.ref a_BadRecord) = some false)
    (s_BadRing_BadCommand : PySem.W.subIn K (.ref a_BadRing) (.ref a_BadCommand) = some false)
    (s_BadRing_NoEntry : PySem.W.subIn K (.ref a_BadRing) (.ref a_NoEntry) = some false)
    (s_BadRing_NothingLeft : PySem.W.subIn K (.ref a_BadRing) (.ref a_NothingLeft) = some false)
    (s_BadRing_Ring : PySem.W.subIn K (.ref a_BadRing) (.ref a_Ring) = some false) :
    ∃ fd : FuncData, (∀ (s : Shared) (v : Value), BindsTo s fd ⟨[v], []⟩ [("script", v)]) ∧ ∀ base : Heap, K.In base → base.Ns mainGlobals mg → FnOk P w K mg base (L2N.CX P w) 12 fa fd ["script"] (spD K 1 fLaw) := by
  have e := hfa.symm.trans (PySem.W.mg_of X G a_law')
  obtain e : a_law = fa := by cases e; rfl
  subst e
  have F_is_number := fun_mk (st := (top 21)) l_is_number c_is_number k_is_number
  have b_is_number := F_is_number.binds (ps := ["value"]) fun _ _ _ _ _ _ us hl => match us, hl with | [_], _ => rfl
  have F_is_between := fun_mk (st := (top 22)) l_is_between c_is_between k_is_between
  have b_is_between := F_is_between.binds (ps := ["value", "low", "high"]) fun _ _ _ _ _ _ us hl => match us, hl with | [_, _, _], _ => rfl
  have F_check_number := fun_mk (st := (top 23)) l_check_number c_check_number k_check_number
  have b_check_number := F_check_number.binds (ps := ["name", "value"]) fun _ _ _ _ _ _ us hl => match us, hl with | [_, _], _ => rfl
  have F_check_between := fun_mk (st := (top 24)) l_check_between c_check_between k_check_between
  have b_check_between := F_check_between.binds (ps := ["name", "value", "low", "high"]) fun _ _ _ _ _ _ us hl => match us, hl with | [_, _, _, _], _ => rfl
  have F_check_modulus := fun_mk (st := (top 28)) l_check_modulus c_check_modulus k_check_modulus
  have b_check_modulus := F_check_modulus.binds (ps := ["q"]) fun _ _ _ _ _ _ us hl => match us, hl with | [_], _ => rfl
  have F_is_degree := fun_mk (st := (top 29)) l_is_degree c_is_degree k_is_degree
  have b_is_degree := F_is_degree.binds (ps := ["value"]) fun _ _ _ _ _ _ us hl => match us, hl with | [_], _ => rfl
  have F_power := fun_mk (st := (top 30)) l_power c_power k_power
  have b_power := F_power.binds (ps := ["base", "exponent", "q"]) fun _ _ _ _ _ _ us hl => match us, hl with | [_, _, _], _ => rfl
  have F_least_divisor := fun_mk (st := (top 31)) l_least_divisor c_least_divisor k_least_divisor
  have b_least_divisor := F_least_divisor.binds (ps := ["value"]) fun _ _ _ _ _ _ us hl => match us, hl with | [_], _ => rfl
  have F_is_prime := fun_mk (st := (top 32)) l_is_prime c_is_prime k_is_prime
  have b_is_prime := F_is_prime.binds (ps := ["value"]) fun _ _ _ _ _ _ us hl => match us, hl with | [_], _ => rfl
  have F_is_odd_prime := fun_mk (st := (top 33)) l_is_odd_prime c_is_odd_prime k_is_odd_prime
  have b_is_odd_prime := F_is_odd_prime.binds (ps := ["value"]) fun _ _ _ _ _ _ us hl => match us, hl with | [_], _ => rfl
  have F_is_root := fun_mk (st := (top 34)) l_is_root c_is_root k_is_root
  have b_is_root := F_is_root.binds (ps := ["n", "q", "value"]) fun _ _ _ _ _ _ us hl => match us, hl with | [_, _, _], _ => rfl
  have F_ring_fault := fun_mk (st := (top 36)) l_ring_fault c_ring_fault k_ring_fault
  have b_ring_fault := F_ring_fault.binds (ps := ["n", "q", "root"]) fun _ _ _ _ _ _ us hl => match us, hl with | [_, _, _], _ => rfl
  have F_size_fault := fun_mk (st := (top 37)) l_size_fault c_size_fault k_size_fault
  have b_size_fault := F_size_fault.binds (ps := ["n", "q"]) fun _ _ _ _ _ _ us hl => match us, hl with | [_, _], _ => rfl
  have F__law_begin := fun_mk (st := (top 40)) l__law_begin c__law_begin k__law_begin
  have b__law_begin := F__law_begin.binds (ps := ["script"]) fun _ _ _ _ _ _ us hl => match us, hl with | [_], _ => rfl
  have F__law_mixed := fun_mk (st := (top 41)) l__law_mixed c__law_mixed k__law_mixed
  have b__law_mixed := F__law_mixed.binds (ps := ["seed", "turn"]) fun _ _ _ _ _ _ us hl => match us, hl with | [_, _], _ => rfl
  have F__law_take := fun_mk (st := (top 42)) l__law_take c__law_take k__law_take
  have b__law_take := F__law_take.binds (ps := ["store", "many"]) fun _ _ _ _ _ _ us hl => match us, hl with | [_, _], _ => rfl
  have F__law_wide := fun_mk (st := (top 43)) l__law_wide c__law_wide k__law_wide
  have b__law_wide := F__law_wide.binds (ps := ["store", "many"]) fun _ _ _ _ _ _ us hl => match us, hl with | [_, _], _ => rfl
  have F__law_pick := fun_mk (st := (top 44)) l__law_pick c__law_pick k__law_pick
  have b__law_pick := F__law_pick.binds (ps := ["store", "row"]) fun _ _ _ _ _ _ us hl => match us, hl with | [_, _], _ => rfl
  have F__law_between := fun_mk (st := (top 45)) l__law_between c__law_between k__law_between
  have b__law_between := F__law_between.binds (ps := ["store", "low", "high"]) fun _ _ _ _ _ _ us hl => match us, hl with | [_, _, _], _ => rfl
  have F__law_shuffle := fun_mk (st := (top 46)) l__law_shuffle c__law_shuffle k__law_shuffle
  have b__law_shuffle := F__law_shuffle.binds (ps := ["store", "row"]) fun _ _ _ _ _ _ us hl => match us, hl with | [_, _], _ => rfl
  have F__law_any := fun_mk (st := (top 47)) l__law_any c__law_any k__law_any
  have b__law_any := F__law_any.binds (ps := ["store"]) fun _ _ _ _ _ _ us hl => match us, hl with | [_], _ => rfl
  have F__law_other := fun_mk (st := (top 48)) l__law_other c__law_other k__law_other
  have b__law_other := F__law_other.binds (ps := ["store"]) fun _ _ _ _ _ _ us hl => match us, hl with | [_], _ => rfl
  have F__law_beyond := fun_mk (st := (top 49)) l__law_beyond c__law_beyond k__law_beyond
  have b__law_beyond := F__law_beyond.binds (ps := ["store", "low", "high"]) fun _ _ _ _ _ _ us hl => match us, hl with | [_, _, _], _ => rfl
  have F__law_same := fun_mk (st := (top 50)) l__law_same c__law_same k__law_same
  have b__law_same := F__law_same.binds (ps := ["actual", "expected"]) fun _ _ _ _ _ _ us hl => match us, hl with | [_, _], _ => rfl
  have F__law_whole := fun_mk (st := (top 51)) l__law_whole c__law_whole k__law_whole
  have b__law_whole := F__law_whole.binds (ps := ["actual"]) fun _ _ _ _ _ _ us hl => match us, hl with | [_], _ => rfl
  have F__law_within := fun_mk (st := (top 52)) l__law_within c__law_within k__law_within
  have b__law_within := F__law_within.binds (ps := ["actual", "low", "high"]) fun _ _ _ _ _ _ us hl => match us, hl with | [_, _, _], _ => rfl
  have F__law_copy := fun_mk (st := (top 53)) l__law_copy c__law_copy k__law_copy
  have b__law_copy := F__law_copy.binds (ps := ["thing"]) fun _ _ _ _ _ _ us hl => match us, hl with | [_], _ => rfl
  have F__law_kin := fun_mk (st := (top 54)) l__law_kin c__law_kin k__law_kin
  have b__law_kin := F__law_kin.binds (ps := ["error"]) fun _ _ _ _ _ _ us hl => match us, hl with | [_], _ => rfl
  have F__law_prime := fun_mk (st := (top 55)) l__law_prime c__law_prime k__law_prime
  have b__law_prime := F__law_prime.binds (ps := ["number"]) fun _ _ _ _ _ _ us hl => match us, hl with | [_], _ => rfl
  have F__law_power := fun_mk (st := (top 56)) l__law_power c__law_power k__law_power
  have b__law_power := F__law_power.binds (ps := ["base", "exponent", "q"]) fun _ _ _ _ _ _ us hl => match us, hl with | [_, _, _], _ => rfl
  have F__law_root := fun_mk (st := (top 57)) l__law_root c__law_root k__law_root
  have b__law_root := F__law_root.binds (ps := ["store", "n", "q"]) fun _ _ _ _ _ _ us hl => match us, hl with | [_, _, _], _ => rfl
  have F__law_ring_demand := fun_mk (st := (top 58)) l__law_ring_demand c__law_ring_demand k__law_ring_demand
  have b__law_ring_demand := F__law_ring_demand.binds (ps := ["n", "q", "root"]) fun _ _ _ _ _ _ us hl => match us, hl with | [_, _, _], _ => rfl
  have F__law_refused := fun_mk (st := (top 59)) l__law_refused c__law_refused k__law_refused
  have b__law_refused := F__law_refused.binds (ps := ["error"]) fun _ _ _ _ _ _ us hl => match us, hl with | [_], _ => rfl
  have F__law_prime_for := fun_mk (st := (top 60)) l__law_prime_for c__law_prime_for k__law_prime_for
  have b__law_prime_for := F__law_prime_for.binds (ps := ["store", "n"]) fun _ _ _ _ _ _ us hl => match us, hl with | [_, _], _ => rfl
  have F__law_some_ring := fun_mk (st := (top 61)) l__law_some_ring c__law_some_ring k__law_some_ring
  have b__law_some_ring := F__law_some_ring.binds (ps := ["store", "degrees"]) fun _ _ _ _ _ _ us hl => match us, hl with | [_, _], _ => rfl
  have F__law_plain := fun_mk (st := (top 62)) l__law_plain c__law_plain k__law_plain
  have b__law_plain := F__law_plain.binds (ps := ["store", "depth"]) fun _ _ _ _ _ _ us hl => match us, hl with | [_, _], _ => rfl
  have F__law_composite := fun_mk (st := (top 63)) l__law_composite c__law_composite k__law_composite
  have b__law_composite := F__law_composite.binds (ps := ["store"]) fun _ _ _ _ _ _ us hl => match us, hl with | [_], _ => rfl
  have F__law_near := fun_mk (st := (top 64)) l__law_near c__law_near k__law_near
  have b__law_near := F__law_near.binds (ps := ["store", "numbers"]) fun _ _ _ _ _ _ us hl => match us, hl with | [_, _], _ => rfl
  have F__law_root_of_two := fun_mk (st := (top 65)) l__law_root_of_two c__law_root_of_two k__law_root_of_two
  have b__law_root_of_two := F__law_root_of_two.binds (ps := ["store"]) fun _ _ _ _ _ _ us hl => match us, hl with | [_], _ => rfl
  have F__law_triples := fun_mk (st := (top 66)) l__law_triples c__law_triples k__law_triples
  have b__law_triples := F__law_triples.binds (ps := ["store"]) fun _ _ _ _ _ _ us hl => match us, hl with | [_], _ => rfl
  have F__law_made := fun_mk (st := (top 67)) l__law_made c__law_made k__law_made
  have b__law_made := F__law_made.binds (ps := ["values"]) fun _ _ _ _ _ _ us hl => match us, hl with | [_], _ => rfl
  have F__law_looks := fun_mk (st := (top 68)) l__law_looks c__law_looks k__law_looks
  have b__law_looks := F__law_looks.binds (ps := ["ring", "values"]) fun _ _ _ _ _ _ us hl => match us, hl with | [_, _], _ => rfl
  have F__law_equals := fun_mk (st := (top 69)) l__law_equals c__law_equals k__law_equals
  have b__law_equals := F__law_equals.binds (ps := ["rings", "numbers"]) fun _ _ _ _ _ _ us hl => match us, hl with | [_, _], _ => rfl
  have F__law_unlike := fun_mk (st := (top 70)) l__law_unlike c__law_unlike k__law_unlike
  have b__law_unlike := F__law_unlike.binds (ps := ["ring", "values", "bad"]) fun _ _ _ _ _ _ us hl => match us, hl with | [_, _, _], _ => rfl
  have F_law := fun_mk (st := (top 71)) l_law c_law k_law
  have b_law := F_law.binds (ps := ["script"]) fun _ _ _ _ _ _ us hl => match us, hl with | [_], _ => rfl
  have F_Ring___init__ := fun_mk (st := (meth (top 38) 0)) l_Ring___init__ c_Ring___init__ k_Ring___init__
  have b_Ring___init__ := F_Ring___init__.binds (ps := ["self", "n", "q", "root"]) fun _ _ _ _ _ _ us hl => match us, hl with | [_, _, _, _], _ => rfl
  have F_Ring___eq__ := fun_mk (st := (meth (top 38) 1)) l_Ring___eq__ c_Ring___eq__ k_Ring___eq__
  have b_Ring___eq__ := F_Ring___eq__.binds (ps := ["self", "other"]) fun _ _ _ _ _ _ us hl => match us, hl with | [_, _], _ => rfl
  have F_IOutOfRange := fun_mk (st := (meth (top 2) 0)) l_IOutOfRange c_IOutOfRange k_IOutOfRange
  have b_IOutOfRange := F_IOutOfRange.binds (ps := ["self", "name"]) fun _ _ _ _ _ _ us hl => match us, hl with | [_, _], _ => rfl
  have O_OutOfRange : OexC K a_OutOfRange := ⟨⟨nm_OutOfRange, q_OutOfRange, N_OutOfRange, bs_OutOfRange, _, sn_OutOfRange, sub_OutOfRange, ab_OutOfRange, col_OutOfRange, dd_OutOfRange, m0_OutOfRange, m1_OutOfRange, m2_OutOfRange, m3_OutOfRange, m5_OutOfRange, xL_OutOfRange, rfl⟩, sa_OutOfRange, ex_OutOfRange, ty_OutOfRange, kc_OutOfRange⟩
  have F_IBadRing := fun_mk (st := (meth (top 9) 0)) l_IBadRing c_IBadRing k_IBadRing
  have b_IBadRing := F_IBadRing.binds (ps := ["self", "demand"]) fun _ _ _ _ _ _ us hl => match us, hl with | [_, _], _ => rfl
  have O_BadRing : OexC K a_BadRing := ⟨⟨nm_BadRing, q_BadRing, N_BadRing, bs_BadRing, _, sn_BadRing, sub_BadRing, ab_BadRing, col_BadRing, dd_BadRing, m0_BadRing, m1_BadRing, m2_BadRing, m3_BadRing, m5_BadRing, xL_BadRing, rfl⟩, sa_BadRing, ex_BadRing, ty_BadRing, kc_BadRing⟩
  refine ⟨PySem.W.fnOf "law" "law" (defArgs (top 71)) (defBody (top 71)) (defScope (top 71)) .none kV_law dc_law pm_law an_law cd_law ct_law, fun s v => .of_eq rfl, fun base _ _ => ok_law {
    n_ValueError := PySem.W.mg_none_of X G z_ValueError,
    n_max := PySem.W.mg_none_of X G z_max,
    n_range := PySem.W.mg_none_of X G z_range,
    n_list := PySem.W.mg_none_of X G z_list,
    n_isinstance := PySem.W.mg_none_of X G z_isinstance,
    n_int := PySem.W.mg_none_of X G z_int,
    n_str := PySem.W.mg_none_of X G z_str,
    n_tuple := PySem.W.mg_none_of X G z_tuple,
    n_min := PySem.W.mg_none_of X G z_min,
    n_len := PySem.W.mg_none_of X G z_len,
    n_bool := PySem.W.mg_none_of X G z_bool,
    o_DEGREES := o_DEGREES,
    m_DEGREES := PySem.W.mg_of X G ac_DEGREES,
    kt_DEGREES := ⟨_, its_DEGREES, n_DEGREES, lk_DEGREES, rfl, rfl, sz_DEGREES, vs_DEGREES⟩,
    t_GREATEST_MODULUS := t_GREATEST_MODULUS,
    m_GREATEST_MODULUS := PySem.W.mg_of X G ac_GREATEST_MODULUS,
    a_NoiseboundError := a_NoiseboundError,
    m_NoiseboundError := PySem.W.mg_of X G x_NoiseboundError,
    a_OutOfRange := a_OutOfRange,
    m_OutOfRange := PySem.W.mg_of X G x_OutOfRange,
    a_BadItem := a_BadItem,
    m_BadItem := PySem.W.mg_of X G x_BadItem,
    a_BadLength := a_BadLength,
    m_BadLength := PySem.W.mg_of X G x_BadLength,
    a_BadText := a_BadText,
    m_BadText := PySem.W.mg_of X G x_BadText,
    a_BadPadding := a_BadPadding,
    m_BadPadding := PySem.W.mg_of X G x_BadPadding,
    a_WrongPhase := a_WrongPhase,
    m_WrongPhase := PySem.W.mg_of X G x_WrongPhase,
    a_NotInvertible := a_NotInvertible,
    m_NotInvertible := PySem.W.mg_of X G x_NotInvertible,
    a_BadRing := a_BadRing,
    m_BadRing := PySem.W.mg_of X G x_BadRing,
    a_BadParameters := a_BadParameters,
    m_BadParameters := PySem.W.mg_of X G x_BadParameters,
    a_UnknownName := a_UnknownName,
    m_UnknownName := PySem.W.mg_of X G x_UnknownName,
    a_DifferentRings := a_DifferentRings,
    m_DifferentRings := PySem.W.mg_of X G x_DifferentRings,
    a_BadKey := a_BadKey,
    m_BadKey := PySem.W.mg_of X G x_BadKey,
    a_BadLetter := a_BadLetter,
    m_BadLetter := PySem.W.mg_of X G x_BadLetter,
    a_BadKeyText := a_BadKeyText,
    m_BadKeyText := PySem.W.mg_of X G x_BadKeyText,
    a_BadRecord := a_BadRecord,
    m_BadRecord := PySem.W.mg_of X G x_BadRecord,
    a_BadCommand := a_BadCommand,
    m_BadCommand := PySem.W.mg_of X G x_BadCommand,
    a_NoEntry := a_NoEntry,
    m_NoEntry := PySem.W.mg_of X G x_NoEntry,
    a_NothingLeft := a_NothingLeft,
    m_NothingLeft := PySem.W.mg_of X G x_NothingLeft,
    a_Ring := a_Ring,
    m_Ring := PySem.W.mg_of X G x_Ring,
    a_is_number := a_is_number,
    fd_is_number := _,
    F_is_number := F_is_number,
    m_is_number := PySem.W.mg_of X G a_is_number',
    k_is_number := k_is_number,
    b_is_number := b_is_number,
    a_is_between := a_is_between,
    fd_is_between := _,
    F_is_between := F_is_between,
    m_is_between := PySem.W.mg_of X G a_is_between',
    k_is_between := k_is_between,
    b_is_between := b_is_between,
    a_check_number := a_check_number,
    fd_check_number := _,
    F_check_number := F_check_number,
    m_check_number := PySem.W.mg_of X G a_check_number',
    k_check_number := k_check_number,
    b_check_number := b_check_number,
    a_check_between := a_check_between,
    fd_check_between := _,
    F_check_between := F_check_between,
    m_check_between := PySem.W.mg_of X G a_check_between',
    k_check_between := k_check_between,
    b_check_between := b_check_between,
    a_check_modulus := a_check_modulus,
    fd_check_modulus := _,
    F_check_modulus := F_check_modulus,
    m_check_modulus := PySem.W.mg_of X G a_check_modulus',
    k_check_modulus := k_check_modulus,
    b_check_modulus := b_check_modulus,
    a_is_degree := a_is_degree,
    fd_is_degree := _,
    F_is_degree := F_is_degree,
    m_is_degree := PySem.W.mg_of X G a_is_degree',
    k_is_degree := k_is_degree,
    b_is_degree := b_is_degree,
    a_power := a_power,
    fd_power := _,
    F_power := F_power,
    m_power := PySem.W.mg_of X G a_power',
    k_power := k_power,
    b_power := b_power,
    a_least_divisor := a_least_divisor,
    fd_least_divisor := _,
    F_least_divisor := F_least_divisor,
    m_least_divisor := PySem.W.mg_of X G a_least_divisor',
    k_least_divisor := k_least_divisor,
    b_least_divisor := b_least_divisor,
    a_is_prime := a_is_prime,
    fd_is_prime := _,
    F_is_prime := F_is_prime,
    m_is_prime := PySem.W.mg_of X G a_is_prime',
    k_is_prime := k_is_prime,
    b_is_prime := b_is_prime,
    a_is_odd_prime := a_is_odd_prime,
    fd_is_odd_prime := _,
    F_is_odd_prime := F_is_odd_prime,
    m_is_odd_prime := PySem.W.mg_of X G a_is_odd_prime',
    k_is_odd_prime := k_is_odd_prime,
    b_is_odd_prime := b_is_odd_prime,
    a_is_root := a_is_root,
    fd_is_root := _,
    F_is_root := F_is_root,
    m_is_root := PySem.W.mg_of X G a_is_root',
    k_is_root := k_is_root,
    b_is_root := b_is_root,
    a_ring_fault := a_ring_fault,
    fd_ring_fault := _,
    F_ring_fault := F_ring_fault,
    m_ring_fault := PySem.W.mg_of X G a_ring_fault',
    k_ring_fault := k_ring_fault,
    b_ring_fault := b_ring_fault,
    a_size_fault := a_size_fault,
    fd_size_fault := _,
    F_size_fault := F_size_fault,
    m_size_fault := PySem.W.mg_of X G a_size_fault',
    k_size_fault := k_size_fault,
    b_size_fault := b_size_fault,
    a__law_begin := a__law_begin,
    fd__law_begin := _,
    F__law_begin := F__law_begin,
    m__law_begin := PySem.W.mg_of X G a__law_begin',
    k__law_begin := k__law_begin,
    b__law_begin := b__law_begin,
    a__law_mixed := a__law_mixed,
    fd__law_mixed := _,
    F__law_mixed := F__law_mixed,
    m__law_mixed := PySem.W.mg_of X G a__law_mixed',
    k__law_mixed := k__law_mixed,
    b__law_mixed := b__law_mixed,
    a__law_take := a__law_take,
    fd__law_take := _,
    F__law_take := F__law_take,
    m__law_take := PySem.W.mg_of X G a__law_take',
    k__law_take := k__law_take,
    b__law_take := b__law_take,
    a__law_wide := a__law_wide,
    fd__law_wide := _,
    F__law_wide := F__law_wide,
    m__law_wide := PySem.W.mg_of X G a__law_wide',
    k__law_wide := k__law_wide,
    b__law_wide := b__law_wide,
    a__law_pick := a__law_pick,
    fd__law_pick := _,
    F__law_pick := F__law_pick,
    m__law_pick := PySem.W.mg_of X G a__law_pick',
    k__law_pick := k__law_pick,
    b__law_pick := b__law_pick,
    a__law_between := a__law_between,
    fd__law_between := _,
    F__law_between := F__law_between,
    m__law_between := PySem.W.mg_of X G a__law_between',
    k__law_between := k__law_between,
    b__law_between := b__law_between,
    a__law_shuffle := a__law_shuffle,
    fd__law_shuffle := _,
    F__law_shuffle := F__law_shuffle,
    m__law_shuffle := PySem.W.mg_of X G a__law_shuffle',
    k__law_shuffle := k__law_shuffle,
    b__law_shuffle := b__law_shuffle,
    a__law_any := a__law_any,
    fd__law_any := _,
    F__law_any := F__law_any,
    m__law_any := PySem.W.mg_of X G a__law_any',
    k__law_any := k__law_any,
    b__law_any := b__law_any,
    a__law_other := a__law_other,
    fd__law_other := _,
    F__law_other := F__law_other,
    m__law_other := PySem.W.mg_of X G a__law_other',
    k__law_other := k__law_other,
    b__law_other := b__law_other,
    a__law_beyond := a__law_beyond,
    fd__law_beyond := _,
    F__law_beyond := F__law_beyond,
    m__law_beyond := PySem.W.mg_of X G a__law_beyond',
    k__law_beyond := k__law_beyond,
    b__law_beyond := b__law_beyond,
    a__law_same := a__law_same,
    fd__law_same := _,
    F__law_same := F__law_same,
    m__law_same := PySem.W.mg_of X G a__law_same',
    k__law_same := k__law_same,
    b__law_same := b__law_same,
    a__law_whole := a__law_whole,
    fd__law_whole := _,
    F__law_whole := F__law_whole,
    m__law_whole := PySem.W.mg_of X G a__law_whole',
    k__law_whole := k__law_whole,
    b__law_whole := b__law_whole,
    a__law_within := a__law_within,
    fd__law_within := _,
    F__law_within := F__law_within,
    m__law_within := PySem.W.mg_of X G a__law_within',
    k__law_within := k__law_within,
    b__law_within := b__law_within,
    a__law_copy := a__law_copy,
    fd__law_copy := _,
    F__law_copy := F__law_copy,
    m__law_copy := PySem.W.mg_of X G a__law_copy',
    k__law_copy := k__law_copy,
    b__law_copy := b__law_copy,
    a__law_kin := a__law_kin,
    fd__law_kin := _,
    F__law_kin := F__law_kin,
    m__law_kin := PySem.W.mg_of X G a__law_kin',
    k__law_kin := k__law_kin,
    b__law_kin := b__law_kin,
    a__law_prime := a__law_prime,
    fd__law_prime := _,
    F__law_prime := F__law_prime,
    m__law_prime := PySem.W.mg_of X G a__law_prime',
    k__law_prime := k__law_prime,
    b__law_prime := b__law_prime,
    a__law_power := a__law_power,
    fd__law_power := _,
    F__law_power := F__law_power,
    m__law_power := PySem.W.mg_of X G a__law_power',
    k__law_power := k__law_power,
    b__law_power := b__law_power,
    a__law_root := a__law_root,
    fd__law_root := _,
    F__law_root := F__law_root,
    m__law_root := PySem.W.mg_of X G a__law_root',
    k__law_root := k__law_root,
    b__law_root := b__law_root,
    a__law_ring_demand := a__law_ring_demand,
    fd__law_ring_demand := _,
    F__law_ring_demand := F__law_ring_demand,
    m__law_ring_demand := PySem.W.mg_of X G a__law_ring_demand',
    k__law_ring_demand := k__law_ring_demand,
    b__law_ring_demand := b__law_ring_demand,
    a__law_refused := a__law_refused,
    fd__law_refused := _,
    F__law_refused := F__law_refused,
    m__law_refused := PySem.W.mg_of X G a__law_refused',
    k__law_refused := k__law_refused,
    b__law_refused := b__law_refused,
    a__law_prime_for := a__law_prime_for,
    fd__law_prime_for := _,
    F__law_prime_for := F__law_prime_for,
    m__law_prime_for := PySem.W.mg_of X G a__law_prime_for',
    k__law_prime_for := k__law_prime_for,
    b__law_prime_for := b__law_prime_for,
    a__law_some_ring := a__law_some_ring,
    fd__law_some_ring := _,
    F__law_some_ring := F__law_some_ring,
    m__law_some_ring := PySem.W.mg_of X G a__law_some_ring',
    k__law_some_ring := k__law_some_ring,
    b__law_some_ring := b__law_some_ring,
    a__law_plain := a__law_plain,
    fd__law_plain := _,
    F__law_plain := F__law_plain,
    m__law_plain := PySem.W.mg_of X G a__law_plain',
    k__law_plain := k__law_plain,
    b__law_plain := b__law_plain,
    a__law_composite := a__law_composite,
    fd__law_composite := _,
    F__law_composite := F__law_composite,
    m__law_composite := PySem.W.mg_of X G a__law_composite',
    k__law_composite := k__law_composite,
    b__law_composite := b__law_composite,
    a__law_near := a__law_near,
    fd__law_near := _,
    F__law_near := F__law_near,
    m__law_near := PySem.W.mg_of X G a__law_near',
    k__law_near := k__law_near,
    b__law_near := b__law_near,
    a__law_root_of_two := a__law_root_of_two,
    fd__law_root_of_two := _,
    F__law_root_of_two := F__law_root_of_two,
    m__law_root_of_two := PySem.W.mg_of X G a__law_root_of_two',
    k__law_root_of_two := k__law_root_of_two,
    b__law_root_of_two := b__law_root_of_two,
    a__law_triples := a__law_triples,
    fd__law_triples := _,
    F__law_triples := F__law_triples,
    m__law_triples := PySem.W.mg_of X G a__law_triples',
    k__law_triples := k__law_triples,
    b__law_triples := b__law_triples,
    a__law_made := a__law_made,
    fd__law_made := _,
    F__law_made := F__law_made,
    m__law_made := PySem.W.mg_of X G a__law_made',
    k__law_made := k__law_made,
    b__law_made := b__law_made,
    a__law_looks := a__law_looks,
    fd__law_looks := _,
    F__law_looks := F__law_looks,
    m__law_looks := PySem.W.mg_of X G a__law_looks',
    k__law_looks := k__law_looks,
    b__law_looks := b__law_looks,
    a__law_equals := a__law_equals,
    fd__law_equals := _,
    F__law_equals := F__law_equals,
    m__law_equals := PySem.W.mg_of X G a__law_equals',
    k__law_equals := k__law_equals,
    b__law_equals := b__law_equals,
    a__law_unlike := a__law_unlike,
    fd__law_unlike := _,
    F__law_unlike := F__law_unlike,
    m__law_unlike := PySem.W.mg_of X G a__law_unlike',
    k__law_unlike := k__law_unlike,
    b__law_unlike := b__law_unlike,
    a_law := a_law,
    fd_law := _,
    F_law := F_law,
    m_law := PySem.W.mg_of X G a_law',
    k_law := k_law,
    b_law := b_law,
    ck_Ring := ⟨⟨pg_Ring, hdk_Ring, po_Ring, sak_Ring⟩, hak_Ring, hnk_Ring, htk_Ring, hmk_Ring, kit_ct kt0_Ring (by decide), kit_ct kt1_Ring (by decide), kit_ct kt2_Ring (by decide), kit_ct kt3_Ring (by decide), kit_ct kt4_Ring (by decide)⟩,
    qo_Ring := kit_ref so_Ring so_Ring ic_Ring tyc_Ring,
    no_Ring_n := no_Ring_n,
    no_Ring_q := no_Ring_q,
    no_Ring_root := no_Ring_root,
    no_Ring_half := no_Ring_half,
    no_Ring_quarter := no_Ring_quarter,
    no_Ring_triple := no_Ring_triple,
    a_Ring___init__ := a_Ring___init__,
    fd_Ring___init__ := _,
    F_Ring___init__ := F_Ring___init__,
    b_Ring___init__ := b_Ring___init__,
    mk_Ring := ⟨mks_Ring, at_Ring___init__, fn_Ring___init__, kpc_Ring⟩,
    a_Ring___eq__ := a_Ring___eq__,
    fd_Ring___eq__ := _,
    F_Ring___eq__ := F_Ring___eq__,
    b_Ring___eq__ := b_Ring___eq__,
    me_Ring___eq__ := ⟨at_Ring___eq__, fn_Ring___eq__, k_Ring___eq__⟩,
    oe_Ring := ⟨at_Ring___eq__, nq_Ring, fn_Ring___eq__, hmk_Ring⟩,
    ow_Ring := ⟨ic_Ring, tyc_Ring, kit_ref so_Ring so_Ring ic_Ring tyc_Ring, fun D hD => by simp only [List.mem_cons, List.not_mem_nil, or_false] at hD⟩,
    fi_OutOfRange := fi_OutOfRange,
    fdi_OutOfRange := _,
    e_OutOfRange := ⟨O_OutOfRange, iC_OutOfRange, tI_OutOfRange, PySem.W.mg_of X G x_OutOfRange⟩,
    in_OutOfRange := ⟨O_OutOfRange, fun g hg => by simp only [List.mem_cons, List.not_mem_nil, or_false] at hg; rcases hg with rfl <;> assumption⟩,
    ii_OutOfRange := F_IOutOfRange,
    bi_OutOfRange := b_IOutOfRange,
    x_OutOfRange := ⟨ga_OutOfRange, gg_OutOfRange, ex_OutOfRange, hd_OutOfRange, cl_OutOfRange, sg_OutOfRange, tk_OutOfRange, ob_OutOfRange⟩,
    f_OutOfRange := ⟨ga_OutOfRange, gg_OutOfRange, ex_OutOfRange, hd_OutOfRange⟩,
    exm_OutOfRange := exm_ref exN s_OutOfRange_NoiseboundError ic_NoiseboundError tyc_NoiseboundError,
    q_OutOfRange_ValueError := kit_ve s_OutOfRange_ValueError,
    g_OutOfRange_name := g_OutOfRange_name,
    q_OutOfRange_NoiseboundError := kit_ref s_OutOfRange_OutOfRange s_OutOfRange_NoiseboundError ic_NoiseboundError tyc_NoiseboundError,
    q_OutOfRange_OutOfRange := kit_ref s_OutOfRange_OutOfRange s_OutOfRange_OutOfRange ic_OutOfRange tyc_OutOfRange,
    q_OutOfRange_BadItem := kit_ref s_OutOfRange_OutOfRange s_OutOfRange_BadItem ic_BadItem tyc_BadItem,
    q_OutOfRange_BadLength := kit_ref s_OutOfRange_OutOfRange s_OutOfRange_BadLength ic_BadLength tyc_BadLength,
    q_OutOfRange_BadText := kit_ref s_OutOfRange_OutOfRange s_OutOfRange_BadText ic_BadText tyc_BadText,
    q_OutOfRange_BadPadding := kit_ref s_OutOfRange_OutOfRange s_OutOfRange_BadPadding ic_BadPadding tyc_BadPadding,
    q_OutOfRange_WrongPhase := kit_ref s_OutOfRange_OutOfRange s_OutOfRange_WrongPhase ic_WrongPhase tyc_WrongPhase,
    q_OutOfRange_NotInvertible := kit_ref s_OutOfRange_OutOfRange s_OutOfRange_NotInvertible ic_NotInvertible tyc_NotInvertible,
    q_OutOfRange_BadRing := kit_ref s_OutOfRange_OutOfRange s_OutOfRange_BadRing ic_BadRing tyc_BadRing,
    q_OutOfRange_BadParameters := kit_ref s_OutOfRange_OutOfRange s_OutOfRange_BadParameters ic_BadParameters tyc_BadParameters,
    q_OutOfRange_UnknownName := kit_ref s_OutOfRange_OutOfRange s_OutOfRange_UnknownName ic_UnknownName tyc_UnknownName,
    q_OutOfRange_DifferentRings := kit_ref s_OutOfRange_OutOfRange s_OutOfRange_DifferentRings ic_DifferentRings tyc_DifferentRings,
    q_OutOfRange_BadKey := kit_ref s_OutOfRange_OutOfRange s_OutOfRange_BadKey ic_BadKey tyc_BadKey,
    q_OutOfRange_BadLetter := kit_ref s_OutOfRange_OutOfRange s_OutOfRange_BadLetter ic_BadLetter tyc_BadLetter,
    q_OutOfRange_BadKeyText := kit_ref s_OutOfRange_OutOfRange s_OutOfRange_BadKeyText ic_BadKeyText tyc_BadKeyText,
    q_OutOfRange_BadRecord := kit_ref s_OutOfRange_OutOfRange s_OutOfRange_BadRecord ic_BadRecord tyc_BadRecord,
    q_OutOfRange_BadCommand := kit_ref s_OutOfRange_OutOfRange s_OutOfRange_BadCommand ic_BadCommand tyc_BadCommand,
    q_OutOfRange_NoEntry := kit_ref s_OutOfRange_OutOfRange s_OutOfRange_NoEntry ic_NoEntry tyc_NoEntry,
    q_OutOfRange_NothingLeft := kit_ref s_OutOfRange_OutOfRange s_OutOfRange_NothingLeft ic_NothingLeft tyc_NothingLeft,
    q_OutOfRange_Ring := kit_ref s_OutOfRange_OutOfRange s_OutOfRange_Ring ic_Ring tyc_Ring,
    fi_BadRing := fi_BadRing,
    fdi_BadRing := _,
    e_BadRing := ⟨O_BadRing, iC_BadRing, tI_BadRing, PySem.W.mg_of X G x_BadRing⟩,
    in_BadRing := ⟨O_BadRing, fun g hg => by simp only [List.mem_cons, List.not_mem_nil, or_false] at hg; rcases hg with rfl <;> assumption⟩,
    ii_BadRing := F_IBadRing,
    bi_BadRing := b_IBadRing,
    x_BadRing := ⟨ga_BadRing, gg_BadRing, ex_BadRing, hd_BadRing, cl_BadRing, sg_BadRing, tk_BadRing, ob_BadRing⟩,
    f_BadRing := ⟨ga_BadRing, gg_BadRing, ex_BadRing, hd_BadRing⟩,
    exm_BadRing := exm_ref exN s_BadRing_NoiseboundError ic_NoiseboundError tyc_NoiseboundError,
    q_BadRing_ValueError := kit_ve s_BadRing_ValueError,
    g_BadRing_demand := g_BadRing_demand,
    q_BadRing_NoiseboundError := kit_ref s_BadRing_BadRing s_BadRing_NoiseboundError ic_NoiseboundError tyc_NoiseboundError,
    q_BadRing_OutOfRange := kit_ref s_BadRing_BadRing s_BadRing_OutOfRange ic_OutOfRange tyc_OutOfRange,
    q_BadRing_BadItem := kit_ref s_BadRing_BadRing s_BadRing_BadItem ic_BadItem tyc_BadItem,
    q_BadRing_BadLength := kit_ref s_BadRing_BadRing s_BadRing_BadLength ic_BadLength tyc_BadLength,
    q_BadRing_BadText := kit_ref s_BadRing_BadRing s_BadRing_BadText ic_BadText tyc_BadText,
    q_BadRing_BadPadding := kit_ref s_BadRing_BadRing s_BadRing_BadPadding ic_BadPadding tyc_BadPadding,
    q_BadRing_WrongPhase := kit_ref s_BadRing_BadRing s_BadRing_WrongPhase ic_WrongPhase tyc_WrongPhase,
    q_BadRing_NotInvertible := kit_ref s_BadRing_BadRing s_BadRing_NotInvertible ic_NotInvertible tyc_NotInvertible,
    q_BadRing_BadRing := kit_ref s_BadRing_BadRing s_BadRing_BadRing ic_BadRing tyc_BadRing,
    q_BadRing_BadParameters := kit_ref s_BadRing_BadRing s_BadRing_BadParameters ic_BadParameters tyc_BadParameters,
    q_BadRing_UnknownName := kit_ref s_BadRing_BadRing s_BadRing_UnknownName ic_UnknownName tyc_UnknownName,
    q_BadRing_DifferentRings := kit_ref s_BadRing_BadRing s_BadRing_DifferentRings ic_DifferentRings tyc_DifferentRings,
    q_BadRing_BadKey := kit_ref s_BadRing_BadRing s_BadRing_BadKey ic_BadKey tyc_BadKey,
    q_BadRing_BadLetter := kit_ref s_BadRing_BadRing s_BadRing_BadLetter ic_BadLetter tyc_BadLetter,
    q_BadRing_BadKeyText := kit_ref s_BadRing_BadRing s_BadRing_BadKeyText ic_BadKeyText tyc_BadKeyText,
    q_BadRing_BadRecord := kit_ref s_BadRing_BadRing s_BadRing_BadRecord ic_BadRecord tyc_BadRecord,
    q_BadRing_BadCommand := kit_ref s_BadRing_BadRing s_BadRing_BadCommand ic_BadCommand tyc_BadCommand,
    q_BadRing_NoEntry := kit_ref s_BadRing_BadRing s_BadRing_NoEntry ic_NoEntry tyc_NoEntry,
    q_BadRing_NothingLeft := kit_ref s_BadRing_BadRing s_BadRing_NothingLeft ic_NothingLeft tyc_NothingLeft,
    q_BadRing_Ring := kit_ref s_BadRing_BadRing s_BadRing_Ring ic_Ring tyc_Ring,
    kn_Ring___init___root_n_q := kbn_of F_Ring___init__ fun _ _ _ _ _ _ us ws h1 h2 => match us, ws, h1, h2 with | [_], [_, _, _], _, _ => rfl,
    kb_ring_fault := kb0_of F_ring_fault fun _ _ _ _ _ _ ws hl => match ws, hl with | [_, _, _], _ => rfl }⟩
end
end Pf
set_option Elab.async false
set_option linter.all false
def PySem.W.Fast.tw3425048530831597448 : Nat := 0
def PySem.W.Fast.tw1401063398557299780 : Nat := 0
def PySem.W.Fast.tw8939684316832543827 : Nat := 0
def PySem.W.Fast.tw14054110566329392571 : Nat := 0
def PySem.W.Fast.tw14576337399098581522 : Nat := 0
def PySem.W.Fast.tw8657534739409231992 : Nat := 0
def PySem.W.Fast.tw12917045029464464194 : Nat := 0
def PySem.W.Fast.tw15372326743013285906 : Nat := 0
def PySem.W.Fast.tw11400442570280931179 : Nat := 0
def PySem.W.Fast.tw14739585287597262772 : Nat := 0
def PySem.W.Fast.tw647867382533871249 : Nat := 0
def PySem.W.Fast.tw4387796905587140480 : Nat := 0
def PySem.W.Fast.tw10161762334710219148 : Nat := 0
def PySem.W.Fast.tw7117255075321047931 : Nat := 0
def PySem.W.Fast.tw13557022826163190102 : Nat := 0
def PySem.W.Fast.tw7712488481079541852 : Nat := 0
def PySem.W.Fast.tw1597477148725386547 : Nat := 0
def PySem.W.Fast.tw9410989763244140297 : Nat := 0
def PySem.W.Fast.tw6716168403798714820 : Nat := 0
def PySem.W.Fast.tw6713224598730213706 : Nat := 0
def PySem.W.Fast.tw15899255707663211985 : Nat := 0
def PySem.W.Fast.tw13306786096584558299 : Nat := 0
def PySem.W.Fast.tw1060410498005209559 : Nat := 0
def PySem.W.Fast.tw11370602828616597728 : Nat := 0
def PySem.W.Fast.tw10806890131546069149 : Nat := 0
open PySem PySem.W PyProof.Rows in
set_option maxRecDepth 100000 in
set_option maxHeartbeats 0 in
theorem PySem.Challenge.cw_noisebound_k25_rings_and_demands_holds : PySem.Challenge.rw_noisebound_k25_rings_and_demands.Holds := by
  w_on; o_law; k_head; (case hw => w_witness2)
  k_fill
  refine L2.walk_of (l := PySem.Challenge.rw_noisebound_k25_rings_and_demands) (n := 63) (k := 12) (x := "script") (CX := fun w => L2N.CX (PySem.Challenge.rw_noisebound_k25_rings_and_demands).prog w) (sp := fun w => DK.spD _ 1 Pf.fLaw) rfl (by decide) rfl ⟨rfl, by decide, by decide⟩ (fun w h Y => PySem.W.kIn_of Y) ?F
    (fun w H a ns hl _ hS => ⟨[], [], [.rl (ns.map fun z => .v (.int z))], fun d _ => d = .v (.bl true), fun _ _ => False, ⟨.nil, rfl, fun k p c h => by cases h⟩, .cons (.rl (hS.imp (fun z => ⟨z, List.not_mem_nil⟩) id) DK.Dens.ints) .nil, rfl, ⟨ns, rfl, hl, rfl, fun _ => rfl⟩, fun d μ' e v w' _ _ _ dn => by subst e; exact dn.v_inv, fun x μ' e => e.elim⟩)
    fun w H s e s' z => ?E
  case E =>
    obtain ⟨_, _, _, _, _, _, _, _, _, _, _, _, z⟩ := z
    exact z.elim
  case F =>
    intro w mg fa h KX G hmg
    refine' Pf.all_mk KX G hmg ?z_ValueError ?z_max ?z_range ?z_list ?z_isinstance ?z_int ?z_str ?z_tuple ?z_min ?z_len ?z_bool ?ac_DEGREES ?lk_DEGREES ?vs_DEGREES ?sz_DEGREES ?ac_GREATEST_MODULUS ?x_NoiseboundError ?x_OutOfRange ?x_BadItem ?x_BadLength ?x_BadText ?x_BadPadding ?x_WrongPhase ?x_NotInvertible ?x_BadRing ?x_BadParameters ?x_UnknownName ?x_DifferentRings ?x_BadKey ?x_BadLetter ?x_BadKeyText ?x_BadRecord ?x_BadCommand ?x_NoEntry ?x_NothingLeft ?x_Ring ?exN ?ic_NoiseboundError ?tyc_NoiseboundError ?ic_OutOfRange ?tyc_OutOfRange ?ic_BadItem ?tyc_BadItem ?ic_BadLength ?tyc_BadLength ?ic_BadText ?tyc_BadText ?ic_BadPadding ?tyc_BadPadding ?ic_WrongPhase ?tyc_WrongPhase ?ic_NotInvertible ?tyc_NotInvertible ?ic_BadRing ?tyc_BadRing ?ic_BadParameters ?tyc_BadParameters ?ic_UnknownName ?tyc_UnknownName ?ic_DifferentRings ?tyc_DifferentRings ?ic_BadKey ?tyc_BadKey ?ic_BadLetter ?tyc_BadLetter ?ic_BadKeyText ?tyc_BadKeyText ?ic_BadRecord ?tyc_BadRecord ?ic_BadCommand ?tyc_BadCommand ?ic_NoEntry ?tyc_NoEntry ?ic_NothingLeft ?tyc_NothingLeft ?ic_Ring ?tyc_Ring ?a_is_number' ?l_is_number ?c_is_number ?k_is_number ?a_is_between' ?l_is_between ?c_is_between ?k_is_between ?a_check_number' ?l_check_number ?c_check_number ?k_check_number ?a_check_between' ?l_check_between ?c_check_between ?k_check_between ?a_check_modulus' ?l_check_modulus ?c_check_modulus ?k_check_modulus ?a_is_degree' ?l_is_degree ?c_is_degree ?k_is_degree ?a_power' ?l_power ?c_power ?k_power ?a_least_divisor' ?l_least_divisor ?c_least_divisor ?k_least_divisor ?a_is_prime' ?l_is_prime ?c_is_prime ?k_is_prime ?a_is_odd_prime' ?l_is_odd_prime ?c_is_odd_prime ?k_is_odd_prime ?a_is_root' ?l_is_root ?c_is_root ?k_is_root ?a_ring_fault' ?l_ring_fault ?c_ring_fault ?k_ring_fault ?a_size_fault' ?l_size_fault ?c_size_fault ?k_size_fault ?a__law_begin' ?l__law_begin ?c__law_begin ?k__law_begin ?a__law_mixed' ?l__law_mixed ?c__law_mixed ?k__law_mixed ?a__law_take' ?l__law_take ?c__law_take ?k__law_take ?a__law_wide' ?l__law_wide ?c__law_wide ?k__law_wide ?a__law_pick' ?l__law_pick ?c__law_pick ?k__law_pick ?a__law_between' ?l__law_between ?c__law_between ?k__law_between ?a__law_shuffle' ?l__law_shuffle ?c__law_shuffle ?k__law_shuffle ?a__law_any' ?l__law_any ?c__law_any ?k__law_any ?a__law_other' ?l__law_other ?c__law_other ?k__law_other ?a__law_beyond' ?l__law_beyond ?c__law_beyond ?k__law_beyond ?a__law_same' ?l__law_same ?c__law_same ?k__law_same ?a__law_whole' ?l__law_whole ?c__law_whole ?k__law_whole ?a__law_within' ?l__law_within ?c__law_within ?k__law_within ?a__law_copy' ?l__law_copy ?c__law_copy ?k__law_copy ?a__law_kin' ?l__law_kin ?c__law_kin ?k__law_kin ?a__law_prime' ?l__law_prime ?c__law_prime ?k__law_prime ?a__law_power' ?l__law_power ?c__law_power ?k__law_power ?a__law_root' ?l__law_root ?c__law_root ?k__law_root ?a__law_ring_demand' ?l__law_ring_demand ?c__law_ring_demand ?k__law_ring_demand ?a__law_refused' ?l__law_refused ?c__law_refused ?k__law_refused ?a__law_prime_for' ?l__law_prime_for ?c__law_prime_for ?k__law_prime_for ?a__law_some_ring' ?l__law_some_ring ?c__law_some_ring ?k__law_some_ring ?a__law_plain' ?l__law_plain ?c__law_plain ?k__law_plain ?a__law_composite' ?l__law_composite ?c__law_composite ?k__law_composite ?a__law_near' ?l__law_near ?c__law_near ?k__law_near ?a__law_root_of_two' ?l__law_root_of_two ?c__law_root_of_two ?k__law_root_of_two ?a__law_triples' ?l__law_triples ?c__law_triples ?k__law_triples ?a__law_made' ?l__law_made ?c__law_made ?k__law_made ?a__law_looks' ?l__law_looks ?c__law_looks ?k__law_looks ?a__law_equals' ?l__law_equals ?c__law_equals ?k__law_equals ?a__law_unlike' ?l__law_unlike ?c__law_unlike ?k__law_unlike ?a_law' ?l_law ?c_law ?k_law ?pg_Ring ?hdk_Ring ?po_Ring ?sak_Ring ?hak_Ring ?hnk_Ring ?htk_Ring ?hmk_Ring ?kt0_Ring ?kt1_Ring ?kt2_Ring ?kt3_Ring ?kt4_Ring ?so_Ring ?no_Ring_n ?no_Ring_q ?no_Ring_root ?no_Ring_half ?no_Ring_quarter ?no_Ring_triple ?at_Ring___init__ ?fn_Ring___init__ ?l_Ring___init__ ?c_Ring___init__ ?k_Ring___init__ ?mks_Ring ?kpc_Ring ?at_Ring___eq__ ?fn_Ring___eq__ ?l_Ring___eq__ ?c_Ring___eq__ ?k_Ring___eq__ ?nq_Ring ?xL_OutOfRange ?sa_OutOfRange ?ga_OutOfRange ?gg_OutOfRange ?ex_OutOfRange ?ty_OutOfRange ?kc_OutOfRange ?cl_OutOfRange ?hd_OutOfRange ?sg_OutOfRange ?tk_OutOfRange ?ob_OutOfRange ?g_OutOfRange_name ?iC_OutOfRange ?tI_OutOfRange ?l_IOutOfRange ?c_IOutOfRange ?k_IOutOfRange ?s_OutOfRange_ValueError ?s_OutOfRange_NoiseboundError ?s_OutOfRange_OutOfRange ?s_OutOfRange_BadItem ?s_OutOfRange_BadLength ?s_OutOfRange_BadText ?s_OutOfRange_BadPadding ?s_OutOfRange_WrongPhase ?s_OutOfRange_NotInvertible ?s_OutOfRange_BadRing ?s_OutOfRange_BadParameters ?s_OutOfRange_UnknownName ?s_OutOfRange_DifferentRings ?s_OutOfRange_BadKey ?s_OutOfRange_BadLetter ?s_OutOfRange_BadKeyText ?s_OutOfRange_BadRecord ?s_OutOfRange_BadCommand ?s_OutOfRange_NoEntry ?s_OutOfRange_NothingLeft ?s_OutOfRange_Ring ?xL_BadRing ?sa_BadRing ?ga_BadRing ?gg_BadRing ?ex_BadRing ?ty_BadRing ?kc_BadRing ?cl_BadRing ?hd_BadRing ?sg_BadRing ?tk_BadRing ?ob_BadRing ?g_BadRing_demand ?iC_BadRing ?tI_BadRing ?l_IBadRing ?c_IBadRing ?k_IBadRing ?s_BadRing_ValueError ?s_BadRing_NoiseboundError ?s_BadRing_OutOfRange ?s_BadRing_BadItem ?s_BadRing_BadLength ?s_BadRing_BadText ?s_BadRing_BadPadding ?s_BadRing_WrongPhase ?s_BadRing_NotInvertible ?s_BadRing_BadRing ?s_BadRing_BadParameters ?s_BadRing_UnknownName ?s_BadRing_DifferentRings ?s_BadRing_BadKey ?s_BadRing_BadLetter ?s_BadRing_BadKeyText ?s_BadRing_BadRecord ?s_BadRing_BadCommand ?s_BadRing_NoEntry ?s_BadRing_NothingLeft ?s_BadRing_Ring
    (case z_ValueError => k_is)
    (case z_max => k_is)
    (case z_range => k_is)
    (case z_list => k_is)
    (case z_isinstance => k_is)
    (case z_int => k_is)
    (case z_str => k_is)
    (case z_tuple => k_is)
    (case z_min => k_is)
    (case z_len => k_is)
    (case z_bool => k_is)
    (case ac_DEGREES => k_is)
    (case lk_DEGREES => k_is)
    (case vs_DEGREES => (repeat' (first | exact .nil | refine .cons ⟨_, rfl⟩ ?_)))
    (case sz_DEGREES => decide)
    (case ac_GREATEST_MODULUS => k_is)
    (case x_NoiseboundError => k_is)
    (case x_OutOfRange => k_is)
    (case x_BadItem => k_is)
    (case x_BadLength => k_is)
    (case x_BadText => k_is)
    (case x_BadPadding => k_is)
    (case x_WrongPhase => k_is)
    (case x_NotInvertible => k_is)
    (case x_BadRing => k_is)
    (case x_BadParameters => k_is)
    (case x_UnknownName => k_is)
    (case x_DifferentRings => k_is)
    (case x_BadKey => k_is)
    (case x_BadLetter => k_is)
    (case x_BadKeyText => k_is)
    (case x_BadRecord => k_is)
    (case x_BadCommand => k_is)
    (case x_NoEntry => k_is)
    (case x_NothingLeft => k_is)
    (case x_Ring => k_is)
    (case exN => k_is)
    (case ic_NoiseboundError => k_is)
    (case tyc_NoiseboundError => k_is)
    (case ic_OutOfRange => k_is)
    (case tyc_OutOfRange => k_is)
    (case ic_BadItem => k_is)
    (case tyc_BadItem => k_is)
    (case ic_BadLength => k_is)
    (case tyc_BadLength => k_is)
    (case ic_BadText => k_is)
    (case tyc_BadText => k_is)
    (case ic_BadPadding => k_is)
    (case tyc_BadPadding => k_is)
    (case ic_WrongPhase => k_is)
    (case tyc_WrongPhase => k_is)
    (case ic_NotInvertible => k_is)
    (case tyc_NotInvertible => k_is)
    (case ic_BadRing => k_is)
    (case tyc_BadRing => k_is)
    (case ic_BadParameters => k_is)
    (case tyc_BadParameters => k_is)
    (case ic_UnknownName => k_is)
    (case tyc_UnknownName => k_is)
    (case ic_DifferentRings => k_is)
    (case tyc_DifferentRings => k_is)
    (case ic_BadKey => k_is)
    (case tyc_BadKey => k_is)
    (case ic_BadLetter => k_is)
    (case tyc_BadLetter => k_is)
    (case ic_BadKeyText => k_is)
    (case tyc_BadKeyText => k_is)
    (case ic_BadRecord => k_is)
    (case tyc_BadRecord => k_is)
    (case ic_BadCommand => k_is)
    (case tyc_BadCommand => k_is)
    (case ic_NoEntry => k_is)
    (case tyc_NoEntry => k_is)
    (case ic_NothingLeft => k_is)
    (case tyc_NothingLeft => k_is)
    (case ic_Ring => k_is)
    (case tyc_Ring => k_is)
    (case a_is_number' => k_is)
    (case l_is_number => k_is)
    (case c_is_number => k_is)
    (case k_is_number => k_is)
    (case a_is_between' => k_is)
    (case l_is_between => k_is)
    (case c_is_between => k_is)
    (case k_is_between => k_is)
    (case a_check_number' => k_is)
    (case l_check_number => k_is)
    (case c_check_number => k_is)
    (case k_check_number => k_is)
    (case a_check_between' => k_is)
    (case l_check_between => k_is)
    (case c_check_between => k_is)
    (case k_check_between => k_is)
    (case a_check_modulus' => k_is)
    (case l_check_modulus => k_is)
    (case c_check_modulus => k_is)
    (case k_check_modulus => k_is)
    (case a_is_degree' => k_is)
    (case l_is_degree => k_is)
    (case c_is_degree => k_is)
    (case k_is_degree => k_is)
    (case a_power' => k_is)
    (case l_power => k_is)
    (case c_power => k_is)
    (case k_power => k_is)
    (case a_least_divisor' => k_is)
    (case l_least_divisor => k_is)
    (case c_least_divisor => k_is)
    (case k_least_divisor => k_is)
    (case a_is_prime' => k_is)
    (case l_is_prime => k_is)
    (case c_is_prime => k_is)
    (case k_is_prime => k_is)
    (case a_is_odd_prime' => k_is)
    (case l_is_odd_prime => k_is)
    (case c_is_odd_prime => k_is)
    (case k_is_odd_prime => k_is)
    (case a_is_root' => k_is)
    (case l_is_root => k_is)
    (case c_is_root => k_is)
    (case k_is_root => k_is)
    (case a_ring_fault' => k_is)
    (case l_ring_fault => k_is)
    (case c_ring_fault => k_is)
    (case k_ring_fault => k_is)
    (case a_size_fault' => k_is)
    (case l_size_fault => k_is)
    (case c_size_fault => k_is)
    (case k_size_fault => k_is)
    (case a__law_begin' => k_is)
    (case l__law_begin => k_is)
    (case c__law_begin => k_is)
    (case k__law_begin => k_is)
    (case a__law_mixed' => k_is)
    (case l__law_mixed => k_is)
    (case c__law_mixed => k_is)
    (case k__law_mixed => k_is)
    (case a__law_take' => k_is)
    (case l__law_take => k_is)
    (case c__law_take => k_is)
    (case k__law_take => k_is)
    (case a__law_wide' => k_is)
    (case l__law_wide => k_is)
    (case c__law_wide => k_is)
    (case k__law_wide => k_is)
    (case a__law_pick' => k_is)
    (case l__law_pick => k_is)
    (case c__law_pick => k_is)
    (case k__law_pick => k_is)
    (case a__law_between' => k_is)
    (case l__law_between => k_is)
    (case c__law_between => k_is)
    (case k__law_between => k_is)
    (case a__law_shuffle' => k_is)
    (case l__law_shuffle => k_is)
    (case c__law_shuffle => k_is)
    (case k__law_shuffle => k_is)
    (case a__law_any' => k_is)
    (case l__law_any => k_is)
    (case c__law_any => k_is)
    (case k__law_any => k_is)
    (case a__law_other' => k_is)
    (case l__law_other => k_is)
    (case c__law_other => k_is)
    (case k__law_other => k_is)
    (case a__law_beyond' => k_is)
    (case l__law_beyond => k_is)
    (case c__law_beyond => k_is)
    (case k__law_beyond => k_is)
    (case a__law_same' => k_is)
    (case l__law_same => k_is)
    (case c__law_same => k_is)
    (case k__law_same => k_is)
    (case a__law_whole' => k_is)
    (case l__law_whole => k_is)
    (case c__law_whole => k_is)
    (case k__law_whole => k_is)
    (case a__law_within' => k_is)
    (case l__law_within => k_is)
    (case c__law_within => k_is)
    (case k__law_within => k_is)
    (case a__law_copy' => k_is)
    (case l__law_copy => k_is)
    (case c__law_copy => k_is)
    (case k__law_copy => k_is)
    (case a__law_kin' => k_is)
    (case l__law_kin => k_is)
    (case c__law_kin => k_is)
    (case k__law_kin => k_is)
    (case a__law_prime' => k_is)
    (case l__law_prime => k_is)
    (case c__law_prime => k_is)
    (case k__law_prime => k_is)
    (case a__law_power' => k_is)
    (case l__law_power => k_is)
    (case c__law_power => k_is)
    (case k__law_power => k_is)
    (case a__law_root' => k_is)
    (case l__law_root => k_is)
    (case c__law_root => k_is)
    (case k__law_root => k_is)
    (case a__law_ring_demand' => k_is)
    (case l__law_ring_demand => k_is)
    (case c__law_ring_demand => k_is)
    (case k__law_ring_demand => k_is)
    (case a__law_refused' => k_is)
    (case l__law_refused => k_is)
    (case c__law_refused => k_is)
    (case k__law_refused => k_is)
    (case a__law_prime_for' => k_is)
    (case l__law_prime_for => k_is)
    (case c__law_prime_for => k_is)
    (case k__law_prime_for => k_is)
    (case a__law_some_ring' => k_is)
    (case l__law_some_ring => k_is)
    (case c__law_some_ring => k_is)
    (case k__law_some_ring => k_is)
    (case a__law_plain' => k_is)
    (case l__law_plain => k_is)
    (case c__law_plain => k_is)
    (case k__law_plain => k_is)
    (case a__law_composite' => k_is)
    (case l__law_composite => k_is)
    (case c__law_composite => k_is)
    (case k__law_composite => k_is)
    (case a__law_near' => k_is)
    (case l__law_near => k_is)
    (case c__law_near => k_is)
    (case k__law_near => k_is)
    (case a__law_root_of_two' => k_is)
    (case l__law_root_of_two => k_is)
    (case c__law_root_of_two => k_is)
    (case k__law_root_of_two => k_is)
    (case a__law_triples' => k_is)
    (case l__law_triples => k_is)
    (case c__law_triples => k_is)
    (case k__law_triples => k_is)
    (case a__law_made' => k_is)
    (case l__law_made => k_is)
    (case c__law_made => k_is)
    (case k__law_made => k_is)
    (case a__law_looks' => k_is)
    (case l__law_looks => k_is)
    (case c__law_looks => k_is)
    (case k__law_looks => k_is)
    (case a__law_equals' => k_is)
    (case l__law_equals => k_is)
    (case c__law_equals => k_is)
    (case k__law_equals => k_is)
    (case a__law_unlike' => k_is)
    (case l__law_unlike => k_is)
    (case c__law_unlike => k_is)
    (case k__law_unlike => k_is)
    (case a_law' => k_is)
    (case l_law => k_is)
    (case c_law => k_is)
    (case k_law => k_is)
    (case pg_Ring => k_is)
    (case hdk_Ring => k_is)
    (case po_Ring => k_is)
    (case sak_Ring => k_is)
    (case hak_Ring => k_is)
    (case hnk_Ring => k_is)
    (case htk_Ring => k_is)
    (case hmk_Ring => k_is)
    (case kt0_Ring => k_is)
    (case kt1_Ring => k_is)
    (case kt2_Ring => k_is)
    (case kt3_Ring => k_is)
    (case kt4_Ring => k_is)
    (case so_Ring => k_is)
    (case no_Ring_n => k_is)
    (case no_Ring_q => k_is)
    (case no_Ring_root => k_is)
    (case no_Ring_half => k_is)
    (case no_Ring_quarter => k_is)
    (case no_Ring_triple => k_is)
    (case at_Ring___init__ => k_is)
    (case fn_Ring___init__ => k_is)
    (case l_Ring___init__ => k_is)
    (case c_Ring___init__ => k_is)
    (case k_Ring___init__ => k_is)
    (case mks_Ring => k_is)
    (case kpc_Ring => k_is)
    (case at_Ring___eq__ => k_is)
    (case fn_Ring___eq__ => k_is)
    (case l_Ring___eq__ => k_is)
    (case c_Ring___eq__ => k_is)
    (case k_Ring___eq__ => k_is)
    (case nq_Ring => k_is)
    (case xL_OutOfRange => k_is)
    (case sa_OutOfRange => k_is)
    (case ga_OutOfRange => k_is)
    (case gg_OutOfRange => k_is)
    (case ex_OutOfRange => k_is)
    (case ty_OutOfRange => k_is)
    (case kc_OutOfRange => k_is)
    (case cl_OutOfRange => k_is)
    (case hd_OutOfRange => k_is)
    (case sg_OutOfRange => k_is)
    (case tk_OutOfRange => k_is)
    (case ob_OutOfRange => k_is)
    (case g_OutOfRange_name => k_is)
    (case iC_OutOfRange => k_is)
    (case tI_OutOfRange => k_is)
    (case l_IOutOfRange => k_is)
    (case c_IOutOfRange => k_is)
    (case k_IOutOfRange => k_is)
    (case s_OutOfRange_ValueError => k_is)
    (case s_OutOfRange_NoiseboundError => k_is)
    (case s_OutOfRange_OutOfRange => k_is)
    (case s_OutOfRange_BadItem => k_is)
    (case s_OutOfRange_BadLength => k_is)
    (case s_OutOfRange_BadText => k_is)
    (case s_OutOfRange_BadPadding => k_is)
    (case s_OutOfRange_WrongPhase => k_is)
    (case s_OutOfRange_NotInvertible => k_is)
    (case s_OutOfRange_BadRing => k_is)
    (case s_OutOfRange_BadParameters => k_is)
    (case s_OutOfRange_UnknownName => k_is)
    (case s_OutOfRange_DifferentRings => k_is)
    (case s_OutOfRange_BadKey => k_is)
    (case s_OutOfRange_BadLetter => k_is)
    (case s_OutOfRange_BadKeyText => k_is)
    (case s_OutOfRange_BadRecord => k_is)
    (case s_OutOfRange_BadCommand => k_is)
    (case s_OutOfRange_NoEntry => k_is)
    (case s_OutOfRange_NothingLeft => k_is)
    (case s_OutOfRange_Ring => k_is)
    (case xL_BadRing => k_is)
    (case sa_BadRing => k_is)
    (case ga_BadRing => k_is)
    (case gg_BadRing => k_is)
    (case ex_BadRing => k_is)
    (case ty_BadRing => k_is)
    (case kc_BadRing => k_is)
    (case cl_BadRing => k_is)
    (case hd_BadRing => k_is)
    (case sg_BadRing => k_is)
    (case tk_BadRing => k_is)
    (case ob_BadRing => k_is)
    (case g_BadRing_demand => k_is)
    (case iC_BadRing => k_is)
    (case tI_BadRing => k_is)
    (case l_IBadRing => k_is)
    (case c_IBadRing => k_is)
    (case k_IBadRing => k_is)
    (case s_BadRing_ValueError => k_is)
    (case s_BadRing_NoiseboundError => k_is)
    (case s_BadRing_OutOfRange => k_is)
    (case s_BadRing_BadItem => k_is)
    (case s_BadRing_BadLength => k_is)
    (case s_BadRing_BadText => k_is)
    (case s_BadRing_BadPadding => k_is)
    (case s_BadRing_WrongPhase => k_is)
    (case s_BadRing_NotInvertible => k_is)
    (case s_BadRing_BadRing => k_is)
    (case s_BadRing_BadParameters => k_is)
    (case s_BadRing_UnknownName => k_is)
    (case s_BadRing_DifferentRings => k_is)
    (case s_BadRing_BadKey => k_is)
    (case s_BadRing_BadLetter => k_is)
    (case s_BadRing_BadKeyText => k_is)
    (case s_BadRing_BadRecord => k_is)
    (case s_BadRing_BadCommand => k_is)
    (case s_BadRing_NoEntry => k_is)
    (case s_BadRing_NothingLeft => k_is)
    (case s_BadRing_Ring => k_is)
#print axioms PySem.Challenge.cw_noisebound_k25_rings_and_demands_holds
