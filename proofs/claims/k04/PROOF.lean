import PyProof.Rows.All
import Wide.All
import OpenK.AllK
import Wide.FinOn
import HandS.ForMost
import HandS.ExcCtx
import HandS.HotCalls
import HandS.ExcInit
import HandS.ExcInitHot
import HandS.ExcField
import HandS.ExcIs
import HandS.IsInst
import HandS.Style
import HandS.Wide
import HandS.WideBits
import HandS.Defaults
import HandS.MakeKw
import HandS.CallSlots
import HandS.TupAny
import HandS.Conv
import HandS.SetFor
import HandS.SortInts
import HandS.Walk
import HandS.Iter
import HandS.TryOnly
import HandS.Zip
import PyProof.EnumMake
import KE.GoesMore
import KE.GoesZip
import PyProof.Draws
import KE.KDictZip
import KE.KItemsList
import PyProof.ListNew
import HandS.ListItems
import KE.KTupSum
import HandS.More
import HandS.TupMul
import HandS.Star
import PySem.Challenge.RW_noisebound_k04_checks_in_order
set_option Elab.async false
set_option linter.all false
set_option maxRecDepth 100000
set_option maxHeartbeats 2000000
/-! Data as trees, changed objects as numbered cells: readings without the heap. -/
namespace DK
open PySem L2

/-- a value as a tree; a changed object by its cell's number -/
inductive D where
  | v (x : V)
  | lst (ds : List D)
  | tup (ds : List D)
  | rl (ds : List D)
  | loc (k : Nat)
  | err (C : Addr) (fs : List (Str × D))
  | dic (ks : List (Key × V))
  | ins (C : Addr) (ns : List Str) (ds : List D)

inductive Cell where
  | lst (ds : List D)
  | ins (C : Addr) (fs : List (Str × D))

abbrev Sto := List Cell

/-- a list of the written part -/
def KL (K : PySem.W.Frag) (a : Addr) (xs : List V) : Prop := ∃ (o : Obj) (its : Array Value) (n : Nat), K.lookup a = some o ∧ o.cls = .type "list" ∧ o.dict = none ∧ o.data = .seq its n ∧ its.size ≤ sizeLine ∧ Vals xs its.toList
def KT (K : PySem.W.Frag) (a : Addr) (xs : List V) : Prop := ∃ (o : Obj) (its : Array Value) (n : Nat), K.lookup a = some o ∧ o.cls = .type "tuple" ∧ o.data = .seq its n ∧ its.size ≤ sizeLine ∧ Vals xs its.toList

/-- what of the text a class of one's own must have: its instances' attributes, isinstance -/
structure CK (K : PySem.W.Frag) (C : Addr) : Prop where
  cl : Cls K C
  ha : PySem.W.findIn K (.ref C) "__class__" = some (some (.builtin "object.__class__"))
  hn : PySem.W.specialIn K (.builtin "object.__class__") "__get__" = some (some (.builtin "getset_descriptor.__get__"))
  htk : PySem.W.takesIn K (.builtin "object.__class__") = some true
  hm : PySem.W.mroIn K C (.type "object") = some true
  k1 : PySem.W.kitOne K (.ref C) (.type "int") = some false
  k2 : PySem.W.kitOne K (.ref C) (.type "bool") = some false
  k3 : PySem.W.kitOne K (.ref C) (.type "str") = some false
  k4 : PySem.W.kitOne K (.ref C) (.type "list") = some false
  k5 : PySem.W.kitOne K (.ref C) (.type "tuple") = some false
/-- an error's dict, none if it has no fields -/
def XdAt (θ : List Addr) (H : Hp) (dd : Option Addr) (fvs : List (Str × V)) : Prop := (∃ d, dd = some d ∧ H d = some (.xd fvs) ∧ d ∉ θ) ∨ (dd = none ∧ fvs = [])
section
variable (K : PySem.W.Frag) (pn : List (Addr × Obj)) (θ : List Addr) (H : Hp)
mutual
inductive Den : V → D → Prop
  | v {x : V} : Den x (.v x)
  | lst {a : Addr} {vs : List V} {ds : List D} (h : H a = some (.lst vs)) (n : a ∉ θ) (hs : Dens vs ds) : Den (.ref a) (.lst ds)
  | tup {a : Addr} {vs : List V} {ds : List D} (h : (H a = some (.tup vs) ∧ a ∉ θ) ∨ KT K a vs) (hs : Dens vs ds) : Den (.ref a) (.tup ds)
  | rl {a : Addr} {vs : List V} {ds : List D} (h : (Rd H a (.lst vs) ∧ a ∉ θ) ∨ KL K a vs) (hs : Dens vs ds) : Den (.ref a) (.rl ds)
  | loc {k : Nat} {p : Addr} (h : θ[k]? = some p) : Den (.ref p) (.loc k)
  | err {a : Addr} {oe : Obj} {C : Addr} {dd : Option Addr} {fvs : List (Str × V)} {fs : List (Str × D)} (hp : (a, oe) ∈ pn) (hz : L2N.Zn (.ref C) dd oe) (hd : ∃ fv, oe.data = .fields fv) (hx : XdAt θ H dd fvs) (hl : Denf fvs fs) : Den (.ref a) (.err C fs)
  | dic {a : Addr} {ks : List (Key × V)} (h : H a = some (.dK ks)) (n : a ∉ θ) : Den (.ref a) (.dic ks)
  | ins {a C dx : Addr} {ns : List Str} {vs : List V} {ds : List D} (hk : CK K C) (hf : ∀ f ∈ ns, NoAttr K C f) (h : H a = some (.ins C dx (ns.zip vs))) (n : a ∉ θ) (hl : ns.length = vs.length) (hs : Dens vs ds) : Den (.ref a) (.ins C ns ds)
inductive Dens : List V → List D → Prop
  | nil : Dens [] []
  | cons {x : V} {d : D} {vs : List V} {ds : List D} (h : Den x d) (t : Dens vs ds) : Dens (x :: vs) (d :: ds)
inductive Denf : List (Str × V) → List (Str × D) → Prop
  | nil : Denf [] []
  | cons {f : Str} {x : V} {d : D} {vs : List (Str × V)} {ds : List (Str × D)} (h : Den x d) (t : Denf vs ds) : Denf ((f, x) :: vs) ((f, d) :: ds)
end
end

/-- what a heap keeps of another one: all that is tracked and no cell; new cells were free -/
structure Le (θ : List Addr) (H : Hp) (θ' : List Addr) (H' : Hp) : Prop where
  keep : ∀ a o, H a = some o → a ∉ θ → H' a = some o
  ext : ∃ ex, θ' = θ ++ ex ∧ ∀ p ∈ ex, H p = none
  trk : ∀ p ∈ θ', ∃ o, H' p = some o
theorem Le.trans {θ θ1 θ2 : List Addr} {H H1 H2 : Hp} (l : Le θ H θ1 H1) (m : Le θ1 H1 θ2 H2) : Le θ H θ2 H2 := by
  obtain ⟨k1, ⟨ex1, e1, f1⟩, t1⟩ := l
  obtain ⟨k2, ⟨ex2, e2, f2⟩, t2⟩ := m
  have nin : ∀ a o, H a = some o → a ∉ θ → a ∉ θ1 := fun a o h n hm => by
    rw [e1] at hm
    rcases List.mem_append.mp hm with h1 | h1
    · exact n h1
    · rw [f1 a h1] at h
      cases h
  refine ⟨fun a o h n => k2 a o (k1 a o h n) (nin a o h n), ⟨ex1 ++ ex2, by rw [e2, e1, List.append_assoc], fun p hp => ?_⟩, t2⟩
  rcases List.mem_append.mp hp with h1 | h1
  · exact f1 p h1
  · cases q : H p with
    | none => rfl
    | some o =>
      have z := f2 p h1
      by_cases hm : p ∈ θ
      · obtain ⟨o', w⟩ := t1 p (by rw [e1]; exact List.mem_append_left _ hm)
        rw [z] at w
        cases w
      · rw [k1 p o q hm] at z
        cases z
theorem Le.nin {θ θ' : List Addr} {H H' : Hp} (l : Le θ H θ' H') {a : Addr} {o : HO} (h : H a = some o) (n : a ∉ θ) : a ∉ θ' := by
  obtain ⟨ex, rfl, e⟩ := l.ext
  intro hm
  rcases List.mem_append.mp hm with h1 | h1
  · exact n h1
  · rw [e a h1] at h
    cases h
theorem Le.get {θ θ' : List Addr} {H H' : Hp} (l : Le θ H θ' H') {k : Nat} {p : Addr} (h : θ[k]? = some p) : θ'[k]? = some p := by
  obtain ⟨ex, rfl, e⟩ := l.ext
  rw [List.getElem?_append_left (List.getElem?_eq_some_iff.mp h).1]
  exact h
theorem Le.sub {θ θ' : List Addr} {H H' : Hp} (l : Le θ H θ' H') {p : Addr} (h : p ∈ θ) : p ∈ θ' := by
  obtain ⟨ex, rfl, e⟩ := l.ext
  exact List.mem_append_left _ h

section
variable {K : PySem.W.Frag} {pn : List (Addr × Obj)} {θ θ' : List Addr} {H H' : Hp}
theorem rd_mono (l : Le θ H θ' H') {a : Addr} {u : HO} (h : Rd H a u ∧ a ∉ θ) : Rd H' a u ∧ a ∉ θ' := by
  obtain ⟨h | ⟨o, h⟩, n⟩ := h
  · exact ⟨.inl (l.keep _ _ h n), l.nin h n⟩
  · exact ⟨.inr ⟨o, l.keep _ _ h n⟩, l.nin h n⟩
theorem XdAt.mono (l : Le θ H θ' H') {dd : Option Addr} {fvs : List (Str × V)} (h : XdAt θ H dd fvs) : XdAt θ' H' dd fvs := by
  rcases h with ⟨d, e, h, n⟩ | h
  · exact .inl ⟨d, e, l.keep _ _ h n, l.nin h n⟩
  · exact .inr h
mutual
theorem Den.mono (l : Le θ H θ' H') : ∀ {x : V} {d : D}, Den K pn θ H x d → Den K pn θ' H' x d
  | _, _, .v => .v
  | _, _, .lst h n hs => .lst (l.keep _ _ h n) (l.nin h n) (Dens.mono l hs)
  | _, _, .tup h hs => .tup (h.imp (fun q => ⟨l.keep _ _ q.1 q.2, l.nin q.1 q.2⟩) id) (Dens.mono l hs)
  | _, _, .rl h hs => .rl (h.imp (rd_mono l) id) (Dens.mono l hs)
  | _, _, .loc h => .loc (l.get h)
  | _, _, .err hp hz hd hx hl => .err hp hz hd (XdAt.mono l hx) (Denf.mono l hl)
  | _, _, .dic h n => .dic (l.keep _ _ h n) (l.nin h n)
  | _, _, .ins hk hf h n hl hs => .ins hk hf (l.keep _ _ h n) (l.nin h n) hl (Dens.mono l hs)
theorem Dens.mono (l : Le θ H θ' H') : ∀ {x : List V} {d : List D}, Dens K pn θ H x d → Dens K pn θ' H' x d
  | _, _, .nil => .nil
  | _, _, .cons h t => .cons (Den.mono l h) (Dens.mono l t)
theorem Denf.mono (l : Le θ H θ' H') : ∀ {x : List (Str × V)} {d : List (Str × D)}, Denf K pn θ H x d → Denf K pn θ' H' x d
  | _, _, .nil => .nil
  | _, _, .cons h t => .cons (Den.mono l h) (Denf.mono l t)
end
end

/-! ### no exception within -/
mutual
def noErr : D → Bool
  | .v _ => true
  | .lst ds => noErrs ds
  | .tup ds => noErrs ds
  | .rl ds => noErrs ds
  | .loc _ => true
  | .err _ _ => false
  | .dic _ => true
  | .ins _ _ ds => noErrs ds
def noErrs : List D → Bool
  | [] => true
  | d :: ds => noErr d && noErrs ds
end
section
variable {K : PySem.W.Frag} {pn pn' : List (Addr × Obj)} {θ : List Addr} {H : Hp}
mutual
theorem Den.sub (s : ∀ p ∈ pn, p ∈ pn') : ∀ {x : V} {d : D}, Den K pn θ H x d → Den K pn' θ H x d
  | _, _, .v => .v
  | _, _, .lst h n hs => .lst h n (Dens.sub s hs)
  | _, _, .tup h hs => .tup h (Dens.sub s hs)
  | _, _, .rl h hs => .rl h (Dens.sub s hs)
  | _, _, .loc h => .loc h
  | _, _, .err hp hz hd hx hl => .err (s _ hp) hz hd hx (Denf.sub s hl)
  | _, _, .dic h n => .dic h n
  | _, _, .ins hk hf h n hl hs => .ins hk hf h n hl (Dens.sub s hs)
theorem Dens.sub (s : ∀ p ∈ pn, p ∈ pn') : ∀ {x : List V} {d : List D}, Dens K pn θ H x d → Dens K pn' θ H x d
  | _, _, .nil => .nil
  | _, _, .cons h t => .cons (Den.sub s h) (Dens.sub s t)
theorem Denf.sub (s : ∀ p ∈ pn, p ∈ pn') : ∀ {x : List (Str × V)} {d : List (Str × D)}, Denf K pn θ H x d → Denf K pn' θ H x d
  | _, _, .nil => .nil
  | _, _, .cons h t => .cons (Den.sub s h) (Denf.sub s t)
end
mutual
theorem Den.un : ∀ {x : V} {d : D}, Den K pn θ H x d → noErr d = true → Den K pn' θ H x d
  | _, _, .v, _ => .v
  | _, _, .lst h n hs, e => .lst h n (Dens.un hs e)
  | _, _, .tup h hs, e => .tup h (Dens.un hs e)
  | _, _, .rl h hs, e => .rl h (Dens.un hs e)
  | _, _, .loc h, _ => .loc h
  | _, _, .err .., e => nomatch e
  | _, _, .dic h n, _ => .dic h n
  | _, _, .ins hk hf h n hl hs, e => .ins hk hf h n hl (Dens.un hs e)
theorem Dens.un : ∀ {x : List V} {d : List D}, Dens K pn θ H x d → noErrs d = true → Dens K pn' θ H x d
  | _, _, .nil, _ => .nil
  | _, _, .cons h t, e => .cons (Den.un h (Bool.and_eq_true_iff.mp e).1) (Dens.un t (Bool.and_eq_true_iff.mp e).2)
end
end

/-! ### an instance's attributes -/
structure InsAt (K : PySem.W.Frag) (pn : List (Addr × Obj)) (θ : List Addr) (H : Hp) (C : Addr) (fvs : List (Str × V)) (fs : List (Str × D)) : Prop where
  den : Denf K pn θ H fvs fs
  ck : CK K C
  na : ∀ f ∈ fs.map (·.1), NoAttr K C f
  sm : fs.length < 1000
theorem InsAt.mono {K : PySem.W.Frag} {pn : List (Addr × Obj)} {θ θ' : List Addr} {H H' : Hp} {C : Addr} {fvs : List (Str × V)} {fs : List (Str × D)} (l : Le θ H θ' H') (h : InsAt K pn θ H C fvs fs) : InsAt K pn θ' H' C fvs fs := ⟨h.den.mono l, h.ck, h.na, h.sm⟩
theorem InsAt.sub {K : PySem.W.Frag} {pn pn' : List (Addr × Obj)} {θ : List Addr} {H : Hp} {C : Addr} {fvs : List (Str × V)} {fs : List (Str × D)} (s : ∀ p ∈ pn, p ∈ pn') (h : InsAt K pn θ H C fvs fs) : InsAt K pn' θ H C fvs fs := ⟨h.den.sub s, h.ck, h.na, h.sm⟩
theorem Denf.split {K : PySem.W.Frag} {pn : List (Addr × Obj)} {θ : List Addr} {H : Hp} : ∀ {fvs : List (Str × V)} {fs : List (Str × D)}, Denf K pn θ H fvs fs → fvs = (fs.map (·.1)).zip (fvs.map (·.2)) ∧ (fs.map (·.1)).length = (fvs.map (·.2)).length ∧ Dens K pn θ H (fvs.map (·.2)) (fs.map (·.2))
  | _, _, .nil => ⟨rfl, rfl, .nil⟩
  | _, _, .cons (f := f) (x := x) h t => by
    obtain ⟨a, b, c⟩ := Denf.split t
    refine ⟨?_, ?_, .cons h c⟩
    · rw [List.map_cons, List.map_cons, List.zip_cons_cons, ← a]
    · rw [List.map_cons, List.map_cons, List.length_cons, List.length_cons, b]
theorem InsAt.data {K : PySem.W.Frag} {pn : List (Addr × Obj)} {θ : List Addr} {H : Hp} {a C dx : Addr} {fvs : List (Str × V)} {fs : List (Str × D)} (h : InsAt K pn θ H C fvs fs) (e : H a = some (.ins C dx fvs)) (n : a ∉ θ) : Den K pn θ H (.ref a) (.ins C (fs.map (·.1)) (fs.map (·.2))) := by
  obtain ⟨a1, b1, c1⟩ := h.den.split
  rw [a1] at e
  exact .ins h.ck h.na e n b1 c1

/-! ### worlds -/
structure Wd where
  θ : List Addr
  H : Hp
  μ : Sto
section
variable (K : PySem.W.Frag)
/-- what stands at a cell's address -/
def CellAt (θ : List Addr) (H : Hp) (p : Addr) : Cell → Prop
  | .lst ds => ∃ vs, H p = some (.lst vs) ∧ Dens K [] θ H vs ds
  | .ins C fs => ∃ dx fvs, H p = some (.ins C dx fvs) ∧ InsAt K [] θ H C fvs fs
structure Ok (w : Wd) : Prop where
  nd : w.θ.Nodup
  len : w.θ.length = w.μ.length
  cell : ∀ (k : Nat) (p : Addr) (c : Cell), w.θ[k]? = some p → w.μ[k]? = some c → CellAt K w.θ w.H p c
/-- the slots -/
structure EnvR (pn : List (Addr × Obj)) (w : Wd) (σ : L2.St) (ρ : List (Option D)) : Prop where
  len : ρ.length = σ.length
  get : ∀ (i : Nat) (d : D), ρ[i]? = some (some d) → ∃ v, σ[i]? = some (some v) ∧ Den K pn w.θ w.H v d
end
abbrev WLe (w w' : Wd) : Prop := Le w.θ w.H w'.θ w'.H
section
variable {K : PySem.W.Frag} {pn : List (Addr × Obj)} {w w1 w2 : Wd} {σ : L2.St} {ρ : List (Option D)}
theorem Ok.trk (k : Ok K w) : ∀ p ∈ w.θ, ∃ o, w.H p = some o := fun p hp => by
  obtain ⟨i, hi⟩ := List.mem_iff_getElem?.mp hp
  have hl : i < w.μ.length := by rw [← k.len]; exact (List.getElem?_eq_some_iff.mp hi).1
  have hc := k.cell i p _ hi (List.getElem?_eq_getElem hl)
  cases q : w.μ[i] with
  | lst ds =>
    rw [q] at hc
    obtain ⟨vs, h, _⟩ := hc
    exact ⟨_, h⟩
  | ins C fs =>
    rw [q] at hc
    obtain ⟨_, vs, h, _⟩ := hc
    exact ⟨_, h⟩
theorem Ok.refl (k : Ok K w) : WLe w w := ⟨fun _ _ h _ => h, ⟨[], by simp, fun _ h => nomatch h⟩, k.trk⟩
theorem EnvR.mono (l : WLe w w1) (e : EnvR K pn w σ ρ) : EnvR K pn w1 σ ρ := ⟨e.len, fun i d h => by
  obtain ⟨v, h1, h2⟩ := e.get i d h
  exact ⟨v, h1, h2.mono l⟩⟩
theorem EnvR.set {i : Nat} {v : V} {d : D} (e : EnvR K pn w σ ρ) (h : Den K pn w.θ w.H v d) : EnvR K pn w (σ.set i (some v)) (ρ.set i (some d)) := ⟨by simp [e.len], fun j d' hj => by
  by_cases q : i = j
  · subst q
    by_cases hl : i < ρ.length
    · rw [List.getElem?_set_self hl] at hj
      cases hj
      rw [List.getElem?_set_self (by rw [← e.len]; exact hl)]
      exact ⟨v, rfl, h⟩
    · rw [List.getElem?_eq_none (by simpa using hl)] at hj
      cases hj
  · rw [List.getElem?_set_ne q] at hj ⊢
    exact e.get j d' hj⟩
/-- a slot that is emptied -/
theorem EnvR.wipe {i : Nat} {o : Option V} (e : EnvR K pn w σ ρ) : EnvR K pn w (σ.set i o) (ρ.set i none) := ⟨by simp [e.len], fun j d' hj => by
  by_cases q : i = j
  · subst q
    by_cases hl : i < ρ.length
    · rw [List.getElem?_set_self hl] at hj
      cases hj
    · rw [List.getElem?_eq_none (by simpa using hl)] at hj
      cases hj
  · rw [List.getElem?_set_ne q] at hj ⊢
    exact e.get j d' hj⟩
/-- cells stand behind a step that leaves them -/
theorem Ok.keep {H' : Hp} (k : Ok K w) (h : ∀ p ∈ w.θ, H' p = w.H p) (l : Le w.θ w.H w.θ H') : Ok K ⟨w.θ, H', w.μ⟩ := ⟨k.nd, k.len, fun i p c h1 h2 => by
  have hp : p ∈ w.θ := List.mem_iff_getElem?.mpr ⟨i, h1⟩
  have z := k.cell i p c h1 h2
  have e := h p hp
  cases c with
  | lst ds =>
    obtain ⟨vs, a, b⟩ := z
    exact ⟨vs, e.trans a, b.mono l⟩
  | ins C fs =>
    obtain ⟨dx, vs, a, b⟩ := z
    exact ⟨dx, vs, e.trans a, b.mono l⟩⟩
/-- a new object beside -/
theorem Ok.new {p : Addr} {o : HO} (k : Ok K w) (h : w.H p = none) : Le w.θ w.H w.θ (upd w.H p o) ∧ Ok K ⟨w.θ, upd w.H p o, w.μ⟩ ∧ p ∉ w.θ := by
  have hn : p ∉ w.θ := fun hp => by
    obtain ⟨u, hu⟩ := k.trk p hp
    rw [h] at hu
    cases hu
  have e : ∀ q ∈ w.θ, upd w.H p o q = w.H q := fun q hq => upd_ne fun z => hn (z ▸ hq)
  have l : Le w.θ w.H w.θ (upd w.H p o) := ⟨fun a u ha _ => by rw [upd_ne (ne_of_none ha h)]; exact ha, ⟨[], by simp, fun _ z => nomatch z⟩, fun q hq => by
    rw [e q hq]
    exact k.trk q hq⟩
  exact ⟨l, k.keep e l, hn⟩
end

/-! ### readings without the heap -/
structure Ex where
  C : Addr
  fs : List (Str × D)
abbrev QD := D → Sto → Prop
abbrev QX := Ex → Sto → Prop
abbrev Rho := List (Option D)
abbrev AE := Rho → Sto → QD → QX → Prop
abbrev AT := Rho → Sto → (Bool → Sto → Prop) → QX → Prop
abbrev AA := Rho → Sto → (List D → Sto → Prop) → QX → Prop
structure AEnds where
  nx : Rho → Sto → Prop
  rt : QD
  bk : Rho → Sto → Prop := fun _ _ => False
  ct : Rho → Sto → Prop := fun _ _ => False
  er : Ex → Rho → Sto → Prop := fun _ _ _ => False
abbrev AS := AEnds → Rho → Sto → Prop

section
variable (K : PySem.W.Frag) (pn : List (Addr × Obj))
def PQ (w : Wd) (Q : VK) (d : D) (μ' : Sto) : Prop := ∀ (v : V) (w' : Wd), w'.μ = μ' → WLe w w' → Ok K w' → Den K pn w'.θ w'.H v d → Q v w'.H
def PB (w : Wd) (Q : Bool → Hp → Prop) (b : Bool) (μ' : Sto) : Prop := ∀ (w' : Wd), w'.μ = μ' → WLe w w' → Ok K w' → Q b w'.H
def PL (w : Wd) (Q : List V → Hp → Prop) (d : List D) (μ' : Sto) : Prop := ∀ (v : List V) (w' : Wd), w'.μ = μ' → WLe w w' → Ok K w' → Dens K pn w'.θ w'.H v d → Q v w'.H
/-- an exception's class and dict -/
def DenX (θ : List Addr) (H : Hp) (cls : Value) (dd : Option Addr) (x : Ex) : Prop := cls = .ref x.C ∧ ∃ fvs : List (Str × V), XdAt θ H dd fvs ∧ Denf K pn θ H fvs x.fs
def PX (w : Wd) (E : XK) (x : Ex) (μ' : Sto) : Prop := ∀ (cls : Value) (dd : Option Addr) (w' : Wd), w'.μ = μ' → WLe w w' → Ok K w' → DenX K pn w'.θ w'.H cls dd x → E cls dd w'.H
def PR (w : Wd) (Q : L2.St → Hp → Prop) (ρ' : Rho) (μ' : Sto) : Prop := ∀ (σ' : L2.St) (w' : Wd), w'.μ = μ' → WLe w w' → Ok K w' → EnvR K pn w' σ' ρ' → Q σ' w'.H
structure SE (W : WX) (t : TE) (a : AE) : Prop where
  run : ∀ (w : Wd) (σ : L2.St) (ρ : Rho), Ok K w → EnvR K pn w σ ρ → ∀ (QA : QD) (XA : QX), a ρ w.μ QA XA → ∀ Q : VK, (∀ d μ', QA d μ' → PQ K pn w Q d μ') → (∀ x μ', XA x μ' → PX K pn w (fun c d H => W c d σ H) x μ') → t σ w.H Q
structure ST (W : WX) (t : TT) (a : AT) : Prop where
  run : ∀ (w : Wd) (σ : L2.St) (ρ : Rho), Ok K w → EnvR K pn w σ ρ → ∀ (QA : Bool → Sto → Prop) (XA : QX), a ρ w.μ QA XA → ∀ Q : Bool → Hp → Prop, (∀ d μ', QA d μ' → PB K w Q d μ') → (∀ x μ', XA x μ' → PX K pn w (fun c d H => W c d σ H) x μ') → t σ w.H Q
structure SA (W : WX) (t : TA) (a : AA) : Prop where
  run : ∀ (w : Wd) (σ : L2.St) (ρ : Rho), Ok K w → EnvR K pn w σ ρ → ∀ (QA : List D → Sto → Prop) (XA : QX), a ρ w.μ QA XA → ∀ Q : List V → Hp → Prop, (∀ d μ', QA d μ' → PL K pn w Q d μ') → (∀ x μ', XA x μ' → PX K pn w (fun c d H => W c d σ H) x μ') → t σ w.H Q
/-- what the ends of a statement want -/
structure EndR (W : WX) (w : Wd) (A : AEnds) (E : L2.Ends) : Prop where
  nx : ∀ ρ' μ', A.nx ρ' μ' → PR K pn w E.nx ρ' μ'
  rt : ∀ d μ', A.rt d μ' → PQ K pn w E.rt d μ'
  bk : ∀ ρ' μ', A.bk ρ' μ' → PR K pn w E.bk ρ' μ'
  ct : ∀ ρ' μ', A.ct ρ' μ' → PR K pn w E.ct ρ' μ'
  er : ∀ x ρ' μ', A.er x ρ' μ' → ∀ (σ' : L2.St) (cls : Value) (dd : Option Addr) (w' : Wd), w'.μ = μ' → WLe w w' → Ok K w' → EnvR K pn w' σ' ρ' → DenX K pn w'.θ w'.H cls dd x → W cls dd σ' w'.H
structure SS (W : WX) (t : TS) (a : AS) : Prop where
  run : ∀ (w : Wd) (σ : L2.St) (ρ : Rho), Ok K w → EnvR K pn w σ ρ → ∀ (A : AEnds), a A ρ w.μ → ∀ E : L2.Ends, EndR K pn W w A E → t E σ w.H
end
section
variable {K : PySem.W.Frag} {pn : List (Addr × Obj)} {w w1 : Wd} {W : WX}
theorem PQ.mono {Q : VK} {d : D} {μ' : Sto} (l : WLe w w1) (h : PQ K pn w Q d μ') : PQ K pn w1 Q d μ' := fun v w' e m k dn => h v w' e (l.trans m) k dn
theorem PX.mono {E : XK} {d : Ex} {μ' : Sto} (l : WLe w w1) (h : PX K pn w E d μ') : PX K pn w1 E d μ' := fun c dd w' e m k dn => h c dd w' e (l.trans m) k dn
theorem PR.mono {Q : L2.St → Hp → Prop} {d : Rho} {μ' : Sto} (l : WLe w w1) (h : PR K pn w Q d μ') : PR K pn w1 Q d μ' := fun v w' e m k dn => h v w' e (l.trans m) k dn
theorem EndR.mono {A : AEnds} {E : L2.Ends} (l : WLe w w1) (h : EndR K pn W w A E) : EndR K pn W w1 A E :=
  ⟨fun r m q => (h.nx r m q).mono l, fun r m q => (h.rt r m q).mono l, fun r m q => (h.bk r m q).mono l, fun r m q => (h.ct r m q).mono l, fun x r m q σ' c d w' e1 e2 e3 e4 e5 => h.er x r m q σ' c d w' e1 (l.trans e2) e3 e4 e5⟩
end
end DK
set_option Elab.async false
set_option linter.all false
set_option maxRecDepth 100000
set_option maxHeartbeats 2000000
namespace DK
open PySem L2 PyProof.Rows

abbrev F1 := D → Sto → QD → Prop
abbrev F2 := D → D → Sto → QD → Prop
abbrev FL := List D → Sto → QD → Prop
section
variable (K : PySem.W.Frag) (pn : List (Addr × Obj))
structure SR (r : R2) (f : F2) : Prop where
  run : ∀ (w : Wd) (x y : V) (dx dy : D), Ok K w → Den K pn w.θ w.H x dx → Den K pn w.θ w.H y dy → ∀ QA : QD, f dx dy w.μ QA → ∀ Q : VK, (∀ d μ', QA d μ' → PQ K pn w Q d μ') → r x y w.H Q
structure SU (r : V → Hp → VK → Prop) (f : F1) : Prop where
  run : ∀ (w : Wd) (x : V) (dx : D), Ok K w → Den K pn w.θ w.H x dx → ∀ QA : QD, f dx w.μ QA → ∀ Q : VK, (∀ d μ', QA d μ' → PQ K pn w Q d μ') → r x w.H Q
structure SC (r : List V → Hp → VK → Prop) (f : FL) : Prop where
  run : ∀ (w : Wd) (xs : List V) (ds : List D), Ok K w → Dens K pn w.θ w.H xs ds → ∀ QA : QD, f ds w.μ QA → ∀ Q : VK, (∀ d μ', QA d μ' → PQ K pn w Q d μ') → r xs w.H Q
end

/-! ### the readings' trees -/
/-- both branches -/
def bIf (c : Bool) (A B : Prop) : Prop := (c = true → A) ∧ (c = false → B)
def aVar (i : Nat) : AE := fun ρ μ Q _ => match ρ[i]? with | some (some d) => Q d μ | _ => False
def aV (d : D) : AE := fun _ μ Q _ => Q d μ
def aBin (f : F2) (a b : AE) : AE := fun ρ μ Q X => a ρ μ (fun x μ1 => b ρ μ1 (fun y μ2 => f x y μ2 Q) X) X
def aUn (f : F1) (a : AE) : AE := fun ρ μ Q X => a ρ μ (fun x μ1 => f x μ1 Q) X
def aNil : AA := fun _ μ Q _ => Q [] μ
def aCons (a : AE) (t : AA) : AA := fun ρ μ Q X => a ρ μ (fun x μ1 => t ρ μ1 (fun xs μ2 => Q (x :: xs) μ2) X) X
def aCB (f : FL) (t : AA) : AE := fun ρ μ Q X => t ρ μ (fun xs μ1 => f xs μ1 Q) X
def aTup (t : AA) : AE := fun ρ μ Q X => t ρ μ (fun xs μ1 => xs.length ≤ 10000 ∧ Q (.tup xs) μ1) X
def aLst (t : AA) : AE := fun ρ μ Q X => t ρ μ (fun xs μ1 => xs.length ≤ 10000 ∧ Q (.lst xs) μ1) X
/-- a display that will be changed -/
def aLstM (t : AA) : AE := fun ρ μ Q X => t ρ μ (fun xs μ1 => xs.length ≤ 10000 ∧ Q (.loc μ1.length) (μ1 ++ [.lst xs])) X
def aTest (a : AE) : AT := fun ρ μ Q X => a ρ μ (fun x μ1 => match x with | .v (.bl b) => Q b μ1 | _ => False) X
def aAnd (a b : AT) : AT := fun ρ μ Q X => a ρ μ (fun c μ1 => bIf c (b ρ μ1 Q X) (Q false μ1)) X
def aOr (a b : AT) : AT := fun ρ μ Q X => a ρ μ (fun c μ1 => bIf c (Q true μ1) (b ρ μ1 Q X)) X
def aNot (a : AT) : AT := fun ρ μ Q X => a ρ μ (fun c μ1 => Q (!c) μ1) X
def aAndV (a b : AE) : AE := fun ρ μ Q X => a ρ μ (fun x μ1 => match x with | .v (.bl c) => bIf c (b ρ μ1 Q X) (Q (.v (.bl false)) μ1) | _ => False) X
def aOrV (a b : AE) : AE := fun ρ μ Q X => a ρ μ (fun x μ1 => match x with | .v (.bl c) => bIf c (Q (.v (.bl true)) μ1) (b ρ μ1 Q X) | _ => False) X
def aNotV (a : AE) : AE := fun ρ μ Q X => a ρ μ (fun x μ1 => match x with | .v (.bl c) => Q (.v (.bl (!c))) μ1 | _ => False) X
def aIf (t : AT) (a b : AE) : AE := fun ρ μ Q X => t ρ μ (fun c μ1 => bIf c (a ρ μ1 Q X) (b ρ μ1 Q X)) X
def aChain (f g : F2) (a b c : AE) : AE := fun ρ μ Q X => a ρ μ (fun x μ1 => b ρ μ1 (fun y μ2 => f x y μ2 fun z μ3 => match z with | .v (.bl k) => bIf k (c ρ μ3 (fun u μ4 => g y u μ4 Q) X) (Q (.v (.bl false)) μ3) | _ => False) X) X

/-! ### operations -/
def fI0 (g : Int → Int → V) : F2 := fun x y μ Q => match x, y with | .v (.int i), .v (.int j) => Q (.v (g i j)) μ | _, _ => False
def fI (C : Int → Int → Prop) (g : Int → Int → V) : F2 := fun x y μ Q => match x, y with | .v (.int i), .v (.int j) => C i j ∧ Q (.v (g i j)) μ | _, _ => False
def fU (g : Int → V) : F1 := fun x μ Q => match x with | .v (.int i) => Q (.v (g i)) μ | _ => False
def fEq : F2 := fun x y μ Q => match x, y with | .v a, .v b => scal a b = true ∧ Q (.v (.bl (decide (a = b)))) μ | _, _ => False
def fNe : F2 := fun x y μ Q => match x, y with | .v a, .v b => scal a b = true ∧ Q (.v (.bl (!decide (a = b)))) μ | _, _ => False
/-- is None, is True, is False -/
def isV (x : D) (c : V) : Bool := match x with | .v a => decide (a = c) | _ => false
def fIs : F2 := fun x y μ Q => match y with | .v .non => Q (.v (.bl (isV x .non))) μ | .v (.bl b) => Q (.v (.bl (isV x (.bl b)))) μ | _ => False
def fIsN : F2 := fun x y μ Q => match y with | .v .non => Q (.v (.bl (!isV x .non))) μ | .v (.bl b) => Q (.v (.bl (!isV x (.bl b)))) μ | _ => False
def itemsOf (x : D) (μ : Sto) : Option (List D) := match x with
  | .lst ds => some ds
  | .tup ds => some ds
  | .rl ds => some ds
  | .loc k => match μ[k]? with | some (.lst ds) => some ds | _ => none
  | _ => none
/-- an item, by the number's own shape -/
def atD {α : Type} (xs : List α) (i : Int) : Option α := match i with
  | .ofNat n => xs[n]?
  | .negSucc n => atI xs (.negSucc n)
theorem atD_eq {α : Type} {xs : List α} {i : Int} : atD xs i = atI xs i := by
  cases i with
  | negSucc n => rfl
  | ofNat n =>
    show xs[n]? = atI xs (n : Int)
    unfold atI ixN
    rw [if_pos (Int.natCast_nonneg n)]
    by_cases h : n < xs.length
    · rw [if_pos (by omega)]
      rfl
    · rw [if_neg (by omega), List.getElem?_eq_none (by omega)]
      rfl
def fIx : F2 := fun x y μ Q => match itemsOf x μ, y with
  | some ds, .v (.int i) => (match atD ds i with | some d => Q d μ | none => False)
  | _, _ => False
def fCat : F2 := fun x y μ Q => match x, y with | .lst a, .lst b => a.length + b.length ≤ 1000000 ∧ Q (.lst (a ++ b)) μ | _, _ => False
def fLen : FL := fun xs μ Q => match xs with
  | [x] => (match itemsOf x μ with | some ds => Q (.v (.int ds.length)) μ | none => False)
  | _ => False
def fInt : FL := fun xs μ Q => match xs with
  | [.v (.int i)] => Q (.v (.int i)) μ
  | [.v (.bl b)] => Q (.v (.int (if b then 1 else 0))) μ
  | _ => False
def fMax : FL := fun xs μ Q => match xs with | [.v (.int i), .v (.int j)] => Q (.v (.int (if j > i then j else i))) μ | _ => False
def fMin : FL := fun xs μ Q => match xs with | [.v (.int i), .v (.int j)] => Q (.v (.int (if j < i then j else i))) μ | _ => False
/-- list(xs): a new list that nobody changes -/
def fList : FL := fun xs μ Q => match xs with
  | [x] => (match itemsOf x μ with | some ds => Q (.lst ds) μ | none => False)
  | _ => False
def tyD : D → Option String
  | .v .non => some "NoneType"
  | .v (.bl _) => some "bool"
  | .v (.int _) => some "int"
  | .v (.str _) => some "str"
  | .lst _ => some "list"
  | .tup _ => some "tuple"
  | .dic _ => some "dict"
  | .ins _ _ _ => some "own"
  | _ => none
def subT (t T : String) : Bool := t == T || (t == "bool" && T == "int")
def fIsi : FL := fun xs μ Q => match xs with
  | [x, .v (.ty T)] => (match tyD x with | some t => (T = "int" ∨ T = "bool" ∨ T = "str" ∨ T = "list" ∨ T = "tuple") ∧ Q (.v (.bl (subT t T))) μ | none => False)
  | [x, .tup [.v (.ty T), .v (.ty U)]] => (match tyD x with | some t => (T = "list" ∧ U = "tuple") ∧ Q (.v (.bl (subT t T || subT t U))) μ | none => False)
  | _ => False

/-! ### what denotes what -/
section
variable {K : PySem.W.Frag} {pn : List (Addr × Obj)} {w : Wd} {θ : List Addr} {H : Hp}
theorem Den.v_inv {x y : V} (h : Den K pn θ H x (.v y)) : x = y := by
  cases h
  rfl
theorem Dens.len : ∀ {vs : List V} {ds : List D}, Dens K pn θ H vs ds → vs.length = ds.length
  | _, _, .nil => rfl
  | _, _, .cons _ t => by rw [List.length_cons, List.length_cons, Dens.len t]
theorem Dens.get : ∀ {vs : List V} {ds : List D} {i : Nat} {d : D}, Dens K pn θ H vs ds → ds[i]? = some d → ∃ x, vs[i]? = some x ∧ Den K pn θ H x d
  | _, _, 0, d, .cons h _, e => ⟨_, rfl, by cases e; exact h⟩
  | _, _, i + 1, d, .cons _ t, e => Dens.get (i := i) t e
theorem Dens.at {vs : List V} {ds : List D} {i : Int} {d : D} (h : Dens K pn θ H vs ds) (e : atI ds i = some d) : ∃ x, atI vs i = some x ∧ Den K pn θ H x d := by
  unfold atI at e ⊢
  rw [h.len]
  cases q : ixN ds.length i with
  | none =>
    rw [q] at e
    cases e
  | some j =>
    rw [q] at e
    exact h.get e
theorem Dens.append : ∀ {vs us : List V} {ds es : List D}, Dens K pn θ H vs ds → Dens K pn θ H us es → Dens K pn θ H (vs ++ us) (ds ++ es)
  | _, _, _, _, .nil, h => h
  | _, _, _, _, .cons a t, h => .cons a (Dens.append t h)
theorem Dens.set : ∀ {vs : List V} {ds : List D} {x : V} {d : D} (i : Nat), Dens K pn θ H vs ds → Den K pn θ H x d → Dens K pn θ H (vs.set i x) (ds.set i d)
  | _, _, _, _, _, .nil, _ => .nil
  | _, _, _, _, 0, .cons _ t, h => .cons h t
  | _, _, _, _, i + 1, .cons a t, h => .cons a (Dens.set i t h)
theorem Dens.ints : ∀ {ns : List Int}, Dens K pn θ H (ns.map V.int) (ns.map fun n => D.v (.int n))
  | [] => .nil
  | _ :: _ => .cons .v Dens.ints
/-- a thing that has items -/
theorem items_sq {x : V} {d : D} {ds : List D} (k : Ok K w) (h : Den K pn w.θ w.H x d) (e : itemsOf d w.μ = some ds) :
    ∃ (p : Addr) (vs : List V), x = .ref p ∧ (SqL K w.H p vs ∨ SqT K w.H p vs) ∧ Dens K pn w.θ w.H vs ds := by
  cases h with
  | v => cases e
  | lst h n hs =>
    cases e
    exact ⟨_, _, rfl, .inl (.inl (.inl h)), hs⟩
  | tup h hs =>
    cases e
    exact ⟨_, _, rfl, .inr (h.imp (fun z => Rd.of z.1) id), hs⟩
  | rl h hs =>
    cases e
    exact ⟨_, _, rfl, .inl (h.imp (·.1) id), hs⟩
  | @loc j p h =>
    have e : (match w.μ[j]? with | some (.lst ds) => some ds | _ => none) = some ds := e
    cases q : w.μ[j]? with
    | none =>
      rw [q] at e
      cases e
    | some c =>
      rw [q] at e
      cases c with
      | lst es =>
        cases e
        obtain ⟨vs, a, b⟩ := k.cell _ _ _ h q
        exact ⟨p, vs, rfl, .inl (.inl (.inl a)), b.sub fun _ z => (List.not_mem_nil z).elim⟩
      | ins C fs => cases e
  | err => cases e
  | dic => cases e
  | ins => cases e
end

/-! ### operations hold -/
section
variable {K : PySem.W.Frag} {pn : List (Addr × Obj)}
theorem PQ.same {w : Wd} {Q : VK} {d : D} {v : V} (k : Ok K w) (h : PQ K pn w Q d w.μ) (hv : Den K pn w.θ w.H v d) : Q v w.H := h v w rfl k.refl k hv
theorem sr_I0 {g : Int → Int → V} : SR K pn (rI0 g) (fI0 g) := ⟨fun w x y dx dy k hx hy QA h Q hq => by
  unfold fI0 at h
  split at h
  · obtain rfl := hx.v_inv
    obtain rfl := hy.v_inv
    exact ⟨_, _, rfl, rfl, (hq _ _ h).same k .v⟩
  · exact h.elim⟩
theorem sr_I {C : Int → Int → Prop} {g : Int → Int → V} : SR K pn (rI C g) (fI C g) := ⟨fun w x y dx dy k hx hy QA h Q hq => by
  unfold fI at h
  split at h
  · obtain rfl := hx.v_inv
    obtain rfl := hy.v_inv
    exact ⟨_, _, rfl, rfl, h.1, (hq _ _ h.2).same k .v⟩
  · exact h.elim⟩
theorem su_U {g : Int → V} : SU K pn (rU g) (fU g) := ⟨fun w x dx k hx QA h Q hq => by
  unfold fU at h
  split at h
  · obtain rfl := hx.v_inv
    exact ⟨_, rfl, (hq _ _ h).same k .v⟩
  · exact h.elim⟩
theorem sr_eq : SR K pn rEq fEq := ⟨fun w x y dx dy k hx hy QA h Q hq => by
  unfold fEq at h
  split at h
  · obtain rfl := hx.v_inv
    obtain rfl := hy.v_inv
    exact ⟨h.1, (hq _ _ h.2).same k .v⟩
  · exact h.elim⟩
theorem sr_ne : SR K pn rNe fNe := ⟨fun w x y dx dy k hx hy QA h Q hq => by
  unfold fNe at h
  split at h
  · obtain rfl := hx.v_inv
    obtain rfl := hy.v_inv
    exact ⟨h.1, (hq _ _ h.2).same k .v⟩
  · exact h.elim⟩
/-- x is c, c None or a bool -/
def rIsC : R2 := fun x y H Q => (y = .non ∨ ∃ b, y = .bl b) ∧ Q (.bl (decide (x = y))) H
def rIsNC : R2 := fun x y H Q => (y = .non ∨ ∃ b, y = .bl b) ∧ Q (.bl (!decide (x = y))) H
theorem rel_bool {x : V} {b : Bool} (h : RelV x (.bool b)) : x = .bl b := by
  cases x with
  | bl c => cases (show Value.bool b = Value.bool c from h); rfl
  | non => cases (show Value.bool b = Value.none from h)
  | int i => obtain ⟨t, e⟩ := (show ∃ t, Value.bool b = Value.int i t from h); cases e
  | str i => obtain ⟨t, e⟩ := (show ∃ t, Value.bool b = Value.str i t from h); cases e
  | byt i => obtain ⟨t, e⟩ := (show ∃ t, Value.bool b = Value.bytes i t from h); cases e
  | flt i => obtain ⟨t, e⟩ := (show ∃ t, Value.bool b = Value.float i t from h); cases e
  | ref a => cases (show Value.bool b = Value.ref a from h)
  | ty n => cases (show Value.bool b = Value.type n from h)
theorem rel_builtin {x : V} {b : String} (h : RelV x (.builtin b)) : False := by
  cases x with
  | bl c => cases (show Value.builtin b = Value.bool c from h)
  | non => cases (show Value.builtin b = Value.none from h)
  | int i => obtain ⟨t, e⟩ := (show ∃ t, Value.builtin b = Value.int i t from h); cases e
  | str i => obtain ⟨t, e⟩ := (show ∃ t, Value.builtin b = Value.str i t from h); cases e
  | byt i => obtain ⟨t, e⟩ := (show ∃ t, Value.builtin b = Value.bytes i t from h); cases e
  | flt i => obtain ⟨t, e⟩ := (show ∃ t, Value.builtin b = Value.float i t from h); cases e
  | ref a => cases (show Value.builtin b = Value.ref a from h)
  | ty n => cases (show Value.builtin b = Value.type n from h)
theorem op_isC {X : Cx} : OpR X (compareOp .Is) rIsC := by
  intro pins s σ H x y v u Q I rx ry h
  obtain ⟨rfl | ⟨b, rfl⟩, q⟩ := h
  · exact L2.op_isN pins s σ H x .non v u Q I rx ry ⟨rfl, q⟩
  · cases (show u = Value.bool b from ry)
    by_cases e : x = .bl b
    · subst e
      cases (show v = Value.bool b from rx)
      exact wpAny_is_self (by cases b <;> rfl) ⟨.bl true, H, I, rfl, by simpa using q⟩
    · have ne : v ≠ Value.bool b := fun z => e (rel_bool (z ▸ rx))
      refine wpAny_is_other ?_ ne ⟨.bl false, H, I, rfl, by simpa [e] using q⟩
      cases v <;> first | rfl | exact (rel_builtin rx).elim
theorem op_isNC {X : Cx} : OpR X (compareOp .IsNot) rIsNC := by
  intro pins s σ H x y v u Q I rx ry h
  obtain ⟨rfl | ⟨b, rfl⟩, q⟩ := h
  · exact L2.op_notN pins s σ H x .non v u Q I rx ry ⟨rfl, q⟩
  · cases (show u = Value.bool b from ry)
    by_cases e : x = .bl b
    · subst e
      cases (show v = Value.bool b from rx)
      exact wpAny_isNot_self (by cases b <;> rfl) ⟨.bl false, H, I, rfl, by simpa using q⟩
    · have ne : v ≠ Value.bool b := fun z => e (rel_bool (z ▸ rx))
      refine wpAny_isNot_other ?_ ne ⟨.bl true, H, I, rfl, by simpa [e] using q⟩
      cases v <;> first | rfl | exact (rel_builtin rx).elim
theorem isV_den {θ : List Addr} {H : Hp} {x c : V} {d : D} (h : Den K pn θ H x d) (hc : c = .non ∨ ∃ b, c = .bl b) : decide (x = c) = isV d c := by
  cases h with
  | v => rfl
  | _ => rcases hc with rfl | ⟨b, rfl⟩ <;> rfl
theorem sr_is : SR K pn rIsC fIs := ⟨fun w x y dx dy k hx hy QA h Q hq => by
  unfold fIs at h
  split at h
  · obtain rfl := hy.v_inv
    refine ⟨.inl rfl, ?_⟩
    rw [isV_den hx (.inl rfl)]
    exact (hq _ _ h).same k .v
  · rename_i b
    obtain rfl := hy.v_inv
    refine ⟨.inr ⟨b, rfl⟩, ?_⟩
    rw [isV_den hx (.inr ⟨b, rfl⟩)]
    exact (hq _ _ h).same k .v
  · exact h.elim⟩
theorem sr_isN : SR K pn rIsNC fIsN := ⟨fun w x y dx dy k hx hy QA h Q hq => by
  unfold fIsN at h
  split at h
  · obtain rfl := hy.v_inv
    refine ⟨.inl rfl, ?_⟩
    rw [isV_den hx (.inl rfl)]
    exact (hq _ _ h).same k .v
  · rename_i b
    obtain rfl := hy.v_inv
    refine ⟨.inr ⟨b, rfl⟩, ?_⟩
    rw [isV_den hx (.inr ⟨b, rfl⟩)]
    exact (hq _ _ h).same k .v
  · exact h.elim⟩
theorem sr_ix : SR K pn (fun x y H Q => rIxL K x y H Q ∨ rIxT K x y H Q) fIx := ⟨fun w x y dx dy k hx hy QA h Q hq => by
  unfold fIx at h
  split at h
  · rename_i ds i e
    obtain rfl := hy.v_inv
    split at h
    · rename_i d ed
      rw [atD_eq] at ed
      obtain ⟨p, vs, rfl, hsq, hs⟩ := items_sq k hx e
      obtain ⟨z, ez, dz⟩ := hs.at ed
      rcases hsq with hsq | hsq
      · exact .inl ⟨p, vs, i, z, rfl, rfl, hsq, ez, (hq _ _ h).same k dz⟩
      · exact .inr ⟨p, vs, i, z, rfl, rfl, hsq, ez, (hq _ _ h).same k dz⟩
    · exact h.elim
  · exact h.elim⟩
theorem PQ.new {w : Wd} {Q : VK} {d : D} {p : Addr} {o : HO} (k : Ok K w) (hp : w.H p = none) (h : PQ K pn w Q d w.μ) (hv : Le w.θ w.H w.θ (upd w.H p o) → p ∉ w.θ → Den K pn w.θ (upd w.H p o) (.ref p) d) : Q (.ref p) (upd w.H p o) := by
  obtain ⟨l, k', n⟩ := k.new (o := o) hp
  exact h (.ref p) ⟨w.θ, upd w.H p o, w.μ⟩ rfl l k' (hv l n)
theorem sc_len : SC K pn (fun xs H Q => ∃ p ys, xs = [.ref p] ∧ (SqL K H p ys ∨ SqT K H p ys) ∧ Q (.int ys.length) H) fLen := ⟨fun w xs ds k hx QA h Q hq => by
  unfold fLen at h
  split at h
  · split at h
    · rename_i e
      cases hx with
      | cons h1 h2 =>
        cases h2
        obtain ⟨p, vs, rfl, hsq, hs⟩ := items_sq k h1 e
        refine ⟨p, vs, rfl, hsq, ?_⟩
        rw [hs.len]
        exact (hq _ _ h).same k .v
    · exact h.elim
  · exact h.elim⟩
theorem sc_int : SC K pn (fun xs H Q => (∃ i, xs = [.int i] ∧ Q (.int i) H) ∨ ∃ k, xs = [.bl k] ∧ Q (.int (if k then 1 else 0)) H) fInt := ⟨fun w xs ds k hx QA h Q hq => by
  unfold fInt at h
  split at h
  · cases hx with
    | cons h1 h2 =>
      cases h2
      obtain rfl := h1.v_inv
      exact .inl ⟨_, rfl, (hq _ _ h).same k .v⟩
  · cases hx with
    | cons h1 h2 =>
      cases h2
      obtain rfl := h1.v_inv
      exact .inr ⟨_, rfl, (hq _ _ h).same k .v⟩
  · exact h.elim⟩
theorem sc_max : SC K pn (fun xs H Q => ∃ i j, xs = [.int i, .int j] ∧ Q (.int (if j > i then j else i)) H) fMax := ⟨fun w xs ds k hx QA h Q hq => by
  unfold fMax at h
  split at h
  · cases hx with
    | cons h1 h2 =>
      cases h2 with
      | cons h3 h4 =>
        cases h4
        obtain rfl := h1.v_inv
        obtain rfl := h3.v_inv
        exact ⟨_, _, rfl, (hq _ _ h).same k .v⟩
  · exact h.elim⟩
theorem sc_min : SC K pn (fun xs H Q => ∃ i j, xs = [.int i, .int j] ∧ Q (.int (if j < i then j else i)) H) fMin := ⟨fun w xs ds k hx QA h Q hq => by
  unfold fMin at h
  split at h
  · cases hx with
    | cons h1 h2 =>
      cases h2 with
      | cons h3 h4 =>
        cases h4
        obtain rfl := h1.v_inv
        obtain rfl := h3.v_inv
        exact ⟨_, _, rfl, (hq _ _ h).same k .v⟩
  · exact h.elim⟩
theorem sc_list : SC K pn (fun xs H Q => ∃ p ys, xs = [.ref p] ∧ (SqL K H p ys ∨ SqT K H p ys) ∧ ∀ l, H l = none → Q (.ref l) (upd H l (.lst ys))) fList := ⟨fun w xs ds k hx QA h Q hq => by
  unfold fList at h
  split at h
  · split at h
    · rename_i e
      cases hx with
      | cons h1 h2 =>
        cases h2
        obtain ⟨p, vs, rfl, hsq, hs⟩ := items_sq k h1 e
        exact ⟨p, vs, rfl, hsq, fun q hp => (hq _ _ h).new k hp fun l n => .lst upd_same n (hs.mono l)⟩
    · exact h.elim
  · exact h.elim⟩
theorem kit_ty {t T : String} (ht : t = "NoneType" ∨ t = "bool" ∨ t = "int" ∨ t = "str" ∨ t = "list" ∨ t = "tuple" ∨ t = "dict") (hT : T = "int" ∨ T = "bool" ∨ T = "str" ∨ T = "list" ∨ T = "tuple") :
    PySem.W.kitOne K (.type t) (.type T) = some (subT t T) := by
  rcases ht with rfl | rfl | rfl | rfl | rfl | rfl | rfl <;> rcases hT with rfl | rfl | rfl | rfl | rfl <;> rfl
theorem kit_lt {t : String} (ht : t = "NoneType" ∨ t = "bool" ∨ t = "int" ∨ t = "str" ∨ t = "list" ∨ t = "tuple" ∨ t = "dict") :
    PySem.W.kitAny K (.type t) [.type "list", .type "tuple"] = some (subT t "list" || subT t "tuple") := by
  rcases ht with rfl | rfl | rfl | rfl | rfl | rfl | rfl <;> rfl
/-- what isinstance by a type's name answers -/
structure Kit (K : PySem.W.Frag) (t : String) (c : Value) : Prop where
  one : ∀ T, (T = "int" ∨ T = "bool" ∨ T = "str" ∨ T = "list" ∨ T = "tuple") → PySem.W.kitOne K c (.type T) = some (subT t T)
  lt : PySem.W.kitAny K c [.type "list", .type "tuple"] = some (subT t "list" || subT t "tuple")
theorem Kit.ty {K : PySem.W.Frag} {t : String} (ht : t = "NoneType" ∨ t = "bool" ∨ t = "int" ∨ t = "str" ∨ t = "list" ∨ t = "tuple" ∨ t = "dict") : Kit K t (.type t) := ⟨fun _ h => kit_ty ht h, kit_lt ht⟩
theorem Kit.own {K : PySem.W.Frag} {C : Addr} (h : CK K C) : Kit K "own" (.ref C) := ⟨fun T hT => by
  rcases hT with rfl | rfl | rfl | rfl | rfl
  · exact h.k1
  · exact h.k2
  · exact h.k3
  · exact h.k4
  · exact h.k5, by
  unfold PySem.W.kitAny
  rw [h.k4]
  show PySem.W.kitAny K (.ref C) [.type "tuple"] = _
  unfold PySem.W.kitAny
  rw [h.k5]
  rfl⟩
theorem CK.tyof {K : PySem.W.Frag} {H : Hp} {a C dx : Addr} {fs : List (Str × V)} (h : CK K C) (e : H a = some (.ins C dx fs)) : TyX K H (.ref a) (.ref C) := .base (.ins e h.cl h.ha h.hn h.htk h.hm)
theorem ty_den {θ : List Addr} {H : Hp} {x : V} {d : D} {t : String} (h : Den K pn θ H x d) (e : tyD d = some t) : ∃ c, TyX K H x c ∧ Kit K t c := by
  cases h with
  | v =>
    cases x with
    | non => cases e; exact ⟨_, .base .non, .ty (by simp)⟩
    | bl b => cases e; exact ⟨_, .base (.bl b), .ty (by simp)⟩
    | int b => cases e; exact ⟨_, .base (.int b), .ty (by simp)⟩
    | str b => cases e; exact ⟨_, .base (.str b), .ty (by simp)⟩
    | _ => cases e
  | lst h n hs => cases e; exact ⟨_, .base (.lst h), .ty (by simp)⟩
  | tup h hs =>
    cases e
    refine ⟨.type "tuple", ?_, .ty (by simp)⟩
    rcases h with ⟨h, n⟩ | ⟨o, its, n, h1, h2, _⟩
    · exact .base (.tup h)
    · exact .kTuple h1 h2
  | rl h hs => cases e
  | loc h => cases e
  | err => cases e
  | dic h n => cases e; exact ⟨_, .base (.dK h), .ty (by simp)⟩
  | ins hk hf h n hl hs => cases e; exact ⟨_, hk.tyof h, .own hk⟩
theorem sc_isi : SC K pn (fun xs H Q => rIsi K xs H Q ∨ rIsiT K xs H Q ∨ rIsiK K xs H Q) fIsi := ⟨fun w xs ds k hx QA h Q hq => by
  unfold fIsi at h
  split at h
  · split at h
    · rename_i t et
      cases hx with
      | cons h1 h2 =>
        cases h2 with
        | cons h3 h4 =>
          cases h4
          obtain rfl := h3.v_inv
          obtain ⟨c, a, b⟩ := ty_den h1 et
          exact .inl ⟨_, _, _, _, _, rfl, .ty _, a, b.one _ h.1, (hq _ _ h.2).same k .v⟩
    · exact h.elim
  · split at h
    · rename_i t et
      cases hx with
      | cons h1 h2 =>
        cases h2 with
        | cons h3 h4 =>
          cases h4
          obtain ⟨c, a, b⟩ := ty_den h1 et
          obtain ⟨⟨rfl, rfl⟩, h5⟩ := h
          cases h3 with
          | tup ht hs =>
            cases hs with
            | cons t1 t2 =>
              cases t2 with
              | cons t3 t4 =>
                cases t4
                obtain rfl := t1.v_inv
                obtain rfl := t3.v_inv
                rcases ht with ⟨ht, n⟩ | ⟨o, its, n, h1, h2, h3, h4, h6⟩
                · exact .inr (.inl ⟨_, _, _, _, _, _, rfl, ht, .cons (.ty _) (.cons (.ty _) .nil), a, b.lt, (hq _ _ h5).same k .v⟩)
                · have e : its.toList = [.type "list", .type "tuple"] := ClsV.all (.cons (.ty _) (.cons (.ty _) .nil)) h6
                  obtain ⟨oc, od, dt, sl⟩ := o
                  simp only at h2 h3
                  subst h2 h3
                  refine .inr (.inr ⟨_, _, od, its.toList, n, sl, _, _, rfl, by simpa using h1, a, ?_, (hq _ _ h5).same k .v⟩)
                  rw [e]
                  exact b.lt
    · exact h.elim
  · exact h.elim⟩
end
end DK
set_option Elab.async false
set_option linter.all false
set_option maxRecDepth 100000
set_option maxHeartbeats 2000000
namespace DK
open PySem L2 PyProof.Rows

/-! ### readings composed -/
section
variable {K : PySem.W.Frag} {pn : List (Addr × Obj)} {W : WX} {ta tb tc te : TE} {a b c e : AE} {r r' : R2} {f g : F2} {tt tu : TT} {t u : AT} {tl : TA} {l : AA}
theorem se_var {i : Nat} : SE K pn W (tVar i) (aVar i) := ⟨fun w σ ρ k e QA XA h Q hq hx => by
  unfold aVar at h
  split at h
  · rename_i d ed
    obtain ⟨v, hv, dn⟩ := e.get i d ed
    exact ⟨v, hv, (hq _ _ h).same k dn⟩
  · exact h.elim⟩
theorem se_c {x : V} : SE K pn W (tC x) (aV (.v x)) := ⟨fun w σ ρ k e QA XA h Q hq hx => (hq _ _ h).same k .v⟩
theorem se_bin (hr : SR K pn r f) (ha : SE K pn W ta a) (hb : SE K pn W tb b) : SE K pn W (tOp r ta tb) (aBin f a b) := ⟨fun w σ ρ k e QA XA h Q hq hx =>
  ha.run w σ ρ k e _ XA h _ (fun dx μ1 h1 x w1 em l1 k1 d1 => by
    subst em
    refine hb.run w1 σ ρ k1 (e.mono l1) _ XA h1 _ (fun dy μ2 h2 y w2 em2 l2 k2 d2 => ?_) (fun x μ' q => (hx x μ' q).mono l1)
    subst em2
    exact hr.run w2 x y dx dy k2 (d1.mono l2) d2 QA h2 Q fun d μ' q => (hq d μ' q).mono (l1.trans l2)) hx⟩
theorem se_un {r : V → Hp → VK → Prop} {f : F1} (hr : SU K pn r f) (ha : SE K pn W ta a) : SE K pn W (tUn r ta) (aUn f a) := ⟨fun w σ ρ k e QA XA h Q hq hx =>
  ha.run w σ ρ k e _ XA h _ (fun dx μ1 h1 x w1 em l1 k1 d1 => by
    subst em
    exact hr.run w1 x dx k1 d1 QA h1 Q fun d μ' q => (hq d μ' q).mono l1) hx⟩
theorem sa_nil : SA K pn W tNil aNil := ⟨fun w σ ρ k e QA XA h Q hq hx => hq _ _ h [] w rfl k.refl k .nil⟩
theorem sa_cons (ha : SE K pn W ta a) (hl : SA K pn W tl l) : SA K pn W (tCons ta tl) (aCons a l) := ⟨fun w σ ρ k e QA XA h Q hq hx =>
  ha.run w σ ρ k e _ XA h _ (fun dx μ1 h1 x w1 em l1 k1 d1 => by
    subst em
    refine hl.run w1 σ ρ k1 (e.mono l1) _ XA h1 _ (fun ds μ2 h2 xs w2 em2 l2 k2 d2 => ?_) (fun x μ' q => (hx x μ' q).mono l1)
    exact hq _ _ h2 (x :: xs) w2 em2 (l1.trans l2) k2 (.cons (d1.mono l2) d2)) hx⟩
theorem se_cb {r : List V → Hp → VK → Prop} {f : FL} (hr : SC K pn r f) (hl : SA K pn W tl l) : SE K pn W (tCB r tl) (aCB f l) := ⟨fun w σ ρ k e QA XA h Q hq hx =>
  hl.run w σ ρ k e _ XA h _ (fun ds μ1 h1 xs w1 em l1 k1 d1 => by
    subst em
    exact hr.run w1 xs ds k1 d1 QA h1 Q fun d μ' q => (hq d μ' q).mono l1) hx⟩
theorem se_tup (hl : SA K pn W tl l) : SE K pn W (tTup tl) (aTup l) := ⟨fun w σ ρ k e QA XA h Q hq hx =>
  hl.run w σ ρ k e _ XA h _ (fun ds μ1 h1 xs w1 em l1 k1 d1 => by
    subst em
    refine ⟨?_, fun p hp => ((hq _ _ h1.2).mono l1).new k1 hp fun l n => .tup (.inl ⟨upd_same, n⟩) (d1.mono l)⟩
    rw [d1.len]
    exact Nat.le_trans h1.1 (by decide)) hx⟩
theorem se_lst (hl : SA K pn W tl l) : SE K pn W (tLst tl) (aLst l) := ⟨fun w σ ρ k e QA XA h Q hq hx =>
  hl.run w σ ρ k e _ XA h _ (fun ds μ1 h1 xs w1 em l1 k1 d1 => by
    subst em
    refine ⟨?_, fun p hp => ((hq _ _ h1.2).mono l1).new k1 hp fun l n => .lst upd_same n (d1.mono l)⟩
    rw [d1.len]
    exact Nat.le_trans h1.1 (by decide)) hx⟩
/-- a new cell -/
theorem Ok.cellL {w : Wd} {p : Addr} {vs : List V} {ds : List D} (k : Ok K w) (hp : w.H p = none) (hs : Dens K [] w.θ w.H vs ds) :
    WLe w ⟨w.θ ++ [p], upd w.H p (.lst vs), w.μ ++ [.lst ds]⟩ ∧ Ok K ⟨w.θ ++ [p], upd w.H p (.lst vs), w.μ ++ [.lst ds]⟩ := by
  have hn : p ∉ w.θ := fun hm => by
    obtain ⟨u, hu⟩ := k.trk p hm
    rw [hp] at hu
    cases hu
  have l : Le w.θ w.H (w.θ ++ [p]) (upd w.H p (.lst vs)) := ⟨fun a u ha _ => by rw [upd_ne (ne_of_none ha hp)]; exact ha, ⟨[p], rfl, fun q hq => by
    rw [List.mem_singleton.mp hq]
    exact hp⟩, fun q hq => by
    rcases List.mem_append.mp hq with hq | hq
    · have hqp : q ≠ p := fun z => hn (by rw [← z]; exact hq)
      rw [upd_ne hqp]
      exact k.trk q hq
    · rw [List.mem_singleton.mp hq]
      exact ⟨_, upd_same⟩⟩
  refine ⟨l, ⟨?_, by simp [k.len], fun i q c h1 h2 => ?_⟩⟩
  · refine List.nodup_append.mpr ⟨k.nd, by simp, fun a ha b hb => ?_⟩
    rw [List.mem_singleton.mp hb]
    exact fun z => hn (by rw [← z]; exact ha)
  · by_cases hi : i < w.θ.length
    · rw [List.getElem?_append_left hi] at h1
      rw [List.getElem?_append_left (by rw [← k.len]; exact hi)] at h2
      have z := k.cell i q c h1 h2
      have hq : q ∈ w.θ := List.mem_iff_getElem?.mpr ⟨i, h1⟩
      have e : upd w.H p (.lst vs) q = w.H q := upd_ne fun z => hn (by rw [← z]; exact hq)
      cases c with
      | lst ds =>
        obtain ⟨us, a, b⟩ := z
        exact ⟨us, e.trans a, b.mono l⟩
      | ins C fs =>
        obtain ⟨dx, us, a, b⟩ := z
        exact ⟨dx, us, e.trans a, b.mono l⟩
    · have hi' : i = w.θ.length := by
        have := (List.getElem?_eq_some_iff.mp h1).1
        simp at this
        omega
      subst hi'
      rw [List.getElem?_append_right (Nat.le_refl _)] at h1
      rw [List.getElem?_append_right (by rw [k.len]; exact Nat.le_refl _)] at h2
      rw [Nat.sub_self] at h1
      rw [k.len, Nat.sub_self] at h2
      cases h1
      cases h2
      exact ⟨vs, upd_same, hs.mono l⟩
theorem se_lstM (hl : SA K [] W tl l) : SE K [] W (tLst tl) (aLstM l) := ⟨fun w σ ρ k e QA XA h Q hq hx =>
  hl.run w σ ρ k e _ XA h _ (fun ds μ1 h1 xs w1 em l1 k1 d1 => by
    subst em
    refine ⟨?_, fun p hp => ?_⟩
    · rw [d1.len]
      exact Nat.le_trans h1.1 (by decide)
    · obtain ⟨l2, k2⟩ := k1.cellL hp d1
      refine hq _ _ h1.2 (.ref p) ⟨w1.θ ++ [p], upd w1.H p (.lst xs), w1.μ ++ [.lst ds]⟩ rfl (l1.trans l2) k2 (.loc ?_)
      show (w1.θ ++ [p])[w1.μ.length]? = some p
      rw [← k1.len, List.getElem?_append_right (Nat.le_refl _), Nat.sub_self]
      rfl) hx⟩
theorem st_test (ha : SE K pn W ta a) : ST K pn W (tTest ta) (aTest a) := ⟨fun w σ ρ k e QA XA h Q hq hx =>
  ha.run w σ ρ k e _ XA h _ (fun dx μ1 h1 x w1 em l1 k1 d1 => by
    split at h1
    · obtain rfl := d1.v_inv
      exact ⟨_, rfl, hq _ _ h1 w1 em l1 k1⟩
    · exact h1.elim) hx⟩
theorem st_B (ha : SE K pn W ta a) : ST K pn W (tB ta) (aTest a) := ⟨fun w σ ρ k e QA XA h Q hq hx =>
  ha.run w σ ρ k e _ XA h _ (fun dx μ1 h1 x w1 em l1 k1 d1 => by
    split at h1
    · obtain rfl := d1.v_inv
      exact ⟨_, rfl, hq _ _ h1 w1 em l1 k1⟩
    · exact h1.elim) hx⟩
theorem PB.mono {w w1 : Wd} {Q : Bool → Hp → Prop} {b : Bool} {μ' : Sto} (l : WLe w w1) (h : PB K w Q b μ') : PB K w1 Q b μ' := fun w' e m k => h w' e (l.trans m) k
theorem st_and (ha : ST K pn W tt t) (hb : ST K pn W tu u) : ST K pn W (tAnd tt tu) (aAnd t u) := ⟨fun w σ ρ k e QA XA h Q hq hx =>
  ha.run w σ ρ k e _ XA h _ (fun c μ1 h1 w1 em l1 k1 => by
    subst em
    cases c with
    | true => exact hb.run w1 σ ρ k1 (e.mono l1) _ XA (h1.1 rfl) _ (fun d μ' q => (hq d μ' q).mono l1) (fun x μ' q => (hx x μ' q).mono l1)
    | false => exact hq _ _ (h1.2 rfl) w1 rfl l1 k1) hx⟩
theorem st_or (ha : ST K pn W tt t) (hb : ST K pn W tu u) : ST K pn W (tOr tt tu) (aOr t u) := ⟨fun w σ ρ k e QA XA h Q hq hx =>
  ha.run w σ ρ k e _ XA h _ (fun c μ1 h1 w1 em l1 k1 => by
    subst em
    cases c with
    | false => exact hb.run w1 σ ρ k1 (e.mono l1) _ XA (h1.2 rfl) _ (fun d μ' q => (hq d μ' q).mono l1) (fun x μ' q => (hx x μ' q).mono l1)
    | true => exact hq _ _ (h1.1 rfl) w1 rfl l1 k1) hx⟩
theorem st_not (ha : ST K pn W tt t) : ST K pn W (tNot tt) (aNot t) := ⟨fun w σ ρ k e QA XA h Q hq hx =>
  ha.run w σ ρ k e _ XA h _ (fun c μ1 h1 w1 em l1 k1 => hq _ _ h1 w1 em l1 k1) hx⟩
theorem se_andV (ha : SE K pn W ta a) (hb : SE K pn W tb b) : SE K pn W (tAndV ta tb) (aAndV a b) := ⟨fun w σ ρ k e QA XA h Q hq hx =>
  ha.run w σ ρ k e _ XA h _ (fun dx μ1 h1 x w1 em l1 k1 d1 => by
    subst em
    split at h1
    · rename_i c
      obtain rfl := d1.v_inv
      refine ⟨c, rfl, ?_⟩
      cases c with
      | true => exact hb.run w1 σ ρ k1 (e.mono l1) _ XA (h1.1 rfl) _ (fun d μ' q => (hq d μ' q).mono l1) (fun x μ' q => (hx x μ' q).mono l1)
      | false => exact hq _ _ (h1.2 rfl) _ w1 rfl l1 k1 .v
    · exact h1.elim) hx⟩
theorem se_notV (ha : SE K pn W ta a) : SE K pn W (tNotV ta) (aNotV a) := ⟨fun w σ ρ k e QA XA h Q hq hx =>
  ha.run w σ ρ k e _ XA h _ (fun dx μ1 h1 x w1 em l1 k1 d1 => by
    split at h1
    · obtain rfl := d1.v_inv
      exact ⟨_, rfl, hq _ _ h1 _ w1 em l1 k1 .v⟩
    · exact h1.elim) hx⟩
theorem se_if (ht : ST K pn W tt t) (ha : SE K pn W ta a) (hb : SE K pn W tb b) : SE K pn W (tIf tt ta tb) (aIf t a b) := ⟨fun w σ ρ k e QA XA h Q hq hx =>
  ht.run w σ ρ k e _ XA h _ (fun c μ1 h1 w1 em l1 k1 => by
    subst em
    cases c with
    | true => exact ha.run w1 σ ρ k1 (e.mono l1) _ XA (h1.1 rfl) _ (fun d μ' q => (hq d μ' q).mono l1) (fun x μ' q => (hx x μ' q).mono l1)
    | false => exact hb.run w1 σ ρ k1 (e.mono l1) _ XA (h1.2 rfl) _ (fun d μ' q => (hq d μ' q).mono l1) (fun x μ' q => (hx x μ' q).mono l1)) hx⟩
theorem se_chain (hr : SR K pn r f) (hr' : SR K pn r' g) (ha : SE K pn W ta a) (hb : SE K pn W tb b) (hc : SE K pn W tc c) : SE K pn W (tChain r r' ta tb tc) (aChain f g a b c) := ⟨fun w σ ρ k e QA XA h Q hq hx =>
  ha.run w σ ρ k e _ XA h _ (fun dx μ1 h1 x w1 em l1 k1 d1 => by
    subst em
    refine hb.run w1 σ ρ k1 (e.mono l1) _ XA h1 _ (fun dy μ2 h2 y w2 em2 l2 k2 d2 => ?_) (fun x μ' q => (hx x μ' q).mono l1)
    subst em2
    refine hr.run w2 x y dx dy k2 (d1.mono l2) d2 _ h2 _ fun dz μ3 h3 z w3 em3 l3 k3 d3 => ?_
    subst em3
    split at h3
    · rename_i c
      obtain rfl := d3.v_inv
      refine ⟨c, rfl, ?_⟩
      have l13 := (l1.trans l2).trans l3
      cases c with
      | true =>
        refine hc.run w3 σ ρ k3 (e.mono l13) _ XA (h3.1 rfl) _ (fun du μ4 h4 u w4 em4 l4 k4 d4 => ?_) (fun x μ' q => (hx x μ' q).mono l13)
        subst em4
        exact hr'.run w4 y u dy du k4 (d2.mono (l3.trans l4)) d4 QA h4 Q fun d μ' q => (hq d μ' q).mono (l13.trans l4)
      | false => exact hq _ _ (h3.2 rfl) _ w3 rfl l13 k3 .v
    · exact h3.elim) hx⟩
end

/-! ### with the syntax -/
structure DE (X : Cx) (pn : List (Addr × Obj)) (W : WX) (e : Expr) (a : AE) : Prop where
  ex : ∃ t, PE X e t ∧ SE X.K pn W t a
structure DT (X : Cx) (pn : List (Addr × Obj)) (W : WX) (e : Expr) (a : AT) : Prop where
  ex : ∃ t, PT X e t ∧ ST X.K pn W t a
structure DW (X : Cx) (pn : List (Addr × Obj)) (W : WX) (e : Expr) (a : AT) : Prop where
  ex : ∃ t, PW X e t ∧ ST X.K pn W t a
structure DA (X : Cx) (pn : List (Addr × Obj)) (W : WX) (es : List Expr) (a : AA) : Prop where
  ex : ∃ t, PA X es t ∧ SA X.K pn W t a
structure DS (X : Cx) (pn : List (Addr × Obj)) (W : WX) (st : Stmt) (a : AS) : Prop where
  ex : ∃ t, PS X st t ∧ SS X.K pn W t a
structure DSs (X : Cx) (pn : List (Addr × Obj)) (W : WX) (st : List Stmt) (a : AS) : Prop where
  ex : ∃ t, PSs X st t ∧ SS X.K pn W t a
structure DOp (X : Cx) (pn : List (Addr × Obj)) (o : Value → Value → Sem Value) (f : F2) : Prop where
  ex : ∃ r, OpR X o r ∧ SR X.K pn r f
structure DUn (X : Cx) (pn : List (Addr × Obj)) (o : Value → Sem Value) (f : F1) : Prop where
  ex : ∃ r, UnR X o r ∧ SU X.K pn r f
structure DCl (X : Cx) (pn : List (Addr × Obj)) (v : Value) (f : FL) : Prop where
  ex : ∃ r, CallR X v r ∧ SC X.K pn r f
section
variable {X : Cx} {pn : List (Addr × Obj)} {W : WX} {e e1 e2 e3 : Expr} {es : List Expr} {a b c : AE} {t u : AT} {l : AA} {f g : F2} {pos pos' p : Pos} {x : Str}
theorem d_var (i : Nat) (hN : X.N[i]? = some x := by rfl) (hv : Vis X.env.scope x := by first | exact Or.inl rfl | exact Or.inr (Or.inl rfl) | exact Or.inr (Or.inr rfl)) (hd : (x == ("__debug__" : Str)) = false := by decide)
    (hcd : (x == ("__classdict__" : Str)) = false := by decide) : DE X pn W (.Name x pos) (aVar i) := ⟨_, pe_var hN hv hd hcd, se_var⟩
theorem d_int {i j} : DE X pn W (.Constant (.int i) j pos) (aV (.v (.int i))) := ⟨_, pe_int, se_c⟩
theorem d_bl {i j} : DE X pn W (.Constant (.bool i) j pos) (aV (.v (.bl i))) := ⟨_, pe_bl, se_c⟩
theorem d_non {j} : DE X pn W (.Constant .none j pos) (aV (.v .non)) := ⟨_, pe_non, se_c⟩
theorem d_str {i j} : DE X pn W (.Constant (.str i) j pos) (aV (.v (.str i))) := ⟨_, pe_str, se_c⟩
theorem d_globV {v : V} {u : Value} (hm : X.mg x = some u) (r : RelV v u) (hg : Gl X x := by rfl) (hdb : (x == ("__debug__" : Str)) = false := by decide) : DE X pn W (.Name x pos) (aV (.v v)) :=
  ⟨_, pe_glob hg hm r hdb, se_c⟩
/-- a builtin's name as a value (a type) -/
theorem d_ty {T : String} (hm : X.mg x = none) (hv : bootBuiltins x = some (.type T)) (hg : Gl X x := by rfl) (hn : x ≠ "__name__" := by decide) (hdb : (x == ("__debug__" : Str)) = false := by decide) : DE X pn W (.Name x pos) (aV (.v (.ty T))) :=
  ⟨_, pe_bltn (v := .ty T) hg hm hv rfl hn hdb, se_c⟩
theorem d_bin {op : Operator} (o : DOp X pn (binaryOp op) f) (ha : DE X pn W e1 a) (hb : DE X pn W e2 b) : DE X pn W (.BinOp e1 op e2 pos) (aBin f a b) := by
  obtain ⟨r, o1, o2⟩ := o.ex
  obtain ⟨ta, a1, a2⟩ := ha.ex
  obtain ⟨tb, b1, b2⟩ := hb.ex
  exact ⟨_, pe_op o1 a1 b1, se_bin o2 a2 b2⟩
theorem d_un {op : UnaryOp} {f : F1} (o : DUn X pn (unaryOp op) f) (ha : DE X pn W e1 a) (hs : (op == .Not) = false := by rfl) : DE X pn W (.UnaryOp op e1 pos) (aUn f a) := by
  obtain ⟨r, o1, o2⟩ := o.ex
  obtain ⟨ta, a1, a2⟩ := ha.ex
  exact ⟨_, pe_un o1 a1, se_un o2 a2⟩
theorem d_cmp {op : CmpOp} (o : DOp X pn (compareOp op) f) (ha : DE X pn W e1 a) (hb : DE X pn W e2 b) (hm : behindInMarks op e2 = false := by first | exact nobehind _ (by decide) (by decide) | with_unfolding_all rfl) : DE X pn W (.Compare e1 [op] [e2] pos) (aBin f a b) := by
  obtain ⟨r, o1, o2⟩ := o.ex
  obtain ⟨ta, a1, a2⟩ := ha.ex
  obtain ⟨tb, b1, b2⟩ := hb.ex
  exact ⟨_, pe_cmpR o1 a1 b1 hm, se_bin o2 a2 b2⟩
theorem d_tcmp {op : CmpOp} (o : DOp X pn (compareOp op) f) (ha : DE X pn W e1 a) (hb : DE X pn W e2 b) (hm : behindInMarks op e2 = false := by first | exact nobehind _ (by decide) (by decide) | with_unfolding_all rfl) : DT X pn W (.Compare e1 [op] [e2] pos) (aTest (aBin f a b)) := by
  obtain ⟨r, o1, o2⟩ := o.ex
  obtain ⟨ta, a1, a2⟩ := ha.ex
  obtain ⟨tb, b1, b2⟩ := hb.ex
  exact ⟨_, pt_cmpR o1 a1 b1 hm, st_test (se_bin o2 a2 b2)⟩
theorem d_chain {op op' : CmpOp} (o : DOp X pn (compareOp op) f) (o' : DOp X pn (compareOp op') g) (ha : DE X pn W e1 a) (hb : DE X pn W e2 b) (hc : DE X pn W e3 c) (hm : lastMarks [op, op'] [e2, e3] = false := by with_unfolding_all rfl) : DE X pn W (.Compare e1 [op, op'] [e2, e3] pos) (aChain f g a b c) := by
  obtain ⟨r, o1, o2⟩ := o.ex
  obtain ⟨r', o1', o2'⟩ := o'.ex
  obtain ⟨ta, a1, a2⟩ := ha.ex
  obtain ⟨tb, b1, b2⟩ := hb.ex
  obtain ⟨tc, c1, c2⟩ := hc.ex
  exact ⟨_, pe_chain o1 o1' a1 b1 c1 hm, se_chain o2 o2' a2 b2 c2⟩
theorem d_and (ha : DE X pn W e1 a) (hb : DE X pn W (.BoolOp .And (e2 :: es) pos) b) : DE X pn W (.BoolOp .And (e1 :: e2 :: es) pos) (aAndV a b) := by
  obtain ⟨ta, a1, a2⟩ := ha.ex
  obtain ⟨tb, b1, b2⟩ := hb.ex
  exact ⟨_, pe_and a1 b1, se_andV a2 b2⟩
theorem d_one {op} (ha : DE X pn W e1 a) : DE X pn W (.BoolOp op [e1] pos) a := by
  obtain ⟨ta, a1, a2⟩ := ha.ex
  exact ⟨_, pe_one a1, a2⟩
theorem d_not (ha : DE X pn W e1 a) : DE X pn W (.UnaryOp .Not e1 pos) (aNotV a) := by
  obtain ⟨ta, a1, a2⟩ := ha.ex
  exact ⟨_, pe_not a1, se_notV a2⟩
theorem d_if (ht : DT X pn W e1 t) (ha : DE X pn W e2 a) (hb : DE X pn W e3 b) : DE X pn W (.IfExp e1 e2 e3 pos) (aIf t a b) := by
  obtain ⟨tt, t1, t2⟩ := ht.ex
  obtain ⟨ta, a1, a2⟩ := ha.ex
  obtain ⟨tb, b1, b2⟩ := hb.ex
  exact ⟨_, pe_ifExp t1 a1 b1, se_if t2 a2 b2⟩
/-! tests -/
theorem d_tval (ha : DE X pn W e a) (he : ∀ whole, isTrue e X.env whole = (do let v ← whole; standAt e.pos; holding [v] (truthy v)) := by intro _; rfl) : DT X pn W e (aTest a) := by
  obtain ⟨ta, a1, a2⟩ := ha.ex
  exact ⟨_, pt_val a1 he, st_B a2⟩
theorem d_tw (h : DW X pn W e t) : DT X pn W e t := by
  obtain ⟨tt, t1, t2⟩ := h.ex
  exact ⟨_, t1.pt, t2⟩
theorem d_tnot (h : DT X pn W e t) : DT X pn W (.UnaryOp .Not e pos) (aNot t) := by
  obtain ⟨tt, t1, t2⟩ := h.ex
  exact ⟨_, pt_not t1, st_not t2⟩
theorem d_wand (ha : DT X pn W e1 t) (hb : DW X pn W (.BoolOp .And (e2 :: es) pos) u) : DW X pn W (.BoolOp .And (e1 :: e2 :: es) pos) (aAnd t u) := by
  obtain ⟨ta, a1, a2⟩ := ha.ex
  obtain ⟨tb, b1, b2⟩ := hb.ex
  exact ⟨_, pw_and a1 b1, st_and a2 b2⟩
theorem d_wor (ha : DT X pn W e1 t) (hb : DW X pn W (.BoolOp .Or (e2 :: es) pos) u) : DW X pn W (.BoolOp .Or (e1 :: e2 :: es) pos) (aOr t u) := by
  obtain ⟨ta, a1, a2⟩ := ha.ex
  obtain ⟨tb, b1, b2⟩ := hb.ex
  exact ⟨_, pw_or a1 b1, st_or a2 b2⟩
theorem d_wand1 (ha : DT X pn W e1 t) : DW X pn W (.BoolOp .And [e1] pos) t := by
  obtain ⟨ta, a1, a2⟩ := ha.ex
  exact ⟨_, pw_and1 a1, a2⟩
theorem d_wor1 (ha : DT X pn W e1 t) : DW X pn W (.BoolOp .Or [e1] pos) t := by
  obtain ⟨ta, a1, a2⟩ := ha.ex
  exact ⟨_, pw_or1 a1, a2⟩
/-! arguments, displays, calls of built-ins, items -/
theorem d_nil : DA X pn W [] aNil := ⟨_, pa_nil, sa_nil⟩
theorem d_cons (ha : DE X pn W e a) (hl : DA X pn W es l) (hs : starEach (e :: es) X.env = (false, eval e X.env) :: starEach es X.env := by rfl) : DA X pn W (e :: es) (aCons a l) := by
  obtain ⟨ta, a1, a2⟩ := ha.ex
  obtain ⟨tl, l1, l2⟩ := hl.ex
  exact ⟨_, pa_cons a1 l1 hs, sa_cons a2 l2⟩
theorem d_tup {k1 : Nat} (hl : DA X pn W es l) : DE X pn W (.Tuple es k1 pos) (aTup l) := by
  obtain ⟨tl, l1, l2⟩ := hl.ex
  exact ⟨_, pe_tup l1, se_tup l2⟩
theorem d_lst (hl : DA X pn W es l) : DE X pn W (.List es pos) (aLst l) := by
  obtain ⟨tl, l1, l2⟩ := hl.ex
  exact ⟨_, pe_lst l1, se_lst l2⟩
theorem d_lstM (hl : DA X [] W es l) : DE X [] W (.List es pos) (aLstM l) := by
  obtain ⟨tl, l1, l2⟩ := hl.ex
  exact ⟨_, pe_lst l1, se_lstM l2⟩
theorem d_cb {id : String} {f : FL} (hc : DCl X pn (.builtin id) f) (hm : X.mg x = none) (hv : bootBuiltins x = some (.builtin id)) (ha : DA X pn W (e :: es) l) (hg : Gl X x := by rfl) (hn : x ≠ "__name__" := by decide) (hdb : (x == ("__debug__" : Str)) = false := by decide)
    (he : starEach (e :: es) X.env = (false, eval e X.env) :: starEach es X.env := by rfl) (hpl : (backTo pos (starEach es X.env)).any (·.1) = false := by rfl) : DE X pn W (.Call (.Name x p) (e :: es) [] pos) (aCB f l) := by
  obtain ⟨r, c1, c2⟩ := hc.ex
  obtain ⟨tl, l1, l2⟩ := ha.ex
  exact ⟨_, pe_callB c1 hg hm hv l1 hn hdb he hpl, se_cb c2 l2⟩
theorem d_ct {T : String} {f : FL} (hc : DCl X pn (.type T) f) (hm : X.mg x = none) (hv : bootBuiltins x = some (.type T)) (ha : DA X pn W (e :: es) l) (hg : Gl X x := by rfl) (hn : x ≠ "__name__" := by decide) (hdb : (x == ("__debug__" : Str)) = false := by decide)
    (he : starEach (e :: es) X.env = (false, eval e X.env) :: starEach es X.env := by rfl) (hpl : (backTo pos (starEach es X.env)).any (·.1) = false := by rfl) : DE X pn W (.Call (.Name x p) (e :: es) [] pos) (aCB f l) := by
  obtain ⟨r, c1, c2⟩ := hc.ex
  obtain ⟨tl, l1, l2⟩ := ha.ex
  exact ⟨_, pe_callTy c1 hg hm hv l1 hn hdb he hpl, se_cb c2 l2⟩
theorem d_ix (ha : DE X pn W e1 a) (hb : DE X pn W e2 b) (hs : PlainIx e2 := by exact fun _ _ => rfl) : DE X pn W (.Subscript e1 e2 pos) (aBin fIx a b) := by
  obtain ⟨ta, a1, a2⟩ := ha.ex
  obtain ⟨tb, b1, b2⟩ := hb.ex
  exact ⟨_, pe_ix (ix_list.or ix_tup) a1 b1 hs, se_bin sr_ix a2 b2⟩
/-! the operations -/
theorem o_sub : DOp X pn (binaryOp .Sub) (fI0 fun i j => .int (i - j)) := ⟨_, op_sub, sr_I0⟩
def CM (i j : Int) : Prop := CMul i j ∨ CMulX i j
theorem op_mulC : OpR X (binaryOp .Mult) (rI CM fun i j => .int (i * j)) := opI fun _ _ _ _ _ _ _ hc q => mul_int q (hc.elim CMul.ok CMulX.ok)
theorem o_mul : DOp X pn (binaryOp .Mult) (fI CM fun i j => .int (i * j)) := ⟨_, op_mulC, sr_I⟩
theorem o_div : DOp X pn (binaryOp .FloorDiv) (fI CDivW fun i j => .int (i / j)) := ⟨_, op_fdivW, sr_I⟩
theorem o_mod : DOp X pn (binaryOp .Mod) (fI (fun _ j => 0 < j) fun i j => .int (i % j)) := ⟨_, op_mod, sr_I⟩
theorem o_pow : DOp X pn (binaryOp .Pow) (fI CPow fun i j => .int (i ^ j.toNat)) := ⟨_, op_pow, sr_I⟩
theorem o_and : DOp X pn (binaryOp .BitAnd) (fI0 fun i j => .int (Builtin.bitAnd i j)) := ⟨_, op_and, sr_I0⟩
theorem o_or : DOp X pn (binaryOp .BitOr) (fI0 fun i j => .int (Builtin.bitOr i j)) := ⟨_, op_or, sr_I0⟩
theorem o_xor : DOp X pn (binaryOp .BitXor) (fI0 fun i j => .int (Builtin.bitXor i j)) := ⟨_, op_xor, sr_I0⟩
theorem o_neg : DUn X pn (unaryOp .USub) (fU fun i => .int (-i)) := ⟨_, un_neg, su_U⟩
theorem o_eq : DOp X pn (compareOp .Eq) fEq := ⟨_, op_eq, sr_eq⟩
theorem o_ne : DOp X pn (compareOp .NotEq) fNe := ⟨_, op_ne, sr_ne⟩
theorem o_lt : DOp X pn (compareOp .Lt) (fI0 fun i j => .bl (decide (i < j))) := ⟨_, op_lt, sr_I0⟩
theorem o_le : DOp X pn (compareOp .LtE) (fI0 fun i j => .bl (decide (i ≤ j))) := ⟨_, op_le, sr_I0⟩
theorem o_gt : DOp X pn (compareOp .Gt) (fI0 fun i j => .bl (decide (j < i))) := ⟨_, op_gt, sr_I0⟩
theorem o_ge : DOp X pn (compareOp .GtE) (fI0 fun i j => .bl (decide (j ≤ i))) := ⟨_, op_ge, sr_I0⟩
theorem o_is : DOp X pn (compareOp .Is) fIs := ⟨_, op_isC, sr_is⟩
theorem o_isn : DOp X pn (compareOp .IsNot) fIsN := ⟨_, op_isNC, sr_isN⟩
theorem c_len : DCl X pn (.builtin "len") fLen := ⟨_, call_len_seq, sc_len⟩
theorem c_int : DCl X pn (.type "int") fInt := ⟨_, call_int1, sc_int⟩
theorem c_list : DCl X pn (.type "list") fList := ⟨_, call_list_of, sc_list⟩
theorem c_max (hc : X.calm = true) : DCl X pn (.builtin "max") fMax := ⟨_, call_max2 hc, sc_max⟩
theorem c_min (hc : X.calm = true) : DCl X pn (.builtin "min") fMin := ⟨_, call_min2 hc, sc_min⟩
theorem CallR.or {v : Value} {r r' : List V → Hp → VK → Prop} (h : CallR X v r) (h' : CallR X v r') : CallR X v (fun xs H Q => r xs H Q ∨ r' xs H Q) := by
  intro pins s σ H xs us Q I rr q
  rcases q with q | q
  · exact h pins s σ H xs us Q I rr q
  · exact h' pins s σ H xs us Q I rr q
theorem c_isi : DCl X pn (.builtin "isinstance") fIsi := ⟨_, CallR.or call_isi (CallR.or call_isiT call_isiK), sc_isi⟩
end
end DK
set_option Elab.async false
set_option linter.all false
set_option maxRecDepth 100000
set_option maxHeartbeats 2000000
namespace DK
open PySem L2 PyProof.Rows

/-! ### statements -/
def sNext : AS := fun A ρ μ => A.nx ρ μ
def sSeq (a b : AS) : AS := fun A ρ μ => a { A with nx := b A } ρ μ
def sBreak : AS := fun A ρ μ => A.bk ρ μ
def sCont : AS := fun A ρ μ => A.ct ρ μ
def sDrop (e : AE) : AS := fun A ρ μ => e ρ μ (fun _ μ1 => A.nx ρ μ1) (fun x μ1 => A.er x ρ μ1)
def sRet (e : AE) : AS := fun A ρ μ => e ρ μ A.rt (fun x μ1 => A.er x ρ μ1)
def sRetN : AS := fun A _ μ => A.rt (.v .non) μ
def sIf (t : AT) (a b : AS) : AS := fun A ρ μ => t ρ μ (fun c μ1 => bIf c (a A ρ μ1) (b A ρ μ1)) (fun x μ1 => A.er x ρ μ1)
def sSet (i : Nat) (e : AE) : AS := fun A ρ μ => e ρ μ (fun d μ1 => A.nx (ρ.set i (some d)) μ1) (fun x μ1 => A.er x ρ μ1)
/-- o[i] = e, o a changed list -/
def setIt (x y d : D) (μ : Sto) (Q : Sto → Prop) : Prop := match x, y with
  | .loc k, .v (.int j) => (match μ[k]? with | some (.lst ds) => (match ixN ds.length j with | some n => Q (μ.set k (.lst (ds.set n d))) | none => False) | _ => False)
  | _, _ => False
def sSetIx (o i e : AE) : AS := fun A ρ μ => e ρ μ (fun d μ1 => o ρ μ1 (fun x μ2 => i ρ μ2 (fun y μ3 => setIt x y d μ3 fun μ4 => A.nx ρ μ4) (fun x μ1 => A.er x ρ μ1)) (fun x μ1 => A.er x ρ μ1)) (fun x μ1 => A.er x ρ μ1)
/-- the turns of a walk over the items ds -/
def loopL (ds : List D) (i : Nat) (b : AS) : AS := fun A ρ μ => ∃ I : Nat → Rho → Sto → Prop, I 0 ρ μ ∧
  (∀ n ρ' μ' d, ds[n]? = some d → I n ρ' μ' → b { A with nx := I (n + 1), ct := I (n + 1), bk := A.nx } (ρ'.set i (some d)) μ') ∧ ∀ ρ' μ', I ds.length ρ' μ' → A.nx ρ' μ'
/-- for x in a list that stays (a tuple), by a word of the turn -/
def sForL (e : AE) (i : Nat) (b : AS) : AS := fun A ρ μ => e ρ μ (fun d μ1 => ∃ ds, (d = .lst ds ∨ d = .rl ds) ∧ loopL ds i b A ρ μ1) (fun x μ1 => A.er x ρ μ1)
def sForT (e : AE) (i : Nat) (b : AS) : AS := fun A ρ μ => e ρ μ (fun d μ1 => ∃ ds, d = .tup ds ∧ loopL ds i b A ρ μ1) (fun x μ1 => A.er x ρ μ1)
def sForR (lo : Int) (hi : Int) (i : Nat) (b : AS) : AS := fun A ρ μ => ∃ I : Nat → Rho → Sto → Prop, I 0 ρ μ ∧
  (∀ (n : Nat) ρ' μ', lo + (n : Int) < hi → I n ρ' μ' → b { A with nx := I (n + 1), ct := I (n + 1), bk := A.nx } (ρ'.set i (some (.v (.int (lo + (n : Int)))))) μ') ∧ ∀ ρ' μ', I (hi - lo).toNat ρ' μ' → A.nx ρ' μ'
def sForR1 (l : AA) (i : Nat) (b : AS) : AS := fun A ρ μ => l ρ μ (fun ds μ1 => match ds with
  | [.v (.int n)] => (-(2 ^ 62) ≤ n ∧ n < 2 ^ 62) ∧ sForR 0 n i b A ρ μ1
  | _ => False) (fun x μ1 => A.er x ρ μ1)
def sForR2 (l : AA) (i : Nat) (b : AS) : AS := fun A ρ μ => l ρ μ (fun ds μ1 => match ds with
  | [.v (.int m), .v (.int n)] => ((-(2 ^ 62) ≤ m ∧ m < 2 ^ 62) ∧ (-(2 ^ 62) ≤ n ∧ n < 2 ^ 62)) ∧ sForR m n i b A ρ μ1
  | _ => False) (fun x μ1 => A.er x ρ μ1)
def sWhile (t : AT) (b : AS) : AS := fun A ρ μ => ∃ I : Nat → Rho → Sto → Prop, (∃ m, I m ρ μ) ∧ ∀ m ρ' μ', I m ρ' μ' →
  t ρ' μ' (fun c μ1 => bIf c (b { A with nx := fun r s => ∃ m', m' < m ∧ I m' r s, ct := fun r s => ∃ m', m' < m ∧ I m' r s, bk := A.nx } ρ' μ1) (A.nx ρ' μ1)) (fun x μ1 => A.er x ρ' μ1)

section
variable {K : PySem.W.Frag} {pn : List (Addr × Obj)} {W : WX} {te to ti : TE} {e o i : AE} {tt : TT} {t : AT} {ta tb : TS} {a b : AS} {tl : TA} {l : AA} {w w1 : Wd} {σ : L2.St} {ρ : Rho} {A : AEnds} {E : L2.Ends}
theorem PR.same {Q : L2.St → Hp → Prop} (k : Ok K w) (e : EnvR K pn w σ ρ) (h : PR K pn w Q ρ w.μ) : Q σ w.H := h σ w rfl k.refl k e
/-- an exception out of an expression -/
theorem EndR.ex (h : EndR K pn W w A E) (e : EnvR K pn w σ ρ) : ∀ x μ', A.er x ρ μ' → PX K pn w (fun c d H => W c d σ H) x μ' := fun x μ' q c dd w' em l k dx => h.er x ρ μ' q σ c dd w' em l k (e.mono l) dx
theorem ss_next : SS K pn W tNext sNext := ⟨fun w σ ρ k e A h E hE => (hE.nx _ _ h).same k e⟩
theorem ss_break : SS K pn W tBreak sBreak := ⟨fun w σ ρ k e A h E hE => (hE.bk _ _ h).same k e⟩
theorem ss_seq (ha : SS K pn W ta a) (hb : SS K pn W tb b) : SS K pn W (tSeq ta tb) (sSeq a b) := ⟨fun w σ ρ k e A h E hE =>
  ha.run w σ ρ k e _ h _ ⟨fun ρ' μ' q σ' w' em l k' e' => by
    subst em
    exact hb.run w' σ' ρ' k' e' A q E (hE.mono l), hE.rt, hE.bk, hE.ct, hE.er⟩⟩
theorem ss_drop (he : SE K pn W te e) : SS K pn W (tDrop te) (sDrop e) := ⟨fun w σ ρ k er A h E hE =>
  he.run w σ ρ k er _ _ h _ (fun d μ1 h1 v w1 em l k1 dn => by
    subst em
    exact ((hE.nx _ _ h1).mono l).same k1 (er.mono l)) (hE.ex er)⟩
theorem ss_ret (he : SE K pn W te e) : SS K pn W (tRet te) (sRet e) := ⟨fun w σ ρ k er A h E hE => he.run w σ ρ k er _ _ h _ (fun d μ1 h1 => hE.rt _ _ h1) (hE.ex er)⟩
theorem ss_if (ht : ST K pn W tt t) (ha : SS K pn W ta a) (hb : SS K pn W tb b) : SS K pn W (tIfS tt ta tb) (sIf t a b) := ⟨fun w σ ρ k er A h E hE =>
  ht.run w σ ρ k er _ _ h _ (fun c μ1 h1 w1 em l k1 => by
    subst em
    cases c with
    | true => exact ha.run w1 σ ρ k1 (er.mono l) A (h1.1 rfl) E (hE.mono l)
    | false => exact hb.run w1 σ ρ k1 (er.mono l) A (h1.2 rfl) E (hE.mono l)) (hE.ex er)⟩
theorem ss_set {i : Nat} (he : SE K pn W te e) : SS K pn W (tAsg te (gName i)) (sSet i e) := ⟨fun w σ ρ k er A h E hE =>
  he.run w σ ρ k er _ _ h _ (fun d μ1 h1 v w1 em l k1 dn => by
    subst em
    exact ((hE.nx _ _ h1).mono l).same k1 ((er.mono l).set dn)) (hE.ex er)⟩
theorem nd_ix {α : Type} {l : List α} (h : l.Nodup) {i j : Nat} {x : α} (a : l[i]? = some x) (b : l[j]? = some x) : i = j := by
  obtain ⟨hi, ei⟩ := List.getElem?_eq_some_iff.mp a
  obtain ⟨hj, ej⟩ := List.getElem?_eq_some_iff.mp b
  rcases Nat.lt_trichotomy i j with c | c | c
  · exact absurd (ei.trans ej.symm) (List.pairwise_iff_getElem.mp h i j hi hj c)
  · exact c
  · exact absurd (ej.trans ei.symm) (List.pairwise_iff_getElem.mp h j i hj hi c)
/-- a cell's list written anew -/
theorem Ok.writeL {p : Addr} {j : Nat} {vs : List V} {ds : List D} (k : Ok K w) (hj : w.θ[j]? = some p) (hs : Dens K [] w.θ w.H vs ds) :
    WLe w ⟨w.θ, upd w.H p (.lst vs), w.μ.set j (.lst ds)⟩ ∧ Ok K ⟨w.θ, upd w.H p (.lst vs), w.μ.set j (.lst ds)⟩ := by
  have hp : p ∈ w.θ := List.mem_iff_getElem?.mpr ⟨j, hj⟩
  have l : Le w.θ w.H w.θ (upd w.H p (.lst vs)) := ⟨fun a u ha n => by rw [upd_ne fun z => n (by rw [z]; exact hp)]; exact ha, ⟨[], by simp, fun _ z => (List.not_mem_nil z).elim⟩, fun q hq => by
    by_cases z : q = p
    · rw [z]
      exact ⟨_, upd_same⟩
    · rw [upd_ne z]
      exact k.trk q hq⟩
  refine ⟨l, ⟨k.nd, by simp [k.len], fun i q c h1 h2 => ?_⟩⟩
  by_cases hi : j = i
  · subst hi
    have e : q = p := Option.some.inj (h1.symm.trans hj)
    subst e
    by_cases hl : j < w.μ.length
    · rw [List.getElem?_set_self hl] at h2
      cases h2
      exact ⟨vs, upd_same, hs.mono l⟩
    · rw [List.getElem?_eq_none (by simpa using hl)] at h2
      cases h2
  · rw [List.getElem?_set_ne hi] at h2
    have z := k.cell i q c h1 h2
    have ne : q ≠ p := fun y => by
      subst y
      exact hi (nd_ix k.nd hj h1)
    have e : upd w.H p (.lst vs) q = w.H q := upd_ne ne
    cases c with
    | lst ds =>
      obtain ⟨us, a, b⟩ := z
      exact ⟨us, e.trans a, b.mono l⟩
    | ins C fs =>
      obtain ⟨dx, us, a, b⟩ := z
      exact ⟨dx, us, e.trans a, b.mono l⟩
theorem ss_setIx (he : SE K [] W te e) (ho : SE K [] W to o) (hi : SE K [] W ti i) : SS K [] W (tAsg te (gSub to ti rSetL)) (sSetIx o i e) := ⟨fun w σ ρ k er A h E hE =>
  he.run w σ ρ k er _ _ h _ (fun d μ1 h1 v w1 em l k1 dn => by
    subst em
    refine ho.run w1 σ ρ k1 (er.mono l) _ _ h1 _ (fun dx μ2 h2 x w2 em2 l2 k2 d2 => ?_) ((hE.mono l).ex (er.mono l))
    subst em2
    refine hi.run w2 σ ρ k2 ((er.mono l).mono l2) _ _ h2 _ (fun dy μ3 h3 y w3 em3 l3 k3 d3 => ?_) (((hE.mono l).mono l2).ex ((er.mono l).mono l2))
    subst em3
    have l13 := (l.trans l2).trans l3
    unfold setIt at h3
    split at h3
    · rename_i j n
      split at h3
      · rename_i ds em
        split at h3
        · rename_i n hn
          obtain rfl := d3.v_inv
          cases (d2.mono l3) with
          | @loc _ p hp =>
            obtain ⟨vs, a, b⟩ := k3.cell _ _ _ hp em
            obtain ⟨l4, k4⟩ := k3.writeL hp (b.set n (dn.mono (l2.trans l3)))
            refine ⟨p, vs, _, n, rfl, rfl, a, by rw [b.len]; exact hn, ?_⟩
            exact hE.nx _ _ h3 σ ⟨w3.θ, upd w3.H p (.lst (vs.set n v)), w3.μ.set j (.lst (ds.set n d))⟩ rfl (l13.trans l4) k4 ((er.mono l13).mono l4)
        · exact h3.elim
      · exact h3.elim
    · exact h3.elim) (hE.ex er)⟩
/-- a word of the turn, over the heap -/
def WI (K : PySem.W.Frag) (pn : List (Addr × Obj)) (w : Wd) (I : Nat → Rho → Sto → Prop) (n : Nat) (σ : L2.St) (H : Hp) : Prop := ∃ (w' : Wd) (ρ' : Rho), w'.H = H ∧ WLe w w' ∧ Ok K w' ∧ EnvR K pn w' σ ρ' ∧ I n ρ' w'.μ
theorem pr_wi {I : Nat → Rho → Sto → Prop} {n : Nat} {w0 : Wd} (l0 : WLe w0 w) : ∀ ρ' μ', I n ρ' μ' → PR K pn w (WI K pn w0 I n) ρ' μ' := fun ρ' μ' q σ' w' em l k e => ⟨w', ρ', rfl, l0.trans l, k, e, by subst em; exact q⟩
theorem ss_forL {i : Nat} (he : SE K pn W te e) (hb : SS K pn W tb b) : SS K pn W (tFor (iList K te) (gName i) tb) (sForL e i b) := ⟨fun w σ ρ k er A h E hE =>
  he.run w σ ρ k er _ _ h _ (fun d μ1 h1 v w1 em l k1 dn => by
    subst em
    obtain ⟨ds, hd, I, i0, hs, hn⟩ := h1
    have key : ∃ a vs, v = .ref a ∧ (∀ w2, WLe w1 w2 → SqL K w2.H a vs) ∧ Dens K pn w1.θ w1.H vs ds := by
      rcases hd with rfl | rfl
      · cases dn with
        | @lst a vs _ ha n hs => exact ⟨a, vs, rfl, fun w2 l2 => .inl (.inl (l2.keep _ _ ha n)), hs⟩
      · cases dn with
        | @rl a vs _ ha hs => exact ⟨a, vs, rfl, fun w2 l2 => (ha.imp (fun z => (rd_mono l2 z).1) id), hs⟩
    obtain ⟨a, vs, rfl, hsq, hds⟩ := key
    refine ⟨a, rfl, ⟨vs, hsq w1 k1.refl⟩, for_list (xs := vs) (WI K pn w1 I) ⟨w1, ρ, rfl, k1.refl, k1, er.mono l, i0⟩ (fun n σ' H' _ q => ?_) (fun n x σ' H' hx q => ?_) (fun σ' H' q => ?_)⟩
    · obtain ⟨w2, ρ2, rfl, l2, _⟩ := q
      exact hsq w2 l2
    · obtain ⟨w2, ρ2, rfl, l2, k2, e2, q⟩ := q
      obtain ⟨dx, ed⟩ : ∃ dx, ds[n]? = some dx := ⟨_, List.getElem?_eq_getElem (by rw [← hds.len]; exact (List.getElem?_eq_some_iff.mp hx).1)⟩
      obtain ⟨x', ex, dxn⟩ := hds.get ed
      cases (ex.symm.trans hx)
      have l02 := l.trans l2
      exact hb.run w2 _ _ k2 (e2.set (dxn.mono l2)) _ (hs n ρ2 w2.μ dx ed q) _ ⟨pr_wi l2, fun d m z => (hE.rt d m z).mono l02, fun r m z => (hE.nx r m z).mono l02, pr_wi l2, (hE.mono l02).er⟩
    · obtain ⟨w2, ρ2, rfl, l2, k2, e2, q⟩ := q
      rw [hds.len] at q
      exact ((hE.nx _ _ (hn _ _ q)).mono (l.trans l2)).same k2 e2) (hE.ex er)⟩
theorem ss_forT {i : Nat} (he : SE K pn W te e) (hb : SS K pn W tb b) : SS K pn W (tFor (iTup K te) (gName i) tb) (sForT e i b) := ⟨fun w σ ρ k er A h E hE =>
  he.run w σ ρ k er _ _ h _ (fun d μ1 h1 v w1 em l k1 dn => by
    subst em
    obtain ⟨ds, rfl, I, i0, hs, hn⟩ := h1
    have key : ∃ a vs, v = .ref a ∧ (∀ w2, WLe w1 w2 → SqT K w2.H a vs) ∧ Dens K pn w1.θ w1.H vs ds := by
      cases dn with
      | @tup a vs _ ha hs => exact ⟨a, vs, rfl, fun w2 l2 => (ha.imp (fun z => Rd.of (l2.keep _ _ z.1 z.2)) id), hs⟩
    obtain ⟨a, vs, rfl, hsq, hds⟩ := key
    refine ⟨a, rfl, ⟨vs, hsq w1 k1.refl⟩, for_tup (xs := vs) (WI K pn w1 I) ⟨w1, ρ, rfl, k1.refl, k1, er.mono l, i0⟩ (fun n σ' H' _ q => ?_) (fun n x σ' H' hx q => ?_) (fun σ' H' q => ?_)⟩
    · obtain ⟨w2, ρ2, rfl, l2, _⟩ := q
      exact hsq w2 l2
    · obtain ⟨w2, ρ2, rfl, l2, k2, e2, q⟩ := q
      obtain ⟨dx, ed⟩ : ∃ dx, ds[n]? = some dx := ⟨_, List.getElem?_eq_getElem (by rw [← hds.len]; exact (List.getElem?_eq_some_iff.mp hx).1)⟩
      obtain ⟨x', ex, dxn⟩ := hds.get ed
      cases (ex.symm.trans hx)
      have l02 := l.trans l2
      exact hb.run w2 _ _ k2 (e2.set (dxn.mono l2)) _ (hs n ρ2 w2.μ dx ed q) _ ⟨pr_wi l2, fun d m z => (hE.rt d m z).mono l02, fun r m z => (hE.nx r m z).mono l02, pr_wi l2, (hE.mono l02).er⟩
    · obtain ⟨w2, ρ2, rfl, l2, k2, e2, q⟩ := q
      rw [hds.len] at q
      exact ((hE.nx _ _ (hn _ _ q)).mono (l.trans l2)).same k2 e2) (hE.ex er)⟩
theorem forR_run {lo hi : Int} {i : Nat} (hb : SS K pn W tb b) (k : Ok K w) (er : EnvR K pn w σ ρ) (h : sForR lo hi i b A ρ w.μ) (hE : EndR K pn W w A E) :
    ∃ W : Nat → Nat → L2.St → Hp → Prop, (∃ m, W 0 m σ w.H) ∧ ∀ i' m σ H, W i' m σ H → ((Itr lo (hi - lo).toNat).stop i' H ∧ E.nx σ H) ∨ ((Itr lo (hi - lo).toNat).go i' H ∧ ∃ N : L2.St → Hp → Prop, (∀ σ' H', N σ' H' → ∃ m', m' < m ∧ W (i' + 1) m' σ' H') ∧
      ∀ x H', (Itr lo (hi - lo).toNat).yld i' H x H' → gName i x σ H' fun σ2 H2 => tb { E with nx := N, ct := N, bk := E.nx } σ2 H2) := by
  obtain ⟨I, i0, hs, hn⟩ := h
  refine for_range (lo := lo) (n := (hi - lo).toNat) (g := gName i) (tb := tb) (D := E) (WI K pn w I) ⟨w, ρ, rfl, k.refl, k, er, i0⟩ (fun n σ' H' hx q => ?_) (fun σ' H' q => ?_)
  · obtain ⟨w2, ρ2, rfl, l2, k2, e2, q⟩ := q
    exact hb.run w2 _ _ k2 (e2.set .v) _ (hs n ρ2 w2.μ (by omega) q) _ ⟨pr_wi l2, fun d m z => (hE.rt d m z).mono l2, fun r m z => (hE.nx r m z).mono l2, pr_wi l2, (hE.mono l2).er⟩
  · obtain ⟨w2, ρ2, rfl, l2, k2, e2, q⟩ := q
    exact ((hE.nx _ _ (hn _ _ q)).mono l2).same k2 e2
theorem ss_forR1 {i : Nat} (hl : SA K pn W tl l) (hb : SS K pn W tb b) : SS K pn W (tFor (iRng1 tl) (gName i) tb) (sForR1 l i b) := ⟨fun w σ ρ k er A h E hE =>
  hl.run w σ ρ k er _ _ h _ (fun ds μ1 h1 vs w1 em l k1 dn => by
    subst em
    split at h1
    · cases dn with
      | cons d1 d2 =>
        cases d2
        obtain rfl := d1.v_inv
        have z := forR_run hb k1 (er.mono l) h1.2 (hE.mono l)
        rw [Int.sub_zero] at z
        exact ⟨_, rfl, h1.1.1, h1.1.2, z⟩
    · exact h1.elim) (hE.ex er)⟩
end

/-! ### what a body's context has -/
structure Bd (X : Cx) (W : WX) (k : Nat) : Prop where
  tk : L2N.Takes X W
  own : PassesOwn (model X.prog X.w) X.A X.env X.xe
  calm : X.calm = true
  room : Room k X.A
  nd : X.N.Nodup
section
variable {X : Cx} {pn : List (Addr × Obj)} {W : WX} {k : Nat} {e tg o i' : Expr} {st : Stmt} {sts body : List Stmt} {a : AE} {ao ai : AE} {t : AT} {b c : AS} {l : AA} {pos pos' p : Pos} {x : Str}
theorem d_snil : DSs X pn W [] sNext := ⟨_, pss_nil, ss_next⟩
theorem d_scons (h : DS X pn W st b) (h2 : DSs X pn W sts c) : DSs X pn W (st :: sts) (sSeq b c) := by
  obtain ⟨_, h, h'⟩ := h.ex
  obtain ⟨_, h2, h2'⟩ := h2.ex
  exact ⟨_, pss_cons h h2, ss_seq h' h2'⟩
theorem d_sone (h : DS X pn W st b) : DSs X pn W [st] b := by
  obtain ⟨_, h, h'⟩ := h.ex
  exact ⟨_, pss_one h, h'⟩
theorem d_break : DS X pn W (.Break pos) sBreak := ⟨_, ps_break, ss_break⟩
theorem d_expr (h : DE X pn W e a) (hs : swapsWith e none pos.line X.env = pure false := by rfl) : DS X pn W (.Expr e pos) (sDrop a) := by
  obtain ⟨_, h, h'⟩ := h.ex
  exact ⟨_, ps_expr h hs, ss_drop h'⟩
theorem d_ret (h : DE X pn W e a) : DS X pn W (.Return (some e) pos) (sRet a) := by
  obtain ⟨_, h, h'⟩ := h.ex
  exact ⟨_, ps_ret h, ss_ret h'⟩
theorem d_sif {bd ed : List Stmt} (ht : DT X pn W e t) (hb : DSs X pn W bd b) (hc : DSs X pn W ed c) : DS X pn W (.If e bd ed pos) (sIf t b c) := by
  obtain ⟨_, h, h'⟩ := ht.ex
  obtain ⟨_, h2, h2'⟩ := hb.ex
  obtain ⟨_, h3, h3'⟩ := hc.ex
  exact ⟨_, ps_if h h2 h3, ss_if h' h2' h3'⟩
theorem d_set (i : Nat) (B : X.N.Nodup) (h : DE X pn W e a) (hi : X.N[i]? = some x := by rfl) (hx : Loc X.env.scope x := by first | exact Or.inl rfl | exact Or.inr rfl) (hs : swapsWith e (some (.Name x pos')) pos.line X.env = pure false := by rfl)
    (hf : X.fn x = true ∨ X.env.scope.names.lookup x = some .local := by first | exact .inl rfl | exact .inr rfl) : DS X pn W (.Assign [.Name x pos'] e pos) (sSet i a) := by
  obtain ⟨_, h, h'⟩ := h.ex
  exact ⟨_, ps_set B hi hx h hs hf, ss_set h'⟩
theorem d_setIx (he : DE X [] W e a) (ho : DE X [] W o ao) (hi : DE X [] W i' ai)
    (ha : ∀ v, assign (.Subscript o i' p) X.env v = (do
      let ov ← holding [v] (eval o X.env)
      let iv ← holding [v, ov] (eval i' X.env)
      standAt p
      holding [v, ov, iv] (setItem ov iv v)
      release [v, ov, iv] []) := by intro _; rfl)
    (hs : swapsWithSole [.Subscript o i' p] e pos.line X.env = pure false := by rfl) (hw : swappedStores [.Subscript o i' p] e X.env = pure none := by rfl)
    (h1 : (assignEach [.Subscript o i' p] X.env).map (·.2) = [assign (.Subscript o i' p) X.env] := by rfl) : DS X [] W (.Assign [.Subscript o i' p] e pos) (sSetIx ao ai a) := by
  obtain ⟨_, h, h'⟩ := he.ex
  obtain ⟨_, h2, h2'⟩ := ho.ex
  obtain ⟨_, h3, h3'⟩ := hi.ex
  exact ⟨_, ps_asg h (pg_sub h2 h3 set_list ha) hs hw h1, ss_setIx h' h2' h3'⟩
theorem d_forL (i : Nat) (B : Bd X W k) (h : DE X pn W e a) (hb : DSs X pn W body b) (hi : X.N[i]? = some x := by rfl) (hx : Loc X.env.scope x := by first | exact Or.inl rfl | exact Or.inr rfl)
    (hf : X.fn x = true ∨ X.env.scope.names.lookup x = some .local := by first | exact .inl rfl | exact .inr rfl) (hfs : ∀ v : Value, foldedSetIterable e X.env v = pure v := by intro _; rfl) : DS X pn W (.For (.Name x p) e body [] pos) (sForL a i b) := by
  obtain ⟨_, h, h'⟩ := h.ex
  obtain ⟨_, h2, h2'⟩ := hb.ex
  exact ⟨_, ps_for B.own B.calm (pi_list h) (pg_name B.nd hi hx hf) h2 hfs, ss_forL h' h2'⟩
theorem d_forT (i : Nat) (B : Bd X W k) (h : DE X pn W e a) (hb : DSs X pn W body b) (hi : X.N[i]? = some x := by rfl) (hx : Loc X.env.scope x := by first | exact Or.inl rfl | exact Or.inr rfl)
    (hf : X.fn x = true ∨ X.env.scope.names.lookup x = some .local := by first | exact .inl rfl | exact .inr rfl) (hfs : ∀ v : Value, foldedSetIterable e X.env v = pure v := by intro _; rfl) : DS X pn W (.For (.Name x p) e body [] pos) (sForT a i b) := by
  obtain ⟨_, h, h'⟩ := h.ex
  obtain ⟨_, h2, h2'⟩ := hb.ex
  exact ⟨_, ps_for B.own B.calm (pi_tup h) (pg_name B.nd hi hx hf) h2 hfs, ss_forT h' h2'⟩
theorem d_forR1 {e : Expr} {p1 p2 : Pos} (i : Nat) (B : Bd X W k) (hm : X.mg "range" = none) (hl : DA X pn W [e] l) (hb : DSs X pn W body b) (hg : Gl X "range" := by rfl) (hi : X.N[i]? = some x := by rfl) (hx : Loc X.env.scope x := by first | exact Or.inl rfl | exact Or.inr rfl)
    (hf : X.fn x = true ∨ X.env.scope.names.lookup x = some .local := by first | exact .inl rfl | exact .inr rfl) (hs : starEach [e] X.env = [(false, eval e X.env)] := by rfl) (hfs : ∀ v : Value, foldedSetIterable (.Call (.Name "range" p1) [e] [] p2) X.env v = pure v := by intro _; rfl) :
    DS X pn W (.For (.Name x p) (.Call (.Name "range" p1) [e] [] p2) body [] pos) (sForR1 l i b) := by
  obtain ⟨_, h, h'⟩ := hl.ex
  obtain ⟨_, h2, h2'⟩ := hb.ex
  exact ⟨_, ps_for B.own B.calm (pi_range1 hg hm h hs) (pg_name B.nd hi hx hf) h2 hfs, ss_forR1 h' h2'⟩
end
end DK
set_option Elab.async false
set_option linter.all false
set_option maxRecDepth 100000
set_option maxHeartbeats 2000000
namespace DK
open PySem L2 PyProof.Rows

/-- what a def does, on data: arguments, cells, what is wanted of the answer, of an exception -/
abbrev FD := List D → Sto → QD → QX → Prop
/-- as a promise -/
def spD (K : PySem.W.Frag) (n : Nat) (F : FD) : Sp := fun vs H Q E => ∃ (θ : List Addr) (μ : Sto) (ds : List D) (QA : QD) (XA : QX), Ok K ⟨θ, H, μ⟩ ∧ Dens K [] θ H vs ds ∧ ds.length = n ∧ F ds μ QA XA ∧
  (∀ d μ', QA d μ' → PQ K [] ⟨θ, H, μ⟩ Q d μ') ∧ (∀ x μ', XA x μ' → PX K [] ⟨θ, H, μ⟩ E x μ')
abbrev FnD (P : Program) (w : World) (K : PySem.W.Frag) (mg : Str → Option Value) (base : Heap) (k : Nat) (f : Addr) (fd : FuncData) (ps : List Str) (F : FD) : Prop := FnOk P w K mg base (L2N.CX P w) k f fd ps (spD K ps.length F)
def startD (n : Nat) (ds : List D) : Rho := ds.map some ++ List.replicate (n - ds.length) none
theorem start_env {K : PySem.W.Frag} {pn : List (Addr × Obj)} {w : Wd} {N : List Str} {vs : List V} {ds : List D} (h : Dens K pn w.θ w.H vs ds) (hl : vs.length ≤ N.length) : EnvR K pn w (L2.start N vs) (startD N.length ds) := by
  have hl' := h.len
  refine ⟨by simp [startD, L2.start, hl'], fun i d e => ?_⟩
  unfold startD at e
  unfold L2.start
  by_cases hi : i < ds.length
  · rw [List.getElem?_append_left (by simpa using hi), List.getElem?_map] at e
    rw [List.getElem?_append_left (by simpa [hl'] using hi), List.getElem?_map]
    cases q : ds[i]? with
    | none =>
      rw [q] at e
      cases e
    | some d' =>
      rw [q] at e
      cases e
      obtain ⟨x, ex, dx⟩ := h.get q
      exact ⟨x, by rw [ex]; rfl, dx⟩
  · rw [List.getElem?_append_right (by simpa using Nat.le_of_not_lt hi)] at e
    rw [List.getElem?_replicate] at e
    split at e <;> cases e
/-- the ends of a def's body -/
def dEnds (Q : QD) (X : QX) : AEnds := { nx := fun _ μ => Q (.v .non) μ, rt := Q, er := fun x _ μ => X x μ }
def aCall (F : FD) (n : Nat) (l : AA) : AE := fun ρ μ Q X => l ρ μ (fun ds μ1 => ds.length = n ∧ F ds μ1 Q X) X
def aCall0 (F : FD) : AE := fun _ μ Q _ => F [] μ Q (fun _ _ => False)

theorem passN {X : Cx} : Passes (L2N.CX X.prog X.w) X E0 := fun _ _ _ _ _ _ _ h => by
  obtain ⟨_, _, _, _, _, _, _, _, _, _, _, _, z⟩ := h
  exact z.elim
theorem takesN {P : Program} {w : World} {K : PySem.W.Frag} {mg : Str → Option Value} {base : Heap} {N : List Str} {qual : Str} {scope : Scope} {f : Addr} {cd : Value} {A : Around} {outer : List Env} {s : Shared} {H : Hp} {E : XK} :
    L2N.Takes (cxOf (L2N.CX P w) P w K mg base N qual scope f cd A outer s H E) (fun cls d _ H => E cls d H) := L2N.takes_of rfl rfl rfl rfl
abbrev cxN (P : Program) (w : World) (K : PySem.W.Frag) (mg : Str → Option Value) (base : Heap) (N : List Str) (qual : Str) (scope : Scope) (f : Addr) (cd : Value) (A : Around) (outer : List Env) (s : Shared) (H : Hp) (E : XK) : Cx := cxOf (L2N.CX P w) P w K mg base N qual scope f cd A outer s H E
abbrev wxN (E : XK) : WX := fun cls d _ H => E cls d H
section
variable {P : Program} {w : World} {K : PySem.W.Frag} {mg : Str → Option Value} {base : Heap}
/-- THE RULE for a def on data -/
theorem fnD {x qual : Str} {st : Stmt} {f : Addr} {fd : FuncData} {N ps : List Str} {k : Nat} {F : FD} (b : AS) (Fn : Fun K x qual st f fd) (S : FnScope N ps (defScope st))
    (hbody : ∀ (cd : Value) (A : Around) (outer : List Env) (s : Shared) (H : Hp) (E : XK), Bd (cxN P w K mg base N qual (defScope st) f cd A outer s H E) (wxN E) k → DSs (cxN P w K mg base N qual (defScope st) f cd A outer s H E) [] (wxN E) (defBody st) b)
    (hread : ∀ (ds : List D) (μ : Sto) (QA : QD) (XA : QX), ds.length = ps.length → F ds μ QA XA → b (dEnds QA XA) (startD N.length ds) μ) : FnD P w K mg base (k + 1) f fd ps F := by
  obtain ⟨oc, od, kV, doc, pm, an, cdv, ct, osl, rfl, lk, hcd⟩ := Fn.ex
  refine fn_of lk hcd S (fun vs H Q E h => ?_) fun A outer s H vs Q E hr hsp => ?_
  · obtain ⟨θ, μ, ds, QA, XA, ok, hd, hl, _⟩ := h
    rw [hd.len, hl]
  · obtain ⟨θ, μ, ds, QA, XA, ok, hd, hl, hF, hq, hx⟩ := hsp
    obtain ⟨t, h, h'⟩ := (hbody cdv A outer s H E ⟨takesN, L2.passes_of rfl, rfl, hr, S.nd⟩).ex
    refine ⟨t, h, ?_⟩
    have hpl : ps.length ≤ N.length := by have := congrArg List.length S.pre; rw [List.length_take] at this; omega
    refine h'.run ⟨θ, H, μ⟩ _ _ ok (start_env hd (by rw [hd.len, hl]; exact hpl)) _ (hread ds μ QA XA hl hF) _ ⟨fun ρ' μ' q σ' w' em l k' e' => ?_, fun d μ' q => hq d μ' q, fun _ _ q => q.elim, fun _ _ q => q.elim, fun x ρ' μ' q σ' cls dd w' em l k' e' dx => ?_⟩
    · exact hq _ _ q .non w' em l k' .v
    · exact hx x μ' q cls dd w' em l k' dx
end
section
variable {X : Cx} {W : WX} {k k' : Nat} {f : Addr} {fd : FuncData} {ps : List Str} {F : FD} {x : Str} {e : Expr} {es : List Expr} {l : AA} {p pos : Pos}
/-- f(e, ..) -/
theorem d_call (B : Bd X W k) (G : FnD X.prog X.w X.K X.mg X.base k' f fd ps F) (hk' : k' ≤ k) (hm : X.mg x = some (.ref f)) (hk : PySem.W.keepIn X.K (.ref f) = true) (hb : Binds X.K fd ps []) (ha : DA X [] W (e :: es) l)
    (hg : Gl X x := by rfl) (hdb : (x == ("__debug__" : Str)) = false := by decide) (he : starEach (e :: es) X.env = (false, eval e X.env) :: starEach es X.env := by rfl) (hpl : (backTo pos (starEach es X.env)).any (·.1) = false := by rfl) :
    DE X [] W (.Call (.Name x p) (e :: es) [] pos) (aCall F ps.length l) := by
  obtain ⟨tl, l1, l2⟩ := ha.ex
  refine ⟨_, pe_callS G (B.room.mono hk') hg hm hk hb (fun σ => L2N.passAt B.tk σ) l1 hdb he hpl, ⟨fun w σ ρ ok er QA XA h Q hq hx => ?_⟩⟩
  refine l2.run w σ ρ ok er _ XA h _ (fun ds μ1 h1 vs w1 em l1 k1 dn => ?_) hx
  subst em
  exact ⟨w1.θ, w1.μ, ds, QA, XA, k1, dn, h1.1, h1.2, fun d μ' q => (hq d μ' q).mono l1, fun x μ' q => (hx x μ' q).mono l1⟩
/-- f() -/
theorem d_call0 (B : Bd X W k) (G : FnD X.prog X.w X.K X.mg X.base k' f fd [] F) (hk' : k' ≤ k) (hm : X.mg x = some (.ref f)) (hk : PySem.W.keepIn X.K (.ref f) = true) (hb : Binds X.K fd [] [])
    (hg : Gl X x := by rfl) (hdb : (x == ("__debug__" : Str)) = false := by decide) : DE X [] W (.Call (.Name x p) [] [] pos) (aCall0 F) := by
  refine ⟨_, pe_call0 G (B.room.mono hk') hg hm hk hb .nil passN hdb, ⟨fun w σ ρ ok er QA XA h Q hq hx => ?_⟩⟩
  exact ⟨w.θ, w.μ, [], QA, fun _ _ => False, ok, .nil, rfl, h, hq, fun _ _ q => q.elim⟩
end
end DK
set_option Elab.async false
set_option linter.all false
set_option maxRecDepth 100000
set_option maxHeartbeats 2000000
namespace DK
open PySem L2 PyProof.Rows

/-! ### own errors: made and raised -/
/-- what __init__ leaves of a new error at a: its fields, the last one ahead -/
def spInit (C : Addr) (fs : List Str) : Sp := fun vs H Q _ => ∃ (a : Addr) (us : List V), vs = .ref a :: us ∧ us.length = fs.length ∧ H a = some (exo a C none) ∧
  ∀ (H' : Hp) (dx : Addr), H dx = none → dx ≠ a → H' a = some (exo a C (some dx)) → H' dx = some (exd dx (fs.zip us).reverse) → (∀ b, b ≠ a → b ≠ dx → H' b = H b) → Q .non H'
/-- C(e, ..) with its own __init__, nothing being handled: the error's context is None -/
theorem pmkN {X : Cx} {x : Str} {C fI : Addr} {k : Nat} {fd : FuncData} {ps : List Str} {sp : Sp} {e : Expr} {es : List Expr} {ta : TA} {p pos : Pos}
    (T : OexC X.K C) (iC : PySem.W.findIn X.K (.ref C) "__init__" = some (some (.ref fI))) (tI : PySem.W.typeIn X.K (.ref fI) = some (.type "function"))
    (F1 : FnOk X.prog X.w X.K X.mg X.base CX0 k fI fd ps sp) (hr : Room (k + 1) X.A) (hb : Binds X.K fd ps [])
    (hg : Gl X x) (hm : X.mg x = some (.ref C)) (ha : PA X (e :: es) ta) (hdb : (x == ("__debug__" : Str)) = false)
    (he : starEach (e :: es) X.env = (false, eval e X.env) :: starEach es X.env) (hpl : (backTo pos (starEach es X.env)).any (·.1) = false) :
    L2N.PMk X (.Call (.Name x p) (e :: es) [] pos) (tMkO C sp [] ta) := by
  intro pins s σ H Q I h
  obtain ⟨nm, q, N, bs, bm, sn, sub, ab, col, dd, k0, k1, k2, k3, k5, hC, hbm⟩ := T.cls
  refine wpAny_Call_Name_kw (ld_glob I hg hm ?_ hdb)
  refine PySem.W.callWith_K (h₀ := X.base) I.ok.mod.kin T.kC (thn (ha.run pos pins s σ H _ I h) fun us s1 hus => ?_) he hpl
  obtain ⟨vs, H1, I1, r1, hz, q1⟩ := hus
  refine ⟨I1.kIn, ?_⟩
  show wpAny _ _ (call (.ref C) us) _ _ _
  obtain ⟨hp, g, dr, tk, os⟩ := s1
  generalize hA : hp.objs.size + 1 = a
  have hsz : hp.objs.size ≤ a := by omega
  have hn : H1 a = none := I1.hok.fresh hsz
  have hq := q1 a hn
  have kk : ∀ b o, hp.get? b = some o → ((hp.push (PySem.W.kdv_tup us)).push (PySem.HandSPX.excO C hp.objs.size)).get? b = some o :=
    fun b o z => Heap.get?_push_of_some _ (Heap.get?_push_of_some _ z)
  have hget : ((hp.push (PySem.W.kdv_tup us)).push (PySem.HandSPX.excO C hp.objs.size)).get? a = some (PySem.HandSPX.excO C hp.objs.size) := by
    rw [← hA]
    heap_get
  have I2 := I1.laid (t' := tk) (a := a) (o := exo a C none) (h' := (hp.push (PySem.W.kdv_tup us)).push (PySem.HandSPX.excO C hp.objs.size)) kk hsz (exo_ok hget)
  have r2 : Vals (V.ref a :: (vs ++ [])) (Value.ref a :: us) := by
    rw [List.append_nil]
    exact .cons rfl r1
  have hl : (Value.ref a :: us ++ []).length = ps.length := by
    have z := r2.length
    rw [F1.len _ _ _ _ hq] at z
    rw [List.append_nil]
    exact z.symm
  have b2 := hb { heap := (hp.push (PySem.W.kdv_tup us)).push (PySem.HandSPX.excO C hp.objs.size), gens := g, drawn := dr, toks := tk, os := os } (Value.ref a :: us) I2.kIn hl
  rw [List.append_nil] at b2
  have hus : us.length ≤ sizeLine := by
    rw [← Paired.length r1, sizeLine_eq]
    omega
  refine wpAny_call (PySem.HandSPX.call_own F.excBase_ValueError (fun Y => PySem.HandSPX.refsVE_contains Y bm hbm) (I1.kIn _ _ hC) (PySem.W.looks_findIn I1.kIn iC) (fun self => PySem.W.bind_fn I1.kIn self tI) hus ?_)
  rw [hA]
  refine codeAny_mono (F1.run _ X.stack _ _ ⟨Value.ref a :: us, []⟩ (Value.ref a :: us) _ _ (fun _ _ _ => False) (hr.make C us []) (I2.env0.make C us []) b2 r2 hq) fun r s' hq' => ?_
  cases r with
  | error er => exact hq'.elim
  | ok fl =>
    cases fl with
    | ret u =>
      obtain ⟨v, H2, os2, bare2, un2, hok2, rv, ev, d, fs, ea, ed, hd1, q2⟩ := hq'
      subst ev
      obtain ⟨h2, g2, d2, t2, os'⟩ := s'
      obtain ⟨t0, G, J, kG, ge, hoe, na⟩ := mk_end0 (d2 := d2) (t2 := t2) I1 hsz kk un2 hok2 os2 bare2 ea ed hd1
      refine ⟨rv, a, _, _, ⟨G, g2, d2, t2, os'⟩, _, .ref C, some d, rfl, J, kG, ge, hoe, ⟨rfl, rfl, fun vs hv => ?_⟩, rfl, rfl, na, rfl, bare2, raises_own T.exC T.tyC, q2⟩
      cases hv
      rfl
    | next => exact hq'.elim
    | brk => exact hq'.elim
    | cont => exact hq'.elim

/-- raise C(e, ..) -/
def sRaise (C : Addr) (fs : List Str) (l : AA) : AS := fun A ρ μ => l ρ μ (fun ds μ1 => ds.length = fs.length ∧ fs.length ≤ 9 ∧ A.er ⟨C, (fs.zip ds).reverse⟩ ρ μ1) (fun x μ1 => A.er x ρ μ1)
section
variable {K : PySem.W.Frag} {pn : List (Addr × Obj)} {θ : List Addr} {H : Hp}
theorem Denf.zip : ∀ {fs : List Str} {us : List V} {ds : List D}, Dens K pn θ H us ds → Denf K pn θ H (fs.zip us) (fs.zip ds)
  | [], _, _, _ => .nil
  | _ :: _, _, _, .nil => .nil
  | _ :: _, _, _, .cons h t => .cons h (Denf.zip t)
theorem Denf.append : ∀ {a b : List (Str × V)} {c d : List (Str × D)}, Denf K pn θ H a c → Denf K pn θ H b d → Denf K pn θ H (a ++ b) (c ++ d)
  | _, _, _, _, .nil, h => h
  | _, _, _, _, .cons x t, h => .cons x (Denf.append t h)
theorem Denf.rev : ∀ {a : List (Str × V)} {c : List (Str × D)}, Denf K pn θ H a c → Denf K pn θ H a.reverse c.reverse
  | _, _, .nil => .nil
  | _, _, .cons x t => by
    rw [List.reverse_cons, List.reverse_cons]
    exact Denf.append (Denf.rev t) (.cons x .nil)
end
/-- what an own error's class says -/
structure ErC (K : PySem.W.Frag) (mg : Str → Option Value) (x : Str) (C fI : Addr) : Prop where
  oex : OexC K C
  iC : PySem.W.findIn K (.ref C) "__init__" = some (some (.ref fI))
  tI : PySem.W.typeIn K (.ref fI) = some (.type "function")
  m : mg x = some (.ref C)
section
variable {X : Cx} {W : WX} {k k' : Nat} {C fI : Addr} {fd : FuncData} {fs : List Str} {x : Str} {e : Expr} {es : List Expr} {l : AA} {p pos pos2 : Pos}
theorem d_raise (B : Bd X W k) (T : ErC X.K X.mg x C fI) (G : FnOk X.prog X.w X.K X.mg X.base CX0 k' fI fd ("self" :: fs) (spInit C fs)) (hk' : k' + 1 ≤ k) (hb : Binds X.K fd ("self" :: fs) []) (ha : DA X [] W (e :: es) l)
    (hg : Gl X x := by rfl) (hdb : (x == ("__debug__" : Str)) = false := by decide) (he : starEach (e :: es) X.env = (false, eval e X.env) :: starEach es X.env := by rfl) (hpl : (backTo pos (starEach es X.env)).any (·.1) = false := by rfl) :
    DS X [] W (.Raise (some (.Call (.Name x p) (e :: es) [] pos)) none pos2) (sRaise C fs l) := by
  obtain ⟨tl, l1, l2⟩ := ha.ex
  refine ⟨_, L2N.ps_raise B.calm B.tk (pmkN T.oex T.iC T.tI G (B.room.mono hk') hb hg T.m l1 hdb he hpl), ⟨fun w σ ρ ok er A h E hE => ?_⟩⟩
  refine l2.run w σ ρ ok er _ _ h _ (fun ds μ1 h1 vs w1 em l1 k1 dn => ?_) (hE.ex er)
  subst em
  obtain ⟨hl, h9, h1⟩ := h1
  refine ⟨by rw [dn.len]; omega, fun a hn => ⟨a, vs ++ [], rfl, by simp [dn.len, hl], upd_same, fun H' dx hdx hne ea ed hb => ⟨rfl, dx, _, ea, ed, ?_, ?_⟩⟩⟩
  · rw [upd_ne hne] at hdx
    exact hdx
  · rw [upd_ne hne] at hdx
    rw [List.append_nil] at ed ⊢
    have e1 : upd (L2.del H' a) dx (.xd (fs.zip vs).reverse) = upd w1.H dx (.xd (fs.zip vs).reverse) := by
      funext b
      by_cases h1 : b = dx
      · rw [h1, upd_same, upd_same]
      · rw [upd_ne h1, upd_ne h1]
        by_cases h2 : b = a
        · rw [h2, L2.del_same, hn]
        · rw [L2.del_ne h2, hb b h2 h1, upd_ne h2]
    rw [e1]
    obtain ⟨l3, k3, n3⟩ := k1.new (o := .xd (fs.zip vs).reverse) hdx
    exact hE.er _ _ _ h1 σ (.ref C) (some dx) ⟨w1.θ, upd w1.H dx (.xd (fs.zip vs).reverse), w1.μ⟩ rfl (l1.trans l3) k3 ((er.mono l1).mono l3) ⟨rfl, _, .inl ⟨dx, rfl, upd_same, n3⟩, ((Denf.zip dn).rev).mono l3⟩
end

/-! ### try: .. except X as n: .. -/
/-- the suite runs with the error in slot i; nothing leaves it -/
def sTryAs (sub : Addr → Option Bool) (i : Nat) (b : AS) (su : AS) : AS := fun A ρ μ => b { A with er := fun x ρ' μ' => match sub x.C with
  | some true => su { nx := fun r m => A.nx (r.set i none) m, rt := fun d m => noErr d = true ∧ A.rt d m, bk := fun r m => A.bk (r.set i none) m, ct := fun r m => A.ct (r.set i none) m } (ρ'.set i (some (.err x.C x.fs))) μ'
  | some false => A.er x ρ' μ'
  | none => False } ρ μ
theorem EnvR.sub {K : PySem.W.Frag} {pn pn' : List (Addr × Obj)} {w : Wd} {σ : L2.St} {ρ : Rho} (e : EnvR K pn w σ ρ) (h : ∀ p ∈ pn, p ∈ pn') : EnvR K pn' w σ ρ := ⟨e.len, fun i d q => by
  obtain ⟨v, a, b⟩ := e.get i d q
  exact ⟨v, a, b.sub h⟩⟩
/-- a suite that ends with a return, always -/
def sTryRet (sub : Addr → Option Bool) (i : Nat) (b : AS) (su : AS) : AS := fun A ρ μ => b { A with er := fun x ρ' μ' => match sub x.C with
  | some true => su { nx := fun _ _ => False, rt := fun d m => noErr d = true ∧ A.rt d m } (ρ'.set i (some (.err x.C x.fs))) μ'
  | some false => A.er x ρ' μ'
  | none => False } ρ μ
section
variable {X : Cx} {W : WX} {k : Nat} {x n : Str} {c : Value} {i : Nat} {body suite : List Stmt} {b₀ : Stmt} {np pos pos' : Pos} {b su : AS} {sub : Addr → Option Bool}
theorem d_tryRet (i : Nat) (B : Bd X W k) (sub : Addr → Option Bool) (hc : Names X x c) (hsub : ∀ (C : Addr) (v : Bool), sub C = some v → PySem.W.exmOne X.K (.ref C) c = some v)
    (hb : ∀ (W' : WX) (pn : List (Addr × Obj)) (xe : Value → Shared → Prop), Bd (X.tr pn xe) W' k → DSs (X.tr pn xe) [] W' body b)
    (hsu : ∀ (a : Addr) (oe : Obj) (cls : Value) (d : Option Addr) (pn : List (Addr × Obj)), L2N.Zn cls d oe → (∃ vs, oe.data = .fields vs) → DSs (X.suite a ((a, oe) :: pn)) [(a, oe)] (fun _ _ _ _ => False) (b₀ :: suite) su)
    (hs : X.stack = X.env :: X.outer := by rfl) (hf : X.env.frame = some X.env.locals := by rfl) (hi : X.N[i]? = some n := by rfl) (hln : X.env.kindOf n = some .local := by rfl) :
    DS X [] W (.Try body [.ExceptHandler (some (.Name x np)) (some n) (b₀ :: suite) pos'] [] [] pos) (sTryRet sub i b su) := by
  have hb' := fun (W' : WX) (pn : List (Addr × Obj)) (xe : Value → Shared → Prop) (tk : L2N.Takes (X.tr pn xe) W') (ow : PassesOwn (model X.prog X.w) X.A X.env xe) => (hb W' pn xe ⟨tk, ow, B.calm, B.room, B.nd⟩).ex
  have hsu' := fun (a : Addr) (oe : Obj) (cls : Value) (d : Option Addr) (pn : List (Addr × Obj)) (z : L2N.Zn cls d oe) (f : ∃ vs, oe.data = .fields vs) => (hsu a oe cls d pn z f).ex
  refine ⟨_, L2N.ps_try_as (i := i) (tb := fun W' D σ H => ∀ pn xe tk ow, (hb' W' pn xe tk ow).choose D σ H) (ts := fun a cls d D σ H => ∀ oe pn z f, (hsu' a oe cls d pn z f).choose D σ H) (Wout := W) hs hf B.nd hi hln hc B.tk
    (fun W' pn xe tk ow => ⟨fun pins s σ H D I h => (hb' W' pn xe tk ow).choose_spec.1.run pins s σ H D I (h pn xe tk ow)⟩)
    (fun a oe cls d pn z f => ⟨fun pins s σ H D I h => (hsu' a oe cls d pn z f).choose_spec.1.run pins s σ H D I (h oe pn z f)⟩), ⟨fun w σ ρ ok er A h E hE pn xe tk ow => ?_⟩⟩
  refine (hb' _ pn xe tk ow).choose_spec.2.run w σ ρ ok er _ h E ⟨hE.nx, hE.rt, hE.bk, hE.ct, fun y ρ' μ' q σ' cls dd w' em l k' e' dx => ?_⟩
  subst em
  obtain ⟨rfl, fvs, hd, hf'⟩ := dx
  have q : (match sub y.C with
    | some true => su { nx := fun _ _ => False, rt := fun d m => noErr d = true ∧ A.rt d m } (ρ'.set i (some (.err y.C y.fs))) w'.μ
    | some false => A.er y ρ' w'.μ
    | none => False) := q
  cases hsy : sub y.C with
  | none =>
    rw [hsy] at q
    exact q.elim
  | some v =>
    rw [hsy] at q
    refine ⟨v, hsub _ _ hsy, fun hv a ha oe pn' z f => ?_, fun hv => ?_⟩
    · subst hv
      have es : EnvR X.K [(a, oe)] w' (σ'.set i (some (.ref a))) (ρ'.set i (some (.err y.C y.fs))) :=
        (e'.sub fun _ z => (List.not_mem_nil z).elim).set (.err List.mem_cons_self z f hd (hf'.sub fun _ z => (List.not_mem_nil z).elim))
      refine (hsu' a oe _ _ pn' z f).choose_spec.2.run w' _ _ k' es _ q _ ⟨fun _ _ z => z.elim, fun d' m z v' w2 em l2 k2 d2 => ?_, fun _ _ z => z.elim, fun _ _ z => z.elim, fun _ _ _ z => z.elim⟩
      exact hE.rt _ _ z.2 v' w2 em (l.trans l2) k2 (d2.un z.1)
    · subst hv
      exact hE.er _ _ _ q σ' _ _ w' rfl l k' e' ⟨rfl, fvs, hd, hf'⟩
end
end DK
set_option Elab.async false
set_option linter.all false
set_option maxRecDepth 100000
set_option maxHeartbeats 4000000
/-! an error that is handled, as an argument -/
namespace PySem.W
open PySem PySem.Spec PySem.Calls PyProof.Rows
/-- what isinstance asks of an error's class -/
structure ErrK (K : Frag) (D : Addr) : Prop where
  ga : findIn K (.ref D) "__getattribute__" = some (some (.builtin "BaseException.__getattribute__"))
  gg : findIn K (.ref D) "__getattr__" = some none
  ex : subIn K (.ref D) (.type "BaseException") = some true
  hd : hasDictIn K D = true
  cl : findIn K (.ref D) "__class__" = some (some (.builtin "object.__class__"))
  sg : specialIn K (.builtin "object.__class__") "__get__" = some (some (.builtin "getset_descriptor.__get__"))
  tk : takesIn K (.builtin "object.__class__") = some true
  ob : mroIn K D (.type "object") = some true
section
variable {prog : Program} {w : World} {K : Frag} {x D : Addr} {ox od : Obj}
theorem ErrK.find (k : ErrK K D) : findObj K D (some od) "__class__" = some (.bind (.builtin "getset_descriptor.__get__") (.builtin "object.__class__")) := by
  refine findObj_data ?_ k.cl k.sg k.tk
  obtain ⟨cd, hc, _⟩ := any_some k.hd
  rw [hc]
  rfl
/-- its __class__, read by isinstance; the error has a dict -/
theorem ErrK.klass {A : Around} {E : Value → Shared → Prop} {Q : Option Value → Shared → Prop} {s : Shared} (k : ErrK K D) (X : K.In s.heap) (I : InstAt s.heap x ox D (some od))
    (h : Q (some (.ref D)) { s with toks := s.toks + 1 }) : wpAny (model prog w) A (getAttr? (.ref x) "__class__") Q E s := by
  obtain ⟨hp, g, dr, tk, os⟩ := s
  have lT := I.type (M := model prog w)
  have lG := looks_findIn (M := model prog w) X k.ga
  have lN := looks_findIn (M := model prog w) X k.gg
  have lF := looks_find (M := model prog w) X I k.find
  have lS : Looks (model prog w) hp (isInstance (.ref x) (.type "BaseException")) true := lT.andThen (looks_subIn X k.ex)
  have c0 : (false && onTheHeap (Value.builtin "BaseException.__getattribute__")) = false := rfl
  have c2 : (Value.builtin "BaseException.__getattribute__" == Value.builtin "object.__getattribute__") = false := by decide +kernel
  have c1 : (onTheHeap (Value.ref D) && Value.builtin "BaseException.__getattribute__" == Value.builtin "object.__getattribute__") = false := by
    rw [c2]
    rfl
  unfold getAttr? getAttrBy? getAttrBy
  refine wpAny_bind (wpAny_mkText (wpAny_bind (wpAny_attempt (wpAny_holding (wpAny_bind (lT.at (wpAny_bind (lG.at ?_))))))))
  show wpAny _ _ (if (onTheHeap (Value.ref D) && Value.builtin "BaseException.__getattribute__" == Value.builtin "object.__getattribute__") = true then _ else _) _ _ _
  rw [c1, if_neg (by decide)]
  unfold getAttrByItsOwn hookBefore
  refine wpAny_bind ?_
  rw [if_pos (show onTheHeap (Value.ref D) = true by rfl)]
  refine lN.at (wpAny_bind (wpAny_attempt (wpAny_holding ?_)))
  unfold callGetattribute
  rw [c0, if_neg (by decide)]
  unfold boundAndCalled
  rw [PySem.F.excAttr_ValueError.ga.bind (.ref x)]
  refine wpAny_bind (wpAny_pure ?_)
  show wpAny _ _ (call (.builtin "BaseException.__getattribute__") [.ref x, .str "__class__" tk]) _ _ _
  refine wpAny_call (codeAny_call_builtin PySem.F.excAttr_ValueError.ga.plain PySem.F.entry_bexc_ga ?_)
  refine @check_slot (model prog w) _ _ ⟨hp, g, dr, tk + 1, os⟩ "BaseException.__getattribute__" "BaseException" "__getattribute__" (.ref x)
    [.str "__class__" tk] [] _ (by decide +kernel) (by decide +kernel) lS (PySem.F.args_bexc_ga (.ref x) (.str "__class__" tk)) ?_
  unfold Builtin.«object.__getattribute__»
  refine wpAny_bind (wpAny_of_eq (a := ((Value.ref x : Value), [Value.str "__class__" tk])) (by first | rfl | (simp only [slotArgs]; rfl)) ?_)
  refine wpAny_bind (wpAny_pure (wpAny_bind (lT.at (wpAny_bind (lF.at ?_)))))
  show wpAny _ _ (holding [Value.builtin "object.__class__"] (call (.builtin "getset_descriptor.__get__") [.builtin "object.__class__", .ref x, .ref D]) >>= ret) _ _ _
  refine wpAny_bind (wpAny_holding (wpAny_call (class_get (s := ⟨hp, g, dr, tk + 1, os⟩) (ox := ox) (od := some od) X I k.ob ?_)))
  refine wpAny_pure ?_
  show wpAny _ _ (handedOut (.ref D)) _ _ _
  rw [handedOut_of (v := .ref D) rfl]
  first
    | exact wpAny_pure (wpAny_pure h)
    | exact wpAny_pure h
    | exact wpAny_pure (wpAny_bind (wpAny_pure (wpAny_pure h)))
theorem ErrK.kit (k : ErrK K D) : KitX K (.ref x) (.ref D) (fun h => InstAt h x ox D (some od)) where
  ty := fun _ _ _ I => I.type
  it := fun _ h X _ => by
    obtain ⟨cdD, hcD, _⟩ := any_some k.hd
    unfold clsIn at hcD
    split at hcD
    · rename_i c' d' cd' sl' ho
      intro A' Q' E' s' kp q
      unfold isType loadHead
      refine wpAny_bind (wpAny_loadPart (kp _ _ (X _ _ ho)) (wpAny_pure q))
    · cases hcD
  ne := fun h tp dd its n sl X htp => by
    obtain ⟨cdD, hcD, _⟩ := any_some k.hd
    refine Bool.eq_false_iff.mpr fun q => ?_
    obtain rfl : D = tp := Value.ref.inj (beq_iff_eq.mp q)
    unfold clsIn at hcD
    split at hcD
    · rename_i c' d' cd' sl' ho
      have z := (X _ _ ho).symm.trans htp
      cases z
    · cases hcD
  ca := fun X I h => k.klass X I h
end
end PySem.W

namespace DK
open PySem L2 L2H PyProof.Rows
/-! ### defs called while an error is handled -/
structure FnP (P : Program) (w : World) (K : PySem.W.Frag) (mg : Str → Option Value) (base : Heap) (k : Nat) (f : Addr) (fd : FuncData) (ps : List Str) (sp : Addr × Obj → Sp) : Prop where
  len : ∀ p vs H Q E, sp p vs H Q E → vs.length = ps.length
  run : ∀ (p : Addr × Obj) (A : Around) (outer : List Env) (s : Shared) (H : Hp) (args : Args) (us : List Value) (vs : List V) (Q : VK) (E : XK), RoomH k A → Hot1 A p → PinOk outer H s p → Env0 P w K mg base A outer s H →
    BindsTo s fd args (ps.zip us) → Vals vs us → sp p vs H Q E → codeAny (model P w) A (.call (.ref f) args) (CR CX0 outer P w H s Q E) s
abbrev cxP (P : Program) (w : World) (K : PySem.W.Frag) (mg : Str → Option Value) (base : Heap) (N : List Str) (qual : Str) (scope : Scope) (f : Addr) (cd : Value) (A : Around) (outer : List Env) (s : Shared) (H : Hp) (E : XK) (p : Addr × Obj) : Cx :=
  cxH CX0 P w K mg base N qual scope f cd A outer s H E p
structure BdH (X : Cx) (p : Addr × Obj) (k : Nat) : Prop where
  hot : Hot1 X.A p
  mem : p ∈ X.pn
  room : RoomH k X.A
  nd : X.N.Nodup
def spP (K : PySem.W.Frag) (n : Nat) (F : FD) (p : Addr × Obj) : Sp := fun vs H Q _ => ∃ (θ : List Addr) (μ : Sto) (ds : List D) (QA : QD), Ok K ⟨θ, H, μ⟩ ∧ Dens K [p] θ H vs ds ∧ ds.length = n ∧ F ds μ QA (fun _ _ => False) ∧ ∀ d μ', QA d μ' → PQ K [] ⟨θ, H, μ⟩ Q d μ'
abbrev FnQ (P : Program) (w : World) (K : PySem.W.Frag) (mg : Str → Option Value) (base : Heap) (k : Nat) (f : Addr) (fd : FuncData) (ps : List Str) (F : FD) : Prop := FnP P w K mg base k f fd ps (spP K ps.length F)
def pEnds (Q : QD) : AEnds := { nx := fun _ μ => Q (.v .non) μ, rt := fun d μ => noErr d = true ∧ Q d μ }
abbrev w0 : WX := fun _ _ _ _ => False
def aCallH (F : FD) (n : Nat) (l : AA) : AE := fun ρ μ Q X => l ρ μ (fun ds μ1 => ds.length = n ∧ F ds μ1 Q (fun _ _ => False)) X
section
variable {P : Program} {w : World} {K : PySem.W.Frag} {mg : Str → Option Value} {base : Heap}
/-- THE RULE for such a def on data -/
theorem fnQ {x qual : Str} {st : Stmt} {f : Addr} {fd : FuncData} {N ps : List Str} {k : Nat} {F : FD} (b : AS) (Fn : Fun K x qual st f fd) (S : FnScope N ps (defScope st))
    (hbody : ∀ (cd : Value) (A : Around) (outer : List Env) (s : Shared) (H : Hp) (E : XK) (p : Addr × Obj), BdH (cxP P w K mg base N qual (defScope st) f cd A outer s H E p) p k → DSs (cxP P w K mg base N qual (defScope st) f cd A outer s H E p) [p] w0 (defBody st) b)
    (hread : ∀ (ds : List D) (μ : Sto) (QA : QD), ds.length = ps.length → F ds μ QA (fun _ _ => False) → b (pEnds QA) (startD N.length ds) μ) : FnQ P w K mg base (k + 1) f fd ps F := by
  obtain ⟨oc, od, kV, doc, pm, an, cdv, ct, osl, rfl, lk, hcd⟩ := Fn.ex
  have hlen : ∀ (p : Addr × Obj) vs H Q E, spP K ps.length F p vs H Q E → vs.length = ps.length := fun p vs H Q E h => by
    obtain ⟨θ, μ, ds, QA, ok, hd, hl, _⟩ := h
    rw [hd.len, hl]
  refine ⟨hlen, fun p A outer s H args us vs Q E hr hot hpin e0 hb r hsp => ?_⟩
  have hl := hlen p _ _ _ _ hsp
  have KX : K.In s.heap := e0.mod.kin.keeps fun a o e => (e0.bs a o e).1
  have lim : s.heap.NoLimit := e0.mod.nolimit.keeps fun a o e => (e0.bs a o e).1
  have kinds : ∀ y ∈ ps.zip us, (defScope st).names.lookup y.1 = some .local ∨ ((defScope st).names.lookup y.1 = some .cell ∧ ((cellsFrom (s.heap.objs.size + 1) (defScope st).names []).lookup y.1).isSome = true) := by
    intro ⟨n, v⟩ hy
    rcases S.par n (List.of_mem_zip hy).1 with q | q
    · exact .inl q
    · exact .inr ⟨q, PySem.W.cellsFrom_some _ _ _ (.inl q)⟩
  refine codeAny_call_function hr.depth (KX _ _ lk) rfl S.co S.gen rfl (PySem.W.codeRec_of KX hcd) (hb _ _ _ _ (wpAny_newFunctionEnv_cells S.kind kinds fun env he s1 x1 => ?_))
  subst he
  refine ⟨lim.keeps x1.toInCall.keep, codeAny_func ?_⟩
  obtain ⟨θ, μ, ds, QA, ok, hd, hn, hF, hq⟩ := hsp
  obtain ⟨t, ht, ht'⟩ := (hbody cdv A outer s H E p ⟨hot, List.mem_singleton.mpr rfl, hr.deeper _, S.nd⟩).ex
  have hpl : ps.length ≤ N.length := by have := congrArg List.length S.pre; rw [List.length_take] at this; omega
  have I : Inv (cxP P w K mg base N qual (defScope st) f cdv A outer s H E p) [] (L2.start N vs) H s1 := inv_startH S hpin e0 hl r x1
  refine wpAny_mono (ht.run [] s1 (L2.start N vs) H { nx := fun _ H' => Q .non H', rt := Q } I ?_) (fun fl s' hs => ?_) fun _ _ hs => hs
  · refine ht'.run ⟨θ, H, μ⟩ _ _ ok (start_env hd (by rw [hd.len, hn]; exact hpl)) _ (hread ds μ QA hn hF) _ ⟨fun ρ' μ' q σ' w' em l k' e' => ?_, fun d μ' q v w' em l k' dn => ?_, fun _ _ q => q.elim, fun _ _ q => q.elim, fun _ _ _ q => q.elim⟩
    · exact hq _ _ q .non w' em l k' .v
    · exact hq _ _ q.2 v w' em l k' (dn.un q.1)
  · have fin : ∀ {σ' : L2.St} {H' : Hp} {v : V} {u : Value}, Inv (cxP P w K mg base N qual (defScope st) f cdv A outer s H E p) [] σ' H' s' → RelV v u → Q v H' → CE outer P w H s Q u s' :=
      fun {σ' H' v u} J rv q => ⟨v, H', J.os, J.bare, J.base, J.hok, rv, q⟩
    cases fl with
    | ret u =>
      obtain ⟨v, σ', H', J, rv, q⟩ := hs
      exact fin J rv q
    | next =>
      obtain ⟨σ', H', J, q⟩ := hs
      exact fin (v := V.non) (u := Value.none) J rfl q
    | brk =>
      obtain ⟨_, _, _, q⟩ := hs
      exact q.elim
    | cont =>
      obtain ⟨_, _, _, q⟩ := hs
      exact q.elim
end
section
variable {X : Cx} {W : WX} {p : Addr × Obj} {k k' : Nat} {f : Addr} {fd : FuncData} {ps : List Str} {F : FD} {x : Str} {e : Expr} {es : List Expr} {l : AA} {q pos : Pos}
/-- f(e, ..) while p's error is handled -/
theorem d_callH (B : BdH X p k) (G : FnQ X.prog X.w X.K X.mg X.base k' f fd ps F) (hk' : k' ≤ k) (hm : X.mg x = some (.ref f)) (hk : PySem.W.keepIn X.K (.ref f) = true) (hb : Binds X.K fd ps []) (ha : DA X [p] W (e :: es) l)
    (hg : Gl X x := by rfl) (hdb : (x == ("__debug__" : Str)) = false := by decide) (he : starEach (e :: es) X.env = (false, eval e X.env) :: starEach es X.env := by rfl) (hpl : (backTo pos (starEach es X.env)).any (·.1) = false := by rfl) :
    DE X [p] W (.Call (.Name x q) (e :: es) [] pos) (aCallH F ps.length l) := by
  obtain ⟨tl, l1, l2⟩ := ha.ex
  refine ⟨fun σ H Q => tl σ H fun vs H1 => spP X.K ps.length F p vs H1 Q (fun _ _ _ => False), ⟨fun pins s σ H Q I h => ?_⟩, ⟨fun w σ ρ ok er QA XA h Q hq hx => ?_⟩⟩
  · refine wpAny_Call_Name_kw (ld_glob I hg hm ?_ hdb)
    refine PySem.W.callWith_K (h₀ := X.base) I.ok.mod.kin hk (thn (l1.run pos pins s σ H _ I h) fun us s1 hus => ?_) he hpl
    obtain ⟨vs, H1, I1, r, hs⟩ := hus
    refine ⟨I1.kIn, ?_⟩
    have hl : us.length = ps.length := by rw [← r.length]; exact G.len p _ _ _ _ hs
    have b := hb s1 us I1.kIn (by rw [List.append_nil]; exact hl)
    rw [List.append_nil] at b
    have P1 := I1.pin p (List.mem_append_left _ B.mem)
    have hpin : PinOk X.stack H1 s1 p := ⟨P1.1, P1.2.1, fun hm => (List.mem_cons.mp (I1.stkSub p.1 hm)).elim P1.2.2.1 P1.2.2.2.1, P1.2.2.2.2⟩
    refine wpAny_call (codeAny_mono (G.run p X.A X.stack s1 H1 ⟨us, []⟩ us vs Q (fun _ _ _ => False) (B.room.mono hk') B.hot hpin I1.env0 b r hs) fun r s' hq => ?_)
    cases r with
    | error e => exact hq.elim
    | ok fl =>
      cases fl with
      | ret u => exact I1.after hq
      | next => exact hq.elim
      | brk => exact hq.elim
      | cont => exact hq.elim
  · refine l2.run w σ ρ ok er _ XA h _ (fun ds μ1 h1 vs w1 em l1 k1 dn => ?_) hx
    subst em
    exact ⟨w1.θ, w1.μ, ds, QA, k1, dn, h1.1, h1.2, fun d μ' q v w' em l k dn => hq d μ' q v w' em (l1.trans l) k (dn.sub fun _ z => (List.not_mem_nil z).elim)⟩
end
end DK
set_option Elab.async false
set_option linter.all false
set_option maxRecDepth 100000
set_option maxHeartbeats 4000000
namespace DK
open PySem L2 L2H PyProof.Rows

/-! ### numbers of cells within -/
mutual
def lb (n : Nat) : D → Bool
  | .v _ => true
  | .lst ds => lbs n ds
  | .tup ds => lbs n ds
  | .rl ds => lbs n ds
  | .loc k => decide (k < n)
  | .err _ _ => true
  | .dic _ => true
  | .ins _ _ ds => lbs n ds
def lbs (n : Nat) : List D → Bool
  | [] => true
  | d :: ds => lb n d && lbs n ds
end
section
variable {K : PySem.W.Frag} {pn : List (Addr × Obj)} {θ ex : List Addr} {H : Hp}
mutual
theorem Den.lb : ∀ {x : V} {d : D}, Den K pn θ H x d → lb θ.length d = true
  | _, _, .v => rfl
  | _, _, .lst _ _ hs => Dens.lbs hs
  | _, _, .tup _ hs => Dens.lbs hs
  | _, _, .rl _ hs => Dens.lbs hs
  | _, _, .loc h => decide_eq_true (List.getElem?_eq_some_iff.mp h).1
  | _, _, .err .. => rfl
  | _, _, .dic _ _ => rfl
  | _, _, .ins _ _ _ _ _ hs => Dens.lbs hs
theorem Dens.lbs : ∀ {x : List V} {d : List D}, Dens K pn θ H x d → lbs θ.length d = true
  | _, _, .nil => rfl
  | _, _, .cons h t => Bool.and_eq_true_iff.mpr ⟨Den.lb h, Dens.lbs t⟩
end
theorem nin_app {a : Addr} (h : a ∉ θ ++ ex) : a ∉ θ := fun z => h (List.mem_append_left _ z)
mutual
theorem Den.cut : ∀ {x : V} {d : D}, Den K pn (θ ++ ex) H x d → DK.lb θ.length d = true → noErr d = true → Den K pn θ H x d
  | _, _, .v, _, _ => .v
  | _, _, .lst h n hs, e, f => .lst h (nin_app n) (Dens.cut hs e f)
  | _, _, .tup h hs, e, f => .tup (h.imp (fun z => ⟨z.1, nin_app z.2⟩) id) (Dens.cut hs e f)
  | _, _, .rl h hs, e, f => .rl (h.imp (fun z => ⟨z.1, nin_app z.2⟩) id) (Dens.cut hs e f)
  | _, _, .loc h, e, _ => .loc (by rw [List.getElem?_append_left (of_decide_eq_true e)] at h; exact h)
  | _, _, .err .., _, f => nomatch f
  | _, _, .dic h n, _, _ => .dic h (nin_app n)
  | _, _, .ins hk hf h n hl hs, e, f => .ins hk hf h (nin_app n) hl (Dens.cut hs e f)
theorem Dens.cut : ∀ {x : List V} {d : List D}, Dens K pn (θ ++ ex) H x d → DK.lbs θ.length d = true → noErrs d = true → Dens K pn θ H x d
  | _, _, .nil, _, _ => .nil
  | _, _, .cons h t, e, f => .cons (Den.cut h (Bool.and_eq_true_iff.mp e).1 (Bool.and_eq_true_iff.mp f).1) (Dens.cut t (Bool.and_eq_true_iff.mp e).2 (Bool.and_eq_true_iff.mp f).2)
end
theorem Dens.noErr0 : ∀ {x : List V} {d : List D}, Dens K [] θ H x d → noErrs d = true := by
  intro x d h
  refine Dens.rec (motive_1 := fun x d _ => noErr d = true) (motive_2 := fun x d _ => noErrs d = true) (motive_3 := fun _ _ _ => True) ?_ ?_ ?_ ?_ ?_ ?_ ?_ ?_ ?_ ?_ ?_ ?_ h
  · intro x; rfl
  · intro a vs ds _ _ _ q; exact q
  · intro a vs ds _ _ q; exact q
  · intro a vs ds _ _ q; exact q
  · intro k p _; rfl
  · intro a oe C d fvs fs hp; exact (List.not_mem_nil hp).elim
  · intro a ks _ _; rfl
  · intro a C dx ns vs ds _ _ _ _ _ _ q; exact q
  · rfl
  · intro x d vs ds _ _ q1 q2; exact Bool.and_eq_true_iff.mpr ⟨q1, q2⟩
  · trivial
  · intros; trivial
end
section
variable {K : PySem.W.Frag} {pn : List (Addr × Obj)} {θ ex : List Addr} {H : Hp}
theorem Denf.lbs : ∀ {x : List (Str × V)} {d : List (Str × D)}, Denf K pn θ H x d → DK.lbs θ.length (d.map (·.2)) = true
  | _, _, .nil => rfl
  | _, _, .cons h t => Bool.and_eq_true_iff.mpr ⟨h.lb, Denf.lbs t⟩
theorem Den.noErr0 {x : V} {d : D} (h : Den K [] θ H x d) : noErr d = true := by
  have z := Dens.noErr0 (.cons h .nil)
  exact (Bool.and_eq_true_iff.mp z).1
theorem Denf.noErr0 : ∀ {x : List (Str × V)} {d : List (Str × D)}, Denf K [] θ H x d → noErrs (d.map (·.2)) = true
  | _, _, .nil => rfl
  | _, _, .cons h t => Bool.and_eq_true_iff.mpr ⟨h.noErr0, Denf.noErr0 t⟩
theorem Denf.cut : ∀ {x : List (Str × V)} {d : List (Str × D)}, Denf K pn (θ ++ ex) H x d → DK.lbs θ.length (d.map (·.2)) = true → noErrs (d.map (·.2)) = true → Denf K pn θ H x d
  | _, _, .nil, _, _ => .nil
  | _, _, .cons h t, e, f => .cons (Den.cut h (Bool.and_eq_true_iff.mp e).1 (Bool.and_eq_true_iff.mp f).1) (Denf.cut t (Bool.and_eq_true_iff.mp e).2 (Bool.and_eq_true_iff.mp f).2)
end
theorem InsAt.lbs {K : PySem.W.Frag} {pn : List (Addr × Obj)} {θ : List Addr} {H : Hp} {C : Addr} {fvs : List (Str × V)} {fs : List (Str × D)} (h : InsAt K pn θ H C fvs fs) : DK.lbs θ.length (fs.map (·.2)) = true := h.den.lbs
theorem InsAt.noErr0 {K : PySem.W.Frag} {θ : List Addr} {H : Hp} {C : Addr} {fvs : List (Str × V)} {fs : List (Str × D)} (h : InsAt K [] θ H C fvs fs) : noErrs (fs.map (·.2)) = true := h.den.noErr0
theorem InsAt.cut {K : PySem.W.Frag} {pn : List (Addr × Obj)} {θ ex : List Addr} {H : Hp} {C : Addr} {fvs : List (Str × V)} {fs : List (Str × D)} (h : InsAt K pn (θ ++ ex) H C fvs fs) (e : DK.lbs θ.length (fs.map (·.2)) = true) (f : noErrs (fs.map (·.2)) = true) : InsAt K pn θ H C fvs fs := ⟨h.den.cut e f, h.ck, h.na, h.sm⟩
/-- the last cell is let go: its list stands as data -/
theorem Ok.drop {K : PySem.W.Frag} {w w' : Wd} {p : Addr} {ds : List D} (k : Ok K w) (k' : Ok K w') (l : WLe w w') (hθ : w'.θ = w.θ ++ [p]) (hμ : w'.μ = w.μ ++ [.lst ds]) (hp : w.H p = none) :
    WLe w ⟨w.θ, w'.H, w.μ⟩ ∧ Ok K ⟨w.θ, w'.H, w.μ⟩ := by
  have l2 : Le w.θ w.H w.θ w'.H := ⟨l.keep, ⟨[], by simp, fun _ z => (List.not_mem_nil z).elim⟩, fun q hq => l.trk q (l.sub hq)⟩
  refine ⟨l2, ⟨k.nd, k.len, fun i q c h1 h2 => ?_⟩⟩
  have z := k.cell i q c h1 h2
  have z' := k'.cell i q c (l.get h1) (by rw [hμ, List.getElem?_append_left (List.getElem?_eq_some_iff.mp h2).1]; exact h2)
  rw [hθ] at z'
  cases c with
  | lst es =>
    obtain ⟨vs, a, b⟩ := z
    obtain ⟨vs', a', b'⟩ := z'
    exact ⟨vs', a', b'.cut b.lbs b.noErr0⟩
  | ins C fs =>
    obtain ⟨dx, vs, a, b⟩ := z
    obtain ⟨dx', vs', a', b'⟩ := z'
    exact ⟨dx', vs', a', b'.cut b.lbs b.noErr0⟩

/-! ### list comprehensions -/
def wipeD (ρ : Rho) (i : Nat) : Rho := ρ.set i none
def aTurn (i : Nat) (t : AT) (e : AE) (ρ : Rho) (acc : List D) (μ : Sto) (x : D) (N : List D → Prop) : Prop :=
  t (ρ.set i (some x)) (μ ++ [.lst acc]) (fun b μ1 => μ1 = μ ++ [.lst acc] ∧ bIf b (e (ρ.set i (some x)) (μ ++ [.lst acc]) (fun d μ2 => μ2 = μ ++ [.lst acc] ∧ (noErr d = true ∧ lb μ.length d = true) ∧ N (acc ++ [d])) (fun _ _ => False)) (N acc)) (fun _ _ => False)
abbrev ASrc := Rho → Sto → (List D → Sto → Prop) → QX → Prop
def aLc (src : ASrc) (i : Nat) (t : AT) (e : AE) : AE := fun ρ μ Q X => src ρ μ (fun xs μ1 => xs.length ≤ 500000 ∧ ∃ I : Nat → List D → Prop, I 0 [] ∧ (∀ n acc x, xs[n]? = some x → I n acc → aTurn i t e (wipeD ρ i) acc μ1 x (I (n + 1))) ∧ ∀ acc, I xs.length acc → Q (.lst acc) μ1) X
def rR1 (l : AA) : ASrc := fun ρ μ Q X => l ρ μ (fun ds μ1 => match ds with
  | [.v (.int n)] => (-(2 ^ 62) ≤ n ∧ n < 2 ^ 62) ∧ Q ((List.range n.toNat).map fun (k : Nat) => .v (.int (k : Int))) μ1
  | _ => False) X
def rR2 (l : AA) : ASrc := fun ρ μ Q X => l ρ μ (fun ds μ1 => match ds with
  | [.v (.int m), .v (.int n)] => ((-(2 ^ 62) ≤ m ∧ m < 2 ^ 62) ∧ (-(2 ^ 62) ≤ n ∧ n < 2 ^ 62)) ∧ Q ((List.range (n - m).toNat).map fun (k : Nat) => .v (.int (m + (k : Int)))) μ1
  | _ => False) X
def rL (e : AE) : ASrc := fun ρ μ Q X => e ρ μ (fun d μ1 => match d with | .lst ds => Q ds μ1 | .rl ds => Q ds μ1 | _ => False) X
def rT (e : AE) : ASrc := fun ρ μ Q X => e ρ μ (fun d μ1 => match d with | .tup ds => Q ds μ1 | _ => False) X
/-- the turns one by one, for written lengths -/
def aGo (i : Nat) (t : AT) (e : AE) (ρ : Rho) (μ : Sto) : List D → List D → (List D → Prop) → Prop
  | [], acc, Q => Q acc
  | x :: xs, acc, Q => aTurn i t e ρ acc μ x fun acc' => aGo i t e ρ μ xs acc' Q
theorem go_lc {i : Nat} {t : AT} {e : AE} {ρ : Rho} {μ : Sto} {xs : List D} {Q : List D → Prop} (h : aGo i t e ρ μ xs [] Q) :
    ∃ I : Nat → List D → Prop, I 0 [] ∧ (∀ n acc x, xs[n]? = some x → I n acc → aTurn i t e ρ acc μ x (I (n + 1))) ∧ ∀ acc, I xs.length acc → Q acc := by
  refine ⟨fun n acc => aGo i t e ρ μ (xs.drop n) acc Q, h, fun n acc x hx q => ?_, fun acc q => ?_⟩
  · have hl := (List.getElem?_eq_some_iff.mp hx)
    have ed : xs.drop n = x :: xs.drop (n + 1) := by
      rw [List.drop_eq_getElem_cons hl.1, hl.2]
    have q : aGo i t e ρ μ (xs.drop n) acc Q := q
    rw [ed] at q
    exact q
  · have q : aGo i t e ρ μ (xs.drop xs.length) acc Q := q
    rw [List.drop_length] at q
    exact q
section
variable {K : PySem.W.Frag} {pn : List (Addr × Obj)} {W : WX} {tl : TA} {l : AA} {tt : TT} {t : AT} {te tx : TE} {e x : AE} {i : Nat}
theorem wipe_set {σ : L2.St} {x : V} : wipe ((wipe σ [i]).set i (some x)) [i] = wipe σ [i] := by
  show ((σ.set i none).set i (some x)).set i none = σ.set i none
  rw [List.set_set, List.set_set]
/-- what is true between two turns, the new list at p -/
def LcP (K : PySem.W.Frag) (pn : List (Addr × Obj)) (w : Wd) (p : Addr) (I : Nat → List D → Prop) (n : Nat) (H : Hp) : Prop :=
  ∃ (w' : Wd) (acc : List D), w'.H = H ∧ WLe w w' ∧ Ok K w' ∧ w'.θ = w.θ ++ [p] ∧ w'.μ = w.μ ++ [.lst acc] ∧ acc.length ≤ n ∧ noErrs acc = true ∧ lbs w.θ.length acc = true ∧ I n acc
theorem noErrs_app : ∀ {a b : List D}, noErrs (a ++ b) = (noErrs a && noErrs b)
  | [], _ => rfl
  | d :: a, b => by
    show (noErr d && noErrs (a ++ b)) = (noErr d && noErrs a && noErrs b)
    rw [noErrs_app, Bool.and_assoc]
theorem lbs_app {n : Nat} : ∀ {a b : List D}, lbs n (a ++ b) = (lbs n a && lbs n b)
  | [], _ => rfl
  | d :: a, b => by
    show (lb n d && lbs n (a ++ b)) = (lb n d && lbs n a && lbs n b)
    rw [lbs_app, Bool.and_assoc]
theorem lc_turn {w : Wd} {σ : L2.St} {ρ : Rho} {p : Addr} {I : Nat → List D → Prop} {n : Nat} {H : Hp} {xv : V} {xd : D} (hp : w.H p = none) (er : EnvR K pn w σ ρ) (ht : ST K pn w0 tt t) (he : SE K pn w0 te e) (hn : n < 500000)
    (q : LcP K pn w p I n H) (hx : ∀ w', WLe w w' → Den K pn w'.θ w'.H xv xd) (hs : ∀ acc, I n acc → aTurn i t e (wipeD ρ i) acc w.μ xd (I (n + 1))) :
    gName i xv (wipe σ [i]) H fun σ2 H2 => wipe σ2 [i] = wipe σ [i] ∧ tt σ2 H2 fun b H3 => if b = true then te σ2 H3 fun y H4 => ∃ acc, H4 p = some (.lst acc) ∧ acc.length < sizeLine ∧ LcP K pn w p I (n + 1) (upd H4 p (.lst (acc ++ [y]))) else LcP K pn w p I (n + 1) H3 := by
  obtain ⟨w1, acc, rfl, l1, k1, hθ, hμ, hal, hne, hlb, hI⟩ := q
  refine ⟨wipe_set, ?_⟩
  have h := hs acc hI
  have hj : w1.θ[w.θ.length]? = some p := by
    rw [hθ, List.getElem?_append_right (Nat.le_refl _), Nat.sub_self]
    rfl
  have hlen : w.θ.length = w.μ.length := by
    have a := k1.len
    rw [hθ, hμ, List.length_append, List.length_append, List.length_singleton, List.length_singleton] at a
    omega
  have e1 : EnvR K pn w1 ((wipe σ [i]).set i (some xv)) ((wipeD ρ i).set i (some xd)) := ((er.mono l1).wipe (i := i)).set (hx w1 l1)
  unfold aTurn at h
  rw [← hμ] at h
  refine ht.run w1 _ _ k1 e1 _ _ h _ (fun b μ' hb w2 em l2 k2 => ?_) fun _ _ z => z.elim
  subst em
  obtain ⟨em, hb⟩ := hb
  have same : ∀ {w3 : Wd}, WLe w1 w3 → w3.μ = w1.μ → Ok K w3 → w3.θ = w.θ ++ [p] := fun {w3} l3 e3 k3 => by
    obtain ⟨ex, hex, _⟩ := l3.ext
    have a := k3.len
    rw [e3, hex, List.length_append, k1.len] at a
    have hx0 : ex = [] := List.length_eq_zero_iff.mp (by omega)
    rw [hex, hx0, List.append_nil, hθ]
  cases b with
  | false => exact ⟨w2, acc, rfl, l1.trans l2, k2, same l2 em k2, by rw [em, hμ], by omega, hne, hlb, hb.2 rfl⟩
  | true =>
    have hb' := hb.1 rfl
    rw [← em] at hb'
    refine he.run w2 _ _ k2 (e1.mono l2) _ _ hb' _ (fun d μ' hd y w3 em3 l3 k3 dn => ?_) fun _ _ z => z.elim
    subst em3
    obtain ⟨em3, ⟨hd1, hd2⟩, hd⟩ := hd
    have m3 : w3.μ = w1.μ := em3.trans em
    have t3 := same (l2.trans l3) m3 k3
    have hj3 : w3.θ[w.θ.length]? = some p := by
      rw [t3, List.getElem?_append_right (Nat.le_refl _), Nat.sub_self]
      rfl
    have hm3 : w3.μ[w.θ.length]? = some (.lst acc) := by
      rw [m3, hμ, hlen, List.getElem?_append_right (Nat.le_refl _), Nat.sub_self]
      rfl
    obtain ⟨us, hu, hus⟩ := k3.cell _ _ _ hj3 hm3
    obtain ⟨l4, k4⟩ := k3.writeL hj3 (hus.append (.cons (dn.un hd1) .nil))
    refine ⟨us, hu, ?_, ?_⟩
    · rw [hus.len]
      exact Nat.lt_of_le_of_lt hal (Nat.lt_trans hn (by decide))
    · refine ⟨⟨w3.θ, upd w3.H p (.lst (us ++ [y])), w3.μ.set w.θ.length (.lst (acc ++ [d]))⟩, acc ++ [d], rfl, ((l1.trans l2).trans l3).trans l4, k4, t3, ?_, ?_, ?_, ?_, hd⟩
      · show w3.μ.set w.θ.length (.lst (acc ++ [d])) = w.μ ++ [.lst (acc ++ [d])]
        rw [m3, hμ, hlen, List.set_append_right _ _ (Nat.le_refl _), Nat.sub_self]
        rfl
      · rw [List.length_append, List.length_singleton]
        omega
      · rw [noErrs_app, hne]
        show (true && (noErr d && true)) = true
        rw [hd1]
        rfl
      · rw [lbs_app, hlb]
        show (true && (lb _ d && true)) = true
        rw [hlen, hd2]
        rfl
theorem lc_start {w : Wd} {p : Addr} {I : Nat → List D → Prop} (k : Ok K w) (hp : w.H p = none) (h : I 0 []) : LcP K pn w p I 0 (upd w.H p (.lst [])) := by
  obtain ⟨l2, k2⟩ := k.cellL hp (.nil (K := K))
  exact ⟨⟨w.θ ++ [p], upd w.H p (.lst []), w.μ ++ [.lst []]⟩, [], rfl, l2, k2, rfl, rfl, Nat.le_refl _, rfl, rfl, h⟩
theorem lc_end {w : Wd} {p : Addr} {I : Nat → List D → Prop} {n : Nat} {H : Hp} {Q : VK} {QA : QD} (k : Ok K w) (hp : w.H p = none) (q : LcP K pn w p I n H) (hI : ∀ acc, I n acc → QA (.lst acc) w.μ) (hq : ∀ d μ', QA d μ' → PQ K pn w Q d μ') : Q (.ref p) H := by
  obtain ⟨w1, acc, rfl, l1, k1, hθ, hμ, hal, hne, hlb, hi⟩ := q
  obtain ⟨l2, k2⟩ := k.drop k1 l1 hθ hμ hp
  have hlen := k.len
  obtain ⟨us, hu, hus⟩ := k1.cell w.θ.length p (.lst acc) (by rw [hθ, List.getElem?_append_right (Nat.le_refl _), Nat.sub_self]; rfl) (by rw [hμ, hlen, List.getElem?_append_right (Nat.le_refl _), Nat.sub_self]; rfl)
  rw [hθ] at hus
  have np : p ∉ w.θ := fun hm => by
    obtain ⟨o, ho⟩ := k.trk p hm
    rw [hp] at ho
    cases ho
  exact hq _ _ (hI acc hi) (.ref p) ⟨w.θ, w1.H, w.μ⟩ rfl l2 k2 (.lst hu np ((hus.cut hlb hne).sub fun _ z => (List.not_mem_nil z).elim))
theorem se_lcR1 (hl : SA K pn W tl l) (ht : ST K pn w0 tt t) (he : SE K pn w0 te e) : SE K pn W (tLc (iRng1 tl) (gName i) tt te [i]) (aLc (rR1 l) i t e) := ⟨fun w σ ρ k er QA XA h Q hq hx =>
  hl.run w σ ρ k er _ XA h _ (fun ds μ1 h1 vs w1 em l1 k1 dn => by
    subst em
    split at h1
    · rename_i n
      cases dn with
      | cons d1 d2 =>
        cases d2
        obtain rfl := d1.v_inv
        obtain ⟨hb, hlen, I, i0, hs, hn⟩ := h1
        rw [List.length_map, List.length_range] at hlen hn
        refine ⟨n, rfl, hb.1, hb.2, fun p hp => lc_range (LcP K pn w1 p I) (lc_start k1 hp i0) (fun m H hm q => ?_) (fun H q => lc_end k1 hp q hn fun d μ' z => (hq d μ' z).mono l1)⟩
        have e0 : (0 : Int) + (m : Int) = (m : Int) := Int.zero_add _
        rw [e0]
        exact lc_turn hp (er.mono l1) ht he (Nat.lt_of_lt_of_le hm hlen) q (fun _ _ => .v) (fun acc z => hs m acc _ (by rw [List.getElem?_map, List.getElem?_range hm]; rfl) z)
    · exact h1.elim) hx⟩
theorem se_lcL (hx0 : SE K pn W tx x) (ht : ST K pn w0 tt t) (he : SE K pn w0 te e) : SE K pn W (tLc (iList K tx) (gName i) tt te [i]) (aLc (rL x) i t e) := ⟨fun w σ ρ k er QA XA h Q hq hx =>
  hx0.run w σ ρ k er _ XA h _ (fun d μ1 h1 v w1 em l1 k1 dn => by
    subst em
    have key : ∃ a vs ds, v = .ref a ∧ (∀ w2, WLe w1 w2 → SqL K w2.H a vs) ∧ Dens K pn w1.θ w1.H vs ds ∧ ds.length ≤ 500000 ∧ ∃ I : Nat → List D → Prop, I 0 [] ∧ (∀ n acc x, ds[n]? = some x → I n acc → aTurn i t e (wipeD ρ i) acc w1.μ x (I (n + 1))) ∧ ∀ acc, I ds.length acc → QA (.lst acc) w1.μ := by
      split at h1
      · cases dn with
        | @lst a vs _ ha n hs => exact ⟨a, vs, _, rfl, fun w2 l2 => .inl (.inl (l2.keep _ _ ha n)), hs, h1⟩
      · cases dn with
        | @rl a vs _ ha hs => exact ⟨a, vs, _, rfl, fun w2 l2 => (ha.imp (fun z => (rd_mono l2 z).1) id), hs, h1⟩
      · exact h1.elim
    obtain ⟨a, vs, ds, rfl, hsq, hds, hlen, I, i0, hs, hn⟩ := key
    rw [← hds.len] at hlen hn
    refine ⟨a, rfl, ⟨vs, hsq w1 k1.refl⟩, fun p hp => lc_list (xs := vs) (LcP K pn w1 p I) (lc_start k1 hp i0) (fun n H _ q => ?_) (fun n y H hy q => ?_) (fun H q => lc_end k1 hp q hn fun d μ' z => (hq d μ' z).mono l1)⟩
    · obtain ⟨w2, _, rfl, l2, _⟩ := q
      exact hsq w2 l2
    · have hln := (List.getElem?_eq_some_iff.mp hy).1
      obtain ⟨dx, ed⟩ : ∃ dx, ds[n]? = some dx := ⟨_, List.getElem?_eq_getElem (by rw [← hds.len]; exact hln)⟩
      obtain ⟨y', ey, dy⟩ := hds.get ed
      cases (ey.symm.trans hy)
      exact lc_turn hp (er.mono l1) ht he (Nat.lt_of_lt_of_le hln hlen) q (fun w2 l2 => dy.mono l2) (fun acc z => hs n acc dx ed z)) hx⟩
end
end DK
set_option Elab.async false
set_option linter.all false
set_option maxRecDepth 100000
set_option maxHeartbeats 4000000
namespace DK
open PySem PySem.Spec PyProof.Rows L2 L2H

/-! ### a comprehension while an error is handled -/
abbrev blkP (X : Cx) (s : Shared) (H : Hp) (scope : Scope) (cenv : Env) (fp : List Addr) (p : Addr × Obj) : Cx := { X.blk s H scope cenv fp with pn := [p] }
section
variable {X : Cx}
theorem pe_lcP {p : Addr × Obj} {elt tg iter : Expr} {ifs : List Expr} {scope : Scope} {own : List (Str × Nat)} {pos : Pos} {wi : TI} {g : TG} {tt : TT} {te : TE} (hot : Hot1 X.A p) (hp : p ∈ X.pn) (hN : X.N.Nodup) (hi : PIH X tg iter wi)
    (ok : BlkOk X.N X.env.scope scope own)
    (hg : ∀ (s : Shared) (H : Hp) (C : Addr) (cl : List (Str × Addr)) (fp : List Addr), PG (blkP X s H scope (compEnvC scope cl C X.env) fp p) tg g)
    (ht : ∀ (s : Shared) (H : Hp) (C : Addr) (cl : List (Str × Addr)) (fp : List Addr), PTs (blkP X s H scope (compEnvC scope cl C X.env) fp p) ifs tt)
    (he : ∀ (s : Shared) (H : Hp) (C : Addr) (cl : List (Str × Addr)) (fp : List Addr), PE (blkP X s H scope (compEnvC scope cl C X.env) fp p) elt te)
    (hs : ∀ x, foldedSetIterable iter X.env x = pure x := by intro _; rfl) :
    PE X (.ListComp elt [⟨tg, iter, ifs, 0⟩] scope pos) (tLc wi g tt te (own.map (·.2))) := by
  refine ⟨fun pins s σ H Q I h => ?_⟩
  rw [eval_ListComp]
  have free0 : ∀ y ∈ scope.names, y.2 = .free → ∃ c, X.env.cells.lookup y.1 = some c := by
    intro y hy e
    rcases ok.free y hy e with q | q
    · exact I.ok.has _ (.inl q)
    · exact I.ok.has _ (.inr q)
  refine wpAny_comprehension_free (use := none) rfl hs (closure_ok free0) ok.kind (fun y hy e => by rw [ok.uniq y hy, e]) (thn (hi.run pins s σ H _ I h) fun xv s1 hx => thn hx fun itv s2 h2 => ?_)
  obtain ⟨it, fp, tn, J, H2, e, I2, T, st2, f2, q⟩ := h2
  subst e
  refine wpAny_newObj_type (newEnv_comp ?_) (by show 0 ≤ sizeLine; decide)
  generalize hD : s2.heap.objs.size = L
  obtain ⟨Wd, ⟨m0, start0⟩, turn⟩ := q L (I2.hok.fresh (Nat.le_of_eq hD))
  generalize hs3 : ({ s2 with heap := s2.heap.push { cls := .type "list", data := .seq ([] : List Value).toArray } } : Shared) = s3
  have h3 : s3.heap = s2.heap.push { cls := .type "list", data := .seq ([] : List Value).toArray } := by rw [← hs3]
  have I3 : Inv X pins σ (upd H2 L (.lst [])) s3 := by
    rw [← hs3]
    refine I2.laid (t' := s2.toks) (fun b o z => Heap.get?_push_of_some _ z) (Nat.le_of_eq hD) ⟨Nat.zero_le _, [], 0, .nil, ?_⟩
    rw [← hD]
    exact Heap.get?_push_size _ rfl
  have low : ∀ b ∈ fp, b < s2.heap.objs.size := by
    intro b hb
    obtain ⟨o, z, _⟩ := T.obj _ _ st2 b hb
    exact Heap.lt_size z
  have f3 : ∀ b ∈ fp, FpOk X pins (upd H2 L (.lst [])) b ∧ b < s3.heap.objs.size := by
    intro b hb
    have hlt := low b hb
    refine ⟨⟨?_, (f2 b hb).2⟩, by rw [h3, Heap.size_push]; exact Nat.lt_succ_of_lt hlt⟩
    rw [upd_ne (by rw [← hD]; exact Nat.ne_of_lt hlt)]
    exact (f2 b hb).1
  have st3 : tn 0 s3.heap := T.keep _ _ _ st2 fun b _ o z => by
    rw [h3]
    exact Heap.get?_push_of_some _ z
  have I4 := block_start I3 ok hN f3
  have pg := hg s3 (upd H2 L (.lst [])) s3.heap.objs.size (cellsFrom (s3.heap.objs.size + 1) scope.names (cloFrom X.env.cells scope.names [])) fp
  have pt := ht s3 (upd H2 L (.lst [])) s3.heap.objs.size (cellsFrom (s3.heap.objs.size + 1) scope.names (cloFrom X.env.cells scope.names [])) fp
  have pe := he s3 (upd H2 L (.lst [])) s3.heap.objs.size (cellsFrom (s3.heap.objs.size + 1) scope.names (cloFrom X.env.cells scope.names [])) fp
  generalize hce : compEnvC scope (cellsFrom (s3.heap.objs.size + 1) scope.names (cloFrom X.env.cells scope.names [])) s3.heap.objs.size X.env = ce at I4 pg pt pe
  have cL : ce.locals = s3.heap.objs.size := by
    subst hce
    rfl
  have P1 := I3.pin p (List.mem_append_left _ hp)
  generalize hH3 : upd H2 L (.lst []) = H3 at I3 I4 pg pt pe start0 f3 P1
  generalize hs4 : ({ s3 with heap := pushCells (s3.heap.push { cls := .type "dict", data := .dict #[] }) scope.names } : Shared) = s4 at I4
  have keep4 : ∀ b o, s3.heap.get? b = some o → s4.heap.get? b = some o := fun b o z => by
    rw [← hs4]
    exact pushCells_keeps _ _ _ _ (Heap.get?_push_of_some _ z)
  have st4 : tn 0 s4.heap := T.keep _ _ _ st3 fun b _ o z => keep4 b o z
  -- the block's context bears the error that is handled
  have okP : (blkP X s3 H3 scope ce fp p).Ok := by
    have o := I4.ok
    exact ⟨o.mod, o.kind, o.glob, o.blt, o.above, o.inj, o.has, o.cab, o.hd, o.frames, o.stk, o.exf, o.bs, o.bsz, o.noex, o.exfs, o.funs, o.frf⟩
  have I4' : Inv (blkP X s3 H3 scope ce fp p) [] (wipe σ (own.map (·.2))) H3 s4 :=
    ⟨okP, I4.os, I4.bare, I4.base, I4.loc, I4.cell, I4.free, I4.freeC, fun r hr => by
      have hr' : r ∈ [p] ++ ([] : List (Addr × Obj)) := hr
      rw [List.append_nil] at hr'
      rw [List.mem_singleton.mp hr']
      refine ⟨keep4 _ _ P1.1, P1.2.1, ?_, fun hm => (List.mem_cons.mp (I3.stkSub p.1 hm)).elim P1.2.2.1 P1.2.2.2.1, P1.2.2.2.2⟩
      show p.1 ≠ ce.locals
      rw [cL]
      exact Nat.ne_of_lt (Heap.lt_size P1.1), I4.hok, I4.len⟩
  have nfp : ∀ b ∈ fp, H3 b = none := fun b hb => (f3 b hb).1.1
  have hotP : HotC (blkP X s3 H3 scope ce fp p) := ⟨p, hot, List.mem_singleton.mpr rfl⟩
  have stat : ∀ {σ' : L2.St} {H' : Hp} {s' : Shared}, Inv (blkP X s3 H3 scope ce fp p) [] σ' H' s' → (∀ b ∈ fp, H' b = none) → ∀ b ∈ fp, FpOk (blkP X s3 H3 scope ce fp p) [] H' b := by
    intro σ' H' s' I' hn b hb
    refine ⟨hn b hb, (I'.ok.exf b hb).1, I'.ok.exfs b hb, .inl hb, fun x c z => (I'.ok.exf b hb).2 x c z, fun r hr => ?_⟩
    have hr' : r ∈ [p] ++ ([] : List (Addr × Obj)) := hr
    rw [List.append_nil] at hr'
    rw [List.mem_singleton.mp hr']
    exact (f3 b hb).1.2.2.2.2.2 p (List.mem_append_left _ hp)
  have loop : codeAny (model X.prog X.w) X.A (.compLoop (.ListComp elt [⟨tg, iter, ifs, 0⟩] scope pos) 0 (.ref it) (.ref L) ce) (compPost (model X.prog X.w) X.A X.xe none (EP X pins σ Q) (.ref L) s3.heap.objs.size) s4 := by
    refine compLoop_any (fun n s' => ∃ i H', Inv (blkP X s3 H3 scope ce fp p) [] (wipe σ (own.map (·.2))) H' s' ∧ tn i s'.heap ∧ (∀ b ∈ fp, H' b = none) ∧ Wd i n H') ?_ m0 ⟨0, H3, I4', st4, nfp, start0⟩
    rintro n s5 ⟨i, H5, I5, st5, n5, w5⟩
    rcases turn i n H5 w5 with ⟨stop, qq⟩ | ⟨go, Nx, hNx, step⟩
    · refine thnF (T.done (blkP X s3 H3 scope ce fp p) rfl rfl rfl hotP i [] s5 _ H5 (fun _ _ => False) I5 (stat I5 n5) st5 stop) fun r s6 hr6 => ?_
      obtain ⟨hr, I6⟩ := hr6
      subst hr
      have I7 : Inv X pins σ H5 s6 := I3.call' (ch := fp) I6.os I6.base I6.hok I6.bare fun b hb => ⟨(f3 b hb).1.2.2.2.1, (f3 b hb).1.2.1, (f3 b hb).1.2.2.2.2.1, (f3 b hb).1.2.2.2.2.2⟩
      have nC : H5 s3.heap.objs.size = none := by
        have z : H5 ce.locals = none := I6.free
        rwa [cL] at z
      obtain ⟨m, hn, _⟩ := I6.loc
      have hn : s6.heap.Ns ce.locals m := hn
      rw [cL] at hn
      obtain ⟨g0, g1, g2, g3, g4, g5⟩ := I3.fpOk (Nat.le_refl _) nC
      exact ⟨m, hn, fun h'' sb => ⟨.ref L, H5, I7.turned (t' := s6.toks) (fun b o hb z => (sb.2 b hb).trans z) g0 g1 g3 g4 g5, rfl, qq⟩⟩
    · refine thnF (T.item (blkP X s3 H3 scope ce fp p) rfl rfl rfl hotP i [] s5 _ H5 (fun _ _ => False) I5 (stat I5 n5) st5 go) fun r s6 h6 => ?_
      obtain ⟨u, hr, h6⟩ := h6
      subst hr
      refine thnF h6 fun _ s7 h7 => ?_
      obtain ⟨x, H7, I7, r7, y7, st7, n7⟩ := h7
      have I7' := I7.pinned (stat I7 n7) (T.obj _ _ st7)
      refine thnF (pg.run _ s7 _ H7 x u _ I7' r7 (step x H7 y7)) fun _ s8 h8 => ?_
      obtain ⟨σ8, H8, I8, hw8, q8⟩ := h8
      refine thnF (pt.run _ s8 σ8 H8 _ I8 q8) fun b s9 h9 => ?_
      obtain ⟨H9, I9, q9⟩ := h9
      have fin : ∀ {s' : Shared} {H' : Hp}, Inv (blkP X s3 H3 scope ce fp p) ([] ++ pinsAt fp s7.heap) σ8 H' s' → Nx H' →
          ∃ m, m < n ∧ ∃ i H', Inv (blkP X s3 H3 scope ce fp p) [] (wipe σ (own.map (·.2))) H' s' ∧ tn i s'.heap ∧ (∀ b ∈ fp, H' b = none) ∧ Wd i m H' := by
        intro s' H' I' nx
        obtain ⟨m', hm, w'⟩ := hNx H' nx
        have pin' : ∀ b ∈ fp, ∀ o, s7.heap.get? b = some o → s'.heap.get? b = some o ∧ H' b = none := fun b hb o z =>
          let y := I'.pin (b, o) (List.mem_append_right _ (List.mem_append_right _ (mem_pinsAt hb z)))
          ⟨y.1, y.2.1⟩
        have hl : (wipe σ (own.map (·.2))).length = σ8.length := by rw [← hw8, wipe_length]
        refine ⟨m', hm, i + 1, H', (I'.unpinned (pins := [])).weak hl (fun j v z => ?_), T.keep _ _ _ st7 fun b hb o z => (pin' b hb o z).1, fun b hb => ?_, w'⟩
        · rw [← hw8] at z
          exact (wipe_some z).1
        · obtain ⟨o, z, _⟩ := T.obj _ _ st7 b hb
          exact (pin' b hb o z).2
      cases b with
      | false =>
        simp only [Bool.false_eq_true, if_false] at q9 ⊢
        exact fin I9 q9
      | true =>
        simp only [if_true] at q9 ⊢
        refine thnF (pe.run _ s9 σ8 H9 _ I9 q9) fun z s10 h10 => ?_
        obtain ⟨yv, H10, I10, r10, acc, hD10, hz10, nx⟩ := h10
        exact app_ok (X := blkP X s3 H3 scope ce fp p) I10 hD10 hz10 r10 fun s11 I11 => fin I11 nx
  have fin := codeAny_compStart_list loop (T.self X.A 0 _ _ _ st4 loop)
  rw [← hce] at fin
  exact fin
end
end DK
set_option Elab.async false
set_option linter.all false
set_option maxRecDepth 100000
set_option maxHeartbeats 4000000
namespace DK
open PySem PySem.Spec PyProof.Rows L2 L2H

/-! ### comprehensions, with the syntax -/
theorem takesB {X : Cx} : L2N.Takes X w0 := fun u s' x => by
  obtain ⟨_, _, _, _, _, _, _, _, _, _, _, _, _, _, _, _, z⟩ := x
  exact z.elim
theorem Bd.blk {X : Cx} {W : WX} {k : Nat} (B : Bd X W k) (s : Shared) (H : Hp) (scope : Scope) (cenv : Env) (fp : List Addr) : Bd (X.blk s H scope cenv fp) w0 k :=
  ⟨takesB, PassesOwn.never, B.calm, B.room, B.nd⟩
structure DTs (X : Cx) (pn : List (Addr × Obj)) (W : WX) (es : List Expr) (a : AT) : Prop where
  ex : ∃ t, PTs X es t ∧ ST X.K pn W t a
def aYes : AT := fun _ μ Q _ => Q true μ
section
variable {X : Cx} {pn : List (Addr × Obj)} {W : WX} {k : Nat} {e elt : Expr} {ifs : List Expr} {scope : Scope} {l : AA} {t : AT} {a x : AE} {pos p1 p2 p3 : Pos} {y : Str}
theorem d_ifs0 : DTs X pn W [] aYes := ⟨_, pts_nil, ⟨fun w σ ρ k e QA XA h Q hq hx => hq _ _ h w rfl k.refl k⟩⟩
theorem d_ifs1 (h : DT X pn W e t) : DTs X pn W [e] t := by
  obtain ⟨_, h, h'⟩ := h.ex
  exact ⟨_, pts_one h, h'⟩
/-- the element's and the test's parts, one reading for all blocks -/
theorem lc_parts {X : Cx} (blk : Shared → Hp → Addr → List (Str × Addr) → List Addr → Cx) (hK : ∀ s H C cl fp, (blk s H C cl fp).K = X.K)
    (he : ∀ s H C cl fp, DE (blk s H C cl fp) pn w0 elt a) (ht : ∀ s H C cl fp, DTs (blk s H C cl fp) pn w0 ifs t) :
    ∃ (te : TE) (tt : TT), (∀ s H C cl fp, PE (blk s H C cl fp) elt te) ∧ (∀ s H C cl fp, PTs (blk s H C cl fp) ifs tt) ∧ SE X.K pn w0 te a ∧ ST X.K pn w0 tt t := by
  have he' : ∀ s H C cl fp, ∃ te, PE (blk s H C cl fp) elt te ∧ SE X.K pn w0 te a := fun s H C cl fp => by
    obtain ⟨te, a, b⟩ := (he s H C cl fp).ex
    rw [hK] at b
    exact ⟨te, a, b⟩
  have ht' : ∀ s H C cl fp, ∃ tt, PTs (blk s H C cl fp) ifs tt ∧ ST X.K pn w0 tt t := fun s H C cl fp => by
    obtain ⟨tt, a, b⟩ := (ht s H C cl fp).ex
    rw [hK] at b
    exact ⟨tt, a, b⟩
  refine ⟨fun σ H0 Q => ∀ s H C cl fp, (he' s H C cl fp).choose σ H0 Q, fun σ H0 Q => ∀ s H C cl fp, (ht' s H C cl fp).choose σ H0 Q, fun s H C cl fp => ?_, fun s H C cl fp => ?_, ?_, ?_⟩
  · exact ⟨fun pins s' σ H0 Q I h => (he' s H C cl fp).choose_spec.1.run pins s' σ H0 Q I (h s H C cl fp)⟩
  · exact ⟨fun pins s' σ H0 Q I h => (ht' s H C cl fp).choose_spec.1.run pins s' σ H0 Q I (h s H C cl fp)⟩
  · refine ⟨fun w σ ρ k e QA XA h Q hq hx s H C cl fp => ?_⟩
    exact (he' s H C cl fp).choose_spec.2.run w σ ρ k e QA XA h Q hq hx
  · refine ⟨fun w σ ρ k e QA XA h Q hq hx s H C cl fp => ?_⟩
    exact (ht' s H C cl fp).choose_spec.2.run w σ ρ k e QA XA h Q hq hx
abbrev nblk (X : Cx) (scope : Scope) : Shared → Hp → Addr → List (Str × Addr) → List Addr → Cx := fun s H C cl fp => X.blk s H scope (compEnvC scope cl C X.env) fp
abbrev hblk (X : Cx) (scope : Scope) (p : Addr × Obj) : Shared → Hp → Addr → List (Str × Addr) → List Addr → Cx := fun s H C cl fp => blkP X s H scope (compEnvC scope cl C X.env) fp p
theorem d_lcR1 (i : Nat) (B : Bd X W k) (hm : X.mg "range" = none) (hl : DA X pn W [e] l) (ht : ∀ s H C cl fp, DTs (nblk X scope s H C cl fp) pn w0 ifs t) (he : ∀ s H C cl fp, Bd (nblk X scope s H C cl fp) w0 k → DE (nblk X scope s H C cl fp) pn w0 elt a)
    (hok : blkC X.N X.env.scope scope [(y, i)] = true) (hpg : ∀ s H C cl fp, PG (nblk X scope s H C cl fp) (.Name y p3) (gName i)) (hg : Gl X "range" := by rfl) (hs : starEach [e] X.env = [(false, eval e X.env)] := by rfl) :
    DE X pn W (.ListComp elt [⟨.Name y p3, .Call (.Name "range" p1) [e] [] p2, ifs, 0⟩] scope pos) (aLc (rR1 l) i t a) := by
  obtain ⟨te, tt, e1, e2, e3, e4⟩ := lc_parts (X := X) (nblk X scope) (fun _ _ _ _ _ => rfl) (fun s H C cl fp => he s H C cl fp (B.blk ..)) ht
  obtain ⟨tl, l1, l2⟩ := hl.ex
  exact ⟨_, pe_lc (own := [(y, i)]) B.calm B.nd (pi_range1 hg hm l1 hs) (blkOk_by hok) hpg e2 e1, se_lcR1 l2 e4 e3⟩
theorem d_lcR1H {p : Addr × Obj} (i : Nat) (B : BdH X p k) (hm : X.mg "range" = none) (hl : DA X pn W [e] l) (ht : ∀ s H C cl fp, DTs (hblk X scope p s H C cl fp) pn w0 ifs t) (he : ∀ s H C cl fp, DE (hblk X scope p s H C cl fp) pn w0 elt a)
    (hok : blkC X.N X.env.scope scope [(y, i)] = true) (hpg : ∀ s H C cl fp, PG (hblk X scope p s H C cl fp) (.Name y p3) (gName i)) (hg : Gl X "range" := by rfl) (hs : starEach [e] X.env = [(false, eval e X.env)] := by rfl) :
    DE X pn W (.ListComp elt [⟨.Name y p3, .Call (.Name "range" p1) [e] [] p2, ifs, 0⟩] scope pos) (aLc (rR1 l) i t a) := by
  obtain ⟨te, tt, e1, e2, e3, e4⟩ := lc_parts (X := X) (hblk X scope p) (fun _ _ _ _ _ => rfl) he ht
  obtain ⟨tl, l1, l2⟩ := hl.ex
  exact ⟨_, pe_lcP (own := [(y, i)]) B.hot B.mem B.nd (pi_range1H hg hm l1 hs) (blkOk_by hok) hpg e2 e1, se_lcR1 l2 e4 e3⟩
end

/-! ### the error that is handled: isinstance, attributes -/
/-- an error's dict as it stands, or none -/
def XdH (H : Hp) (dd : Option Addr) (fvs : List (Str × V)) : Prop := (∃ d, dd = some d ∧ H d = some (.xd fvs)) ∨ dd = none
theorem XdAt.h {θ : List Addr} {H : Hp} {dd : Option Addr} {fvs : List (Str × V)} (h : XdAt θ H dd fvs) : XdH H dd fvs := by
  rcases h with ⟨d, e, h, _⟩ | ⟨e, _⟩
  · exact .inl ⟨d, e, h⟩
  · exact .inr e
theorem inst_of {X : Cx} {pins : List (Addr × Obj)} {s : Shared} {σ : L2.St} {H : Hp} {a D : Addr} {oe : Obj} {dd : Option Addr} {fvs : List (Str × V)} (I : Inv X pins σ H s) (hget : s.heap.get? a = some oe) (hz : L2N.Zn (.ref D) dd oe) (hf : ∃ fv, oe.data = .fields fv) (hd : XdH H dd fvs) : ∃ od, PySem.W.InstAt s.heap a oe D od := by
  obtain ⟨fv, hfv⟩ := hf
  rcases hd with ⟨d, rfl, hd⟩ | rfl
  · obtain ⟨mA, hns, hr⟩ := (show ObjOk X.prog X.w H s.heap d (.xd fvs) from I.hok d _ hd)
    obtain ⟨od, ho, _⟩ := lookIn_ns hns
    exact ⟨some od, hget, hz.1, by unfold PySem.W.notCls; rw [hfv] <;> rfl, by rw [hz.2.1]; exact ho⟩
  · exact ⟨none, hget, hz.1, by unfold PySem.W.notCls; rw [hfv] <;> rfl, by rw [hz.2.1]; trivial⟩
def fIsE (K : PySem.W.Frag) : FL := fun xs μ Q => match xs with
  | [.err D _, .v c] => ∃ (cv : Value) (b : Bool), ClsV c cv ∧ PySem.W.kitOne K (.ref D) cv = some b ∧ PySem.W.ErrK K D ∧ Q (.v (.bl b)) μ
  | _ => fIsi xs μ Q
end DK
namespace PySem.W
theorem ErrK.kitA {K : Frag} {x D : Addr} {ox : Obj} (k : ErrK K D) : ∀ {od : Option Obj}, KitX K (.ref x) (.ref D) (fun h => InstAt h x ox D od)
  | some _ => k.kit
  | none => handS_kitx_exc k.ga k.gg k.ex k.hd k.cl k.sg k.tk k.ob
end PySem.W
namespace DK
open PySem PySem.Spec PyProof.Rows L2 L2H
section
variable {X : Cx} {pn : List (Addr × Obj)} {W : WX} {e : Expr} {a : AE} {pos : Pos} {n : Str}
theorem c_isE {K : PySem.W.Frag} (hK : X.K = K) (hpn : ∀ r ∈ pn, r ∈ X.pn) : DCl X pn (.builtin "isinstance") (fIsE K) := by
  subst hK
  refine ⟨fun xs H Q => (∃ (a D : Addr) (d : Option Addr) (oe : Obj) (fvs : List (Str × V)) (c : V) (cv : Value) (b : Bool), xs = [.ref a, c] ∧ (a, oe) ∈ X.pn ∧ L2N.Zn (.ref D) d oe ∧ (∃ fv, oe.data = .fields fv) ∧ XdH H d fvs ∧ ClsV c cv ∧ PySem.W.kitOne X.K (.ref D) cv = some b ∧ PySem.W.ErrK X.K D ∧ Q (.bl b) H) ∨
    (rIsi X.K xs H Q ∨ rIsiT X.K xs H Q ∨ rIsiK X.K xs H Q), CallR.or (fun pins s σ H xs us Q I r h => ?_) (CallR.or call_isi (CallR.or call_isiT call_isiK)), ⟨fun w xs ds k hx QA h Q hq => ?_⟩⟩
  · obtain ⟨a, D, d, oe, fvs, c, cv, b, rfl, hp, hz, hf, hd, hc, hk, hE, q⟩ := h
    cases r with
    | cons rx rr =>
      cases rr with
      | cons rt rr =>
        cases rr
        cases rx
        obtain rfl := hc.eq rt
        obtain ⟨hget, _⟩ := I.pin (a, oe) (List.mem_append_left _ hp)
        obtain ⟨od, J⟩ := inst_of I hget hz hf hd
        exact PySem.W.kia_one hE.kitA I.kIn J hk (fun z => nomatch z) fun tk => ⟨.bl b, H, I.tok tk, rfl, q⟩
  · unfold fIsE at h
    split at h
    · obtain ⟨cv, b, hc, hk, hE, h⟩ := h
      cases hx with
      | cons h1 h2 =>
        cases h2 with
        | cons h3 h4 =>
          cases h4
          obtain rfl := h3.v_inv
          cases h1 with
          | err hp hz hd hx hl => exact .inl ⟨_, _, _, _, _, _, cv, b, rfl, hpn _ hp, hz, hd, hx.h, hc, hk, hE, (hq _ _ h).same k .v⟩
    · exact .inr (sc_isi.run w xs ds k hx QA h Q hq)
/-- err.n -/
def fFld (n : Str) : F1 := fun x μ Q => match x with
  | .err _ fs => (match fs.lookup n with | some d => Q d μ | none => False)
  | _ => False
def aFldE (K : PySem.W.Frag) (n : Str) (a : AE) : AE := fun ρ μ Q X => a ρ μ (fun x μ1 => (∃ C fs, x = .err C fs ∧ XfC K C ∧ PySem.W.findIn K (.ref C) n = some none) ∧ fFld n x μ1 Q) X
theorem Denf.look {K : PySem.W.Frag} {θ : List Addr} {H : Hp} : ∀ {fvs : List (Str × V)} {fs : List (Str × D)} {d : D}, Denf K pn θ H fvs fs → fs.lookup n = some d → ∃ v, fvs.lookup n = some v ∧ Den K pn θ H v d
  | _, _, d, .cons (f := f) h t, e => by
    by_cases q : n = f
    · subst q
      rw [List.lookup_cons_self] at e
      cases e
      exact ⟨_, List.lookup_cons_self, h⟩
    · have qb : (n == f) = false := by simpa using q
      simp only [List.lookup_cons, qb] at e ⊢
      exact Denf.look t e
theorem d_fldE {K : PySem.W.Frag} (hK : X.K = K) (hpn : ∀ r ∈ pn, r ∈ X.pn) (h : DE X pn W e a) (hb : attributeBase e n X.env (eval e X.env) = eval e X.env := by rfl) : DE X pn W (.Attribute e n pos) (aFldE K n a) := by
  subst hK
  obtain ⟨t, h1, h2⟩ := h.ex
  refine ⟨fun σ H Q => t σ H fun x H1 => ∃ (a C d : Addr) (oe : Obj) (fvs : List (Str × V)) (v : V), x = .ref a ∧ (a, oe) ∈ X.pn ∧ L2N.Zn (.ref C) (some d) oe ∧ (∃ fv, oe.data = .fields fv) ∧ H1 d = some (.xd fvs) ∧ XfC X.K C ∧ PySem.W.findIn X.K (.ref C) n = some none ∧ fvs.lookup n = some v ∧ Q v H1,
    ⟨fun pins s σ H Q I h => ?_⟩, ⟨fun w σ ρ k e QA XA h Q hq hx => ?_⟩⟩
  · refine attr_of hb (thn (h1.run pins s σ H _ I h) fun u s1 hh => ?_)
    obtain ⟨x, H1, I1, rx, a, C, d, oe, fvs, v, rfl, hp, hz, hf, ea, hX, hno, l, q⟩ := hh
    obtain rfl : u = Value.ref a := rx
    obtain ⟨ha, _⟩ := I1.pin (a, oe) (List.mem_append_left _ hp)
    obtain ⟨vs, hd⟩ := hf
    obtain ⟨mA, hns, hr⟩ := (show ObjOk X.prog X.w H1 s1.heap d (.xd fvs) from I1.hok d _ ea)
    obtain ⟨od, ho, hl⟩ := lookIn_ns hns
    obtain ⟨u, hu, ru⟩ := RelO.some_of (v := v) (o := mA n) (by rw [← l]; exact hr n)
    have J : PySem.W.InstAt s1.heap a oe C (some od) := ⟨ha, hz.1, by unfold PySem.W.notCls; rw [hd] <;> rfl, by rw [hz.2.1]; exact ho⟩
    exact HandSPX.exc_get I1.kIn J hX.ga hX.gg hX.exC (PySem.W.findObj_own hX.hdC hno rfl (by rw [hl, hu])) (handed_of ru) ⟨v, H1, I1.tok _, ru, q⟩
  · refine h2.run w σ ρ k e _ XA h _ (fun dx μ1 hd x w1 em l1 k1 dn => ?_) hx
    subst em
    obtain ⟨⟨C, fs, rfl, hX, hno⟩, hd⟩ := hd
    have hd : (match fs.lookup n with | some d => QA d w1.μ | none => False) := hd
    split at hd
    · rename_i d el
      cases dn with
      | err hp hz hf hx' hl =>
        obtain ⟨v, ev, dv⟩ := hl.look el
        rcases hx' with ⟨dx, rfl, hx', _⟩ | ⟨_, rfl⟩
        · exact ⟨_, _, _, _, _, v, rfl, hpn _ hp, hz, hf, hx', hX, hno, ev, ((hq _ _ hd).mono l1).same k1 dv⟩
        · cases ev
    · exact hd.elim
/-- {} -/
theorem d_dict0 : DE X pn W (.Dict [] [] pos) (aV (.dic [])) := ⟨_, pe_dnewK, ⟨fun w σ ρ k e QA XA h Q hq hx p hp => (hq _ _ h).new k hp fun l n => .dic upd_same n⟩⟩
end
end DK
set_option Elab.async false
set_option linter.all false
set_option maxRecDepth 100000
set_option maxHeartbeats 4000000
namespace DK
open PySem PySem.Spec PyProof.Rows L2 L2H

/-! ### calls by keywords alone -/
structure DK1 (X : Cx) (pn : List (Addr × Obj)) (W : WX) (kws : List Keyword) (a : AA) : Prop where
  ex : ∃ t, PK X kws t ∧ SA X.K pn W t a
def aCallK (F : FD) (n : Nat) (g : List D → List D) (l : AA) : AE := fun ρ μ Q X => l ρ μ (fun ds μ1 => (g ds).length = n ∧ F (g ds) μ1 Q X) X
section
variable {X : Cx} {pn : List (Addr × Obj)} {W : WX} {k k' : Nat} {f : Addr} {fd : FuncData} {ps ks : List Str} {F : FD} {x : Str} {e : Expr} {kws : List Keyword} {a : AE} {l : AA} {p pos kpos : Pos} {nm : Option Str}
theorem dk_nil : DK1 X pn W [] aNil := ⟨_, pk_nil, sa_nil⟩
theorem dk_cons (ha : DE X pn W e a) (hl : DK1 X pn W kws l) : DK1 X pn W (⟨nm, e, kpos⟩ :: kws) (aCons a l) := by
  obtain ⟨ta, a1, a2⟩ := ha.ex
  obtain ⟨tl, l1, l2⟩ := hl.ex
  exact ⟨_, pk_cons a1 l1, sa_cons a2 l2⟩
/-- values put in another order -/
structure Perm (g : List Value → List Value) (gV : List V → List V) (gD : List D → List D) : Prop where
  val : ∀ {vs us}, Vals vs us → Vals (gV vs) (g us)
  den : ∀ {K pn θ H vs ds}, Dens K pn θ H vs ds → Dens K pn θ H (gV vs) (gD ds)
/-- how such a call binds -/
def KB0 (K : PySem.W.Frag) (fd : FuncData) (ps ks : List Str) (g : List Value → List Value) : Prop := ∀ (s : Shared) (ws : List Value), K.In s.heap → (g ws).length = ps.length → BindsTo s fd ⟨[], ks.zip ws⟩ (ps.zip (g ws))
end
def swap2 {α : Type} : List α → List α | [a, b] => [b, a] | _ => []
/-! ### + of any kind -/
def fAddU : F2 := fun x y μ Q => match x, y with
  | .v (.int i), .v (.int j) => Q (.v (.int (i + j))) μ
  | .v (.str i), .v (.str j) => i.length + j.length ≤ 1000000 ∧ Q (.v (.str (i ++ j))) μ
  | .lst a, .lst b => a.length + b.length ≤ 1000000 ∧ Q (.lst (a ++ b)) μ
  | .tup a, .tup b => a.length + b.length ≤ 1000000 ∧ Q (.tup (a ++ b)) μ
  | _, _ => False
section
variable {X : Cx} {pn : List (Addr × Obj)} {K : PySem.W.Frag}
theorem o_addU : DOp X pn (binaryOp .Add) fAddU := by
  refine ⟨_, OpR.or op_add (OpR.or op_add_str (OpR.or op_cat op_catA)), ⟨fun w x y dx dy k hx hy QA h Q hq => ?_⟩⟩
  unfold fAddU at h
  split at h
  · obtain rfl := hx.v_inv
    obtain rfl := hy.v_inv
    exact .inl ⟨_, _, rfl, rfl, (hq _ _ h).same k .v⟩
  · obtain rfl := hx.v_inv
    obtain rfl := hy.v_inv
    exact .inr (.inl ⟨_, _, rfl, rfl, Nat.le_trans h.1 (by decide), (hq _ _ h.2).same k .v⟩)
  · cases hx with
    | lst ha na sa =>
      cases hy with
      | lst hb nb sb =>
        refine .inr (.inr (.inl ⟨_, _, _, _, rfl, rfl, ha, hb, ?_, fun p hp => (hq _ _ h.2).new k hp fun l n => .lst upd_same n ((sa.append sb).mono l)⟩))
        rw [sa.len, sb.len]
        exact Nat.le_trans h.1 (by decide)
  · cases hx with
    | @tup a vs _ ha sa =>
      cases hy with
      | @tup b us _ hb sb =>
        have qa : SqT X.K w.H a vs := ha.imp (fun z => Rd.of z.1) id
        have qb : SqT X.K w.H b us := hb.imp (fun z => Rd.of z.1) id
        refine .inr (.inr (.inr ⟨a, b, vs, us, rfl, rfl, qa, qb, ?_, fun e => ?_, fun _ e => ?_, fun _ _ p hp => (hq _ _ h.2).new k hp fun l n => .tup (.inl ⟨upd_same, n⟩) ((sa.append sb).mono l)⟩))
        · rw [sa.len, sb.len]
          exact Nat.le_trans h.1 (by decide)
        · subst e
          cases sa
          exact (hq _ _ h.2).same k (.tup hb sb)
        · subst e
          cases sb
          have z := h.2
          rw [List.append_nil] at z
          exact (hq _ _ z).same k (.tup ha sa)
  · exact h.elim
/-- a call that is never reached -/
def fNo : FL := fun _ _ _ => False
/-- tuple(xs) -/
def fTuple : FL := fun xs μ Q => match xs with
  | [.lst ds] => Q (.tup ds) μ
  | [.rl ds] => Q (.tup ds) μ
  | [.tup ds] => Q (.tup ds) μ
  | _ => False
theorem c_tuple : DCl X pn (.type "tuple") fTuple := by
  refine ⟨_, call_tuple_of, ⟨fun w xs ds k hx QA h Q hq => ?_⟩⟩
  unfold fTuple at h
  split at h
  · cases hx with
    | cons h1 h2 =>
      cases h2
      cases h1 with
      | lst ha na sa => exact ⟨_, _, rfl, .inl ⟨.inl (.inl ha), fun q hp => (hq _ _ h).new k hp fun l n => .tup (.inl ⟨upd_same, n⟩) (sa.mono l)⟩⟩
  · cases hx with
    | cons h1 h2 =>
      cases h2
      cases h1 with
      | rl ha sa => exact ⟨_, _, rfl, .inl ⟨ha.imp (·.1) id, fun q hp => (hq _ _ h).new k hp fun l n => .tup (.inl ⟨upd_same, n⟩) (sa.mono l)⟩⟩
  · cases hx with
    | cons h1 h2 =>
      cases h2
      cases h1 with
      | tup ha sa => exact ⟨_, _, rfl, .inr ⟨ha.imp (fun z => Rd.of z.1) id, (hq _ _ h).same k (.tup ha sa)⟩⟩
  · exact h.elim
end

/-! ### an error's own __init__: its arguments become its fields -/
def tIns (K : PySem.W.Frag) : Nat → List Str → TS
  | _, [] => tNext
  | i, [f] => tOst K f (tVar 0) (tVar i)
  | i, f :: g :: r => tSeq (tOst K f (tVar 0) (tVar i)) (tIns K (i + 1) (g :: r))
theorem ins_old {K : PySem.W.Frag} {C a dx : Addr} (T : OexC K C) (hne : dx ≠ a) {D : L2.Ends} {σ : L2.St} (h0 : σ[0]? = some (some (.ref a))) : ∀ (rest : List Str) (i : Nat) (ws : List V) (fs : List (Str × V)) (H : Hp),
    ws.length = rest.length → (∀ j u, ws[j]? = some u → σ[i + j]? = some (some u)) → (∀ f ∈ rest, PySem.W.findIn K (.ref C) f = some none) → H a = some (exo a C (some dx)) → H dx = some (exd dx fs) → fs.length + rest.length ≤ 900 →
    (∀ H' : Hp, H' a = some (exo a C (some dx)) → H' dx = some (exd dx ((rest.zip ws).reverse ++ fs)) → (∀ b, b ≠ a → b ≠ dx → H' b = H b) → D.nx σ H') → tIns K i rest D σ H
  | [], i, ws, fs, H, _, _, _, ha, hd, _, k => k H ha hd fun _ _ _ => rfl
  | [f], i, [w], fs, H, _, hs, hno, ha, hd, hl, k => by
    refine ⟨w, hs 0 w rfl, .ref a, h0, a, C, rfl, T, hno f List.mem_cons_self, .inr ⟨dx, fs, ha, hd, by simp at hl; omega, ?_⟩⟩
    exact k _ ((upd_ne hne.symm).trans ha) upd_same fun b _ h2 => upd_ne h2
  | f :: g :: r, i, w :: ws, fs, H, hw, hs, hno, ha, hd, hl, k => by
    refine ⟨w, hs 0 w rfl, .ref a, h0, a, C, rfl, T, hno f List.mem_cons_self, .inr ⟨dx, fs, ha, hd, by simp at hl; omega, ?_⟩⟩
    refine ins_old T hne h0 (g :: r) (i + 1) ws ((f, w) :: fs) _ (by simpa using hw) (fun j u e => ?_) (fun f' hf => hno f' (List.mem_cons_of_mem _ hf)) ((upd_ne hne.symm).trans ha) upd_same (by simp at hl ⊢; omega) fun H' e1 e2 e3 => ?_
    · have z := hs (j + 1) u e
      rw [show i + 1 + j = i + (j + 1) by omega]
      exact z
    · refine k H' e1 ?_ fun b h1 h2 => (e3 b h1 h2).trans (upd_ne h2)
      rw [e2]
      simp
theorem init_run {K : PySem.W.Frag} {C : Addr} (T : OexC K C) {f : Str} {r : List Str} (h9 : (f :: r).length ≤ 9) (hno : ∀ g ∈ f :: r, PySem.W.findIn K (.ref C) g = some none) {vs : List V} {H : Hp} {Q : VK} {E : XK} (h : spInit C (f :: r) vs H Q E) :
    tIns K 1 (f :: r) { nx := fun _ H' => Q .non H', rt := Q } (L2.start ("self" :: f :: r) vs) H := by
  obtain ⟨a, us, rfl, hl, ha, k⟩ := h
  have es : L2.start ("self" :: f :: r) (.ref a :: us) = (V.ref a :: us).map some := by
    unfold L2.start
    simp [hl]
  rw [es]
  match us, hl with
  | u :: us, hl =>
    have first : ∀ (D : L2.Ends), (∀ dx, H dx = none → dx ≠ a → D.nx ((V.ref a :: u :: us).map some) (upd (upd H dx (exd dx [(f, u)])) a (exo a C (some dx)))) → tOst K f (tVar 0) (tVar 1) D ((V.ref a :: u :: us).map some) H := fun D q =>
      ⟨u, rfl, .ref a, rfl, a, C, rfl, T, hno f List.mem_cons_self, .inl ⟨ha, q⟩⟩
    match r, hno, hl, h9, k with
    | [], hno, hl, h9, k =>
      refine first _ fun dx n ne => k _ dx n ne upd_same ?_ fun b h1 h2 => ?_
      · rw [upd_ne ne, upd_same]
        rfl
      · rw [upd_ne h1, upd_ne h2]
    | g :: r, hno, hl, h9, k =>
      refine first _ fun dx n ne => ?_
      refine ins_old T ne rfl (g :: r) 2 us [(f, u)] _ (by simpa using hl) (fun j v e => ?_) (fun f' hf => hno f' (List.mem_cons_of_mem _ hf)) upd_same ((upd_ne ne).trans upd_same) (by simp at h9 ⊢; omega) fun H' e1 e2 e3 => ?_
      · show ((V.ref a :: u :: us).map some)[2 + j]? = _
        rw [show 2 + j = j + 1 + 1 by omega]
        show (us.map some)[j]? = _
        rw [List.getElem?_map, e]
        rfl
      · refine k H' dx n ne e1 ?_ fun b h1 h2 => ?_
        · rw [e2]
          simp
        · rw [e3 b h1 h2, upd_ne h1, upd_ne h2]
/-- the class's facts for that -/
structure InC (K : PySem.W.Frag) (C : Addr) (fs : List Str) : Prop where
  oex : OexC K C
  no : ∀ g ∈ fs, PySem.W.findIn K (.ref C) g = some none
theorem ok_init {P : Program} {w : World} {K : PySem.W.Frag} {mg : Str → Option Value} {base : Heap} {C fI : Addr} {fd : FuncData} {qual f : Str} {r : List Str} {st : Stmt} (Fn : Fun K "__init__" qual st fI fd) (S : FnScope ("self" :: f :: r) ("self" :: f :: r) (defScope st)) (T : InC K C (f :: r)) (h9 : (f :: r).length ≤ 9)
    (hb : ∀ (cdv : Value) (A : Around) (outer : List Env) (s : Shared) (H : Hp) (E : XK), PSs (cxOf CX0 P w K mg base ("self" :: f :: r) qual (defScope st) fI cdv A outer s H E).nox (defBody st) (tIns K 1 (f :: r))) :
    FnOk P w K mg base CX0 1 fI fd ("self" :: f :: r) (spInit C (f :: r)) := by
  refine Fn.ok S (fun vs H Q E h => ?_) (fun cdv A outer s H vs Q E hr h => ⟨_, hb cdv A outer s H E, init_run T.oex h9 T.no h⟩)
  obtain ⟨a, us, rfl, hl, _⟩ := h
  simp [hl]

/-! ### the suite of an except, its context -/
theorem bd_suite {X : Cx} {W : WX} {k : Nat} (B : Bd X W k) {a : Addr} {oe : Obj} {cls : Value} {d : Option Addr} {pn : List (Addr × Obj)} (z : L2N.Zn cls d oe) (hf : ∃ vs, oe.data = .fields vs) : BdH (X.suite a ((a, oe) :: pn)) (a, oe) k := by
  obtain ⟨vs, hv⟩ := hf
  refine ⟨⟨rfl, vs, hv, z.2.2 vs hv⟩, List.mem_cons_self, ⟨B.room.dp, B.room.un⟩, B.nd⟩

theorem fnD_no {P : Program} {w : World} {K : PySem.W.Frag} {mg : Str → Option Value} {base : Heap} {k : Nat} {f : Addr} {fd : FuncData} {ps : List Str} {F : FD} (h : ∀ ds μ Q X, ¬ F ds μ Q X) : FnD P w K mg base k f fd ps F := by
  refine ⟨fun vs H Q E q => ?_, fun A outer s H args us vs Q E _ _ _ _ q => ?_⟩
  · obtain ⟨_, _, _, _, _, _, _, _, z, _⟩ := q
    exact (h _ _ _ _ z).elim
  · obtain ⟨_, _, _, _, _, _, _, _, z, _⟩ := q
    exact (h _ _ _ _ z).elim
def meth (st : Stmt) (j : Nat) : Stmt := match st with
  | .ClassDef _ _ _ b _ _ _ _ _ _ _ => b.getD j (.Pass ⟨0, 0, 0, 0⟩)
  | s => s

/-! ### classes asked by isinstance and except -/
theorem kit_ref {K : PySem.W.Frag} {D C : Addr} {b : Bool} (hs : PySem.W.subIn K (.ref D) (.ref D) = some true) (hb : PySem.W.subIn K (.ref D) (.ref C) = some b) (h1 : PySem.W.isClsIn K C = true) (h2 : PySem.W.typeIn K (.ref C) = some (.type "type")) : PySem.W.kitOne K (.ref D) (.ref C) = some b := by
  have k : PySem.W.kitCls K (.ref D) (.ref C) = some b := by
    have e2 : ((PySem.W.clsIn K C).isSome && PySem.W.typeIn K (.ref C) == some (.type "type")) = true := by
      have h1' : (PySem.W.clsIn K C).isSome = true := h1
      rw [h1', h2]
      rfl
    show (if ((PySem.W.clsIn K C).isSome && PySem.W.typeIn K (.ref C) == some (.type "type")) = true then PySem.W.subIn K (.ref D) (.ref C) else none) = some b
    rw [if_pos e2]
    exact hb
  unfold PySem.W.kitOne
  by_cases q : (Value.ref D == Value.ref C) = true
  · rw [if_pos q]
    have e : D = C := Value.ref.inj (beq_iff_eq.mp q)
    subst e
    rw [← hb, hs]
  · rw [if_neg q]
    exact k
theorem exm_ref {K : PySem.W.Frag} {D C : Addr} {b : Bool} (hx : PySem.W.subIn K (.ref C) (.type "BaseException") = some true) (hb : PySem.W.subIn K (.ref D) (.ref C) = some b) (h1 : PySem.W.isClsIn K C = true) (h2 : PySem.W.typeIn K (.ref C) = some (.type "type")) : PySem.W.exmOne K (.ref D) (.ref C) = some b := by
  have e1 : (PySem.W.subIn K (.ref C) (.type "BaseException") == some true) = true := by rw [hx]; rfl
  have e2 : ((PySem.W.clsIn K C).isSome && PySem.W.typeIn K (.ref C) == some (.type "type")) = true := by
    have h1' : (PySem.W.clsIn K C).isSome = true := h1
    rw [h1', h2]
    rfl
  show (if (PySem.W.subIn K (.ref C) (.type "BaseException") == some true) = true then (if ((PySem.W.clsIn K C).isSome && PySem.W.typeIn K (.ref C) == some (.type "type")) = true then PySem.W.subIn K (.ref D) (.ref C) else none) else none) = some b
  rw [if_pos e1, if_pos e2]
  exact hb
theorem kit_ve {K : PySem.W.Frag} {D : Addr} (hb : PySem.W.subIn K (.ref D) (.type "ValueError") = some true) : PySem.W.kitOne K (.ref D) (.type "ValueError") = some true := by
  have q : (Value.ref D == Value.type "ValueError") = false := by rfl
  have e : PySem.W.kitOne K (.ref D) (.type "ValueError") = PySem.W.subIn K (.ref D) (.type "ValueError") := by
    unfold PySem.W.kitOne
    rw [q]
    rfl
  rw [e]
  exact hb
end DK
set_option Elab.async false
set_option linter.all false
set_option maxRecDepth 100000
set_option maxHeartbeats 4000000
namespace DK
open PySem PySem.Spec PyProof.Rows L2 L2H

/-! ### list comprehensions whose elements change cells (draws) -/
def lbC (n : Nat) : Cell → Bool
  | .lst ds => lbs n ds
  | .ins _ fs => lbs n (fs.map (·.2))
def aTurnW (i : Nat) (t : AT) (e : AE) (ρ : Rho) (acc : List D) (μ : Sto) (x : D) (N : List D → Sto → Prop) : Prop :=
  t (ρ.set i (some x)) (μ ++ [.lst acc]) (fun b μ1 => μ1 = μ ++ [.lst acc] ∧ bIf b (e (ρ.set i (some x)) (μ ++ [.lst acc]) (fun d μ2 => ∃ m', (μ2 = m' ++ [.lst acc] ∧ m'.length = μ.length) ∧ (∀ c ∈ m', lbC μ.length c = true) ∧ (noErr d = true ∧ lb μ.length d = true) ∧ N (acc ++ [d]) m') (fun _ _ => False)) (N acc μ)) (fun _ _ => False)
def aLcW (src : ASrc) (i : Nat) (t : AT) (e : AE) : AE := fun ρ μ Q X => src ρ μ (fun xs μ1 => (xs.length ≤ 500000 ∧ ∀ c ∈ μ1, lbC μ1.length c = true) ∧ ∃ I : Nat → List D → Sto → Prop, I 0 [] μ1 ∧ (∀ n acc x m, xs[n]? = some x → m.length = μ1.length → I n acc m → aTurnW i t e (wipeD ρ i) acc m x (I (n + 1))) ∧ ∀ acc m, I xs.length acc m → Q (.lst acc) m) X
def aGoW (i : Nat) (t : AT) (e : AE) (ρ : Rho) : Sto → List D → List D → (List D → Sto → Prop) → Prop
  | μ, [], acc, Q => Q acc μ
  | μ, x :: xs, acc, Q => aTurnW i t e ρ acc μ x fun acc' μ' => aGoW i t e ρ μ' xs acc' Q
section
variable {K : PySem.W.Frag} {pn : List (Addr × Obj)} {W : WX} {tl : TA} {l : AA} {tt : TT} {t : AT} {te tx : TE} {e x : AE} {i : Nat}
/-- the last cell let go, the others as they stand now -/
theorem Ok.dropW {w w' : Wd} {p : Addr} {ds : List D} {m : Sto} (k : Ok K w) (k' : Ok K w') (l : WLe w w') (hθ : w'.θ = w.θ ++ [p]) (hμ : w'.μ = m ++ [.lst ds]) (hm : m.length = w.θ.length) (hb : ∀ c ∈ m, lbC w.θ.length c = true) :
    WLe w ⟨w.θ, w'.H, m⟩ ∧ Ok K ⟨w.θ, w'.H, m⟩ := by
  have l2 : Le w.θ w.H w.θ w'.H := ⟨l.keep, ⟨[], by simp, fun _ z => (List.not_mem_nil z).elim⟩, fun q hq => l.trk q (l.sub hq)⟩
  refine ⟨l2, ⟨k.nd, hm.symm, fun i q c h1 h2 => ?_⟩⟩
  have z' := k'.cell i q c (l.get h1) (by rw [hμ, List.getElem?_append_left (List.getElem?_eq_some_iff.mp h2).1]; exact h2)
  have hc := hb c (List.mem_of_getElem? h2)
  rw [hθ] at z'
  cases c with
  | lst es =>
    obtain ⟨vs', a', b'⟩ := z'
    exact ⟨vs', a', b'.cut hc b'.noErr0⟩
  | ins C fs =>
    obtain ⟨dx', vs', a', b'⟩ := z'
    exact ⟨dx', vs', a', b'.cut hc b'.noErr0⟩
def LcW (K : PySem.W.Frag) (pn : List (Addr × Obj)) (w : Wd) (p : Addr) (I : Nat → List D → Sto → Prop) (n : Nat) (H : Hp) : Prop :=
  ∃ (w' : Wd) (acc : List D) (m : Sto), w'.H = H ∧ WLe w w' ∧ Ok K w' ∧ w'.θ = w.θ ++ [p] ∧ (w'.μ = m ++ [.lst acc] ∧ m.length = w.μ.length ∧ ∀ c ∈ m, lbC w.θ.length c = true) ∧ acc.length ≤ n ∧ noErrs acc = true ∧ lbs w.θ.length acc = true ∧ I n acc m
theorem lcW_turn {w : Wd} {σ : L2.St} {ρ : Rho} {p : Addr} {I : Nat → List D → Sto → Prop} {n : Nat} {H : Hp} {xv : V} {xd : D} (hk : w.θ.length = w.μ.length) (er : EnvR K pn w σ ρ) (ht : ST K pn w0 tt t) (he : SE K pn w0 te e) (hn : n < 500000)
    (q : LcW K pn w p I n H) (hx : ∀ w', WLe w w' → Den K pn w'.θ w'.H xv xd) (hs : ∀ acc m, m.length = w.μ.length → I n acc m → aTurnW i t e (wipeD ρ i) acc m xd (I (n + 1))) :
    gName i xv (wipe σ [i]) H fun σ2 H2 => wipe σ2 [i] = wipe σ [i] ∧ tt σ2 H2 fun b H3 => if b = true then te σ2 H3 fun y H4 => ∃ acc, H4 p = some (.lst acc) ∧ acc.length < sizeLine ∧ LcW K pn w p I (n + 1) (upd H4 p (.lst (acc ++ [y]))) else LcW K pn w p I (n + 1) H3 := by
  obtain ⟨w1, acc, m, rfl, l1, k1, hθ, ⟨hμ, hml, hmb⟩, hal, hne, hlb, hI⟩ := q
  refine ⟨wipe_set, ?_⟩
  have h := hs acc m hml hI
  have e1 : EnvR K pn w1 ((wipe σ [i]).set i (some xv)) ((wipeD ρ i).set i (some xd)) := ((er.mono l1).wipe (i := i)).set (hx w1 l1)
  unfold aTurnW at h
  rw [← hμ] at h
  refine ht.run w1 _ _ k1 e1 _ _ h _ (fun b μ' hb w2 em l2 k2 => ?_) fun _ _ z => z.elim
  subst em
  obtain ⟨em, hb⟩ := hb
  have same : ∀ {w3 : Wd}, WLe w1 w3 → w3.μ.length = w1.μ.length → Ok K w3 → w3.θ = w.θ ++ [p] := fun {w3} l3 e3 k3 => by
    obtain ⟨ex, hex, _⟩ := l3.ext
    have a := k3.len
    rw [e3, hex, List.length_append, k1.len] at a
    have hx0 : ex = [] := List.length_eq_zero_iff.mp (by omega)
    rw [hex, hx0, List.append_nil, hθ]
  cases b with
  | false => exact ⟨w2, acc, m, rfl, l1.trans l2, k2, same l2 (by rw [em]) k2, ⟨by rw [em, hμ], hml, hmb⟩, by omega, hne, hlb, hb.2 rfl⟩
  | true =>
    have hb' := hb.1 rfl
    rw [← em] at hb'
    refine he.run w2 _ _ k2 (e1.mono l2) _ _ hb' _ (fun d μ' hd y w3 em3 l3 k3 dn => ?_) fun _ _ z => z.elim
    subst em3
    obtain ⟨m', ⟨em3, ml'⟩, mb', ⟨hd1, hd2⟩, hd⟩ := hd
    have t3 := same (l2.trans l3) (by rw [em3, hμ, List.length_append, List.length_append, ml']) k3
    have hj3 : w3.θ[w.θ.length]? = some p := by
      rw [t3, List.getElem?_append_right (Nat.le_refl _), Nat.sub_self]
      rfl
    have hjm : m'.length = w.θ.length := by omega
    have hm3 : w3.μ[w.θ.length]? = some (.lst acc) := by
      rw [em3, ← hjm, List.getElem?_append_right (Nat.le_refl _), Nat.sub_self]
      rfl
    obtain ⟨us, hu, hus⟩ := k3.cell _ _ _ hj3 hm3
    obtain ⟨l4, k4⟩ := k3.writeL hj3 (hus.append (.cons (dn.un hd1) .nil))
    refine ⟨us, hu, ?_, ?_⟩
    · rw [hus.len]
      exact Nat.lt_of_le_of_lt hal (Nat.lt_trans hn (by decide))
    · refine ⟨⟨w3.θ, upd w3.H p (.lst (us ++ [y])), w3.μ.set w.θ.length (.lst (acc ++ [d]))⟩, acc ++ [d], m', rfl, ((l1.trans l2).trans l3).trans l4, k4, t3, ⟨?_, by omega, fun c hc => ?_⟩, ?_, ?_, ?_, hd⟩
      · show w3.μ.set w.θ.length (.lst (acc ++ [d])) = m' ++ [.lst (acc ++ [d])]
        rw [em3, ← hjm, List.set_append_right _ _ (Nat.le_refl _), Nat.sub_self]
        rfl
      · have z := mb' c hc
        rw [hml, ← hk] at z
        exact z
      · rw [List.length_append, List.length_singleton]
        omega
      · rw [noErrs_app, hne]
        show (true && (noErr d && true)) = true
        rw [hd1]
        rfl
      · rw [lbs_app, hlb]
        show (true && (lb _ d && true)) = true
        rw [hk, ← hml, hd2]
        rfl
theorem lcW_start {w : Wd} {p : Addr} {I : Nat → List D → Sto → Prop} (k : Ok K w) (hp : w.H p = none) (hb : ∀ c ∈ w.μ, lbC w.μ.length c = true) (h : I 0 [] w.μ) : LcW K pn w p I 0 (upd w.H p (.lst [])) := by
  obtain ⟨l2, k2⟩ := k.cellL hp (.nil (K := K))
  exact ⟨⟨w.θ ++ [p], upd w.H p (.lst []), w.μ ++ [.lst []]⟩, [], w.μ, rfl, l2, k2, rfl, ⟨rfl, rfl, fun c hc => by rw [k.len]; exact hb c hc⟩, Nat.le_refl _, rfl, rfl, h⟩
theorem lcW_end {w : Wd} {p : Addr} {I : Nat → List D → Sto → Prop} {n : Nat} {H : Hp} {Q : VK} {QA : QD} (k : Ok K w) (hp : w.H p = none) (q : LcW K pn w p I n H) (hI : ∀ acc m, I n acc m → QA (.lst acc) m) (hq : ∀ d μ', QA d μ' → PQ K pn w Q d μ') : Q (.ref p) H := by
  obtain ⟨w1, acc, m, rfl, l1, k1, hθ, ⟨hμ, hml, hmb⟩, hal, hne, hlb, hi⟩ := q
  have hlen := k.len
  obtain ⟨l2, k2⟩ := k.dropW k1 l1 hθ hμ (by omega) hmb
  obtain ⟨us, hu, hus⟩ := k1.cell w.θ.length p (.lst acc) (by rw [hθ, List.getElem?_append_right (Nat.le_refl _), Nat.sub_self]; rfl) (by rw [hμ, hlen, ← hml, List.getElem?_append_right (Nat.le_refl _), Nat.sub_self]; rfl)
  rw [hθ] at hus
  have np : p ∉ w.θ := fun hm => by
    obtain ⟨o, ho⟩ := k.trk p hm
    rw [hp] at ho
    cases ho
  exact hq _ _ (hI acc m hi) (.ref p) ⟨w.θ, w1.H, m⟩ rfl l2 k2 (.lst hu np ((hus.cut hlb hne).sub fun _ z => (List.not_mem_nil z).elim))
theorem seW_lcR1 (hl : SA K pn W tl l) (ht : ST K pn w0 tt t) (he : SE K pn w0 te e) : SE K pn W (tLc (iRng1 tl) (gName i) tt te [i]) (aLcW (rR1 l) i t e) := ⟨fun w σ ρ k er QA XA h Q hq hx =>
  hl.run w σ ρ k er _ XA h _ (fun ds μ1 h1 vs w1 em l1 k1 dn => by
    subst em
    split at h1
    · rename_i n
      cases dn with
      | cons d1 d2 =>
        cases d2
        obtain rfl := d1.v_inv
        obtain ⟨hb, ⟨hlen, hcb⟩, I, i0, hs, hn⟩ := h1
        rw [List.length_map, List.length_range] at hlen hn
        refine ⟨n, rfl, hb.1, hb.2, fun p hp => lc_range (LcW K pn w1 p I) (lcW_start k1 hp hcb i0) (fun m H hm q => ?_) (fun H q => lcW_end k1 hp q hn fun d μ' z => (hq d μ' z).mono l1)⟩
        have e0 : (0 : Int) + (m : Int) = (m : Int) := Int.zero_add _
        rw [e0]
        exact lcW_turn k1.len (er.mono l1) ht he (Nat.lt_of_lt_of_le hm hlen) q (fun _ _ => .v) (fun acc m2 e2 z => hs m acc _ m2 (by rw [List.getElem?_map, List.getElem?_range hm]; rfl) e2 z)
    · exact h1.elim) hx⟩
end
/-! with the syntax -/
section
variable {X : Cx} {pn : List (Addr × Obj)} {W : WX} {k : Nat} {e elt : Expr} {ifs : List Expr} {scope : Scope} {l : AA} {t : AT} {a x : AE} {pos p1 p2 p3 : Pos} {y : Str}
theorem d_lcR1W (i : Nat) (B : Bd X W k) (hm : X.mg "range" = none) (hl : DA X pn W [e] l) (ht : ∀ s H C cl fp, DTs (nblk X scope s H C cl fp) pn w0 ifs t) (he : ∀ s H C cl fp, Bd (nblk X scope s H C cl fp) w0 k → DE (nblk X scope s H C cl fp) pn w0 elt a)
    (hok : blkC X.N X.env.scope scope [(y, i)] = true) (hpg : ∀ s H C cl fp, PG (nblk X scope s H C cl fp) (.Name y p3) (gName i)) (hg : Gl X "range" := by rfl) (hs : starEach [e] X.env = [(false, eval e X.env)] := by rfl) :
    DE X pn W (.ListComp elt [⟨.Name y p3, .Call (.Name "range" p1) [e] [] p2, ifs, 0⟩] scope pos) (aLcW (rR1 l) i t a) := by
  obtain ⟨te, tt, e1, e2, e3, e4⟩ := lc_parts (X := X) (nblk X scope) (fun _ _ _ _ _ => rfl) (fun s H C cl fp => he s H C cl fp (B.blk ..)) ht
  obtain ⟨tl, l1, l2⟩ := hl.ex
  exact ⟨_, pe_lc (own := [(y, i)]) B.calm B.nd (pi_range1 hg hm l1 hs) (blkOk_by hok) hpg e2 e1, seW_lcR1 l2 e4 e3⟩
end
/-! ### a changed list: xs.append(e), [e] * n as a new cell, items of a module's tuple -/
def appIt (x d : D) (μ : Sto) (Q : Sto → Prop) : Prop := match x with
  | .loc k => (match μ[k]? with | some (.lst ds) => ds.length ≤ 1000000 ∧ Q (μ.set k (.lst (ds ++ [d]))) | _ => False)
  | _ => False
def isL (x : D) (μ : Sto) : Bool := match x with | .loc k => (match μ[k]? with | some (.lst _) => true | _ => false) | _ => false
def aApp (o e : AE) : AE := fun ρ μ Q X => o ρ μ (fun x μ1 => isL x μ1 = true ∧ e ρ μ1 (fun d μ2 => appIt x d μ2 fun μ3 => Q (.v .non) μ3) X) X
section
variable {X : Cx} {W : WX} {o e : Expr} {a b : AE} {apos pos : Pos}
end

theorem Dens.rep {K : PySem.W.Frag} {pn : List (Addr × Obj)} {θ : List Addr} {H : Hp} {vs : List V} {ds : List D} (h : Dens K pn θ H vs ds) : ∀ n : Nat, Dens K pn θ H (List.replicate n vs).flatten (List.replicate n ds).flatten
  | 0 => .nil
  | n + 1 => by
    rw [List.replicate_succ, List.replicate_succ, List.flatten_cons, List.flatten_cons]
    exact h.append (Dens.rep h n)
/-- xs * n: data, or a new cell -/
def fRep : F2 := fun x y μ Q => match x, y with
  | .lst ds, .v (.int n) => (-(2 ^ 63) ≤ n ∧ n < 2 ^ 63) ∧ ds.length * n.toNat ≤ 1000000 ∧ Q (.lst (List.replicate n.toNat ds).flatten) μ
  | _, _ => False
def fRepM : F2 := fun x y μ Q => match x, y with
  | .lst ds, .v (.int n) => (-(2 ^ 63) ≤ n ∧ n < 2 ^ 63) ∧ ds.length * n.toNat ≤ 1000000 ∧ Q (.loc μ.length) (μ ++ [.lst (List.replicate n.toNat ds).flatten])
  | _, _ => False
section
variable {X : Cx} {pn : List (Addr × Obj)}
theorem o_rep : DOp X pn (binaryOp .Mult) fRep := by
  refine ⟨_, op_rep, ⟨fun w x y dx dy k hx hy QA h Q hq => ?_⟩⟩
  unfold fRep at h
  split at h
  · obtain rfl := hy.v_inv
    cases hx with
    | lst ha na sa =>
      refine ⟨_, _, _, rfl, rfl, ha, h.1.1, h.1.2, ?_, fun p hp => (hq _ _ h.2.2).new k hp fun l n => .lst upd_same n ((sa.rep _).mono l)⟩
      rw [sa.len]
      exact Nat.le_trans h.2.1 (by decide)
  · exact h.elim
theorem o_repM : DOp X [] (binaryOp .Mult) fRepM := by
  refine ⟨_, op_rep, ⟨fun w x y dx dy k hx hy QA h Q hq => ?_⟩⟩
  unfold fRepM at h
  split at h
  · obtain rfl := hy.v_inv
    cases hx with
    | lst ha na sa =>
      refine ⟨_, _, _, rfl, rfl, ha, h.1.1, h.1.2, ?_, fun p hp => ?_⟩
      · rw [sa.len]
        exact Nat.le_trans h.2.1 (by decide)
      · obtain ⟨l2, k2⟩ := k.cellL hp (sa.rep _)
        refine hq _ _ h.2.2 (.ref p) ⟨w.θ ++ [p], upd w.H p (.lst _), w.μ ++ [.lst _]⟩ rfl l2 k2 (.loc ?_)
        show (w.θ ++ [p])[w.μ.length]? = some p
        rw [← k.len, List.getElem?_append_right (Nat.le_refl _), Nat.sub_self]
        rfl
  · exact h.elim
end
/-! ### a written tuple of ints, a name of the module -/
/-- calls by one keyword -/
def same1 {α : Type} : List α → List α := fun l => l
end DK
set_option Elab.async false
set_option linter.all false
set_option maxRecDepth 100000
set_option maxHeartbeats 4000000
/-! several targets, slices, `in`, abs, bit_length, count, list(range), more keywords, displays of dicts -/
namespace DK
open PySem PySem.Spec PyProof.Rows L2 L2H

/-! ### a, b = x, y -/
def sPar (i j : Nat) (l : AA) : AS := fun A ρ μ => l ρ μ (fun ds μ1 => match ds with | [a, b] => A.nx ((ρ.set i (some a)).set j (some b)) μ1 | _ => False) (fun x μ1 => A.er x ρ μ1)
def sUnp2 (i j : Nat) (e : AE) : AS := fun A ρ μ => e ρ μ (fun d μ1 => match d with | .tup [a, b] => A.nx ((ρ.set i (some a)).set j (some b)) μ1 | _ => False) (fun x μ1 => A.er x ρ μ1)
section
variable {K : PySem.W.Frag} {pn : List (Addr × Obj)} {W : WX} {tl : TA} {l : AA} {te : TE} {e : AE} {i j : Nat}
end
section
variable {X : Cx} {pn : List (Addr × Obj)} {W : WX} {k : Nat} {e : Expr} {a b : Expr} {ae : AE} {l : AA} {pos px py pt p p2 p3 : Pos} {x y : Str} {kt k2 : Nat} {pt2 : Pos}
end

/-! ### `in` a row of plain values -/
def flatD : D → Bool | .v x => flatV x | _ => false
def vOf : D → V | .v x => x | _ => .non
def fIn (neg : Bool) : F2 := fun x y μ Q => match x, itemsOf y μ with
  | .v a, some ds => (flatV a = true ∧ ds.all flatD = true) ∧ Q (.v (.bl (if neg then !inV a (ds.map vOf) else inV a (ds.map vOf)))) μ
  | _, _ => False
section
variable {K : PySem.W.Frag} {pn : List (Addr × Obj)} {X : Cx}
theorem Dens.flat {θ : List Addr} {H : Hp} : ∀ {vs : List V} {ds : List D}, Dens K pn θ H vs ds → ds.all flatD = true → vs = ds.map vOf ∧ vs.all flatV = true
  | _, _, .nil, _ => ⟨rfl, rfl⟩
  | _, _, .cons (d := d) h t, e => by
    rw [List.all_cons, Bool.and_eq_true] at e
    obtain ⟨e1, e2⟩ := Dens.flat t e.2
    cases d with
    | v y =>
      obtain rfl := h.v_inv
      exact ⟨by rw [List.map_cons, ← e1]; rfl, by rw [List.all_cons, e2, Bool.and_true]; exact e.1⟩
    | _ => cases e.1
/-! ### abs -/
def fAbs : FL := fun xs μ Q => match xs with | [.v (.int i)] => Q (.v (.int (if i < 0 then -i else i))) μ | _ => False
end

/-! ### slices -/
abbrev AO := Rho → Sto → (Option Int → Sto → Prop) → QX → Prop
def aNoPart : AO := fun _ μ Q _ => Q none μ
def aPart (e : AE) : AO := fun ρ μ Q X => e ρ μ (fun d μ1 => match d with | .v (.int i) => Q (some i) μ1 | _ => False) X
def cutD (xs : List D) (lo hi : Option Int) : List D := (xs.drop (HT.sIx xs.length 0 lo)).take (HT.sIx xs.length xs.length hi - HT.sIx xs.length 0 lo)
def fSl (x : D) (lo hi : Option Int) (μ : Sto) (Q : QD) : Prop := match x with
  | .lst ds => Q (.lst (cutD ds lo hi)) μ
  | .rl ds => Q (.lst (cutD ds lo hi)) μ
  | .tup ds => Q (.tup (cutD ds lo hi)) μ
  | .loc k => match μ[k]? with | some (.lst ds) => Q (.lst (cutD ds lo hi)) μ | _ => False
  | _ => False
def aSl (e : AE) (lo hi : AO) : AE := fun ρ μ Q X => e ρ μ (fun x μ1 => lo ρ μ1 (fun l μ2 => hi ρ μ2 (fun h μ3 => fSl x l h μ3 Q) X) X) X
structure SO (K : PySem.W.Frag) (pn : List (Addr × Obj)) (W : WX) (t : TO) (a : AO) : Prop where
  run : ∀ (w : Wd) (σ : L2.St) (ρ : Rho), Ok K w → EnvR K pn w σ ρ → ∀ (QA : Option Int → Sto → Prop) (XA : QX), a ρ w.μ QA XA → ∀ Q : Option Int → Hp → Prop,
    (∀ o μ', QA o μ' → ∀ w' : Wd, w'.μ = μ' → WLe w w' → Ok K w' → Q o w'.H) → (∀ x μ', XA x μ' → PX K pn w (fun c d H => W c d σ H) x μ') → t σ w.H Q
structure DO (X : Cx) (pn : List (Addr × Obj)) (W : WX) (e : Option Expr) (a : AO) : Prop where
  ex : ∃ t, PO X e t ∧ SO X.K pn W t a
section
variable {K : PySem.W.Frag} {pn : List (Addr × Obj)} {X : Cx} {W : WX} {te : TE} {tl th : TO} {e : AE} {lo hi : AO}
theorem Dens.drop {θ : List Addr} {H : Hp} : ∀ {vs : List V} {ds : List D} (n : Nat), Dens K pn θ H vs ds → Dens K pn θ H (vs.drop n) (ds.drop n)
  | _, _, 0, h => h
  | _, _, _ + 1, .nil => .nil
  | _, _, n + 1, .cons _ t => Dens.drop n t
theorem Dens.take {θ : List Addr} {H : Hp} : ∀ {vs : List V} {ds : List D} (n : Nat), Dens K pn θ H vs ds → Dens K pn θ H (vs.take n) (ds.take n)
  | _, _, 0, h => by simp only [List.take_zero]; exact .nil
  | _, _, _ + 1, .nil => .nil
  | _, _, n + 1, .cons a t => .cons a (Dens.take n t)
theorem Dens.slc {θ : List Addr} {H : Hp} {vs : List V} {ds : List D} {lo hi : Option Int} (h : Dens K pn θ H vs ds) : Dens K pn θ H (cutV vs lo hi) (cutD ds lo hi) := by
  unfold cutV cutD
  rw [h.len]
  exact (h.drop _).take _
theorem so_no : SO K pn W tNoPart aNoPart := ⟨fun w σ ρ k e QA XA h Q hq hx => hq _ _ h w rfl k.refl k⟩
theorem so_some (ha : SE K pn W te e) : SO K pn W (tPart te) (aPart e) := ⟨fun w σ ρ k er QA XA h Q hq hx =>
  ha.run w σ ρ k er _ XA h _ (fun dx μ1 h1 x w1 em l1 k1 d1 => by
    split at h1
    · obtain rfl := d1.v_inv
      exact ⟨_, rfl, hq _ _ h1 w1 em l1 k1⟩
    · exact h1.elim) hx⟩
def rSlD (K : PySem.W.Frag) : V → Option Int → Option Int → Hp → VK → Prop := fun x lo hi H Q => rSlL K x lo hi H Q ∨ rSlA K x lo hi H Q
theorem sl_D : SlR X (rSlD X.K) := SlR.or sl_list sl_tupA
theorem cut_whole {xs : List V} {lo hi : Option Int} (h : HT.sIx xs.length 0 lo = 0 ∧ HT.sIx xs.length xs.length hi = xs.length) : cutV xs lo hi = xs := by
  unfold cutV
  rw [h.1, h.2, List.drop_zero, Nat.sub_zero, List.take_length]
theorem fsl_run {w : Wd} {x : V} {d : D} {lo hi : Option Int} {QA : QD} {Q : VK} (k : Ok K w) (hx : Den K pn w.θ w.H x d) (h : fSl d lo hi w.μ QA) (hq : ∀ d μ', QA d μ' → PQ K pn w Q d μ') : rSlD K x lo hi w.H Q := by
  unfold fSl at h
  split at h
  · cases hx with
    | lst ha n hs => exact .inl ⟨_, _, rfl, .inl (.inl ha), fun p hp => (hq _ _ h).new k hp fun l n => .lst upd_same n (hs.slc.mono l)⟩
  · cases hx with
    | rl ha hs => exact .inl ⟨_, _, rfl, ha.imp (·.1) id, fun p hp => (hq _ _ h).new k hp fun l n => .lst upd_same n (hs.slc.mono l)⟩
  · cases hx with
    | tup ha hs =>
      refine .inr ⟨_, _, rfl, ha.imp (fun z => Rd.of z.1) id, fun hw => ?_, fun _ p hp => (hq _ _ h).new k hp fun l n => .tup (.inl ⟨upd_same, n⟩) (hs.slc.mono l)⟩
      have hc := hs.slc (lo := lo) (hi := hi)
      rw [cut_whole hw] at hc
      exact (hq _ _ h).same k (.tup ha hc)
  · split at h
    · rename_i j ds e
      cases hx with
      | loc hp =>
        obtain ⟨vs, a, b⟩ := k.cell _ _ _ hp e
        exact .inl ⟨_, _, rfl, .inl (.inl a), fun p hp => (hq _ _ h).new k hp fun l n => .lst upd_same n (((b.sub fun _ z => (List.not_mem_nil z).elim).slc).mono l)⟩
    · exact h.elim
  · exact h.elim
theorem se_sl (he : SE K pn W te e) (hl : SO K pn W tl lo) (hh : SO K pn W th hi) : SE K pn W (tSl (rSlD K) te tl th) (aSl e lo hi) := ⟨fun w σ ρ k er QA XA h Q hq hx =>
  he.run w σ ρ k er _ XA h _ (fun dx μ1 h1 x w1 em l1 k1 d1 => by
    subst em
    refine hl.run w1 σ ρ k1 (er.mono l1) _ XA h1 _ (fun o μ2 h2 w2 em2 l2 k2 => ?_) (fun x μ' q => (hx x μ' q).mono l1)
    subst em2
    refine hh.run w2 σ ρ k2 ((er.mono l1).mono l2) _ XA h2 _ (fun o2 μ3 h3 w3 em3 l3 k3 => ?_) (fun x μ' q => (hx x μ' q).mono (l1.trans l2))
    subst em3
    exact fsl_run k3 (d1.mono (l2.trans l3)) h3 fun d μ' q => (hq d μ' q).mono ((l1.trans l2).trans l3)) hx⟩
end
section
variable {X : Cx} {pn : List (Addr × Obj)} {W : WX} {e x : Expr} {oe : Option Expr} {a : AE} {lo hi : Option Expr} {al ah : AO} {p2 pos : Pos}
theorem d_no : DO X pn W none aNoPart := ⟨_, po_none, so_no⟩
theorem d_part (h : DE X pn W x a) : DO X pn W (some x) (aPart a) := by
  obtain ⟨_, h, h'⟩ := h.ex
  exact ⟨_, po_some h, so_some h'⟩
theorem d_slice (h : DE X pn W e a) (hl : DO X pn W lo al) (hh : DO X pn W hi ah) : DE X pn W (.Subscript e (.Slice lo hi none p2) pos) (aSl a al ah) := by
  obtain ⟨_, h, h'⟩ := h.ex
  obtain ⟨_, h2, h2'⟩ := hl.ex
  obtain ⟨_, h3, h3'⟩ := hh.ex
  exact ⟨_, pe_slice sl_D h h2 h3, se_sl h' h2' h3'⟩
end
/-! ### xs[::-1] -/
def fRev (x : D) (μ : Sto) (Q : QD) : Prop := match itemsL x μ with | some ds => Q (.lst ds.reverse) μ | none => False
where itemsL (x : D) (μ : Sto) : Option (List D) := match x with
  | .lst ds => some ds
  | .rl ds => some ds
  | .loc k => match μ[k]? with | some (.lst ds) => some ds | _ => none
  | _ => none
def aRev (e : AE) : AE := fun ρ μ Q X => e ρ μ (fun x μ1 => fRev x μ1 Q) X
section
variable {K : PySem.W.Frag} {X : Cx} {pn : List (Addr × Obj)} {W : WX} {e : Expr} {a : AE} {w : Wd}
end
end DK
set_option Elab.async false
set_option linter.all false
set_option maxRecDepth 100000
set_option maxHeartbeats 4000000
/-! bit_length, count, list(range), dicts of one pair, isinstance of an error in a tuple of classes, calls by three keywords -/
namespace DK
open PySem PySem.Spec PyProof.Rows L2 L2H

/-! ### n.bit_length() -/
def aBits (e : AE) : AE := fun ρ μ Q X => e ρ μ (fun d μ1 => match d with | .v (.int i) => Q (.v (.int (Builtin.Int.intBits i : Nat))) μ1 | _ => False) X
section
variable {X : Cx} {pn : List (Addr × Obj)} {W : WX} {k : Nat} {e o : Expr} {a ae : AE} {l : AA} {apos pos p p1 : Pos} {x : Str}
/-! ### xs.count(x) -/
def rCntF (K : PySem.W.Frag) : V → List V → Hp → VK → Prop := fun x xs H Q => ∃ (p : Addr) (ns : List V) (k : V), x = .ref p ∧ xs = [k] ∧ SqL K H p ns ∧ flatV k = true ∧ ns.all flatV = true ∧ Q (.int (ns.countP fun y => eqV y k : Nat)) H
def cntD (x : D) (μ : Sto) (k : D) (Q : QD) : Prop := match fRev.itemsL x μ, k with
  | some ds, .v k => (flatV k = true ∧ ds.all flatD = true) ∧ Q (.v (.int ((ds.map vOf).countP fun y => eqV y k : Nat))) μ
  | _, _ => False
def hasL (x : D) (μ : Sto) : Bool := (fRev.itemsL x μ).isSome
def aCnt (o e : AE) : AE := fun ρ μ Q X => o ρ μ (fun x μ1 => hasL x μ1 = true ∧ e ρ μ1 (fun k μ2 => cntD x μ2 k Q) X) X
/-! ### list(range(..)) -/
def rgD (a b : Int) : List D := (List.range (b - a).toNat).map fun i => D.v (.int (a + (i : Nat)))
def aLsR1 (l : AE) : AE := fun ρ μ Q X => l ρ μ (fun d μ1 => match d with | .v (.int n) => RgOk 0 n ∧ Q (.lst (rgD 0 n)) μ1 | _ => False) X
def aLsR2 (a b : AE) : AE := fun ρ μ Q X => a ρ μ (fun d μ1 => b ρ μ1 (fun c μ2 => match d, c with | .v (.int m), .v (.int n) => RgOk m n ∧ Q (.lst (rgD m n)) μ2 | _, _ => False) X) X
/-! ### {k: v}, both written -/
/-! ### isinstance(err, (C, ..)) -/
inductive ClsL : List D → List Value → Prop
  | nil : ClsL [] []
  | cons {c : V} {u : Value} {cs : List D} {us : List Value} (h : ClsV c u) (t : ClsL cs us) : ClsL (.v c :: cs) (u :: us)
theorem ClsL.vals {K : PySem.W.Frag} {θ : List Addr} {H : Hp} : ∀ {cs : List D} {us : List Value} {vs : List V}, ClsL cs us → Dens K pn θ H vs cs → Paired ClsV vs us
  | _, _, _, .nil, .nil => .nil
  | _, _, _, .cons h t, .cons d r => by
    obtain rfl := d.v_inv
    exact .cons h (ClsL.vals t r)
def fIsF (K : PySem.W.Frag) : FL := fun xs μ Q => match xs with
  | [.err D _, .tup cs] => ∃ (us : List Value) (b : Bool), ClsL cs us ∧ PySem.W.kitAny K (.ref D) us = some b ∧ PySem.W.ErrK K D ∧ Q (.v (.bl b)) μ
  | [.err D _, .v c] => ∃ (cv : Value) (b : Bool), ClsV c cv ∧ PySem.W.kitOne K (.ref D) cv = some b ∧ PySem.W.ErrK K D ∧ Q (.v (.bl b)) μ
  | _ => False
theorem c_isF {K : PySem.W.Frag} (hK : X.K = K) (hpn : ∀ r ∈ pn, r ∈ X.pn) : DCl X pn (.builtin "isinstance") (fIsF K) := by
  subst hK
  obtain ⟨r, c1, c2⟩ := (c_isE (X := X) (pn := pn) rfl hpn).ex
  refine ⟨fun xs H Q => (∃ (a D : Addr) (d : Option Addr) (oe : Obj) (fvs : List (Str × V)) (tp : Addr) (cs : List V) (us : List Value) (b : Bool), xs = [.ref a, .ref tp] ∧ (a, oe) ∈ X.pn ∧ L2N.Zn (.ref D) d oe ∧ (∃ fv, oe.data = .fields fv) ∧ XdH H d fvs ∧ SqT X.K H tp cs ∧ Paired ClsV cs us ∧ PySem.W.kitAny X.K (.ref D) us = some b ∧ PySem.W.ErrK X.K D ∧ Q (.bl b) H) ∨
    r xs H Q, CallR.or (fun pins s σ H xs us Q I r h => ?_) c1, ⟨fun w xs ds k hx QA h Q hq => ?_⟩⟩
  · obtain ⟨a, D, d, oe, fvs, tp, cs, ws, b, rfl, hp, hz, hf, hd, ht, hc, hk, hE, q⟩ := h
    cases r with
    | cons rx rr =>
      cases rr with
      | cons rt rr =>
        cases rr
        cases rx
        cases rt
        obtain ⟨hget, _⟩ := I.pin (a, oe) (List.mem_append_left _ hp)
        obtain ⟨od, J⟩ := inst_of I hget hz hf hd
        obtain ⟨its, rv, ⟨⟨cls, dd, data, sl⟩, h1, h2, n, h3⟩, _⟩ := I.tuple ht
        simp only at h2 h3
        subst h2 h3
        have e3 := ClsV.all hc rv
        subst e3
        exact PySem.W.kia_tup hE.kitA I.kIn J h1 hk (fun z => nomatch z) fun tk => ⟨.bl b, H, I.tok tk, rfl, q⟩
  · unfold fIsF at h
    split at h
    · obtain ⟨us, b, hc, hk, hE, h⟩ := h
      cases hx with
      | cons h1 h2 =>
        cases h2 with
        | cons h3 h4 =>
          cases h4
          cases h1 with
          | err hp hz hd hx hl =>
            cases h3 with
            | tup ht hs => exact .inl ⟨_, _, _, _, _, _, _, us, b, rfl, hpn _ hp, hz, hd, hx.h, ht.imp (fun z => Rd.of z.1) _root_.id, hc.vals hs, hk, hE, (hq _ _ h).same k .v⟩
    · exact .inr (c2.run w xs _ k hx QA h Q hq)
    · exact h.elim
end

/-! ### three keywords, in any order -/
def pm012 {α : Type} : List α → List α | [a, b, c] => [a, b, c] | _ => []
def pm021 {α : Type} : List α → List α | [a, b, c] => [a, c, b] | _ => []
def pm102 {α : Type} : List α → List α | [a, b, c] => [b, a, c] | _ => []
def pm120 {α : Type} : List α → List α | [a, b, c] => [b, c, a] | _ => []
def pm201 {α : Type} : List α → List α | [a, b, c] => [c, a, b] | _ => []
def pm210 {α : Type} : List α → List α | [a, b, c] => [c, b, a] | _ => []
end DK
set_option Elab.async false
set_option linter.all false
set_option maxRecDepth 100000
set_option maxHeartbeats 4000000
/-! items by a number that is not written, the last item -/
namespace DK
open PySem PySem.Spec PyProof.Rows L2 L2H
def fIxV : F2 := fun x y μ Q => match itemsOf x μ, y with
  | some ds, .v (.int i) => ∃ d, atI ds i = some d ∧ Q d μ
  | _, _ => False
section
variable {X : Cx} {pn : List (Addr × Obj)} {W : WX} {K : PySem.W.Frag} {e1 e2 : Expr} {a b : AE} {pos : Pos}
theorem sr_ixV : SR K pn (fun x y H Q => rIxL K x y H Q ∨ rIxT K x y H Q) fIxV := ⟨fun w x y dx dy k hx hy QA h Q hq => by
  unfold fIxV at h
  split at h
  · rename_i ds i e
    obtain rfl := hy.v_inv
    obtain ⟨d, ed, h⟩ := h
    obtain ⟨p, vs, rfl, hsq, hs⟩ := items_sq k hx e
    obtain ⟨z, ez, dz⟩ := hs.at ed
    rcases hsq with hsq | hsq
    · exact .inl ⟨p, vs, i, z, rfl, rfl, hsq, ez, (hq _ _ h).same k dz⟩
    · exact .inr ⟨p, vs, i, z, rfl, rfl, hsq, ez, (hq _ _ h).same k dz⟩
  · exact h.elim⟩
theorem d_ixV (ha : DE X pn W e1 a) (hb : DE X pn W e2 b) (hs : PlainIx e2 := by exact fun _ _ => rfl) : DE X pn W (.Subscript e1 e2 pos) (aBin fIxV a b) := by
  obtain ⟨ta, a1, a2⟩ := ha.ex
  obtain ⟨tb, b1, b2⟩ := hb.ex
  exact ⟨_, pe_ix (ix_list.or ix_tup) a1 b1 hs, se_bin sr_ixV a2 b2⟩
end
theorem atI_nat {α : Type} {xs : List α} {i : Int} {d : α} (h0 : 0 ≤ i) (h : xs[i.toNat]? = some d) : atI xs i = some d := by
  have hl := (List.getElem?_eq_some_iff.mp h).1
  unfold atI ixN
  rw [if_pos h0, if_pos (by omega)]
  exact h
end DK
set_option Elab.async false
set_option linter.all false
set_option maxRecDepth 100000
set_option maxHeartbeats 4000000
/-! comprehensions whose list stays a cell; ranges with a step; walks over a cell; isinstance of a cell -/
namespace DK
open PySem PySem.Spec PyProof.Rows L2 L2H

/-! ### comprehensions, the list a cell -/
def aTurnV (i j : Nat) (t : AT) (e : AE) (ρ : Rho) (m : Sto) (x : D) (N : Sto → Prop) : Prop :=
  t (ρ.set i (some x)) m (fun b m1 => bIf b (e (ρ.set i (some x)) m1 (fun d m2 => noErr d = true ∧ appIt (.loc j) d m2 N) (fun _ _ => False)) (N m1)) (fun _ _ => False)
def aLcV (src : ASrc) (i : Nat) (t : AT) (e : AE) : AE := fun ρ μ Q X => src ρ μ (fun xs μ1 => xs.length ≤ 500000 ∧ ∃ I : Nat → Sto → Prop, I 0 (μ1 ++ [.lst []]) ∧ (∀ n x m, xs[n]? = some x → I n m → aTurnV i μ1.length t e (wipeD ρ i) m x (I (n + 1))) ∧ ∀ m, I xs.length m → Q (.loc μ1.length) m) X
def LcV (K : PySem.W.Frag) (w : Wd) (p : Addr) (I : Nat → Sto → Prop) (n : Nat) (H : Hp) : Prop :=
  ∃ w' : Wd, w'.H = H ∧ WLe w w' ∧ Ok K w' ∧ w'.θ[w.μ.length]? = some p ∧ I n w'.μ
section
variable {K : PySem.W.Frag} {pn : List (Addr × Obj)} {W : WX} {tl : TA} {l : AA} {tt : TT} {t : AT} {te tx : TE} {e x : AE} {i : Nat}
theorem lcV_turn {w : Wd} {σ : L2.St} {ρ : Rho} {p : Addr} {I : Nat → Sto → Prop} {n : Nat} {H : Hp} {xv : V} {xd : D} (er : EnvR K pn w σ ρ) (ht : ST K pn w0 tt t) (he : SE K pn w0 te e)
    (q : LcV K w p I n H) (hx : ∀ w', WLe w w' → Den K pn w'.θ w'.H xv xd) (hs : ∀ m, I n m → aTurnV i w.μ.length t e (wipeD ρ i) m xd (I (n + 1))) :
    gName i xv (wipe σ [i]) H fun σ2 H2 => wipe σ2 [i] = wipe σ [i] ∧ tt σ2 H2 fun b H3 => if b = true then te σ2 H3 fun y H4 => ∃ acc, H4 p = some (.lst acc) ∧ acc.length < sizeLine ∧ LcV K w p I (n + 1) (upd H4 p (.lst (acc ++ [y]))) else LcV K w p I (n + 1) H3 := by
  obtain ⟨w1, rfl, l1, k1, hp1, hI⟩ := q
  refine ⟨wipe_set, ?_⟩
  have h := hs w1.μ hI
  have e1 : EnvR K pn w1 ((wipe σ [i]).set i (some xv)) ((wipeD ρ i).set i (some xd)) := ((er.mono l1).wipe (i := i)).set (hx w1 l1)
  unfold aTurnV at h
  refine ht.run w1 _ _ k1 e1 _ _ h _ (fun b μ' hb w2 em l2 k2 => ?_) fun _ _ z => z.elim
  subst em
  cases b with
  | false => exact ⟨w2, rfl, l1.trans l2, k2, l2.get hp1, hb.2 rfl⟩
  | true =>
    have hb' := hb.1 rfl
    refine he.run w2 _ _ k2 (e1.mono l2) _ _ hb' _ (fun d μ' hd y w3 em3 l3 k3 dn => ?_) fun _ _ z => z.elim
    subst em3
    obtain ⟨hd1, hd⟩ := hd
    have hj3 := l3.get (l2.get hp1)
    have hd : (match w3.μ[w.μ.length]? with | some (.lst ds) => ds.length ≤ 1000000 ∧ I (n + 1) (w3.μ.set w.μ.length (.lst (ds ++ [d]))) | _ => False) := hd
    split at hd
    · rename_i ds hm3
      obtain ⟨us, hu, hus⟩ := k3.cell _ _ _ hj3 hm3
      obtain ⟨l4, k4⟩ := k3.writeL hj3 (hus.append (.cons (dn.un hd1) .nil))
      refine ⟨us, hu, ?_, ?_⟩
      · rw [hus.len]
        exact Nat.lt_of_le_of_lt hd.1 (by decide)
      · exact ⟨⟨w3.θ, upd w3.H p (.lst (us ++ [y])), w3.μ.set w.μ.length (.lst (ds ++ [d]))⟩, rfl, ((l1.trans l2).trans l3).trans l4, k4, hj3, hd.2⟩
    · exact hd.elim
/-- range(a, b, c), n items -/
def rR3 (l : AA) : ASrc := fun ρ μ Q X => l ρ μ (fun ds μ1 => match ds with
  | [.v (.int a), .v (.int b), .v (.int c)] => ∃ n : Nat, RgC a b c n ∧ Q ((List.range n).map fun (k : Nat) => .v (.int (a + (k : Int) * c))) μ1
  | _ => False) X
/-! ### for x in a cell of plain values that stays -/
/-- the turns of a walk over a cell's items -/
def loopC (k : Nat) (ds : List D) (i : Nat) (b : AS) : AS := fun A ρ μ => ∃ I : Nat → Rho → Sto → Prop, I 0 ρ μ ∧ (∀ n ρ' μ', I n ρ' μ' → μ'[k]? = some (.lst ds)) ∧
    (∀ n ρ' μ' d, ds[n]? = some d → I n ρ' μ' → b { A with nx := I (n + 1), ct := I (n + 1), bk := A.nx } (ρ'.set i (some d)) μ') ∧ ∀ ρ' μ', I ds.length ρ' μ' → A.nx ρ' μ'
def sForC (e : AE) (i : Nat) (b : AS) : AS := fun A ρ μ => e ρ μ (fun d μ1 => match d with
  | .loc k => ∃ ds, (ds.all flatD = true) ∧ loopC k ds i b A ρ μ1
  | _ => False) (fun x μ1 => A.er x ρ μ1)
theorem flat_den {θ : List Addr} {H : Hp} : ∀ {ds : List D}, ds.all flatD = true → Dens K pn θ H (ds.map vOf) ds
  | [], _ => .nil
  | d :: ds, h => by
    rw [List.all_cons, Bool.and_eq_true] at h
    cases d with
    | v x => exact .cons .v (flat_den h.2)
    | _ => exact absurd h.1 Bool.noConfusion
/-! ### for x in range(a, b, c) -/
def sForR3 (l : AA) (i : Nat) (b : AS) : AS := fun A ρ μ => l ρ μ (fun ds μ1 => match ds with
  | [.v (.int lo), .v (.int hi), .v (.int c)] => ∃ n : Nat, RgC lo hi c n ∧ ∃ I : Nat → Rho → Sto → Prop, I 0 ρ μ1 ∧
      (∀ (k : Nat) ρ' μ', k < n → I k ρ' μ' → b { A with nx := I (k + 1), ct := I (k + 1), bk := A.nx } (ρ'.set i (some (.v (.int (lo + (k : Int) * c))))) μ') ∧ ∀ ρ' μ', I n ρ' μ' → A.nx ρ' μ'
  | _ => False) (fun x μ1 => A.er x ρ μ1)
end
/-! ### isinstance of a cell -/
def tyM (μ : Sto) (d : D) : Option String := match d with
  | .loc k => (match μ[k]? with | some (.lst _) => some "list" | some (.ins _ _) => some "own" | _ => none)
  | d => tyD d
def fIsiM : FL := fun xs μ Q => match xs with
  | [x, .v (.ty T)] => (match tyM μ x with | some t => (T = "int" ∨ T = "bool" ∨ T = "str" ∨ T = "list" ∨ T = "tuple") ∧ Q (.v (.bl (subT t T))) μ | none => False)
  | [x, .tup [.v (.ty T), .v (.ty U)]] => (match tyM μ x with | some t => (T = "list" ∧ U = "tuple") ∧ Q (.v (.bl (subT t T || subT t U))) μ | none => False)
  | _ => False
section
variable {K : PySem.W.Frag} {pn : List (Addr × Obj)} {X : Cx}
theorem ty_denM {w : Wd} (k : Ok K w) {x : V} {d : D} {t : String} (h : Den K pn w.θ w.H x d) (e : tyM w.μ d = some t) : ∃ c, TyX K w.H x c ∧ Kit K t c := by
  cases d with
  | loc j =>
    have e : (match w.μ[j]? with | some (.lst _) => some "list" | some (.ins _ _) => some "own" | _ => none) = some t := e
    split at e
    · rename_i ds em
      cases e
      cases h with
      | loc hp =>
        obtain ⟨vs, a, b⟩ := k.cell _ _ _ hp em
        exact ⟨_, .base (.lst a), .ty (by simp)⟩
    · rename_i C fs em
      cases e
      cases h with
      | loc hp =>
        obtain ⟨dx, vs, a, b⟩ := k.cell _ _ _ hp em
        exact ⟨_, b.ck.tyof a, .own b.ck⟩
    · cases e
  | v y => exact ty_den h e
  | lst y => exact ty_den h e
  | tup y => exact ty_den h e
  | rl y => exact ty_den h e
  | err y z => exact ty_den h e
  | dic y => exact ty_den h e
  | ins a b c => exact ty_den h e
theorem c_isiM : DCl X pn (.builtin "isinstance") fIsiM := ⟨_, CallR.or call_isi (CallR.or call_isiT call_isiK), ⟨fun w xs ds k hx QA h Q hq => by
  unfold fIsiM at h
  split at h
  · split at h
    · rename_i t et
      cases hx with
      | cons h1 h2 =>
        cases h2 with
        | cons h3 h4 =>
          cases h4
          obtain rfl := h3.v_inv
          obtain ⟨c, a, b⟩ := ty_denM k h1 et
          exact .inl ⟨_, _, _, _, _, rfl, .ty _, a, b.one _ h.1, (hq _ _ h.2).same k .v⟩
    · exact h.elim
  · split at h
    · rename_i t et
      cases hx with
      | cons h1 h2 =>
        cases h2 with
        | cons h3 h4 =>
          cases h4
          obtain ⟨c, a, b⟩ := ty_denM k h1 et
          obtain ⟨⟨rfl, rfl⟩, h5⟩ := h
          cases h3 with
          | tup ht hs =>
            cases hs with
            | cons t1 t2 =>
              cases t2 with
              | cons t3 t4 =>
                cases t4
                obtain rfl := t1.v_inv
                obtain rfl := t3.v_inv
                rcases ht with ⟨ht, n⟩ | ⟨o, its, n, h1, h2, h3, h4, h6⟩
                · exact .inr (.inl ⟨_, _, _, _, _, _, rfl, ht, .cons (.ty _) (.cons (.ty _) .nil), a, b.lt, (hq _ _ h5).same k .v⟩)
                · have e : its.toList = [.type "list", .type "tuple"] := ClsV.all (.cons (.ty _) (.cons (.ty _) .nil)) h6
                  obtain ⟨oc, od, dt, sl⟩ := o
                  simp only at h2 h3
                  subst h2 h3
                  refine .inr (.inr ⟨_, _, od, its.toList, n, sl, _, _, rfl, by simpa using h1, a, ?_, (hq _ _ h5).same k .v⟩)
                  rw [e]
                  exact b.lt
    · exact h.elim
  · exact h.elim⟩⟩
end
/-! with the syntax -/
section
variable {X : Cx} {pn : List (Addr × Obj)} {W : WX} {k : Nat} {e e' e'' elt : Expr} {ifs : List Expr} {body : List Stmt} {scope : Scope} {l : AA} {t : AT} {a x : AE} {b : AS} {pos p p1 p2 p3 : Pos} {y : Str}
end
end DK
set_option Elab.async false
set_option linter.all false
set_option maxRecDepth 100000
set_option maxHeartbeats 4000000
/-! name = [comprehension] -/
namespace DK
open PySem PySem.Spec PyProof.Rows L2 L2H
section
variable {X : Cx} {pn : List (Addr × Obj)} {W : WX} {k : Nat} {e e' e'' elt : Expr} {ifs : List Expr} {scope : Scope} {l : AA} {t : AT} {a x : AE} {pos spos py p1 p2 p3 : Pos} {y z : Str}
theorem d_slcR1 (j : Nat) (i : Nat) (B : Bd X W k) (hm : X.mg "range" = none) (hl : DA X pn W [e] l) (ht : ∀ s H C cl fp, DTs (nblk X scope s H C cl fp) pn w0 ifs t) (he : ∀ s H C cl fp, Bd (nblk X scope s H C cl fp) w0 k → DE (nblk X scope s H C cl fp) pn w0 elt a)
    (hok : blkC X.N X.env.scope scope [(y, i)] = true) (hpg : ∀ s H C cl fp, PG (nblk X scope s H C cl fp) (.Name y p3) (gName i)) (hg : Gl X "range" := by rfl) (hs : starEach [e] X.env = [(false, eval e X.env)] := by rfl)
    (hy : X.N[j]? = some z := by rfl) (hyl : X.env.scope.names.lookup z = some .local := by rfl) (hk : X.env.scope.kind = .function := by rfl) (hln : (py.line == pos.line) = true := by rfl) (hna : (scope.names.any fun (n, k) => n == z && (k == .local || k == .cell)) = false := by decide +kernel) :
    DS X pn W (.Assign [.Name z py] (.ListComp elt [⟨.Name y p3, .Call (.Name "range" p1) [e] [] p2, ifs, 0⟩] scope pos) spos) (sSet j (aLc (rR1 l) i t a)) := by
  obtain ⟨te, tt, e1, e2, e3, e4⟩ := lc_parts (X := X) (nblk X scope) (fun _ _ _ _ _ => rfl) (fun s H C cl fp => he s H C cl fp (B.blk ..)) ht
  obtain ⟨tl, l1, l2⟩ := hl.ex
  exact ⟨_, ps_setLc (own := [(y, i)]) B.calm B.nd hy hyl (sw_true hk hyl hln hna) (pi_range1 hg hm l1 hs) (blkOk_by hok) hpg e2 e1, ss_set (se_lcR1 l2 e4 e3)⟩
theorem d_slcL (j : Nat) (i : Nat) (B : Bd X W k) (hx : DE X pn W e x) (ht : ∀ s H C cl fp, DTs (nblk X scope s H C cl fp) pn w0 ifs t) (he : ∀ s H C cl fp, Bd (nblk X scope s H C cl fp) w0 k → DE (nblk X scope s H C cl fp) pn w0 elt a)
    (hok : blkC X.N X.env.scope scope [(y, i)] = true) (hpg : ∀ s H C cl fp, PG (nblk X scope s H C cl fp) (.Name y p3) (gName i)) (hfs : ∀ v : Value, foldedSetIterable e X.env v = pure v := by intro _; rfl)
    (hy : X.N[j]? = some z := by rfl) (hyl : X.env.scope.names.lookup z = some .local := by rfl) (hk : X.env.scope.kind = .function := by rfl) (hln : (py.line == pos.line) = true := by rfl) (hna : (scope.names.any fun (n, k) => n == z && (k == .local || k == .cell)) = false := by decide +kernel) :
    DS X pn W (.Assign [.Name z py] (.ListComp elt [⟨.Name y p3, e, ifs, 0⟩] scope pos) spos) (sSet j (aLc (rL x) i t a)) := by
  obtain ⟨te, tt, e1, e2, e3, e4⟩ := lc_parts (X := X) (nblk X scope) (fun _ _ _ _ _ => rfl) (fun s H C cl fp => he s H C cl fp (B.blk ..)) ht
  obtain ⟨tx, x1, x2⟩ := hx.ex
  exact ⟨_, ps_setLc (own := [(y, i)]) B.calm B.nd hy hyl (sw_true hk hyl hln hna) (pi_list x1) (blkOk_by hok) hpg e2 e1 hfs, ss_set (se_lcL x2 e4 e3)⟩
theorem d_slcR1W (j : Nat) (i : Nat) (B : Bd X W k) (hm : X.mg "range" = none) (hl : DA X pn W [e] l) (ht : ∀ s H C cl fp, DTs (nblk X scope s H C cl fp) pn w0 ifs t) (he : ∀ s H C cl fp, Bd (nblk X scope s H C cl fp) w0 k → DE (nblk X scope s H C cl fp) pn w0 elt a)
    (hok : blkC X.N X.env.scope scope [(y, i)] = true) (hpg : ∀ s H C cl fp, PG (nblk X scope s H C cl fp) (.Name y p3) (gName i)) (hg : Gl X "range" := by rfl) (hs : starEach [e] X.env = [(false, eval e X.env)] := by rfl)
    (hy : X.N[j]? = some z := by rfl) (hyl : X.env.scope.names.lookup z = some .local := by rfl) (hk : X.env.scope.kind = .function := by rfl) (hln : (py.line == pos.line) = true := by rfl) (hna : (scope.names.any fun (n, k) => n == z && (k == .local || k == .cell)) = false := by decide +kernel) :
    DS X pn W (.Assign [.Name z py] (.ListComp elt [⟨.Name y p3, .Call (.Name "range" p1) [e] [] p2, ifs, 0⟩] scope pos) spos) (sSet j (aLcW (rR1 l) i t a)) := by
  obtain ⟨te, tt, e1, e2, e3, e4⟩ := lc_parts (X := X) (nblk X scope) (fun _ _ _ _ _ => rfl) (fun s H C cl fp => he s H C cl fp (B.blk ..)) ht
  obtain ⟨tl, l1, l2⟩ := hl.ex
  exact ⟨_, ps_setLc (own := [(y, i)]) B.calm B.nd hy hyl (sw_true hk hyl hln hna) (pi_range1 hg hm l1 hs) (blkOk_by hok) hpg e2 e1, ss_set (seW_lcR1 l2 e4 e3)⟩
end
end DK
set_option Elab.async false
set_option linter.all false
set_option maxRecDepth 100000
set_option maxHeartbeats 4000000
/-! == and != of lists and tuples; sorted and sum of ints -/
namespace DK
open PySem PySem.Spec PyProof.Rows L2 L2H

/-! ### == of any data -/
mutual
def pyO : D → Option PyData
  | .v .non => some .none
  | .v (.bl b) => some (.bool b)
  | .v (.int i) => some (.int i)
  | .v (.str s) => some (.str s)
  | .lst ds => (pyOs ds).map .list
  | .rl ds => (pyOs ds).map .list
  | .tup ds => (pyOs ds).map .tuple
  | _ => none
def pyOs : List D → Option (List PyData)
  | [] => some []
  | d :: ds => match pyO d, pyOs ds with | some x, some xs => some (x :: xs) | _, _ => none
end
def pyT (x : D) (μ : Sto) : Option PyData := match x with
  | .loc k => match μ[k]? with | some (.lst ds) => (pyOs ds).map .list | _ => none
  | _ => pyO x
def fEqU (neg : Bool) : F2 := fun x y μ Q => match x, y with
  | .v a, .v b => scal a b = true ∧ Q (.v (.bl (if neg then !decide (a = b) else decide (a = b)))) μ
  | _, _ => ∃ d e, pyT x μ = some d ∧ pyT y μ = some e ∧ SeqAt.shaped d = true ∧ SeqAt.shaped e = true ∧ Q (.v (.bl (if neg then !PyData.eqv d e else PyData.eqv d e))) μ
section
variable {K : PySem.W.Frag} {pn : List (Addr × Obj)} {θ : List Addr} {H : Hp}
mutual
theorem pyO_dp : ∀ (d : D) {x : V} {e : PyData}, Den K pn θ H x d → pyO d = some e → Dp K H x e
  | .v y, x, e, h, q => by
    obtain rfl := h.v_inv
    cases x <;> simp only [pyO, Option.some.injEq, reduceCtorEq] at q <;> subst q
    · exact .non
    · exact .bl _
    · exact .int _
    · exact .str _
  | .lst ds, x, e, h, q => by
    cases h with
    | lst h n hs =>
      simp only [pyO, Option.map_eq_some_iff] at q
      obtain ⟨es, q, rfl⟩ := q
      exact .lst (.inl (.inl h)) (pyOs_dp ds hs q)
  | .rl ds, x, e, h, q => by
    cases h with
    | rl h hs =>
      simp only [pyO, Option.map_eq_some_iff] at q
      obtain ⟨es, q, rfl⟩ := q
      exact .lst (h.imp (·.1) id) (pyOs_dp ds hs q)
  | .tup ds, x, e, h, q => by
    cases h with
    | tup h hs =>
      simp only [pyO, Option.map_eq_some_iff] at q
      obtain ⟨es, q, rfl⟩ := q
      exact .tup (h.imp (fun z => Rd.of z.1) id) (pyOs_dp ds hs q)
  | .loc _, _, _, _, q => by simp [pyO] at q
  | .err _ _, _, _, _, q => by simp [pyO] at q
  | .dic _, _, _, _, q => by simp [pyO] at q
  | .ins _ _ _, _, _, _, q => by simp [pyO] at q
theorem pyOs_dp : ∀ (ds : List D) {xs : List V} {es : List PyData}, Dens K pn θ H xs ds → pyOs ds = some es → DpAll K H xs es
  | [], _, _, h, q => by
    cases h
    simp only [pyOs, Option.some.injEq] at q
    subst q
    exact .nil
  | d :: ds, _, _, h, q => by
    cases h with
    | cons h1 h2 =>
      unfold pyOs at q
      split at q
      · rename_i x xs e1 e2
        cases q
        exact .cons (pyO_dp d h1 e1) (pyOs_dp ds h2 e2)
      · cases q
end
end
section
variable {X : Cx} {pn : List (Addr × Obj)} {W : WX} {k : Nat}
end
/-! lists of ints -/
/-! ### sorted, sum -/
def fSorted : FL := fun xs μ Q => match xs with
  | [x] => ∃ ns : List Int, fRev.itemsL x μ = some (ns.map fun z => .v (.int z)) ∧ ∀ ns' : List Int, ns'.Perm ns → ns'.Pairwise (· ≤ ·) → Q (.lst (ns'.map fun z => .v (.int z))) μ
  | _ => False
def fSum : FL := fun xs μ Q => match xs with
  | [x] => ∃ ns : List Int, fRev.itemsL x μ = some (ns.map fun z => .v (.int z)) ∧ Q (.v (.int ns.sum)) μ
  | _ => False
section
variable {K : PySem.W.Frag} {pn : List (Addr × Obj)} {θ : List Addr} {H : Hp} {X : Cx}
end
end DK
set_option Elab.async false
set_option linter.all false
set_option maxRecDepth 100000
set_option maxHeartbeats 4000000
/-! walks over enumerate(items); a new list let go as plain data -/
namespace DK
open PySem PySem.Spec PyProof.Rows L2 L2H

/-! ### what is walked: a list that stays -/
def staysD (d : D) (ds : List D) (μ : Sto) : Prop := match d with
  | .lst es => es = ds
  | .rl es => es = ds
  | .loc k => ds.all flatD = true ∧ μ[k]? = some (.lst ds)
  | _ => False
section
variable {K : PySem.W.Frag} {pn : List (Addr × Obj)} {W : WX} {tl : TA} {l : AA} {tt : TT} {t : AT} {te tx : TE} {e x : AE} {i j : Nat} {tb : TS} {b : AS}
theorem src_sq {w1 : Wd} {v : V} {d : D} {ds : List D} (k1 : Ok K w1) (dn : Den K pn w1.θ w1.H v d) (h : staysD d ds w1.μ) :
    ∃ a vs, v = .ref a ∧ Dens K pn w1.θ w1.H vs ds ∧ ∀ w2, WLe w1 w2 → Ok K w2 → staysD d ds w2.μ → SqL K w2.H a vs := by
  unfold staysD at h
  split at h
  · subst h
    cases dn with
    | @lst a vs _ ha n hs => exact ⟨a, vs, rfl, hs, fun w2 l2 _ _ => .inl (.inl (l2.keep _ _ ha n))⟩
  · subst h
    cases dn with
    | @rl a vs _ ha hs => exact ⟨a, vs, rfl, hs, fun w2 l2 _ _ => ha.imp (fun z => (rd_mono l2 z).1) id⟩
  · rename_i k
    cases dn with
    | @loc _ p hp =>
      refine ⟨p, ds.map vOf, rfl, flat_den h.1, fun w2 l2 k2 s2 => ?_⟩
      obtain ⟨us, a, b⟩ := k2.cell _ _ _ (l2.get hp) s2.2
      obtain ⟨e1, _⟩ := b.flat h.1
      rw [e1] at a
      exact .inl (.inl a)
  · exact h.elim
/-- for i, j in enumerate(items) -/
def loopE (d : D) (ds : List D) (i j : Nat) (b : AS) : AS := fun A ρ μ => ∃ I : Nat → Rho → Sto → Prop, I 0 ρ μ ∧ (∀ n ρ' μ', I n ρ' μ' → staysD d ds μ') ∧
    (∀ n ρ' μ' x, ds[n]? = some x → I n ρ' μ' → b { A with nx := I (n + 1), ct := I (n + 1), bk := A.nx } ((ρ'.set i (some (.v (.int (n : Nat))))).set j (some x)) μ') ∧ ∀ ρ' μ', I ds.length ρ' μ' → A.nx ρ' μ'
def sForE (l : AA) (i j : Nat) (b : AS) : AS := fun A ρ μ => l ρ μ (fun ds0 μ1 => match ds0 with
  | [d] => ∃ ds, staysD d ds μ1 ∧ loopE d ds i j b A ρ μ1
  | _ => False) (fun x μ1 => A.er x ρ μ1)
theorem ss_forE (hl : SA K pn W tl l) (hb : SS K pn W tb b) : SS K pn W (tFor (iEnum K tl) (gTup K 2 (gCons (gName i) (gCons (gName j) gNil))) tb) (sForE l i j b) := ⟨fun w σ ρ k er A h E hE =>
  hl.run w σ ρ k er _ _ h _ (fun ds0 μ1 h1 vs0 w1 em l1 k1 dn => by
    subst em
    split at h1
    · rename_i d
      cases dn with
      | cons d1 d2 =>
        cases d2
        obtain ⟨ds, hst0, I, i0, hst, hs, hn⟩ := h1
        obtain ⟨a, vs, rfl, hds, hsq⟩ := src_sq k1 d1 hst0
        refine ⟨a, vs, rfl, hsq w1 k1.refl k1 hst0, for_it (walk_enum (xs := vs)) (WI K pn w1 I) ⟨w1, ρ, rfl, k1.refl, k1, er.mono l1, i0⟩ (fun n σ' H' _ q => ?_) (fun n x σ' H' H'' hlt q y => ?_) (fun σ' H' q => ?_)⟩
        · obtain ⟨w2, ρ2, rfl, l2, k2, e2, q⟩ := q
          exact hsq w2 l2 k2 (hst _ _ _ q)
        · obtain ⟨w2, ρ2, rfl, l2, k2, e2, q⟩ := q
          obtain ⟨T, x0, y0, rfl, hT, rfl, hx0, hy0⟩ := y
          cases hx0
          obtain ⟨dx, ed⟩ : ∃ dx, ds[n]? = some dx := ⟨_, List.getElem?_eq_getElem (by rw [← hds.len]; exact hlt)⟩
          obtain ⟨y', ey, dy⟩ := hds.get ed
          cases (ey.symm.trans hy0)
          obtain ⟨l3, k3, _⟩ := k2.new (o := .tup [.int (n : Nat), y0]) hT
          have l03 := (l1.trans l2).trans l3
          exact ⟨T, _, rfl, .inl (Rd.of upd_same), rfl, _, _, rfl, _, _, rfl, rfl, hb.run ⟨w2.θ, upd w2.H T (.tup [.int (n : Nat), y0]), w2.μ⟩ _ _ k3 (((e2.mono l3).set .v).set (dy.mono (l2.trans l3))) _ (hs n ρ2 w2.μ dx ed q) _ ⟨pr_wi (l2.trans l3), fun d m z => (hE.rt d m z).mono l03, fun r m z => (hE.nx r m z).mono l03, pr_wi (l2.trans l3), (hE.mono l03).er⟩⟩
        · obtain ⟨w2, ρ2, rfl, l2, k2, e2, q⟩ := q
          rw [hds.len] at q
          exact ((hE.nx _ _ (hn _ _ q)).mono (l1.trans l2)).same k2 e2
    · exact h1.elim) (hE.ex er)⟩

/-! ### comprehensions over enumerate(items) -/
def aTurn2 (i j : Nat) (t : AT) (e : AE) (ρ : Rho) (acc : List D) (μ : Sto) (x y : D) (N : List D → Prop) : Prop :=
  t ((ρ.set i (some x)).set j (some y)) (μ ++ [.lst acc]) (fun b μ1 => μ1 = μ ++ [.lst acc] ∧ bIf b (e ((ρ.set i (some x)).set j (some y)) (μ ++ [.lst acc]) (fun d μ2 => μ2 = μ ++ [.lst acc] ∧ (noErr d = true ∧ lb μ.length d = true) ∧ N (acc ++ [d])) (fun _ _ => False)) (N acc)) (fun _ _ => False)
def aLcE (l : AA) (i j : Nat) (t : AT) (e : AE) : AE := fun ρ μ Q X => l ρ μ (fun ds0 μ1 => match ds0 with
  | [d] => ∃ ds, staysD d ds μ1 ∧ ds.length ≤ 500000 ∧ ∃ I : Nat → List D → Prop, I 0 [] ∧ (∀ n acc x, ds[n]? = some x → I n acc → aTurn2 i j t e (wipeD (wipeD ρ j) i) acc μ1 (.v (.int (n : Nat))) x (I (n + 1))) ∧ ∀ acc, I ds.length acc → Q (.lst acc) μ1
  | _ => False) X
theorem wipe_set2 {σ : L2.St} {x y : V} (hij : i ≠ j) : wipe (((wipe σ [i, j]).set i (some x)).set j (some y)) [i, j] = wipe σ [i, j] := by
  show (((((σ.set j none).set i none).set i (some x)).set j (some y)).set j none).set i none = (σ.set j none).set i none
  rw [List.set_set, List.set_set, List.set_comm (some x) none hij, List.set_set, List.set_set]
theorem lc_body {w w1 : Wd} {σ1 : L2.St} {ρ1 : Rho} {p : Addr} {I : Nat → List D → Prop} {n : Nat} {acc : List D} (ht : ST K pn w0 tt t) (he : SE K pn w0 te e) (hn : n < 500000)
    (l1 : WLe w w1) (k1 : Ok K w1) (hθ : w1.θ = w.θ ++ [p]) (hμ : w1.μ = w.μ ++ [.lst acc]) (hal : acc.length ≤ n) (hne : noErrs acc = true) (hlb : lbs w.θ.length acc = true) (e1 : EnvR K pn w1 σ1 ρ1)
    (h : t ρ1 (w.μ ++ [.lst acc]) (fun b μ1 => μ1 = w.μ ++ [.lst acc] ∧ bIf b (e ρ1 (w.μ ++ [.lst acc]) (fun d μ2 => μ2 = w.μ ++ [.lst acc] ∧ (noErr d = true ∧ lb w.μ.length d = true) ∧ I (n + 1) (acc ++ [d])) (fun _ _ => False)) (I (n + 1) acc)) (fun _ _ => False)) :
    tt σ1 w1.H fun b H3 => if b = true then te σ1 H3 fun y H4 => ∃ acc, H4 p = some (.lst acc) ∧ acc.length < sizeLine ∧ LcP K pn w p I (n + 1) (upd H4 p (.lst (acc ++ [y]))) else LcP K pn w p I (n + 1) H3 := by
  have hj : w1.θ[w.θ.length]? = some p := by
    rw [hθ, List.getElem?_append_right (Nat.le_refl _), Nat.sub_self]
    rfl
  have hlen : w.θ.length = w.μ.length := by
    have a := k1.len
    rw [hθ, hμ, List.length_append, List.length_append, List.length_singleton, List.length_singleton] at a
    omega
  rw [← hμ] at h
  refine ht.run w1 _ _ k1 e1 _ _ h _ (fun b μ' hb w2 em l2 k2 => ?_) fun _ _ z => z.elim
  subst em
  obtain ⟨em, hb⟩ := hb
  have same : ∀ {w3 : Wd}, WLe w1 w3 → w3.μ = w1.μ → Ok K w3 → w3.θ = w.θ ++ [p] := fun {w3} l3 e3 k3 => by
    obtain ⟨ex, hex, _⟩ := l3.ext
    have a := k3.len
    rw [e3, hex, List.length_append, k1.len] at a
    have hx0 : ex = [] := List.length_eq_zero_iff.mp (by omega)
    rw [hex, hx0, List.append_nil, hθ]
  cases b with
  | false => exact ⟨w2, acc, rfl, l1.trans l2, k2, same l2 em k2, by rw [em, hμ], by omega, hne, hlb, hb.2 rfl⟩
  | true =>
    have hb' := hb.1 rfl
    rw [← em] at hb'
    refine he.run w2 _ _ k2 (e1.mono l2) _ _ hb' _ (fun d μ' hd y w3 em3 l3 k3 dn => ?_) fun _ _ z => z.elim
    subst em3
    obtain ⟨em3, ⟨hd1, hd2⟩, hd⟩ := hd
    have m3 : w3.μ = w1.μ := em3.trans em
    have t3 := same (l2.trans l3) m3 k3
    have hj3 : w3.θ[w.θ.length]? = some p := by
      rw [t3, List.getElem?_append_right (Nat.le_refl _), Nat.sub_self]
      rfl
    have hm3 : w3.μ[w.θ.length]? = some (.lst acc) := by
      rw [m3, hμ, hlen, List.getElem?_append_right (Nat.le_refl _), Nat.sub_self]
      rfl
    obtain ⟨us, hu, hus⟩ := k3.cell _ _ _ hj3 hm3
    obtain ⟨l4, k4⟩ := k3.writeL hj3 (hus.append (.cons (dn.un hd1) .nil))
    refine ⟨us, hu, ?_, ?_⟩
    · rw [hus.len]
      exact Nat.lt_of_le_of_lt hal (Nat.lt_trans hn (by decide))
    · refine ⟨⟨w3.θ, upd w3.H p (.lst (us ++ [y])), w3.μ.set w.θ.length (.lst (acc ++ [d]))⟩, acc ++ [d], rfl, ((l1.trans l2).trans l3).trans l4, k4, t3, ?_, ?_, ?_, ?_, hd⟩
      · show w3.μ.set w.θ.length (.lst (acc ++ [d])) = w.μ ++ [.lst (acc ++ [d])]
        rw [m3, hμ, hlen, List.set_append_right _ _ (Nat.le_refl _), Nat.sub_self]
        rfl
      · rw [List.length_append, List.length_singleton]
        omega
      · rw [noErrs_app, hne]
        show (true && (noErr d && true)) = true
        rw [hd1]
        rfl
      · rw [lbs_app, hlb]
        show (true && (lb _ d && true)) = true
        rw [hlen, hd2]
        rfl
theorem stays_app {d : D} {ds : List D} {μ : Sto} {c : Cell} (h : staysD d ds μ) : staysD d ds (μ ++ [c]) := by
  unfold staysD at *
  split at h
  · exact h
  · exact h
  · refine ⟨h.1, ?_⟩
    rw [List.getElem?_append_left (List.getElem?_eq_some_iff.mp h.2).1]
    exact h.2
  · exact h
end
/-! with the syntax -/
section
variable {X : Cx} {pn : List (Addr × Obj)} {W : WX} {k : Nat} {e elt : Expr} {ifs : List Expr} {body : List Stmt} {scope : Scope} {l : AA} {t : AT} {a : AE} {b : AS} {pos p p1 p2 px py pt : Pos} {x y : Str} {kt : Nat}
end

/-! ### new lists let go as plain data -/
mutual
def fz (μ : Sto) (j : Nat) : D → Option D
  | .v x => some (.v x)
  | .lst ds => match fzs μ j ds with | some es => some (.lst es) | none => none
  | .tup ds => match fzs μ j ds with | some es => some (.tup es) | none => none
  | .rl ds => match fzs μ j ds with | some es => some (.rl es) | none => none
  | .loc k => if k < j then some (.loc k) else match μ[k]? with | some (.lst ds) => if lbs j ds && noErrs ds then some (.lst ds) else none | some (.ins C fs) => if lbs j (fs.map (·.2)) && noErrs (fs.map (·.2)) then some (.ins C (fs.map (·.1)) (fs.map (·.2))) else none | _ => none
  | .err _ _ => none
  | .dic ks => some (.dic ks)
  | .ins C ns ds => match fzs μ j ds with | some es => some (.ins C ns es) | none => none
def fzs (μ : Sto) (j : Nat) : List D → Option (List D)
  | [] => some []
  | d :: ds => match fz μ j d, fzs μ j ds with | some x, some xs => some (x :: xs) | _, _ => none
end
/-- the value as it is, or with its new lists as plain data, the store cut back -/
def aFz (e : AE) : AE := fun ρ μ Q X => e ρ μ (fun d μ2 => Q d μ2 ∨ ∃ d' μc ex, fz μ2 μ.length d = some d' ∧ μ2 = μc ++ ex ∧ μc.length = μ.length ∧ (∀ c ∈ μc, lbC μ.length c = true) ∧ Q d' μc) X
section
variable {K : PySem.W.Frag} {pn : List (Addr × Obj)} {W : WX} {te : TE} {e : AE}
/-- the last cells let go -/
theorem Ok.dropN {w w' : Wd} {ex : List Addr} {xs : Sto} {m : Sto} (k : Ok K w) (k' : Ok K w') (l : WLe w w') (hθ : w'.θ = w.θ ++ ex) (hμ : w'.μ = m ++ xs) (hm : m.length = w.θ.length) (hb : ∀ c ∈ m, lbC w.θ.length c = true) :
    WLe w ⟨w.θ, w'.H, m⟩ ∧ Ok K ⟨w.θ, w'.H, m⟩ := by
  have l2 : Le w.θ w.H w.θ w'.H := ⟨l.keep, ⟨[], by simp, fun _ z => (List.not_mem_nil z).elim⟩, fun q hq => l.trk q (l.sub hq)⟩
  refine ⟨l2, ⟨k.nd, hm.symm, fun i q c h1 h2 => ?_⟩⟩
  have z' := k'.cell i q c (l.get h1) (by rw [hμ, List.getElem?_append_left (List.getElem?_eq_some_iff.mp h2).1]; exact h2)
  have hc := hb c (List.mem_of_getElem? h2)
  rw [hθ] at z'
  cases c with
  | lst es =>
    obtain ⟨vs', a', b'⟩ := z'
    exact ⟨vs', a', b'.cut hc b'.noErr0⟩
  | ins C fs =>
    obtain ⟨dx', vs', a', b'⟩ := z'
    exact ⟨dx', vs', a', b'.cut hc b'.noErr0⟩
section
variable {θ : List Addr} {ex : List Addr} {H : Hp} {μ2 : Sto} {j : Nat}
theorem nin_new {p : Addr} {k : Nat} (nd : (θ ++ ex).Nodup) (h : (θ ++ ex)[k]? = some p) (hk : ¬ k < θ.length) : p ∉ θ := by
  intro hm
  obtain ⟨i, hi, e⟩ := List.mem_iff_getElem.mp hm
  have h2 : (θ ++ ex)[i]? = some p := by
    rw [List.getElem?_append_left hi, List.getElem?_eq_getElem hi, e]
  obtain ⟨a1, a2⟩ := List.getElem?_eq_some_iff.mp h
  obtain ⟨b1, b2⟩ := List.getElem?_eq_some_iff.mp h2
  have := (List.getElem_inj (h₀ := a1) (h₁ := b1) nd).mp (a2.trans b2.symm)
  omega
mutual
theorem fz_den (nd : (θ ++ ex).Nodup) (hc : ∀ (k : Nat) (p : Addr) (ds : List D), (θ ++ ex)[k]? = some p → μ2[k]? = some (Cell.lst ds) → ∃ vs, H p = some (.lst vs) ∧ Dens K [] (θ ++ ex) H vs ds) (hi : ∀ (k : Nat) (p : Addr) (C : Addr) (fs : List (Str × D)), (θ ++ ex)[k]? = some p → μ2[k]? = some (Cell.ins C fs) → ∃ dx fvs, H p = some (.ins C dx fvs) ∧ InsAt K [] (θ ++ ex) H C fvs fs) :
    ∀ (d : D) {x : V} {d' : D}, Den K pn (θ ++ ex) H x d → fz μ2 θ.length d = some d' → Den K pn θ H x d'
  | .v y, x, d', h, q => by
    simp only [fz, Option.some.injEq] at q
    subst q
    obtain rfl := h.v_inv
    exact .v
  | .lst ds, x, d', h, q => by
    unfold fz at q
    split at q
    · rename_i es e
      cases q
      cases h with
      | lst h n hs => exact .lst h (nin_app n) (fzs_den nd hc hi ds hs e)
    · cases q
  | .tup ds, x, d', h, q => by
    unfold fz at q
    split at q
    · rename_i es e
      cases q
      cases h with
      | tup h hs => exact .tup (h.imp (fun z => ⟨z.1, nin_app z.2⟩) id) (fzs_den nd hc hi ds hs e)
    · cases q
  | .rl ds, x, d', h, q => by
    unfold fz at q
    split at q
    · rename_i es e
      cases q
      cases h with
      | rl h hs => exact .rl (h.imp (fun z => ⟨z.1, nin_app z.2⟩) id) (fzs_den nd hc hi ds hs e)
    · cases q
  | .loc k, x, d', h, q => by
    unfold fz at q
    cases h with
    | @loc _ p hp =>
      split at q
      · rename_i hk
        cases q
        exact .loc (by rw [List.getElem?_append_left hk] at hp; exact hp)
      · rename_i hk
        split at q
        · rename_i ds hm
          split at q
          · rename_i hb
            cases q
            obtain ⟨vs, a, b⟩ := hc k p ds hp hm
            rw [Bool.and_eq_true] at hb
            exact .lst a (nin_new nd hp hk) ((b.cut hb.1 hb.2).sub fun _ z => (List.not_mem_nil z).elim)
          · cases q
        · rename_i C fs hm
          split at q
          · rename_i hb
            cases q
            obtain ⟨dx, fvs, a, b⟩ := hi k p C fs hp hm
            rw [Bool.and_eq_true] at hb
            exact ((b.cut hb.1 hb.2).sub fun _ z => (List.not_mem_nil z).elim).data a (nin_new nd hp hk)
          · cases q
        · cases q
  | .err _ _, _, _, _, q => by simp [fz] at q
  | .dic ks, x, d', h, q => by
    simp only [fz, Option.some.injEq] at q
    subst q
    cases h with
    | dic h n => exact .dic h (nin_app n)
  | .ins C ns ds, x, d', h, q => by
    unfold fz at q
    split at q
    · rename_i es e
      cases q
      cases h with
      | ins hk hf h n hl hs => exact .ins hk hf h (nin_app n) hl (fzs_den nd hc hi ds hs e)
    · cases q
theorem fzs_den (nd : (θ ++ ex).Nodup) (hc : ∀ (k : Nat) (p : Addr) (ds : List D), (θ ++ ex)[k]? = some p → μ2[k]? = some (Cell.lst ds) → ∃ vs, H p = some (.lst vs) ∧ Dens K [] (θ ++ ex) H vs ds) (hi : ∀ (k : Nat) (p : Addr) (C : Addr) (fs : List (Str × D)), (θ ++ ex)[k]? = some p → μ2[k]? = some (Cell.ins C fs) → ∃ dx fvs, H p = some (.ins C dx fvs) ∧ InsAt K [] (θ ++ ex) H C fvs fs) :
    ∀ (ds : List D) {xs : List V} {es : List D}, Dens K pn (θ ++ ex) H xs ds → fzs μ2 θ.length ds = some es → Dens K pn θ H xs es
  | [], _, _, h, q => by
    simp only [fzs, Option.some.injEq] at q
    subst q
    cases h
    exact .nil
  | d :: ds, _, _, h, q => by
    unfold fzs at q
    split at q
    · rename_i x xs e1 e2
      cases q
      cases h with
      | cons h1 h2 => exact .cons (fz_den nd hc hi d h1 e1) (fzs_den nd hc hi ds h2 e2)
    · cases q
end
end
theorem se_fz (he : SE K pn W te e) : SE K pn W te (aFz e) := ⟨fun w σ ρ k er QA XA h Q hq hx =>
  he.run w σ ρ k er _ XA h _ (fun d μ2 h1 => by
    rcases h1 with h1 | ⟨d', μc, xs, hf, hμ, hl, hb, h1⟩
    · exact hq _ _ h1
    · intro v w2 em l2 k2 dn
      subst em
      obtain ⟨ex, hθ, _⟩ := l2.ext
      have hkl := k.len
      rw [← hkl] at hf hl hb
      obtain ⟨l3, k3⟩ := k.dropN k2 l2 hθ hμ hl hb
      have nd := k2.nd
      have hc : ∀ (k' : Nat) (p : Addr) (ds : List D), w2.θ[k']? = some p → w2.μ[k']? = some (Cell.lst ds) → ∃ vs, w2.H p = some (.lst vs) ∧ Dens K [] w2.θ w2.H vs ds := fun k' p ds h2 h3 => k2.cell k' p _ h2 h3
      have hi : ∀ (k' : Nat) (p : Addr) (C : Addr) (fs : List (Str × D)), w2.θ[k']? = some p → w2.μ[k']? = some (Cell.ins C fs) → ∃ dx fvs, w2.H p = some (.ins C dx fvs) ∧ InsAt K [] w2.θ w2.H C fvs fs := fun k' p C fs h2 h3 => k2.cell k' p _ h2 h3
      rw [hθ] at nd hc hi dn
      exact hq _ _ h1 v ⟨w.θ, w2.H, μc⟩ rfl l3 k3 (fz_den nd hc hi d dn hf)) hx⟩
end
section
variable {X : Cx} {pn : List (Addr × Obj)} {W : WX} {e : Expr} {a : AE}
theorem d_fz (h : DE X pn W e a) : DE X pn W e (aFz a) := by
  obtain ⟨_, h, h'⟩ := h.ex
  exact ⟨_, h, se_fz h'⟩
end
theorem fz_new {μ : Sto} {ds : List D} (h1 : lbs μ.length ds = true) (h2 : noErrs ds = true) : fz (μ ++ [.lst ds]) μ.length (.loc μ.length) = some (.lst ds) := by
  unfold fz
  rw [if_neg (by omega), List.getElem?_append_right (Nat.le_refl _), Nat.sub_self]
  show (if (lbs μ.length ds && noErrs ds) = true then _ else _) = _
  rw [h1, h2]
  rfl
end DK
set_option Elab.async false
set_option linter.all false
set_option maxRecDepth 100000
set_option maxHeartbeats 4000000
/-! calls where defaults fill up; calls by places and keywords -/
namespace DK
open PySem PySem.Spec PyProof.Rows L2 L2H

/-- f(e, ..), the last parameters by their defaults -/
def aCallD (F : FD) (n : Nat) (dvs : List V) (l : AA) : AE := fun ρ μ Q X => l ρ μ (fun ds μ1 => (ds ++ dvs.map D.v).length = n ∧ F (ds ++ dvs.map D.v) μ1 Q X) X
/-- f(e, .., k = v, ..) -/
def aCallN (F : FD) (n m j : Nat) (g : List D → List D → List D) (l l2 : AA) : AE := fun ρ μ Q X => l ρ μ (fun ds μ1 => l2 ρ μ1 (fun es μ2 => (ds.length = m ∧ es.length = j ∧ (g ds es).length = n) ∧ F (g ds es) μ2 Q X) X) X
theorem dens_v {K : PySem.W.Frag} {pn : List (Addr × Obj)} {θ : List Addr} {H : Hp} : ∀ dvs : List V, Dens K pn θ H dvs (dvs.map D.v)
  | [] => .nil
  | _ :: dvs => .cons .v (dens_v dvs)
structure PermN (g : List Value → List Value → List Value) (gV : List V → List V → List V) (gD : List D → List D → List D) : Prop where
  val : ∀ {vs us zs ws}, Vals vs us → Vals zs ws → Vals (gV vs zs) (g us ws)
  den : ∀ {K pn θ H vs ds zs es}, Dens K pn θ H vs ds → Dens K pn θ H zs es → Dens K pn θ H (gV vs zs) (gD ds es)
/-- how such a call binds -/
def KBN (K : PySem.W.Frag) (fd : FuncData) (ps : List Str) (n : Nat) (ks : List Str) (g : List Value → List Value → List Value) : Prop := ∀ (s : Shared) (us ws : List Value), K.In s.heap → us.length = n → ws.length = ks.length → BindsTo s fd ⟨us, ks.zip ws⟩ (ps.zip (g us ws))
section
variable {X : Cx} {W : WX} {k k' : Nat} {f : Addr} {fd : FuncData} {ps ks : List Str} {F : FD} {x : Str} {e : Expr} {es : List Expr} {kws : List Keyword} {l lk : AA} {p pos : Pos} {dvs : List V} {n : Nat}
theorem d_callD (B : Bd X W k) (G : FnD X.prog X.w X.K X.mg X.base k' f fd ps F) (hk' : k' ≤ k) (hm : X.mg x = some (.ref f)) (hk : PySem.W.keepIn X.K (.ref f) = true) (hb : ∃ ds, Vals dvs ds ∧ Binds X.K fd ps ds) (ha : DA X [] W (e :: es) l)
    (hg : Gl X x := by rfl) (hdb : (x == ("__debug__" : Str)) = false := by decide) (he : starEach (e :: es) X.env = (false, eval e X.env) :: starEach es X.env := by rfl) (hpl : (backTo pos (starEach es X.env)).any (·.1) = false := by rfl) :
    DE X [] W (.Call (.Name x p) (e :: es) [] pos) (aCallD F ps.length dvs l) := by
  obtain ⟨tl, l1, l2⟩ := ha.ex
  obtain ⟨dd, hd, hb⟩ := hb
  refine ⟨fun σ H Q => tl σ H fun vs H1 => spD X.K ps.length F (vs ++ dvs) H1 Q (WE W σ), ⟨fun pins s σ H Q I h => ?_⟩, ⟨fun w σ ρ ok er QA XA h Q hq hx => ?_⟩⟩
  · refine wpAny_Call_Name_kw (ld_glob I hg hm ?_ hdb)
    refine PySem.W.callWith_K (h₀ := X.base) I.ok.mod.kin hk (thn (l1.run pos pins s σ H _ I h) fun us s2 ⟨zs, H2, I2, rz, q2⟩ => ⟨I2.kIn, ?_⟩) he hpl
    have r2 := rz.append hd
    refine wpAny_call (codeAny_mono (G.run X.A X.stack s2 H2 ⟨us, []⟩ (us ++ dd) (zs ++ dvs) Q (WE W σ) (B.room.mono hk') I2.env0 (hb s2 us I2.kIn (by rw [← r2.length]; exact G.len _ _ _ _ q2)) r2 q2) fun r s' hq => ?_)
    cases r with
    | error e => exact L2N.passAt B.tk σ pins H2 s2 e s' I2 hq
    | ok fl =>
      cases fl with
      | ret u => exact I2.after hq
      | next => exact hq.elim
      | brk => exact hq.elim
      | cont => exact hq.elim
  · refine l2.run w σ ρ ok er _ XA h _ (fun ds μ1 h1 vs w1 em l1 k1 dn => ?_) hx
    subst em
    exact ⟨w1.θ, w1.μ, ds ++ dvs.map D.v, QA, XA, k1, dn.append (dens_v dvs), h1.1, h1.2, fun d μ' q => (hq d μ' q).mono l1, fun x μ' q => (hx x μ' q).mono l1⟩
theorem d_callN {g : List Value → List Value → List Value} {gV : List V → List V → List V} {gD : List D → List D → List D} (B : Bd X W k) (G : FnD X.prog X.w X.K X.mg X.base k' f fd ps F) (hk' : k' ≤ k) (hm : X.mg x = some (.ref f)) (hk : PySem.W.keepIn X.K (.ref f) = true) (hb : KBN X.K fd ps n ks g) (pm : PermN g gV gD) (ha : DA X [] W (e :: es) l) (hkw : DK1 X [] W kws lk)
    (hg : Gl X x := by rfl) (hdb : (x == ("__debug__" : Str)) = false := by decide) (hall : (backToKw pos (keywordEach kws X.env)).all (·.1.isSome) = true := by rfl) (hks : (backToKw pos (keywordEach kws X.env)).filterMap (·.1) = ks := by rfl)
    (he : starEach (e :: es) X.env = (false, eval e X.env) :: starEach es X.env := by rfl) (hpl : ((backTo pos (starEach (e :: es) X.env)).any (·.1) || (backToKw pos (keywordEach kws X.env)).any (·.1.isNone)) = false := by rfl) :
    DE X [] W (.Call (.Name x p) (e :: es) kws pos) (aCallN F ps.length n ks.length gD l lk) := by
  obtain ⟨tl, l1, l2⟩ := ha.ex
  obtain ⟨tk, m1, m2⟩ := hkw.ex
  refine ⟨fun σ H Q => tl σ H fun vs H1 => tk σ H1 fun zs H2 => vs.length = n ∧ zs.length = ks.length ∧ spD X.K ps.length F (gV vs zs) H2 Q (WE W σ), ⟨fun pins s σ H Q I h => ?_⟩, ⟨fun w σ ρ ok er QA XA h Q hq hx => ?_⟩⟩
  · refine wpAny_Call_Name_kw (ld_glob I hg hm ?_ hdb)
    refine PySem.W.callWith_KW (h₀ := X.base) I.ok.mod.kin hk hall (thn (l1.run pos pins s σ H _ I h) fun us s1 ⟨vs, H1, I1, r, q⟩ => ?_) hpl he
    refine thn (m1.run pos pins s1 σ H1 _ I1 q) fun ws s2 ⟨zs, H2, I2, rz, e1, e2, q2⟩ => ⟨I2.kIn, ?_⟩
    rw [hks]
    have r2 := pm.val r rz
    refine wpAny_call (codeAny_mono (G.run X.A X.stack s2 H2 ⟨us, ks.zip ws⟩ (g us ws) (gV vs zs) Q (WE W σ) (B.room.mono hk') I2.env0 (hb s2 us ws I2.kIn (by rw [← r.length]; exact e1) (by rw [← rz.length]; exact e2)) r2 q2) fun r s' hq => ?_)
    cases r with
    | error e => exact L2N.passAt B.tk σ pins H2 s2 e s' I2 hq
    | ok fl =>
      cases fl with
      | ret u => exact I2.after hq
      | next => exact hq.elim
      | brk => exact hq.elim
      | cont => exact hq.elim
  · refine l2.run w σ ρ ok er _ XA h _ (fun ds μ1 h1 vs w1 em l1 k1 dn => ?_) hx
    subst em
    refine m2.run w1 σ ρ k1 (er.mono l1) _ XA h1 _ (fun es μ2 h2 zs w2 em2 l2 k2 dn2 => ?_) (fun z μ' q => (hx z μ' q).mono l1)
    subst em2
    obtain ⟨⟨a1, a2, a3⟩, h2⟩ := h2
    exact ⟨by rw [dn.len]; exact a1, by rw [dn2.len]; exact a2, w2.θ, w2.μ, gD ds es, QA, XA, k2, pm.den (dn.mono l2) dn2, a3, h2, fun d μ' q => (hq d μ' q).mono (l1.trans l2), fun x μ' q => (hx x μ' q).mono (l1.trans l2)⟩
end
/-- in their order: places first, then keywords -/
theorem permN_cat : PermN (fun us ws => us ++ ws) (fun vs zs => vs ++ zs) (fun ds es => ds ++ es) := ⟨fun a b => a.append b, fun a b => a.append b⟩
/-- keyword-only defaults, none of them written -/
theorem bd_kw {K : PySem.W.Frag} {x qual : Str} {st : Stmt} {f D : Addr} {oc : Value} {od an : Option Addr} {doc pm cdv ct : Value} {osl : Array (Option Value)} {kws : List (Str × V)} {ps : List Str} (n : Nat)
    (lk : K.lookup f = some ⟨oc, od, .func (PySem.W.fnOf x qual (defArgs st) (defBody st) (defScope st) .none (.ref D) doc pm an cdv ct), osl⟩) (hc : PySem.W.codeIn K cdv qual = true) (hk : PySem.W.keepIn K (.ref f) = true)
    (hq : ∀ q ∈ kws, ∃ u, PySem.W.nsIn K D q.1 = some (some u) ∧ RelV q.2 u) (h0 : kws ≠ []) (hn : n + kws.length = ps.length)
    (h : ∀ (D : Addr) (doc pm : Value) (an : Option Addr) (cdv ct : Value) (us ks : List Value), us.length = n → ks.length = kws.length →
      KwChain D ((kws.map (·.1)).zip ks) (bindArgs (PySem.W.fnOf x qual (defArgs st) (defBody st) (defScope st) .none (.ref D) doc pm an cdv ct) ⟨us, []⟩) (ps.zip (us ++ ks))) :
    ∃ ds, Vals (kws.map (·.2)) ds ∧ Binds K (PySem.W.fnOf x qual (defArgs st) (defBody st) (defScope st) .none (.ref D) doc pm an cdv ct) ps ds :=
  FunD.binds0 (F := ⟨⟨oc, od, .none, .ref D, doc, pm, an, cdv, ct, osl, rfl, lk, hc, .inl ⟨rfl, rfl⟩, .inr ⟨D, rfl, hq⟩⟩, hk⟩) n h0 hn h
/-! ### list(xs), the new list a cell -/
def fListM : FL := fun xs μ Q => match xs with
  | [x] => (match itemsOf x μ with | some ds => Q (.loc μ.length) (μ ++ [.lst ds]) | none => False)
  | _ => False
theorem c_listM {X : Cx} : DCl X [] (.type "list") fListM := ⟨_, call_list_of, ⟨fun w xs ds k hx QA h Q hq => by
  unfold fListM at h
  split at h
  · split at h
    · rename_i e
      cases hx with
      | cons h1 h2 =>
        cases h2
        obtain ⟨p, vs, rfl, hsq, hs⟩ := items_sq k h1 e
        refine ⟨p, vs, rfl, hsq, fun q hp => ?_⟩
        obtain ⟨l2, k2⟩ := k.cellL hp hs
        refine hq _ _ h (.ref q) ⟨w.θ ++ [q], upd w.H q (.lst _), w.μ ++ [.lst _]⟩ rfl l2 k2 (.loc ?_)
        show (w.θ ++ [q])[w.μ.length]? = some q
        rw [← k.len, List.getElem?_append_right (Nat.le_refl _), Nat.sub_self]
        rfl
    · exact h.elim
  · exact h.elim⟩⟩
end DK
set_option Elab.async false
set_option linter.all false
set_option maxRecDepth 100000
set_option maxHeartbeats 4000000
/-! xs.extend(ys); a, b, c = a list; + as a new cell -/
namespace DK
open PySem PySem.Spec PyProof.Rows L2 L2H

def extIt (x d : D) (μ : Sto) (Q : Sto → Prop) : Prop := match x, d with
  | .loc k, .lst es => (match μ[k]? with | some (.lst ds) => ds.length + es.length ≤ 1000000 ∧ Q (μ.set k (.lst (ds ++ es))) | _ => False)
  | _, _ => False
def aExt (o e : AE) : AE := fun ρ μ Q X => o ρ μ (fun x μ1 => isL x μ1 = true ∧ e ρ μ1 (fun d μ2 => extIt x d μ2 fun μ3 => Q (.v .non) μ3) X) X
section
variable {X : Cx} {W : WX} {o e : Expr} {a b : AE} {apos pos : Pos}
end

/-! ### a, b, c = a list -/
def setAll : Rho → List Nat → List D → Rho
  | ρ, i :: is, d :: ds => setAll (ρ.set i (some d)) is ds
  | ρ, _, _ => ρ
def sUnpL (is : List Nat) (e : AE) : AS := fun A ρ μ => e ρ μ (fun d μ1 => match d with | .lst ds => ds.length = is.length ∧ A.nx (setAll ρ is ds) μ1 | _ => False) (fun x μ1 => A.er x ρ μ1)
def gNs : List Nat → TGs
  | [] => gNil
  | i :: is => gCons (gName i) (gNs is)
section
variable {K : PySem.W.Frag} {pn : List (Addr × Obj)} {W : WX} {te : TE} {e : AE}
def setAllV : L2.St → List Nat → List V → L2.St
  | σ, i :: is, v :: vs => setAllV (σ.set i (some v)) is vs
  | σ, _, _ => σ
end
section
variable {X : Cx} {pn : List (Addr × Obj)} {W : WX} {k : Nat} {e : Expr} {ae : AE} {pos pt : Pos} {es : List Expr}
end

/-! ### + as a new cell -/
def fAddM : F2 := fun x y μ Q => match x, y with
  | .lst a, .lst b => a.length + b.length ≤ 1000000 ∧ Q (.loc μ.length) (μ ++ [.lst (a ++ b)])
  | _, _ => False
section
variable {X : Cx}
end
end DK
set_option Elab.async false
set_option linter.all false
set_option maxRecDepth 100000
set_option maxHeartbeats 4000000
/-! statements whose new cells are plain data behind them -/
namespace DK
open PySem PySem.Spec PyProof.Rows L2 L2H

def fzO (μ : Sto) (j : Nat) : Option D → Option (Option D)
  | none => some none
  | some d => match fz μ j d with | some x => some (some x) | none => none
def fzR (μ : Sto) (j : Nat) : Rho → Option Rho
  | [] => some []
  | o :: ρ => match fzO μ j o, fzR μ j ρ with | some x, some xs => some (x :: xs) | _, _ => none
def sFz (b : AS) : AS := fun A ρ μ => b { A with nx := fun ρ2 μ2 => ∃ ρ' μc ex, fzR μ2 μ.length ρ2 = some ρ' ∧ μ2 = μc ++ ex ∧ μc.length = μ.length ∧ (∀ c ∈ μc, lbC μ.length c = true) ∧ A.nx ρ' μc } ρ μ
section
variable {K : PySem.W.Frag} {pn : List (Addr × Obj)} {W : WX} {t : TS} {b : AS}
theorem fzR_len {μ : Sto} {j : Nat} : ∀ {ρ ρ' : Rho}, fzR μ j ρ = some ρ' → ρ'.length = ρ.length
  | [], ρ', h => by
    simp only [fzR, Option.some.injEq] at h
    subst h
    rfl
  | o :: ρ, ρ', h => by
    unfold fzR at h
    split at h
    · rename_i x xs e1 e2
      cases h
      rw [List.length_cons, List.length_cons, fzR_len e2]
    · cases h
theorem fzR_get {μ : Sto} {j : Nat} : ∀ {ρ ρ' : Rho} {i : Nat} {d' : D}, fzR μ j ρ = some ρ' → ρ'[i]? = some (some d') → ∃ d, ρ[i]? = some (some d) ∧ fz μ j d = some d'
  | [], ρ', i, d', h, g => by
    simp only [fzR, Option.some.injEq] at h
    subst h
    cases g
  | o :: ρ, ρ', i, d', h, g => by
    unfold fzR at h
    split at h
    · rename_i x xs e1 e2
      cases h
      cases i with
      | zero =>
        rw [List.getElem?_cons_zero] at g
        cases g
        cases o with
        | none => cases e1
        | some d =>
          simp only [fzO] at e1
          split at e1
          · rename_i y e
            cases e1
            exact ⟨d, rfl, e⟩
          · cases e1
      | succ i =>
        rw [List.getElem?_cons_succ] at g
        obtain ⟨d, a, c⟩ := fzR_get e2 g
        exact ⟨d, by rw [List.getElem?_cons_succ]; exact a, c⟩
    · cases h
theorem ss_fz (hb : SS K pn W t b) : SS K pn W t (sFz b) := ⟨fun w σ ρ k er A h E hE =>
  hb.run w σ ρ k er _ h _ ⟨fun ρ2 μ2 q σ2 w2 em l2 k2 e2 => by
    subst em
    obtain ⟨ρ', μc, xs, hf, hμ, hl, hb, h1⟩ := q
    obtain ⟨ex, hθ, _⟩ := l2.ext
    have hkl := k.len
    rw [← hkl] at hf hl hb
    obtain ⟨l3, k3⟩ := k.dropN k2 l2 hθ hμ hl hb
    have nd := k2.nd
    have hc : ∀ (k' : Nat) (p : Addr) (ds : List D), w2.θ[k']? = some p → w2.μ[k']? = some (Cell.lst ds) → ∃ vs, w2.H p = some (.lst vs) ∧ Dens K [] w2.θ w2.H vs ds := fun k' p ds h2 h3 => k2.cell k' p _ h2 h3
    have hi : ∀ (k' : Nat) (p : Addr) (C : Addr) (fs : List (Str × D)), w2.θ[k']? = some p → w2.μ[k']? = some (Cell.ins C fs) → ∃ dx fvs, w2.H p = some (.ins C dx fvs) ∧ InsAt K [] w2.θ w2.H C fvs fs := fun k' p C fs h2 h3 => k2.cell k' p _ h2 h3
    have e3 : EnvR K pn ⟨w.θ, w2.H, μc⟩ σ2 ρ' := by
      refine ⟨(fzR_len hf).trans e2.len, fun i d' g => ?_⟩
      obtain ⟨d, g1, g2⟩ := fzR_get hf g
      obtain ⟨v, g3, dn⟩ := e2.get i d g1
      rw [hθ] at nd hc hi dn
      exact ⟨v, g3, fz_den nd hc hi d dn g2⟩
    exact hE.nx ρ' μc h1 σ2 ⟨w.θ, w2.H, μc⟩ rfl l3 k3 e3, hE.rt, hE.bk, hE.ct, hE.er⟩⟩
end
section
variable {X : Cx} {pn : List (Addr × Obj)} {W : WX} {st st2 st3 : Stmt} {sts : List Stmt} {a b c d : AS}
end
end DK
set_option Elab.async false
set_option linter.all false
set_option maxRecDepth 100000
set_option maxHeartbeats 4000000
/-! + where a list may be a cell; how calls by places and keywords bind -/
namespace DK
open PySem PySem.Spec PyProof.Rows L2 L2H

def lstOf (x : D) (μ : Sto) : Option (List D) := match x with
  | .lst ds => some ds
  | .loc k => (match μ[k]? with | some (.lst ds) => some ds | _ => none)
  | _ => none
def fAddX : F2 := fun x y μ Q => match lstOf x μ, lstOf y μ with
  | some a, some b => a.length + b.length ≤ 1000000 ∧ Q (.lst (a ++ b)) μ
  | _, _ => False
def fAddMX : F2 := fun x y μ Q => match lstOf x μ, lstOf y μ with
  | some a, some b => a.length + b.length ≤ 1000000 ∧ Q (.loc μ.length) (μ ++ [.lst (a ++ b)])
  | _, _ => False
section
variable {X : Cx} {K : PySem.W.Frag} {pn : List (Addr × Obj)}
end
theorem kbn_of {K : PySem.W.Frag} {x qual : Str} {st : Stmt} {f : Addr} {fd : FuncData} {ps ks : List Str} {n : Nat} {g : List Value → List Value → List Value} (F : Fun K x qual st f fd)
    (h : ∀ (kV doc pm : Value) (an : Option Addr) (cdv ct : Value) (us ws : List Value), us.length = n → ws.length = ks.length → bindArgs (PySem.W.fnOf x qual (defArgs st) (defBody st) (defScope st) .none kV doc pm an cdv ct) ⟨us, ks.zip ws⟩ = pure (ps.zip (g us ws))) : KBN K fd ps n ks g := by
  obtain ⟨oc, od, kV, doc, pm, an, cdv, ct, osl, rfl, lk, hcd⟩ := F.ex
  exact fun s us ws _ h1 h2 => .of_eq (h kV doc pm an cdv ct us ws h1 h2)
end DK
set_option Elab.async false
set_option linter.all false
set_option maxRecDepth 100000
set_option maxHeartbeats 4000000
/-! for x in e, where e is a list, a cell or a tuple -/
namespace DK
open PySem PySem.Spec PyProof.Rows L2 L2H

def iOr (a b : TI) : TI := fun σ H R => a σ H R ∨ b σ H R
def sForU (e : AE) (i : Nat) (b : AS) : AS := fun A ρ μ => sForC e i b A ρ μ ∨ sForL e i b A ρ μ ∨ sForT e i b A ρ μ
section
variable {K : PySem.W.Frag} {pn : List (Addr × Obj)} {W : WX} {te : TE} {e : AE} {tb : TS} {b : AS} {i : Nat}
end
section
variable {X : Cx} {pn : List (Addr × Obj)} {W : WX} {k : Nat} {e : Expr} {body : List Stmt} {a : AE} {b : AS} {pos p : Pos} {y : Str}
end
end DK
set_option Elab.async false
set_option linter.all false
set_option maxRecDepth 100000
set_option maxHeartbeats 4000000
/-! [e for x, y in zip(xs, ys)], two lists -/
namespace DK
open PySem PySem.Spec PyProof.Rows L2 L2H

def aLcZ (l : AA) (i j : Nat) (t : AT) (e : AE) : AE := fun ρ μ Q X => l ρ μ (fun ds0 μ1 => match ds0 with
  | [d, d'] => ∃ ds es, staysD d ds μ1 ∧ staysD d' es μ1 ∧ ds.length ≤ 500000 ∧ ∃ I : Nat → List D → Prop, I 0 [] ∧ (∀ n acc x y, ds[n]? = some x → es[n]? = some y → I n acc → aTurn2 i j t e (wipeD (wipeD ρ j) i) acc μ1 x y (I (n + 1))) ∧ ∀ acc, I (min ds.length es.length) acc → Q (.lst acc) μ1
  | _ => False) X
section
variable {K : PySem.W.Frag} {pn : List (Addr × Obj)} {W : WX} {tl : TA} {l : AA} {tt : TT} {t : AT} {te : TE} {e : AE} {i j : Nat}
theorem se_lcZ (hij : i ≠ j) (hl : SA K pn W tl l) (ht : ST K pn w0 tt t) (he : SE K pn w0 te e) : SE K pn W (tLc (iZip K tl) (gTup K 2 (gCons (gName i) (gCons (gName j) gNil))) tt te [i, j]) (aLcZ l i j t e) := ⟨fun w σ ρ k er QA XA h Q hq hx =>
  hl.run w σ ρ k er _ XA h _ (fun ds0 μ1 h1 vs0 w1 em l1 k1 dn => by
    subst em
    split at h1
    · rename_i d d'
      cases dn with
      | cons d1 dr =>
        cases dr with
        | cons d2 dr =>
          cases dr
          obtain ⟨ds, es, hst0, hst1, hlen, I, i0, hs, hn⟩ := h1
          obtain ⟨a, vs, rfl, hds, hsq⟩ := src_sq k1 d1 hst0
          obtain ⟨b, us, rfl, hes, hsq'⟩ := src_sq k1 d2 hst1
          rw [← hds.len] at hlen
          rw [← hds.len, ← hes.len] at hn
          refine ⟨a, b, vs, us, rfl, hsq w1 k1.refl k1 hst0, hsq' w1 k1.refl k1 hst1, fun p hp => lc_it (walk_zip (xs := vs) (ys := us) rfl) (LcP K pn w1 p I) (lc_start k1 hp i0) (fun n H _ q => ?_) (fun n x H H' hlt q y => ?_) (fun H q => lc_end k1 hp q hn fun d μ' z => (hq d μ' z).mono l1)⟩
          · obtain ⟨w2, acc, rfl, l2, k2, _, hμ, _⟩ := q
            exact ⟨hsq w2 l2 k2 (by rw [hμ]; exact stays_app hst0), hsq' w2 l2 k2 (by rw [hμ]; exact stays_app hst1)⟩
          · obtain ⟨w2, acc, rfl, l2, k2, hθ, hμ, hal, hne, hlb, hI⟩ := q
            obtain ⟨T, x0, y0, rfl, hT, rfl, hx0, hy0⟩ := y
            obtain ⟨dx, ed⟩ : ∃ dx, ds[n]? = some dx := ⟨_, List.getElem?_eq_getElem (by rw [← hds.len]; omega)⟩
            obtain ⟨dy, ed'⟩ : ∃ dy, es[n]? = some dy := ⟨_, List.getElem?_eq_getElem (by rw [← hes.len]; omega)⟩
            obtain ⟨x', ex, dnx⟩ := hds.get ed
            obtain ⟨y', ey, dny⟩ := hes.get ed'
            cases (ex.symm.trans hx0)
            cases (ey.symm.trans hy0)
            obtain ⟨l3, k3, _⟩ := k2.new (o := .tup [x0, y0]) hT
            have e2 : EnvR K pn w2 (wipe σ [i, j]) (wipeD (wipeD ρ j) i) := ((er.mono (l1.trans l2)).wipe (i := j) (o := none)).wipe (i := i) (o := none)
            exact ⟨T, _, rfl, .inl (Rd.of upd_same), rfl, _, _, rfl, _, _, rfl, rfl, wipe_set2 hij,
              lc_body (w := w1) (w1 := ⟨w2.θ, upd w2.H T (.tup [x0, y0]), w2.μ⟩) ht he (Nat.lt_of_lt_of_le (show n < vs.length by omega) hlen) (l2.trans l3) k3 hθ hμ hal hne hlb (((e2.mono l3).set (dnx.mono (l2.trans l3))).set (dny.mono (l2.trans l3))) (hs n acc dx dy ed ed' hI)⟩
    · exact h1.elim) hx⟩
end
section
variable {X : Cx} {pn : List (Addr × Obj)} {W : WX} {k : Nat} {e e' elt : Expr} {ifs : List Expr} {scope : Scope} {l : AA} {t : AT} {a : AE} {pos p p1 p2 px py pt : Pos} {x y : Str} {kt : Nat}
theorem d_lcZ (i j : Nat) (B : Bd X W k) (hm : X.mg "zip" = none) (hl : DA X pn W [e, e'] l) (ht : ∀ s H C cl fp, DTs (nblk X scope s H C cl fp) pn w0 ifs t) (he : ∀ s H C cl fp, Bd (nblk X scope s H C cl fp) w0 k → DE (nblk X scope s H C cl fp) pn w0 elt a)
    (hok : blkC X.N X.env.scope scope [(x, i), (y, j)] = true) (hpx : ∀ s H C cl fp, PG (nblk X scope s H C cl fp) (.Name x px) (gName i)) (hpy : ∀ s H C cl fp, PG (nblk X scope s H C cl fp) (.Name y py) (gName j)) (hg : Gl X "zip" := by rfl) (hij : i ≠ j := by decide)
    (hs : starEach [e, e'] X.env = (false, eval e X.env) :: starEach [e'] X.env := by rfl) (hpl : (backTo p2 (starEach [e'] X.env)).any (·.1) = false := by rfl) :
    DE X pn W (.ListComp elt [⟨.Tuple [.Name x px, .Name y py] kt pt, .Call (.Name "zip" p1) [e, e'] [] p2, ifs, 0⟩] scope pos) (aLcZ l i j t a) := by
  obtain ⟨te, tt, e1, e2, e3, e4⟩ := lc_parts (X := X) (nblk X scope) (fun _ _ _ _ _ => rfl) (fun s H C cl fp => he s H C cl fp (B.blk ..)) ht
  obtain ⟨tl, l1, l2⟩ := hl.ex
  exact ⟨_, pe_lc (own := [(x, i), (y, j)]) B.calm B.nd (pi_zip hg hm l1 hs hpl) (blkOk_by hok) (fun s H C cl fp => pg_tup (show Bd (nblk X scope s H C cl fp) w0 k from B.blk ..).calm (pgs_cons (hpx s H C cl fp) (pgs_cons (hpy s H C cl fp) pgs_nil))) e2 e1, se_lcZ hij l2 e4 e3⟩
end
end DK
set_option Elab.async false
set_option linter.all false
set_option maxRecDepth 100000
set_option maxHeartbeats 4000000
/-! [e for x, y in zip(xs, ys)], two lists, the new list a cell -/
namespace DK
open PySem PySem.Spec PyProof.Rows L2 L2H

/-- the scope of a comprehension within, read from the one around -/
def scopeIn (scope es : Scope) : Scope := { scope with names := scope.names.map fun z => if (z.2 == NameKind.free && es.kind == .function && es.names.lookup z.1 == some .cell) = true then (z.1, NameKind.cell) else z }
def aTurnV2 (i j c : Nat) (t : AT) (e : AE) (ρ : Rho) (m : Sto) (x y : D) (N : Sto → Prop) : Prop :=
  t ((ρ.set i (some x)).set j (some y)) m (fun b m1 => bIf b (e ((ρ.set i (some x)).set j (some y)) m1 (fun d m2 => noErr d = true ∧ appIt (.loc c) d m2 N) (fun _ _ => False)) (N m1)) (fun _ _ => False)
def aLcZV (l : AA) (i j : Nat) (t : AT) (e : AE) : AE := fun ρ μ Q X => l ρ μ (fun ds0 μ1 => match ds0 with
  | [d, d'] => ∃ ds es, staysD d ds μ1 ∧ staysD d' es μ1 ∧ ds.length ≤ 500000 ∧ ∃ I : Nat → Sto → Prop, I 0 (μ1 ++ [.lst []]) ∧ (∀ n m, I n m → staysD d ds m ∧ staysD d' es m) ∧ (∀ n x y m, ds[n]? = some x → es[n]? = some y → I n m → aTurnV2 i j μ1.length t e (wipeD (wipeD ρ j) i) m x y (I (n + 1))) ∧ ∀ m, I (min ds.length es.length) m → Q (.loc μ1.length) m
  | _ => False) X
section
variable {K : PySem.W.Frag} {pn : List (Addr × Obj)} {W : WX} {tl : TA} {l : AA} {tt : TT} {t : AT} {te tx : TE} {e x : AE} {i j : Nat}
end
section
variable {X : Cx} {pn : List (Addr × Obj)} {W : WX} {k : Nat} {e e' elt : Expr} {ifs : List Expr} {scope : Scope} {l : AA} {t : AT} {a : AE} {pos p p1 p2 px py pt : Pos} {x y : Str} {kt : Nat}
end

/-! ### a block whose new cells are plain data behind it; slots may be let go -/
inductive FzS (μ : Sto) (j : Nat) : Rho → Rho → Prop
  | nil : FzS μ j [] []
  | drop {o : Option D} {ρ ρ' : Rho} (h : FzS μ j ρ ρ') : FzS μ j (o :: ρ) (none :: ρ')
  | keep {d d' : D} {ρ ρ' : Rho} (e : fz μ j d = some d') (h : FzS μ j ρ ρ') : FzS μ j (some d :: ρ) (some d' :: ρ')
def sFy (b : AS) : AS := fun A ρ μ => b { A with nx := fun ρ2 μ2 => ∃ ρ' μc ex, FzS μ2 μ.length ρ2 ρ' ∧ μ2 = μc ++ ex ∧ μc.length = μ.length ∧ (∀ c ∈ μc, lbC μ.length c = true) ∧ A.nx ρ' μc } ρ μ
section
variable {K : PySem.W.Frag} {pn : List (Addr × Obj)} {W : WX} {t : TS} {b : AS}
end
end DK
set_option Elab.async false
set_option linter.all false
set_option maxRecDepth 100000
set_option maxHeartbeats 4000000
/-! zip of a list and a tuple -/
namespace DK
open PySem PySem.Spec PyProof.Rows L2 L2H
section
variable {prog : Program} {w : World} {A : Around} {E : Value → Shared → Prop} {s : Shared}
/-- what a turn leaves alone -/
abbrev Rest4 (g g' : Heap) (z o p q : Addr) : Prop := ∀ c u, c ≠ z → c ≠ o → c ≠ p → c ≠ q → g.get? c = some u → g'.get? c = some u
end
abbrev zm1 (g : Heap) (l : Addr) : Heap := g.push { cls := .type "list_iterator", data := .fields #[.ref l, .int 0 0] }
abbrev zm2 (g : Heap) (l m : Addr) : Heap := (zm1 g l).push { cls := .type "tuple_iterator", data := .fields #[.ref m, .int 0 0] }
abbrev zm3 (g : Heap) (l m : Addr) : Heap := (zm2 g l m).push { cls := .type "tuple", data := .seq #[.ref g.objs.size, .ref (zm1 g l).objs.size] }
abbrev zm4 (g : Heap) (l m : Addr) : Heap := (zm3 g l m).push { cls := .type "tuple", data := .seq #[.none, .none] }
abbrev zm5 (g : Heap) (l m : Addr) : Heap := (zm4 g l m).push { cls := .type "zip", data := .fields #[.none, .bool false, .bool false, .ref (zm2 g l m).objs.size, .ref (zm3 g l m).objs.size] }
section
variable {prog : Program} {w : World} {A : Around} {E : Value → Shared → Prop} {s : Shared}
end

/-! ### the walk -/
def ItM (K : PySem.W.Frag) (l m : Addr) : It :=
  ⟨fun i H => ∃ (vs us : List V) (x y : V), SqL K H l vs ∧ SqT K H m us ∧ vs[i]? = some x ∧ us[i]? = some y,
    fun i H v H' => ∃ T x y, v = .ref T ∧ H T = none ∧ H' = upd H T (.tup [x, y]) ∧ (∀ vs, SqL K H l vs → vs[i]? = some x) ∧ ∀ us, SqT K H m us → us[i]? = some y,
    fun i H => ∃ vs us : List V, SqL K H l vs ∧ SqT K H m us ∧ (vs.length ≤ i ∨ us.length ≤ i)⟩
def iZipM (K : PySem.W.Frag) (ta : TA) : TI := fun σ H R => ta σ H fun vs H1 => ∃ l m xs ys, vs = [.ref l, .ref m] ∧ SqL K H1 l xs ∧ SqT K H1 m ys ∧ R (ItM K l m) H1
/-! ### comprehensions over it -/
def aLcM (l : AA) (i j : Nat) (t : AT) (e : AE) : AE := fun ρ μ Q X => l ρ μ (fun ds0 μ1 => match ds0 with
  | [d, .tup es] => ∃ ds, staysD d ds μ1 ∧ ds.length ≤ 500000 ∧ ∃ I : Nat → List D → Prop, I 0 [] ∧ (∀ n acc x y, ds[n]? = some x → es[n]? = some y → I n acc → aTurn2 i j t e (wipeD (wipeD ρ j) i) acc μ1 x y (I (n + 1))) ∧ ∀ acc, I (min ds.length es.length) acc → Q (.lst acc) μ1
  | _ => False) X
def aLcMV (l : AA) (i j : Nat) (t : AT) (e : AE) : AE := fun ρ μ Q X => l ρ μ (fun ds0 μ1 => match ds0 with
  | [d, .tup es] => ∃ ds, staysD d ds μ1 ∧ ds.length ≤ 500000 ∧ ∃ I : Nat → Sto → Prop, I 0 (μ1 ++ [.lst []]) ∧ (∀ n m, I n m → staysD d ds m) ∧ (∀ n x y m, ds[n]? = some x → es[n]? = some y → I n m → aTurnV2 i j μ1.length t e (wipeD (wipeD ρ j) i) m x y (I (n + 1))) ∧ ∀ m, I (min ds.length es.length) m → Q (.loc μ1.length) m
  | _ => False) X
section
variable {K : PySem.W.Frag} {pn : List (Addr × Obj)} {W : WX} {tl : TA} {l : AA} {tt : TT} {t : AT} {te tx : TE} {e x : AE} {i j : Nat}
end
section
variable {X : Cx} {pn : List (Addr × Obj)} {W : WX} {k : Nat} {e e' elt : Expr} {ifs : List Expr} {scope : Scope} {l : AA} {t : AT} {a : AE} {pos p p1 p2 px py pt : Pos} {x y : Str} {kt : Nat}
end
end DK
set_option Elab.async false
set_option linter.all false
set_option maxRecDepth 100000
set_option maxHeartbeats 4000000
/-! enumerate of a tuple; comprehensions over a tuple, the new list a cell -/
namespace DK
open PySem PySem.Spec PyProof.Rows L2 L2H
open AutoSeq1 (wpAny_loadPart')
section
variable {prog : Program} {w : World} {A : Around} {E : Value → Shared → Prop} {s : Shared}
end
/-- the tuple at a as it stands at each turn, each item in a new pair -/
def ItEt (K : PySem.W.Frag) (a : Addr) : It :=
  ⟨fun i H => ∃ (vs : List V) (x : V), SqT K H a vs ∧ vs[i]? = some x, fun i H v H' => ∃ T x, v = .ref T ∧ H T = none ∧ H' = upd H T (.tup [.int (i : Nat), x]) ∧ ∀ vs, SqT K H a vs → vs[i]? = some x, fun i H => ∃ vs : List V, SqT K H a vs ∧ vs.length ≤ i⟩
def iEnt (K : PySem.W.Frag) (ta : TA) : TI := fun σ H R => ta σ H fun vs H1 => ∃ a xs, vs = [.ref a] ∧ SqT K H1 a xs ∧ R (ItEt K a) H1
/-- for i, j in enumerate(a tuple) -/
def sForEt (l : AA) (i j : Nat) (b : AS) : AS := fun A ρ μ => l ρ μ (fun ds0 μ1 => match ds0 with
  | [.tup ds] => ∃ I : Nat → Rho → Sto → Prop, I 0 ρ μ1 ∧
    (∀ n ρ' μ' x, ds[n]? = some x → I n ρ' μ' → b { A with nx := I (n + 1), ct := I (n + 1), bk := A.nx } ((ρ'.set i (some (.v (.int (n : Nat))))).set j (some x)) μ') ∧ ∀ ρ' μ', I ds.length ρ' μ' → A.nx ρ' μ'
  | _ => False) (fun x μ1 => A.er x ρ μ1)
section
variable {K : PySem.W.Frag} {pn : List (Addr × Obj)} {W : WX} {tl : TA} {l : AA} {tt : TT} {t : AT} {te tx : TE} {e x : AE} {i j : Nat} {tb : TS} {b : AS}
end
section
variable {X : Cx} {pn : List (Addr × Obj)} {W : WX} {k : Nat} {e elt : Expr} {ifs : List Expr} {body : List Stmt} {scope : Scope} {l : AA} {t : AT} {a x : AE} {b : AS} {pos p p1 p2 p3 px py pt : Pos} {z y : Str} {kt : Nat}
end
end DK
set_option Elab.async false
set_option linter.all false
set_option maxRecDepth 100000
set_option maxHeartbeats 2000000
namespace DK
open PySem PySem.Spec PyProof.Rows L2

/-! ### errors of a class without own __init__, made without arguments -/
/-- what such a class says -/
structure Er0 (K : PySem.W.Frag) (mg : Str → Option Value) (x : Str) (C : Addr) : Prop where
  ex : PySem.W.excIn K C [.type "ValueError", .type "Exception", .type "BaseException", .type "object"] "ValueError.__new__" = true
  kC : PySem.W.keepIn K (.ref C) = true
  exC : PySem.W.subIn K (.ref C) (.type "BaseException") = some true
  tyC : PySem.W.typeIn K (.ref C) = some (.type "type")
  m : mg x = some (.ref C)
def sRaise0 (C : Addr) : AS := fun A ρ μ => A.er ⟨C, []⟩ ρ μ
section
variable {X : Cx} {W : WX} {k : Nat} {C : Addr} {x : Str} {p pos pos2 : Pos}
end
end DK
set_option Elab.async false
set_option linter.all false
set_option maxRecDepth 100000
set_option maxHeartbeats 4000000
namespace DK
open PySem PySem.Spec PyProof.Rows L2 L2H

/-! ### a slice of a list that stays a cell -/
def fSlM (x : D) (lo hi : Option Int) (μ : Sto) (Q : QD) : Prop := match lstOf x μ with
  | some ds => Q (.loc μ.length) (μ ++ [.lst (cutD ds lo hi)])
  | none => False
def aSlM (e : AE) (lo hi : AO) : AE := fun ρ μ Q X => e ρ μ (fun x μ1 => lo ρ μ1 (fun l μ2 => hi ρ μ2 (fun h μ3 => fSlM x l h μ3 Q) X) X) X
section
variable {K : PySem.W.Frag} {X : Cx} {W : WX} {te : TE} {tl th : TO} {e : AE} {lo hi : AO}
end
section
variable {X : Cx} {W : WX} {e : Expr} {a : AE} {lo hi : Option Expr} {al ah : AO} {p2 pos : Pos}
end
end DK
set_option Elab.async false
set_option linter.all false
set_option maxRecDepth 100000
set_option maxHeartbeats 4000000
/-! calls where some keyword-only parameters are written and others fill up; comprehensions with two for -/
namespace DK
open PySem PySem.Spec PyProof.Rows L2 L2H

/-! ### keyword-only parameters, some by their defaults -/
section
variable {X : Cx} {W : WX} {k k' : Nat} {f : Addr} {fd : FuncData} {ps ks : List Str} {F : FD} {x : Str} {e : Expr} {es : List Expr} {kws : List Keyword} {l lk : AA} {p pos : Pos} {n : Nat}
end
/-- the lacking values stand between the places' and the keywords', or behind them -/
def gMid {α : Type} (us mv ws : List α) : List α := us ++ mv ++ ws
def gEnd {α : Type} (us mv ws : List α) : List α := us ++ ws ++ mv
structure GOk (G : {α : Type} → List α → List α → List α → List α) : Prop where
  val : ∀ {vs mz zs : List V} {us mv ws : List Value}, Vals vs us → Vals mz mv → Vals zs ws → Vals (G vs mz zs) (G us mv ws)
  den : ∀ {K pn θ H} {vs mz zs : List V} {ds md es : List D}, Dens K pn θ H vs ds → Dens K pn θ H mz md → Dens K pn θ H zs es → Dens K pn θ H (G vs mz zs) (G ds md es)
theorem gEnd_ok : GOk @gEnd := ⟨fun a b c => (a.append c).append b, fun a b c => (a.append c).append b⟩
theorem kwx_of {K : PySem.W.Frag} {x qual : Str} {st : Stmt} {f dk : Addr} {oc : Value} {od an : Option Addr} {doc pm cdv ct : Value} {osl : Array (Option Value)} {ps ks : List Str} {G : {α : Type} → List α → List α → List α → List α} (hG : GOk @G) (n : Nat) (ms : List (Str × V))
    (lk : K.lookup f = some ⟨oc, od, .func (PySem.W.fnOf x qual (defArgs st) (defBody st) (defScope st) .none (.ref dk) doc pm an cdv ct), osl⟩)
    (hq : ∀ q ∈ ms, ∃ u, PySem.W.nsIn K dk q.1 = some (some u) ∧ RelV q.2 u)
    (h : ∀ (dk : Addr) (doc pm : Value) (an : Option Addr) (cdv ct : Value) (us mv ws : List Value), us.length = n → mv.length = ms.length → ws.length = ks.length →
      KwChain dk ((ms.map (·.1)).zip mv) (bindArgs (PySem.W.fnOf x qual (defArgs st) (defBody st) (defScope st) .none (.ref dk) doc pm an cdv ct) ⟨us, ks.zip ws⟩) (ps.zip (G us mv ws))) :
    ∃ g, KBN K (PySem.W.fnOf x qual (defArgs st) (defBody st) (defScope st) .none (.ref dk) doc pm an cdv ct) ps n ks g ∧ PermN g (fun vs zs => G vs (ms.map (·.2)) zs) (fun ds es => G ds ((ms.map (·.2)).map D.v) es) := by
  obtain ⟨mv, hl, rk, hks⟩ := kwd_vals hq
  exact ⟨fun us ws => G us mv ws, fun s us ws X h1 h2 => BindsTo.of_looks fun M => KwChain.looks X hks (h dk doc pm an cdv ct us mv ws h1 hl h2), ⟨fun a b => hG.val a rk b, fun a b => hG.den a (dens_v _) b⟩⟩

/-! ### [e for x in xs for y in ys] -/
/-- an iterator that leaves the heap as it is and gives these items -/
def WalkD (K : PySem.W.Frag) (pn : List (Addr × Obj)) (S : Sto → Sto → Prop) (w : Wd) (J : It) (ds : List D) : Prop :=
  ∃ (G : Hp → Prop) (Y : Nat → Hp → V → Hp → Prop), Walk J ds.length G Y ∧ (∀ w2, WLe w w2 → Ok K w2 → S w.μ w2.μ → G w2.H) ∧ ∀ i H x H', i < ds.length → Y i H x H' → H' = H ∧ ∃ d, ds[i]? = some d ∧ ∀ w2, WLe w w2 → Den K pn w2.θ w2.H x d
structure SI (K : PySem.W.Frag) (pn : List (Addr × Obj)) (S : Sto → Sto → Prop) (W : WX) (wi : TI) (src : ASrc) : Prop where
  run : ∀ (w : Wd) (σ : L2.St) (ρ : Rho), Ok K w → EnvR K pn w σ ρ → ∀ (QA : List D → Sto → Prop) (XA : QX), src ρ w.μ QA XA → ∀ R : It → Hp → Prop,
    (∀ ds μ', QA ds μ' → ∀ (w' : Wd) (J : It), w'.μ = μ' → WLe w w' → Ok K w' → WalkD K pn S w' J ds → R J w'.H) → (∀ x μ', XA x μ' → PX K pn w (fun c d H => W c d σ H) x μ') → wi σ w.H R
/-- a list, plain or a cell -/
def rS (e : AE) : ASrc := fun ρ μ Q X => e ρ μ (fun d μ1 => ∃ ds, staysD d ds μ1 ∧ Q ds μ1) X
/-- the same within a comprehension, whose new list is the last cell -/
def rS1 (e : AE) : ASrc := fun ρ μ Q X => e ρ μ (fun d μ1 => ∃ ds, staysD d ds μ1.dropLast ∧ Q ds μ1) X
abbrev extS (μ μ' : Sto) : Prop := ∃ ex, μ' = μ ++ ex
abbrev lasS (μ μ' : Sto) : Prop := μ'.dropLast = μ.dropLast
theorem stays_dl {d : D} {ds : List D} {μ : Sto} (h : staysD d ds μ.dropLast) : staysD d ds μ := by
  unfold staysD at *
  split at h
  · exact h
  · exact h
  · refine ⟨h.1, ?_⟩
    have z := h.2
    rw [List.getElem?_dropLast] at z
    split at z
    · exact z
    · cases z
  · exact h
section
variable {K : PySem.W.Frag} {pn : List (Addr × Obj)} {W : WX} {tl : TA} {l : AA} {tx te : TE} {x e : AE} {S : Sto → Sto → Prop}
theorem si_S1 (hx0 : SE K pn W tx x) : SI K pn lasS W (iList K tx) (rS1 x) := ⟨fun w σ ρ k er QA XA h R hR hx =>
  hx0.run w σ ρ k er _ XA h _ (fun d μ1 h1 v w1 em l1 k1 dn => by
    subst em
    obtain ⟨ds, hst, hQ⟩ := h1
    obtain ⟨a, vs, rfl, hds, hsq⟩ := src_sq k1 dn (stays_dl hst)
    refine ⟨a, rfl, ⟨vs, hsq w1 k1.refl k1 (stays_dl hst)⟩, hR _ _ hQ w1 _ rfl l1 k1 ⟨fun H => SqL K H a vs, _, by rw [← hds.len]; exact walk_list (xs := vs), fun w2 l2 k2 e2 => hsq w2 l2 k2 (stays_dl (by rw [show w2.μ.dropLast = w1.μ.dropLast from e2]; exact hst)), fun i H x H' hi y => ?_⟩⟩
    obtain ⟨e, ex⟩ := y
    obtain ⟨d', ed⟩ : ∃ d', ds[i]? = some d' := ⟨_, List.getElem?_eq_getElem hi⟩
    obtain ⟨x', ex', dnx⟩ := hds.get ed
    cases (ex'.symm.trans ex)
    exact ⟨e, d', ed, fun w2 l2 => dnx.mono l2⟩) hx⟩
theorem si_T (hx0 : SE K pn W tx x) : SI K pn S W (iTup K tx) (rT x) := ⟨fun w σ ρ k er QA XA h R hR hx =>
  hx0.run w σ ρ k er _ XA h _ (fun d μ1 h1 v w1 em l1 k1 dn => by
    subst em
    split at h1
    · rename_i ds
      cases dn with
      | @tup a vs _ ha hds =>
        have hsq : ∀ w2, WLe w1 w2 → SqT K w2.H a vs := fun w2 l2 => ha.imp (fun z => Rd.of (l2.keep _ _ z.1 z.2)) id
        refine ⟨a, rfl, ⟨vs, hsq w1 k1.refl⟩, hR _ _ h1 w1 _ rfl l1 k1 ⟨fun H => SqT K H a vs, _, by rw [← hds.len]; exact walk_tup (xs := vs), fun w2 l2 _ _ => hsq w2 l2, fun i H x H' hi y => ?_⟩⟩
        obtain ⟨e, ex⟩ := y
        obtain ⟨d', ed⟩ : ∃ d', ds[i]? = some d' := ⟨_, List.getElem?_eq_getElem hi⟩
        obtain ⟨x', ex', dnx⟩ := hds.get ed
        cases (ex'.symm.trans ex)
        exact ⟨e, d', ed, fun w2 l2 => dnx.mono l2⟩
    · exact h1.elim) hx⟩
end
/-- the inner loop, from a list to a list -/
def aIn (src1 : ASrc) (j : Nat) (e : AE) (ρ : Rho) (μ : Sto) (acc : List D) (N : List D → Prop) : Prop :=
  src1 ρ (μ ++ [.lst acc]) (fun ys m => m = μ ++ [.lst acc] ∧ ∃ I1 : Nat → List D → Prop, I1 0 acc ∧ (∀ n ac y, ys[n]? = some y → I1 n ac → ac.length ≤ 1000000 ∧ e ((wipeD ρ j).set j (some y)) (μ ++ [.lst ac]) (fun d m => m = μ ++ [.lst ac] ∧ (noErr d = true ∧ lb μ.length d = true) ∧ I1 (n + 1) (ac ++ [d])) (fun _ _ => False)) ∧ ∀ ac, I1 ys.length ac → N ac) (fun _ _ => False)
def aLc2 (src : ASrc) (i : Nat) (src1 : ASrc) (j : Nat) (e : AE) : AE := fun ρ μ Q X => src ρ μ (fun xs μ1 => ∃ I : Nat → List D → Prop, I 0 [] ∧ (∀ n acc x, xs[n]? = some x → I n acc → aIn src1 j e ((wipeD (wipeD ρ j) i).set i (some x)) μ1 acc (I (n + 1))) ∧ ∀ acc, I xs.length acc → Q (.lst acc) μ1) X
section
variable {K : PySem.W.Frag} {pn : List (Addr × Obj)} {W : WX} {wi wi1 : TI} {src src1 : ASrc} {te : TE} {e : AE} {i j : Nat}
/-- what is true between two turns, the new list at p -/
def LcQ (K : PySem.W.Frag) (wb w : Wd) (p : Addr) (I : Nat → List D → Prop) (n : Nat) (H : Hp) : Prop :=
  ∃ (w' : Wd) (acc : List D), w'.H = H ∧ WLe wb w' ∧ WLe w w' ∧ Ok K w' ∧ w'.θ = w.θ ++ [p] ∧ w'.μ = w.μ ++ [.lst acc] ∧ noErrs acc = true ∧ lbs w.θ.length acc = true ∧ I n acc
theorem lcq_start {w : Wd} {p : Addr} {I : Nat → List D → Prop} (k : Ok K w) (hp : w.H p = none) (h : I 0 []) : LcQ K w w p I 0 (upd w.H p (.lst [])) := by
  obtain ⟨l2, k2⟩ := k.cellL hp (.nil (K := K))
  exact ⟨⟨w.θ ++ [p], upd w.H p (.lst []), w.μ ++ [.lst []]⟩, [], rfl, l2, l2, k2, rfl, rfl, rfl, rfl, h⟩
theorem lcq_end {wb w : Wd} {p : Addr} {I : Nat → List D → Prop} {n : Nat} {H : Hp} {Q : VK} {QA : QD} (k : Ok K w) (hp : w.H p = none) (q : LcQ K wb w p I n H) (hI : ∀ acc, I n acc → QA (.lst acc) w.μ) (hq : ∀ d μ', QA d μ' → PQ K pn w Q d μ') : Q (.ref p) H := by
  obtain ⟨w1, acc, rfl, _, l1, k1, hθ, hμ, hne, hlb, hi⟩ := q
  obtain ⟨l2, k2⟩ := k.drop k1 l1 hθ hμ hp
  have hlen := k.len
  obtain ⟨us, hu, hus⟩ := k1.cell w.θ.length p (.lst acc) (by rw [hθ, List.getElem?_append_right (Nat.le_refl _), Nat.sub_self]; rfl) (by rw [hμ, hlen, List.getElem?_append_right (Nat.le_refl _), Nat.sub_self]; rfl)
  rw [hθ] at hus
  have np : p ∉ w.θ := fun hm => by
    obtain ⟨o, ho⟩ := k.trk p hm
    rw [hp] at ho
    cases ho
  exact hq _ _ (hI acc hi) (.ref p) ⟨w.θ, w1.H, w.μ⟩ rfl l2 k2 (.lst hu np ((hus.cut hlb hne).sub fun _ z => (List.not_mem_nil z).elim))
/-- an element's turn -/
theorem lcq_elt {wb w w1 : Wd} {σ1 : L2.St} {ρ1 : Rho} {p : Addr} {I : Nat → List D → Prop} {n : Nat} {acc : List D} (he : SE K pn w0 te e) (lb1 : WLe wb w1) (l1 : WLe w w1) (k1 : Ok K w1) (hθ : w1.θ = w.θ ++ [p]) (hμ : w1.μ = w.μ ++ [.lst acc]) (hne : noErrs acc = true) (hlb : lbs w.θ.length acc = true) (e1 : EnvR K pn w1 σ1 ρ1)
    (h : acc.length ≤ 1000000 ∧ e ρ1 (w.μ ++ [.lst acc]) (fun d m => m = w.μ ++ [.lst acc] ∧ (noErr d = true ∧ lb w.μ.length d = true) ∧ I (n + 1) (acc ++ [d])) (fun _ _ => False)) :
    te σ1 w1.H fun y H4 => ∃ acc, H4 p = some (.lst acc) ∧ acc.length < sizeLine ∧ LcQ K wb w p I (n + 1) (upd H4 p (.lst (acc ++ [y]))) := by
  obtain ⟨hal, h⟩ := h
  have hlen : w.θ.length = w.μ.length := by
    have a := k1.len
    rw [hθ, hμ, List.length_append, List.length_append, List.length_singleton, List.length_singleton] at a
    omega
  rw [← hμ] at h
  refine he.run w1 _ _ k1 e1 _ _ h _ (fun d μ' hd y w3 em3 l3 k3 dn => ?_) fun _ _ z => z.elim
  subst em3
  obtain ⟨m3, ⟨hd1, hd2⟩, hd⟩ := hd
  have t3 : w3.θ = w.θ ++ [p] := by
    obtain ⟨ex, hex, _⟩ := l3.ext
    have a := k3.len
    rw [m3, hex, List.length_append, k1.len] at a
    have hx0 : ex = [] := List.length_eq_zero_iff.mp (by omega)
    rw [hex, hx0, List.append_nil, hθ]
  have hj3 : w3.θ[w.θ.length]? = some p := by
    rw [t3, List.getElem?_append_right (Nat.le_refl _), Nat.sub_self]
    rfl
  have hm3 : w3.μ[w.θ.length]? = some (.lst acc) := by
    rw [m3, hμ, hlen, List.getElem?_append_right (Nat.le_refl _), Nat.sub_self]
    rfl
  obtain ⟨us, hu, hus⟩ := k3.cell _ _ _ hj3 hm3
  obtain ⟨l4, k4⟩ := k3.writeL hj3 (hus.append (.cons (dn.un hd1) .nil))
  refine ⟨us, hu, ?_, ?_⟩
  · rw [hus.len]
    exact Nat.lt_of_le_of_lt hal (by decide)
  · refine ⟨⟨w3.θ, upd w3.H p (.lst (us ++ [y])), w3.μ.set w.θ.length (.lst (acc ++ [d]))⟩, acc ++ [d], rfl, (lb1.trans l3).trans l4, (l1.trans l3).trans l4, k4, t3, ?_, ?_, ?_, hd⟩
    · show w3.μ.set w.θ.length (.lst (acc ++ [d])) = w.μ ++ [.lst (acc ++ [d])]
      rw [m3, hμ, hlen, List.set_append_right _ _ (Nat.le_refl _), Nat.sub_self]
      rfl
    · rw [noErrs_app, hne]
      show (true && (noErr d && true)) = true
      rw [hd1]
      rfl
    · rw [lbs_app, hlb]
      show (true && (lb _ d && true)) = true
      rw [hlen, hd2]
      rfl
theorem wipe_one2 {σ : L2.St} {x : V} (hij : i ≠ j) : wipe ((wipe σ [i, j]).set i (some x)) [i, j] = wipe σ [i, j] := by
  show (((((σ.set j none).set i none).set i (some x)).set j none).set i none) = (σ.set j none).set i none
  rw [List.set_set, List.set_comm (some x) none hij, List.set_set, List.set_set]
theorem se_lc2 (hij : i ≠ j) (hs0 : SI K pn extS W wi src) (hs1 : SI K pn lasS w0 wi1 src1) (he : SE K pn w0 te e) : SE K pn W (tLc2 wi (gName i) tYes wi1 (gName j) tYes te [i, j] [j]) (aLc2 src i src1 j e) := ⟨fun w σ ρ k er QA XA h Q hq hx =>
  hs0.run w σ ρ k er _ XA h _ (fun xs μ1 h1 w1 J em l1 k1 hw p hp => by
    subst em
    obtain ⟨I, i0, hs, hn⟩ := h1
    obtain ⟨G, Y, wk, hG, hY⟩ := hw
    refine ⟨fun n m H => m = xs.length - n ∧ n ≤ xs.length ∧ LcQ K w1 w1 p I n H, ⟨xs.length, by simp, Nat.zero_le _, lcq_start k1 hp i0⟩, ?_⟩
    rintro n m H ⟨rfl, hi, q⟩
    have gH : G H := by
      obtain ⟨w2, acc, rfl, _, l2, k2, _, hμ, _⟩ := q
      exact hG w2 l2 k2 ⟨_, hμ⟩
    by_cases hlt : n < xs.length
    · refine .inr ⟨wk.goes n H hlt gH, LcQ K w1 w1 p I (n + 1), fun H' q' => ⟨xs.length - (n + 1), by omega, rfl, hlt, q'⟩, fun x H' y => ?_⟩
      obtain ⟨rfl, d, hd, hden⟩ := hY n H x H' hlt (wk.yields n H x H' hlt gH y)
      obtain ⟨w2, acc, rfl, _, l2, k2, hθ, hμ, hne, hlb, hI⟩ := q
      refine ⟨wipe_one2 hij, ?_⟩
      have e2 : EnvR K pn w2 ((wipe σ [i, j]).set i (some x)) ((wipeD (wipeD ρ j) i).set i (some d)) := (((er.mono (l1.trans l2)).wipe (i := j) (o := none)).wipe (i := i) (o := none)).set (hden w2 l2)
      have ht := hs n acc d hd hI
      unfold aIn at ht
      rw [← hμ] at ht
      unfold tYes
      refine (iff_of_eq (if_pos rfl)).mpr ?_
      refine hs1.run w2 _ _ k2 e2 _ _ ht _ (fun ys μ2 h2 w3 J1 em3 l3 k3 hw1 => ?_) fun _ _ z => z.elim
      subst em3
      obtain ⟨m3, I1, j0, js, jn⟩ := h2
      obtain ⟨G1, Y1, wk1, hG1, hY1⟩ := hw1
      have t3 : w3.θ = w1.θ ++ [p] := by
        obtain ⟨ex, hex, _⟩ := l3.ext
        have a := k3.len
        rw [m3, hex, List.length_append, k2.len] at a
        have hx0 : ex = [] := List.length_eq_zero_iff.mp (by omega)
        rw [hex, hx0, List.append_nil, hθ]
      refine ⟨fun n' m H => m = ys.length - n' ∧ n' ≤ ys.length ∧ LcQ K w3 w1 p I1 n' H, ⟨ys.length, by simp, Nat.zero_le _, ⟨w3, acc, rfl, k3.refl, l2.trans l3, k3, t3, by rw [m3, hμ], hne, hlb, j0⟩⟩, ?_⟩
      rintro n' m H ⟨rfl, hi', q⟩
      obtain ⟨w4, ac, rfl, l34, l4, k4, hθ4, hμ4, hne4, hlb4, hI4⟩ := q
      have g4 : G1 w4.H := hG1 w4 l34 k4 (by show w4.μ.dropLast = w3.μ.dropLast; rw [hμ4, m3, hμ, List.dropLast_concat, List.dropLast_concat])
      by_cases hlt' : n' < ys.length
      · refine .inr ⟨wk1.goes n' _ hlt' g4, LcQ K w3 w1 p I1 (n' + 1), fun H' q' => ⟨ys.length - (n' + 1), by omega, rfl, hlt', q'⟩, fun y H' hy' => ?_⟩
        obtain ⟨rfl, dy, hdy, hdeny⟩ := hY1 n' _ y H' hlt' (wk1.yields n' _ y H' hlt' g4 hy')
        refine ⟨wipe_set, ?_⟩
        refine (iff_of_eq (if_pos rfl)).mpr ?_
        have e4 : EnvR K pn w4 ((wipe ((wipe σ [i, j]).set i (some x)) [j]).set j (some y)) ((wipeD ((wipeD (wipeD ρ j) i).set i (some d)) j).set j (some dy)) := ((e2.mono (l3.trans l34)).wipe (i := j) (o := none)).set (hdeny w4 l34)
        exact lcq_elt he l34 l4 k4 hθ4 hμ4 hne4 hlb4 e4 (js n' ac dy hdy hI4)
      · have e : n' = ys.length := by omega
        subst e
        exact .inl ⟨wk1.stops _ g4, w4, ac, rfl, l4, l4, k4, hθ4, hμ4, hne4, hlb4, jn ac hI4⟩
    · have e : n = xs.length := by omega
      subst e
      exact .inl ⟨wk.stops _ gH, lcq_end k1 hp q hn fun d μ' z => (hq d μ' z).mono l1⟩) hx⟩
end
section
variable {X : Cx} {pn : List (Addr × Obj)} {W : WX} {k : Nat} {e e1 elt : Expr} {es : List Expr} {scope : Scope} {l : AA} {a a0 a1 : AE} {pos px py p1 p2 : Pos} {x y : Str}
end
end DK
set_option Elab.async false
set_option linter.all false
set_option maxRecDepth 100000
set_option maxHeartbeats 4000000
/-! a value that is a new cell: the cells beside it let go -/
namespace DK
open PySem PySem.Spec PyProof.Rows L2 L2H

section
variable {K : PySem.W.Frag} {pn : List (Addr × Obj)} {θ ex : List Addr} {H : Hp} {p : Addr}
theorem nin_sub (hp : p ∈ ex) {a : Addr} (h : a ∉ θ ++ ex) : a ∉ θ ++ [p] := fun z => by
  rcases List.mem_append.mp z with z | z
  · exact h (List.mem_append_left _ z)
  · rw [List.mem_singleton.mp z] at h
    exact h (List.mem_append_right _ hp)
mutual
theorem Den.cut2 (hp : p ∈ ex) : ∀ {x : V} {d : D}, Den K pn (θ ++ ex) H x d → DK.lb θ.length d = true → noErr d = true → Den K pn (θ ++ [p]) H x d
  | _, _, .v, _, _ => .v
  | _, _, .lst h n hs, e, f => .lst h (nin_sub hp n) (Dens.cut2 hp hs e f)
  | _, _, .tup h hs, e, f => .tup (h.imp (fun z => ⟨z.1, nin_sub hp z.2⟩) id) (Dens.cut2 hp hs e f)
  | _, _, .rl h hs, e, f => .rl (h.imp (fun z => ⟨z.1, nin_sub hp z.2⟩) id) (Dens.cut2 hp hs e f)
  | _, _, .loc h, e, _ => .loc (by rw [List.getElem?_append_left (of_decide_eq_true e)] at h ⊢; exact h)
  | _, _, .err .., _, f => nomatch f
  | _, _, .dic h n, _, _ => .dic h (nin_sub hp n)
  | _, _, .ins hk hf h n hl hs, e, f => .ins hk hf h (nin_sub hp n) hl (Dens.cut2 hp hs e f)
theorem Dens.cut2 (hp : p ∈ ex) : ∀ {x : List V} {d : List D}, Dens K pn (θ ++ ex) H x d → DK.lbs θ.length d = true → noErrs d = true → Dens K pn (θ ++ [p]) H x d
  | _, _, .nil, _, _ => .nil
  | _, _, .cons h t, e, f => .cons (Den.cut2 hp h (Bool.and_eq_true_iff.mp e).1 (Bool.and_eq_true_iff.mp f).1) (Dens.cut2 hp t (Bool.and_eq_true_iff.mp e).2 (Bool.and_eq_true_iff.mp f).2)
end
end
def aKp (e : AE) : AE := fun ρ μ Q X => e ρ μ (fun d μ2 => Q d μ2 ∨ ∃ k ds μc ex, d = .loc k ∧ μ.length ≤ k ∧ μ2[k]? = some (.lst ds) ∧ lbs μ.length ds = true ∧ noErrs ds = true ∧ μ2 = μc ++ ex ∧ μc.length = μ.length ∧ (∀ c ∈ μc, lbC μ.length c = true) ∧ Q (.loc μ.length) (μc ++ [.lst ds])) X
section
variable {K : PySem.W.Frag} {pn : List (Addr × Obj)} {W : WX} {te : TE} {e : AE}
end
section
variable {X : Cx} {pn : List (Addr × Obj)} {W : WX} {e : Expr} {a : AE}
end
/-! ### two for, the new list a cell -/
def aLc2V (src : ASrc) (i : Nat) (src1 : ASrc) (j : Nat) (e : AE) : AE := fun ρ μ Q X => src ρ μ (fun xs μ1 => ∃ I : Nat → List D → Prop, I 0 [] ∧ (∀ n acc x, xs[n]? = some x → I n acc → aIn src1 j e ((wipeD (wipeD ρ j) i).set i (some x)) μ1 acc (I (n + 1))) ∧ ∀ acc, I xs.length acc → Q (.loc μ1.length) (μ1 ++ [.lst acc])) X
section
variable {K : PySem.W.Frag} {pn : List (Addr × Obj)} {W : WX} {wi wi1 : TI} {src src1 : ASrc} {te : TE} {e : AE} {i j : Nat}
end
section
variable {X : Cx} {pn : List (Addr × Obj)} {W : WX} {k : Nat} {e e1 elt : Expr} {es : List Expr} {scope : Scope} {l : AA} {a a0 a1 : AE} {pos px py p1 p2 : Pos} {x y : Str}
end
end DK
namespace DK
open PySem PySem.Spec PyProof.Rows L2 L2H
/-! ### all, any -/
def fAll : FL := fun xs μ Q => match xs with
  | [x] => ∃ bs : List Bool, fRev.itemsL x μ = some (bs.map fun b => .v (.bl b)) ∧ Q (.v (.bl (bs.all id))) μ
  | _ => False
def fAny : FL := fun xs μ Q => match xs with
  | [x] => ∃ bs : List Bool, fRev.itemsL x μ = some (bs.map fun b => .v (.bl b)) ∧ Q (.v (.bl (bs.any id))) μ
  | _ => False
section
variable {K : PySem.W.Frag} {pn : List (Addr × Obj)} {θ : List Addr} {H : Hp} {X : Cx}
end
end DK
set_option Elab.async false
set_option linter.all false
set_option maxRecDepth 100000
set_option maxHeartbeats 4000000
/-! slices with a step -/
namespace DK
open PySem PySem.Spec PyProof.Rows L2 L2H

def pickL {α : Type} (xs : List α) (lo hi st : Option Int) : List α :=
  (sliceRange (sliceBounds lo hi st xs.length).1 (sliceBounds lo hi st xs.length).2.1 (sliceBounds lo hi st xs.length).2.2).filterMap fun i => xs[i]?
def tStepL (K : PySem.W.Frag) (te : TE) (tl th ts : TO) : TE := fun σ H Q => te σ H fun x H1 => tl σ H1 fun l H2 => th σ H2 fun u H3 => ts σ H3 fun k H4 =>
  ∃ a xs, x = .ref a ∧ SqL K H4 a xs ∧ k ≠ some 0 ∧ (pickL xs l u k).length ≤ sizeLine ∧ ∀ p, H4 p = none → Q (.ref p) (upd H4 p (.lst (pickL xs l u k)))
section
variable {X : Cx} {e st : Expr} {te : TE} {lo hi : Option Expr} {tl th ts : TO} {p2 pos : Pos}
end
def fStep (x : D) (lo hi st : Option Int) (μ : Sto) (Q : QD) : Prop := st ≠ some 0 ∧ match fRev.itemsL x μ with | some ds => (pickL ds lo hi st).length ≤ 1000000 ∧ Q (.lst (pickL ds lo hi st)) μ | none => False
def aStep (e : AE) (lo hi st : AO) : AE := fun ρ μ Q X => e ρ μ (fun x μ1 => lo ρ μ1 (fun l μ2 => hi ρ μ2 (fun h μ3 => st ρ μ3 (fun s μ4 => fStep x l h s μ4 Q) X) X) X) X
section
variable {K : PySem.W.Frag} {pn : List (Addr × Obj)} {W : WX} {te : TE} {tl th ts : TO} {e : AE} {lo hi st : AO}
end
section
variable {X : Cx} {pn : List (Addr × Obj)} {W : WX} {e st : Expr} {a : AE} {lo hi : Option Expr} {al ah as : AO} {p2 pos : Pos}
end
end DK
set_option Elab.async false
set_option linter.all false
set_option maxRecDepth 100000
set_option maxHeartbeats 4000000
/-! instances of own classes: attributes read and stored, instances made, methods called -/
namespace DK
open PySem PySem.Spec PyProof.Rows L2 L2H

/-! ### attributes -/
def insOf (x : D) (μ : Sto) : Option (List (Str × D)) := match x with
  | .ins _ ns ds => some (ns.zip ds)
  | .loc k => match μ[k]? with | some (.ins _ fs) => some fs | _ => none
  | _ => none
def fAttr (f : Str) : F1 := fun x μ Q => match insOf x μ with
  | some fs => (match fs.lookup f with | some d => Q d μ | none => False)
  | none => False
def rAttr (K : PySem.W.Frag) (f : Str) : V → Hp → VK → Prop := fun x H1 Q => ∃ a C dx fs v, x = .ref a ∧ H1 a = some (.ins C dx fs) ∧ Cls K C ∧ NoAttr K C f ∧ fs.lookup f = some v ∧ Q v H1
section
variable {K : PySem.W.Frag} {pn : List (Addr × Obj)}
end
section
variable {X : Cx} {pn : List (Addr × Obj)} {W : WX} {e : Expr} {a : AE} {pos : Pos}
/-- e.f -/
def aFld (f : Str) (a : AE) : AE := fun ρ μ Q X => a ρ μ (fun x μ1 => True ∧ fAttr f x μ1 Q) X
end

/-! ### attributes stored -/
def putD (f : Str) (v : D) : List (Str × D) → List (Str × D)
  | [] => [(f, v)]
  | (g, x) :: r => if g = f then (g, v) :: r else (g, x) :: putD f v r
section
variable {K : PySem.W.Frag} {w : Wd}
end
/-- o.f = d, o a cell of the class at C -/
def setFl (C : Addr) (f : Str) (x d : D) (μ : Sto) (Q : Sto → Prop) : Prop := match x with
  | .loc k => (match μ[k]? with | some (.ins C' fs) => (C' = C ∧ fs.length < 900) ∧ Q (μ.set k (.ins C (putD f d fs))) | _ => False)
  | _ => False
def sSetF (C : Addr) (f : Str) (o e : AE) : AS := fun A ρ μ => e ρ μ (fun d μ1 => o ρ μ1 (fun x μ2 => True ∧ setFl C f x d μ2 fun μ3 => A.nx ρ μ3) (fun x μ1 => A.er x ρ μ1)) (fun x μ1 => A.er x ρ μ1)
section
variable {K : PySem.W.Frag} {W : WX} {te to : TE} {e o : AE} {C : Addr} {f : Str}
end
section
variable {X : Cx} {W : WX} {e o : Expr} {a ao : AE} {pos pos' : Pos} {f : Str} {C : Addr}
end

/-! ### instances made -/
def fNew (F : FD) (C : Addr) (g : List D → List D) (ds : List D) (μ : Sto) (Q : QD) (X : QX) : Prop := F (g (.loc μ.length :: ds)) (μ ++ [.ins C []]) (fun d μ2 => d = .v .non ∧ Q (.loc μ.length) μ2) X
/-- C(e, ..), the instance a cell -/
def aMake (C : Addr) (F : FD) (n : Nat) (l : AA) : AE := fun ρ μ Q X => l ρ μ (fun ds μ1 => ds.length + 1 = n ∧ fNew F C id ds μ1 Q X) X
/-- C(e, .., k = v, ..) -/
def aMakeN (C : Addr) (F : FD) (n m j : Nat) (g : List D → List D → List D) (l l2 : AA) : AE := fun ρ μ Q X => l ρ μ (fun ds μ1 => l2 ρ μ1 (fun es μ2 => (ds.length + 1 = m ∧ es.length = j ∧ ∀ x, (g (x :: ds) es).length = n) ∧ fNew F C (fun z => g z es) ds μ2 Q X) X) X
section
variable {X : Cx} {W : WX} {k k' : Nat} {C f : Addr} {fd : FuncData} {ps ks : List Str} {F : FD} {x : Str} {e : Expr} {es : List Expr} {kws : List Keyword} {l lk : AA} {p pos : Pos} {n : Nat}
/-- C(k = v, ..) -/
def aMakeK (C : Addr) (F : FD) (n j : Nat) (g : List D → List D → List D) (l2 : AA) : AE := fun ρ μ Q X => l2 ρ μ (fun es μ2 => (es.length = j ∧ ∀ x, (g [x] es).length = n) ∧ fNew F C (fun z => g z es) [] μ2 Q X) X
end

/-! ### methods -/
def clsIn (x : D) (μ : Sto) : Option (Addr × List (Str × D)) := match x with
  | .ins C ns ds => some (C, ns.zip ds)
  | .loc k => match μ[k]? with | some (.ins C fs) => some (C, fs) | _ => none
  | _ => none
def fMeth (C : Addr) (m : Str) (x : D) (μ : Sto) (Q : Prop) : Prop := match clsIn x μ with
  | some (C', fs) => (C' = C ∧ fs.lookup m = none) ∧ Q
  | none => False
def aMeth (C : Addr) (m : Str) (F : FD) (n : Nat) (o : AE) (l : AA) : AE := fun ρ μ Q X => o ρ μ (fun x μ1 => True ∧ fMeth C m x μ1 (l ρ μ1 (fun ds μ2 => ds.length + 1 = n ∧ F (x :: ds) μ2 Q X) X)) X
section
variable {K : PySem.W.Frag} {pn : List (Addr × Obj)}
end
section
variable {X : Cx} {W : WX} {k k' : Nat} {C f : Addr} {fd : FuncData} {ps : List Str} {F : FD} {x m : Str} {e o : Expr} {es : List Expr} {ao : AE} {l : AA} {p pos apos : Pos}
end

/-! ### new cells let go, behind an exception too -/
def aFzx (e : AE) : AE := fun ρ μ Q X => e ρ μ (fun d μ2 => Q d μ2 ∨ ∃ d' μc ex, fz μ2 μ.length d = some d' ∧ μ2 = μc ++ ex ∧ μc.length = μ.length ∧ (∀ c ∈ μc, lbC μ.length c = true) ∧ Q d' μc)
  (fun x μ2 => X x μ2 ∨ ∃ μc ex, μ2 = μc ++ ex ∧ μc.length = μ.length ∧ (∀ c ∈ μc, lbC μ.length c = true) ∧ (lbs μ.length (x.fs.map (·.2)) = true ∧ noErrs (x.fs.map (·.2)) = true) ∧ X x μc)
section
variable {K : PySem.W.Frag} {pn : List (Addr × Obj)} {W : WX} {te : TE} {e : AE}
end
section
variable {X : Cx} {pn : List (Addr × Obj)} {W : WX} {e : Expr} {a : AE}
end
end DK
namespace DK
open PySem PySem.Spec PyProof.Rows L2 L2H
end DK
set_option Elab.async false
set_option linter.all false
set_option maxRecDepth 100000
set_option maxHeartbeats 4000000
/-! loops by what changes: the slots js, the loop's own slot i, the store -/
namespace DK
open PySem PySem.Spec PyProof.Rows L2 L2H

def setL (ρ : Rho) : List Nat → List (Option D) → Rho
  | j :: js, v :: vs => setL (ρ.set j v) js vs
  | _, _ => ρ
section
variable {i : Nat} {b : AS} {A : AEnds} {ρ : Rho} {μ : Sto}
end
end DK
namespace DK
open PySem PySem.Spec PyProof.Rows L2 L2H
/-! ### the slots written out -/
theorem at_slots {b : AEnds → Rho → Sto → Prop} {A : AEnds} {ρ ρ' : Rho} {μ : Sto} (e : ρ' = ρ) (h : b A ρ μ) : b A ρ' μ := e ▸ h
theorem startD_nil : startD 0 [] = [] := rfl
theorem startD_cons {n : Nat} {d : D} {ds : List D} : startD (n + 1) (d :: ds) = some d :: startD n ds := by
  unfold startD
  rw [List.length_cons, Nat.add_sub_add_right]
  rfl
theorem startD_none {n : Nat} : startD (n + 1) [] = none :: startD n [] := rfl
end DK
set_option Elab.async false
set_option linter.all false
set_option maxRecDepth 100000
set_option maxHeartbeats 4000000
/-! defs whose new cells are let go when they end: what they give is data -/
namespace DK
open PySem PySem.Spec PyProof.Rows L2 L2H

/-- the old cells, as they were or written anew without new cells within -/
structure Keeps (μ μc : Sto) : Prop where
  len : μc.length = μ.length
  old : ∀ (i : Nat) (c : Cell), μc[i]? = some c → μ[i]? = some c ∨ lbC μ.length c = true
theorem Keeps.head {c c' : Cell} {μ : Sto} (h : lbC (μ.length + 1) c' = true) : Keeps (c :: μ) (c' :: μ) := ⟨rfl, fun i d e => by
  cases i with
  | zero => cases e; exact .inr h
  | succ i => exact .inl e⟩
section
variable {K : PySem.W.Frag} {pn : List (Addr × Obj)} {W : WX} {te : TE} {e : AE}
theorem Ok.lbs {w : Wd} (k : Ok K w) {i : Nat} {c : Cell} (h : w.μ[i]? = some c) : lbC w.θ.length c = true := by
  obtain ⟨p, hp⟩ : ∃ p, w.θ[i]? = some p := ⟨_, List.getElem?_eq_getElem (by rw [k.len]; exact (List.getElem?_eq_some_iff.mp h).1)⟩
  have z := k.cell i p c hp h
  cases c with
  | lst ds =>
    obtain ⟨vs, a, b⟩ := z
    exact b.lbs
  | ins C fs =>
    obtain ⟨dx, vs, a, b⟩ := z
    exact b.lbs
theorem Keeps.lb {w : Wd} {μc : Sto} (k : Ok K w) (h : Keeps w.μ μc) : ∀ c ∈ μc, lbC w.θ.length c = true := by
  intro c hc
  obtain ⟨i, hi⟩ := List.mem_iff_getElem?.mp hc
  rcases h.old i c hi with e | e
  · exact k.lbs e
  · rw [k.len]
    exact e
/-- what is left of an answer, of an exception -/
def wQ (μ : Sto) (QA : QD) : QD := fun d μ2 => ∃ d' μc ex, fz μ2 μ.length d = some d' ∧ μ2 = μc ++ ex ∧ Keeps μ μc ∧ QA d' μc
def wX (μ : Sto) (XA : QX) : QX := fun x μ2 => ∃ μc ex, μ2 = μc ++ ex ∧ Keeps μ μc ∧ (lbs μ.length (x.fs.map (·.2)) = true ∧ noErrs (x.fs.map (·.2)) = true) ∧ XA x μc
theorem wQ_run {w : Wd} {QA : QD} {Q : VK} (k : Ok K w) (hq : ∀ d μ', QA d μ' → PQ K pn w Q d μ') : ∀ d μ', wQ w.μ QA d μ' → PQ K pn w Q d μ' := fun d μ2 h1 => by
  obtain ⟨d', μc, xs, hf, hμ, hkp, h1⟩ := h1
  intro v w2 em l2 k2 dn
  subst em
  obtain ⟨ex, hθ, _⟩ := l2.ext
  have hl := hkp.len
  have hb := hkp.lb k
  have hkl := k.len
  rw [← hkl] at hf hl
  obtain ⟨l3, k3⟩ := k.dropN k2 l2 hθ hμ hl hb
  have nd := k2.nd
  have hc : ∀ (k' : Nat) (p : Addr) (ds : List D), w2.θ[k']? = some p → w2.μ[k']? = some (Cell.lst ds) → ∃ vs, w2.H p = some (.lst vs) ∧ Dens K [] w2.θ w2.H vs ds := fun k' p ds h2 h3 => k2.cell k' p _ h2 h3
  have hi : ∀ (k' : Nat) (p : Addr) (C : Addr) (fs : List (Str × D)), w2.θ[k']? = some p → w2.μ[k']? = some (Cell.ins C fs) → ∃ dx fvs, w2.H p = some (.ins C dx fvs) ∧ InsAt K [] w2.θ w2.H C fvs fs := fun k' p C fs h2 h3 => k2.cell k' p _ h2 h3
  rw [hθ] at nd hc hi dn
  exact hq _ _ h1 v ⟨w.θ, w2.H, μc⟩ rfl l3 k3 (fz_den nd hc hi d dn hf)
theorem wX_run {w : Wd} {XA : QX} {E : XK} (k : Ok K w) (hx : ∀ x μ', XA x μ' → PX K pn w E x μ') : ∀ x μ', wX w.μ XA x μ' → PX K pn w E x μ' := fun x μ2 h1 => by
  obtain ⟨μc, xs, hμ, hkp, hf, h1⟩ := h1
  intro cls dd w2 em l2 k2 dx
  subst em
  obtain ⟨ex, hθ, _⟩ := l2.ext
  have hl := hkp.len
  have hb := hkp.lb k
  have hkl := k.len
  rw [← hkl] at hf hl
  obtain ⟨l3, k3⟩ := k.dropN k2 l2 hθ hμ hl hb
  obtain ⟨e1, fvs, h2, h3⟩ := dx
  rw [hθ] at h2 h3
  refine hx _ _ h1 cls dd ⟨w.θ, w2.H, μc⟩ rfl l3 k3 ⟨e1, fvs, ?_, h3.cut hf.1 hf.2⟩
  rcases h2 with ⟨d, e, h, n⟩ | h2
  · exact .inl ⟨d, e, h, nin_app n⟩
  · exact .inr h2
/-- an expression whose new cells are let go -/
def aFzk (e : AE) : AE := fun ρ μ Q X => e ρ μ (wQ μ Q) (wX μ X)
end
section
variable {X : Cx} {pn : List (Addr × Obj)} {W : WX} {e : Expr} {a : AE}
end
section
variable {P : Program} {w : World} {K : PySem.W.Frag} {mg : Str → Option Value} {base : Heap}
/-- THE RULE for a def whose new cells are let go -/
theorem fnD_frz {x qual : Str} {st : Stmt} {f : Addr} {fd : FuncData} {N ps : List Str} {k : Nat} {F : FD} (b : AS) (Fn : Fun K x qual st f fd) (S : FnScope N ps (defScope st))
    (hbody : ∀ (cd : Value) (A : Around) (outer : List Env) (s : Shared) (H : Hp) (E : XK), Bd (cxN P w K mg base N qual (defScope st) f cd A outer s H E) (wxN E) k → DSs (cxN P w K mg base N qual (defScope st) f cd A outer s H E) [] (wxN E) (defBody st) b)
    (hread : ∀ (ds : List D) (μ : Sto) (QA : QD) (XA : QX), ds.length = ps.length → F ds μ QA XA → b (dEnds (wQ μ QA) (wX μ XA)) (startD N.length ds) μ) : FnD P w K mg base (k + 1) f fd ps F := by
  refine FnOk.imp (fnD (F := fun ds μ QA XA => ∃ QA' XA', QA = wQ μ QA' ∧ XA = wX μ XA' ∧ F ds μ QA' XA') b Fn S hbody ?_) ?_
  · rintro ds μ _ _ hl ⟨QA, XA, rfl, rfl, h⟩
    exact hread ds μ QA XA hl h
  · rintro vs H Q E ⟨θ, μ, ds, QA, XA, ok, hd, hl, hF, hq, hx⟩
    exact ⟨θ, μ, ds, wQ μ QA, wX μ XA, ok, hd, hl, ⟨QA, XA, rfl, rfl, hF⟩, wQ_run (w := ⟨θ, H, μ⟩) ok hq, wX_run (w := ⟨θ, H, μ⟩) ok hx⟩
end
/-! ways to end such a def -/
section
variable {μ μc ex : Sto} {QA : QD} {XA : QX}
/-- the first new cell, a list -/
theorem w_new {ds : List D} (k : Keeps μ μc) (h1 : lbs μ.length ds = true) (h2 : noErrs ds = true) (h : QA (.lst ds) μc) : wQ μ QA (.loc μ.length) (μc ++ .lst ds :: ex) := by
  refine ⟨.lst ds, μc, .lst ds :: ex, ?_, rfl, k, h⟩
  unfold fz
  rw [if_neg (by omega), List.getElem?_append_right (by rw [k.len]; exact Nat.le_refl _), k.len, Nat.sub_self]
  show (if (lbs μ.length ds && noErrs ds) = true then _ else _) = _
  rw [h1, h2]
  rfl
/-- plain data as it is -/
theorem fz_same {m : Sto} {j : Nat} : ∀ {d : D}, lb j d = true → noErr d = true → fz m j d = some d := by
  intro d
  refine D.rec (motive_1 := fun d => lb j d = true → noErr d = true → fz m j d = some d) (motive_2 := fun ds => lbs j ds = true → noErrs ds = true → fzs m j ds = some ds) (motive_3 := fun _ => True) (motive_4 := fun _ => True) ?_ ?_ ?_ ?_ ?_ ?_ ?_ ?_ ?_ ?_ ?_ ?_ ?_ d
  · intro x _ _; rfl
  · intro ds ih a b; unfold fz; rw [ih a b]
  · intro ds ih a b; unfold fz; rw [ih a b]
  · intro ds ih a b; unfold fz; rw [ih a b]
  · intro k a _; unfold fz; rw [if_pos (of_decide_eq_true a)]
  · intro C fs _ _ b; cases b
  · intro ks _ _; rfl
  · intro C ns ds ih a b; unfold fz; rw [ih a b]
  · intro _ _; rfl
  · intro d ds h1 h2 a b
    unfold fzs
    rw [h1 (Bool.and_eq_true_iff.mp a).1 (Bool.and_eq_true_iff.mp b).1, h2 (Bool.and_eq_true_iff.mp a).2 (Bool.and_eq_true_iff.mp b).2]
  · trivial
  · intros; trivial
  · intros; trivial
theorem w_d {d : D} (k : Keeps μ μc) (h1 : lb μ.length d = true) (h2 : noErr d = true) (h : QA d μc) : wQ μ QA d (μc ++ ex) := ⟨d, μc, ex, fz_same h1 h2, rfl, k, h⟩
theorem w_d0 {d : D} (k : Keeps μ μc) (h1 : lb μ.length d = true) (h2 : noErr d = true) (h : QA d μc) : wQ μ QA d μc := ⟨d, μc, [], fz_same h1 h2, by rw [List.append_nil], k, h⟩
end
end DK
namespace DK
theorem lbs_ints {n : Nat} : ∀ {l : List Int}, lbs n (l.map fun z => D.v (.int z)) = true
  | [] => rfl
  | _ :: l => lbs_ints (l := l)
theorem noErrs_ints : ∀ {l : List Int}, noErrs (l.map fun z => D.v (.int z)) = true
  | [] => rfl
  | _ :: l => noErrs_ints (l := l)
end DK
set_option Elab.async false
set_option linter.all false
set_option maxRecDepth 100000
set_option maxHeartbeats 4000000
/-! comprehensions whose elements change cells, by what they keep (made from DKl) -/
namespace DK
open PySem PySem.Spec PyProof.Rows L2 L2H

def aTurnK (i : Nat) (t : AT) (e : AE) (ρ : Rho) (acc : List D) (μ : Sto) (x : D) (N : List D → Sto → Prop) : Prop :=
  t (ρ.set i (some x)) (μ ++ [.lst acc]) (fun b μ1 => μ1 = μ ++ [.lst acc] ∧ bIf b (e (ρ.set i (some x)) (μ ++ [.lst acc]) (fun d μ2 => ∃ m', μ2 = m' ++ [.lst acc] ∧ Keeps μ m' ∧ (noErr d = true ∧ lb μ.length d = true) ∧ N (acc ++ [d]) m') (fun _ _ => False)) (N acc μ)) (fun _ _ => False)
def aLcK (src : ASrc) (i : Nat) (t : AT) (e : AE) : AE := fun ρ μ Q X => src ρ μ (fun xs μ1 => xs.length ≤ 500000 ∧ ∃ I : Nat → List D → Sto → Prop, I 0 [] μ1 ∧ (∀ n acc x m, xs[n]? = some x → m.length = μ1.length → I n acc m → aTurnK i t e (wipeD ρ i) acc m x (I (n + 1))) ∧ ∀ acc m, I xs.length acc m → Q (.lst acc) m) X
section
variable {K : PySem.W.Frag} {pn : List (Addr × Obj)} {W : WX} {tl : TA} {l : AA} {tt : TT} {t : AT} {te tx : TE} {e x : AE} {i : Nat}
def LcK (K : PySem.W.Frag) (pn : List (Addr × Obj)) (w : Wd) (p : Addr) (I : Nat → List D → Sto → Prop) (n : Nat) (H : Hp) : Prop :=
  ∃ (w' : Wd) (acc : List D) (m : Sto), w'.H = H ∧ WLe w w' ∧ Ok K w' ∧ w'.θ = w.θ ++ [p] ∧ (w'.μ = m ++ [.lst acc] ∧ m.length = w.μ.length ∧ ∀ c ∈ m, lbC w.θ.length c = true) ∧ acc.length ≤ n ∧ noErrs acc = true ∧ lbs w.θ.length acc = true ∧ I n acc m
theorem lcK_turn {w : Wd} {σ : L2.St} {ρ : Rho} {p : Addr} {I : Nat → List D → Sto → Prop} {n : Nat} {H : Hp} {xv : V} {xd : D} (hk : w.θ.length = w.μ.length) (er : EnvR K pn w σ ρ) (ht : ST K pn w0 tt t) (he : SE K pn w0 te e) (hn : n < 500000)
    (q : LcK K pn w p I n H) (hx : ∀ w', WLe w w' → Den K pn w'.θ w'.H xv xd) (hs : ∀ acc m, m.length = w.μ.length → I n acc m → aTurnK i t e (wipeD ρ i) acc m xd (I (n + 1))) :
    gName i xv (wipe σ [i]) H fun σ2 H2 => wipe σ2 [i] = wipe σ [i] ∧ tt σ2 H2 fun b H3 => if b = true then te σ2 H3 fun y H4 => ∃ acc, H4 p = some (.lst acc) ∧ acc.length < sizeLine ∧ LcK K pn w p I (n + 1) (upd H4 p (.lst (acc ++ [y]))) else LcK K pn w p I (n + 1) H3 := by
  obtain ⟨w1, acc, m, rfl, l1, k1, hθ, ⟨hμ, hml, hmb⟩, hal, hne, hlb, hI⟩ := q
  refine ⟨wipe_set, ?_⟩
  have h := hs acc m hml hI
  have e1 : EnvR K pn w1 ((wipe σ [i]).set i (some xv)) ((wipeD ρ i).set i (some xd)) := ((er.mono l1).wipe (i := i)).set (hx w1 l1)
  unfold aTurnK at h
  rw [← hμ] at h
  refine ht.run w1 _ _ k1 e1 _ _ h _ (fun b μ' hb w2 em l2 k2 => ?_) fun _ _ z => z.elim
  subst em
  obtain ⟨em, hb⟩ := hb
  have same : ∀ {w3 : Wd}, WLe w1 w3 → w3.μ.length = w1.μ.length → Ok K w3 → w3.θ = w.θ ++ [p] := fun {w3} l3 e3 k3 => by
    obtain ⟨ex, hex, _⟩ := l3.ext
    have a := k3.len
    rw [e3, hex, List.length_append, k1.len] at a
    have hx0 : ex = [] := List.length_eq_zero_iff.mp (by omega)
    rw [hex, hx0, List.append_nil, hθ]
  cases b with
  | false => exact ⟨w2, acc, m, rfl, l1.trans l2, k2, same l2 (by rw [em]) k2, ⟨by rw [em, hμ], hml, hmb⟩, by omega, hne, hlb, hb.2 rfl⟩
  | true =>
    have hb' := hb.1 rfl
    rw [← em] at hb'
    refine he.run w2 _ _ k2 (e1.mono l2) _ _ hb' _ (fun d μ' hd y w3 em3 l3 k3 dn => ?_) fun _ _ z => z.elim
    subst em3
    obtain ⟨m', em3, hkp, ⟨hd1, hd2⟩, hd⟩ := hd
    have ml' := hkp.len
    have mb' : ∀ c ∈ m', lbC m.length c = true := fun c hc => by
      obtain ⟨i, hi⟩ := List.mem_iff_getElem?.mp hc
      rcases hkp.old i c hi with e | e
      · have z := hmb c (List.mem_of_getElem? e)
        rw [hml, ← hk]
        exact z
      · exact e
    have t3 := same (l2.trans l3) (by rw [em3, hμ, List.length_append, List.length_append, ml']) k3
    have hj3 : w3.θ[w.θ.length]? = some p := by
      rw [t3, List.getElem?_append_right (Nat.le_refl _), Nat.sub_self]
      rfl
    have hjm : m'.length = w.θ.length := by omega
    have hm3 : w3.μ[w.θ.length]? = some (.lst acc) := by
      rw [em3, ← hjm, List.getElem?_append_right (Nat.le_refl _), Nat.sub_self]
      rfl
    obtain ⟨us, hu, hus⟩ := k3.cell _ _ _ hj3 hm3
    obtain ⟨l4, k4⟩ := k3.writeL hj3 (hus.append (.cons (dn.un hd1) .nil))
    refine ⟨us, hu, ?_, ?_⟩
    · rw [hus.len]
      exact Nat.lt_of_le_of_lt hal (Nat.lt_trans hn (by decide))
    · refine ⟨⟨w3.θ, upd w3.H p (.lst (us ++ [y])), w3.μ.set w.θ.length (.lst (acc ++ [d]))⟩, acc ++ [d], m', rfl, ((l1.trans l2).trans l3).trans l4, k4, t3, ⟨?_, by omega, fun c hc => ?_⟩, ?_, ?_, ?_, hd⟩
      · show w3.μ.set w.θ.length (.lst (acc ++ [d])) = m' ++ [.lst (acc ++ [d])]
        rw [em3, ← hjm, List.set_append_right _ _ (Nat.le_refl _), Nat.sub_self]
        rfl
      · have z := mb' c hc
        rw [hml, ← hk] at z
        exact z
      · rw [List.length_append, List.length_singleton]
        omega
      · rw [noErrs_app, hne]
        show (true && (noErr d && true)) = true
        rw [hd1]
        rfl
      · rw [lbs_app, hlb]
        show (true && (lb _ d && true)) = true
        rw [hk, ← hml, hd2]
        rfl
theorem lcK_start {w : Wd} {p : Addr} {I : Nat → List D → Sto → Prop} (k : Ok K w) (hp : w.H p = none) (h : I 0 [] w.μ) : LcK K pn w p I 0 (upd w.H p (.lst [])) := by
  obtain ⟨l2, k2⟩ := k.cellL hp (.nil (K := K))
  exact ⟨⟨w.θ ++ [p], upd w.H p (.lst []), w.μ ++ [.lst []]⟩, [], w.μ, rfl, l2, k2, rfl, ⟨rfl, rfl, fun c hc => by
    obtain ⟨i, hi⟩ := List.mem_iff_getElem?.mp hc
    exact k.lbs hi⟩, Nat.le_refl _, rfl, rfl, h⟩
theorem lcK_end {w : Wd} {p : Addr} {I : Nat → List D → Sto → Prop} {n : Nat} {H : Hp} {Q : VK} {QA : QD} (k : Ok K w) (hp : w.H p = none) (q : LcK K pn w p I n H) (hI : ∀ acc m, I n acc m → QA (.lst acc) m) (hq : ∀ d μ', QA d μ' → PQ K pn w Q d μ') : Q (.ref p) H := by
  obtain ⟨w1, acc, m, rfl, l1, k1, hθ, ⟨hμ, hml, hmb⟩, hal, hne, hlb, hi⟩ := q
  have hlen := k.len
  obtain ⟨l2, k2⟩ := k.dropW k1 l1 hθ hμ (by omega) hmb
  obtain ⟨us, hu, hus⟩ := k1.cell w.θ.length p (.lst acc) (by rw [hθ, List.getElem?_append_right (Nat.le_refl _), Nat.sub_self]; rfl) (by rw [hμ, hlen, ← hml, List.getElem?_append_right (Nat.le_refl _), Nat.sub_self]; rfl)
  rw [hθ] at hus
  have np : p ∉ w.θ := fun hm => by
    obtain ⟨o, ho⟩ := k.trk p hm
    rw [hp] at ho
    cases ho
  exact hq _ _ (hI acc m hi) (.ref p) ⟨w.θ, w1.H, m⟩ rfl l2 k2 (.lst hu np ((hus.cut hlb hne).sub fun _ z => (List.not_mem_nil z).elim))
theorem seK_lcR1 (hl : SA K pn W tl l) (ht : ST K pn w0 tt t) (he : SE K pn w0 te e) : SE K pn W (tLc (iRng1 tl) (gName i) tt te [i]) (aLcK (rR1 l) i t e) := ⟨fun w σ ρ k er QA XA h Q hq hx =>
  hl.run w σ ρ k er _ XA h _ (fun ds μ1 h1 vs w1 em l1 k1 dn => by
    subst em
    split at h1
    · rename_i n
      cases dn with
      | cons d1 d2 =>
        cases d2
        obtain rfl := d1.v_inv
        obtain ⟨hb, hlen, I, i0, hs, hn⟩ := h1
        rw [List.length_map, List.length_range] at hlen hn
        refine ⟨n, rfl, hb.1, hb.2, fun p hp => lc_range (LcK K pn w1 p I) (lcK_start k1 hp i0) (fun m H hm q => ?_) (fun H q => lcK_end k1 hp q hn fun d μ' z => (hq d μ' z).mono l1)⟩
        have e0 : (0 : Int) + (m : Int) = (m : Int) := Int.zero_add _
        rw [e0]
        exact lcK_turn k1.len (er.mono l1) ht he (Nat.lt_of_lt_of_le hm hlen) q (fun _ _ => .v) (fun acc m2 e2 z => hs m acc _ m2 (by rw [List.getElem?_map, List.getElem?_range hm]; rfl) e2 z)
    · exact h1.elim) hx⟩
end
/-! with the syntax -/
section
variable {X : Cx} {pn : List (Addr × Obj)} {W : WX} {k : Nat} {e elt : Expr} {ifs : List Expr} {scope : Scope} {l : AA} {t : AT} {a x : AE} {pos p1 p2 p3 : Pos} {y : Str}
theorem d_lcR1K (i : Nat) (B : Bd X W k) (hm : X.mg "range" = none) (hl : DA X pn W [e] l) (ht : ∀ s H C cl fp, DTs (nblk X scope s H C cl fp) pn w0 ifs t) (he : ∀ s H C cl fp, Bd (nblk X scope s H C cl fp) w0 k → DE (nblk X scope s H C cl fp) pn w0 elt a)
    (hok : blkC X.N X.env.scope scope [(y, i)] = true) (hpg : ∀ s H C cl fp, PG (nblk X scope s H C cl fp) (.Name y p3) (gName i)) (hg : Gl X "range" := by rfl) (hs : starEach [e] X.env = [(false, eval e X.env)] := by rfl) :
    DE X pn W (.ListComp elt [⟨.Name y p3, .Call (.Name "range" p1) [e] [] p2, ifs, 0⟩] scope pos) (aLcK (rR1 l) i t a) := by
  obtain ⟨te, tt, e1, e2, e3, e4⟩ := lc_parts (X := X) (nblk X scope) (fun _ _ _ _ _ => rfl) (fun s H C cl fp => he s H C cl fp (B.blk ..)) ht
  obtain ⟨tl, l1, l2⟩ := hl.ex
  exact ⟨_, pe_lc (own := [(y, i)]) B.calm B.nd (pi_range1 hg hm l1 hs) (blkOk_by hok) hpg e2 e1, seK_lcR1 l2 e4 e3⟩
end
end DK
set_option Elab.async false
set_option linter.all false
set_option maxRecDepth 100000
set_option maxHeartbeats 4000000
/-! name = [comprehension] -/
namespace DK
open PySem PySem.Spec PyProof.Rows L2 L2H
section
variable {X : Cx} {pn : List (Addr × Obj)} {W : WX} {k : Nat} {e e' e'' elt : Expr} {ifs : List Expr} {scope : Scope} {l : AA} {t : AT} {a x : AE} {pos spos py p1 p2 p3 : Pos} {y z : Str}
end
end DK
set_option Elab.async false
set_option linter.all false
set_option maxRecDepth 100000
set_option maxHeartbeats 4000000
/-! [e for x in a list that stays], plain or a cell -/
namespace DK
open PySem PySem.Spec PyProof.Rows L2 L2H
def aLcS (e0 : AE) (i : Nat) (t : AT) (e : AE) : AE := fun ρ μ Q X => e0 ρ μ (fun d μ1 => ∃ ds, staysD d ds μ1 ∧ ds.length ≤ 500000 ∧ ∃ I : Nat → List D → Prop, I 0 [] ∧ (∀ n acc x, ds[n]? = some x → I n acc → aTurn i t e (wipeD ρ i) acc μ1 x (I (n + 1))) ∧ ∀ acc, I ds.length acc → Q (.lst acc) μ1) X
def aLcSV (e0 : AE) (i : Nat) (t : AT) (e : AE) : AE := fun ρ μ Q X => e0 ρ μ (fun d μ1 => ∃ ds, staysD d ds μ1 ∧ ds.length ≤ 500000 ∧ ∃ I : Nat → Sto → Prop, I 0 (μ1 ++ [.lst []]) ∧ (∀ n m, I n m → staysD d ds m) ∧ (∀ n x m, ds[n]? = some x → I n m → aTurnV i μ1.length t e (wipeD ρ i) m x (I (n + 1))) ∧ ∀ m, I ds.length m → Q (.loc μ1.length) m) X
section
variable {K : PySem.W.Frag} {pn : List (Addr × Obj)} {W : WX} {tl : TA} {l : AA} {tt : TT} {t : AT} {te tx : TE} {e x : AE} {i : Nat}
end
section
variable {X : Cx} {pn : List (Addr × Obj)} {W : WX} {k : Nat} {e elt : Expr} {ifs : List Expr} {scope : Scope} {t : AT} {a x : AE} {pos spos py p3 : Pos} {y z : Str}
end
end DK
namespace DK
open PySem PySem.Spec PyProof.Rows L2 L2H
def noRl : D → Bool
  | .rl _ => false
  | _ => true
/-! a def whose value is a new cell, all its other new cells let go -/
def kQ (μ : Sto) (QA : QD) : QD := fun d μ2 => ∃ kk ds μc xs, d = .loc kk ∧ μ.length ≤ kk ∧ μ2[kk]? = some (.lst ds) ∧ lbs μ.length ds = true ∧ noErrs ds = true ∧ μ2 = μc ++ xs ∧ Keeps μ μc ∧ QA (.loc μ.length) (μc ++ [.lst ds])
section
variable {P : Program} {w : World} {K : PySem.W.Frag} {mg : Str → Option Value} {base : Heap}
end
/-! a group of statements whose new cells are plain data behind it; older slots stay as they are -/
inductive FzW (ρ0 : Rho) (μ : Sto) (j : Nat) : Rho → Rho → Prop
  | nil : FzW ρ0 μ j [] []
  | drop {o : Option D} {ρ ρ' : Rho} (h : FzW ρ0 μ j ρ ρ') : FzW ρ0 μ j (o :: ρ) (none :: ρ')
  | keep {d d' : D} {ρ ρ' : Rho} (e : fz μ j d = some d') (h : FzW ρ0 μ j ρ ρ') : FzW ρ0 μ j (some d :: ρ) (some d' :: ρ')
  | old {d : D} {ρ ρ' : Rho} (e : some d ∈ ρ0) (h : FzW ρ0 μ j ρ ρ') : FzW ρ0 μ j (some d :: ρ) (some d :: ρ')
def sFw (b : AS) : AS := fun A ρ μ => b { A with nx := fun ρ2 μ2 => ∃ ρ' μc ex, FzW ρ μ2 μ.length ρ2 ρ' ∧ μ2 = μc ++ ex ∧ Keeps μ μc ∧ A.nx ρ' μc } ρ μ
section
variable {K : PySem.W.Frag} {W : WX} {t : TS} {b : AS}
end
section
variable {X : Cx} {W : WX} {st st2 st3 st4 st5 st6 : Stmt} {sts : List Stmt} {a b c d e f g : AS}
end
/-! the greatest, the least of a list of ints -/
def fMaxL : FL := fun xs μ Q => match xs with
  | [x] => ∃ ns : List Int, fRev.itemsL x μ = some (ns.map fun z => .v (.int z)) ∧ 0 < ns.length ∧ ∀ m, m ∈ ns → (∀ y, y ∈ ns → y ≤ m) → Q (.v (.int m)) μ
  | _ => False
def fMinL : FL := fun xs μ Q => match xs with
  | [x] => ∃ ns : List Int, fRev.itemsL x μ = some (ns.map fun z => .v (.int z)) ∧ 0 < ns.length ∧ ∀ m, m ∈ ns → (∀ y, y ∈ ns → m ≤ y) → Q (.v (.int m)) μ
  | _ => False
section
variable {X : Cx} {pn : List (Addr × Obj)}
end
/-! pop -/
/-- xs.pop(i), xs a cell -/
def popIt (x y : D) (μ : Sto) (Q : QD) : Prop := match x, y with
  | .loc k, .v (.int i) => (match μ[k]? with | some (.lst ds) => (0 ≤ i ∧ i < ds.length) ∧ ds.length ≤ 1000000 ∧ ∀ d, ds[i.toNat]? = some d → Q d (μ.set k (.lst (ds.eraseIdx i.toNat))) | _ => False)
  | _, _ => False
def aPop (o e : AE) : AE := fun ρ μ Q X => o ρ μ (fun x μ1 => isL x μ1 = true ∧ e ρ μ1 (fun d μ2 => popIt x d μ2 Q) X) X
section
variable {X : Cx} {W : WX} {o e : Expr} {a b : AE} {apos pos : Pos}
end
end DK
set_option Elab.async false
set_option linter.all false
set_option maxRecDepth 100000
set_option maxHeartbeats 4000000
/-! name = [comprehension over zip] -/
namespace DK
open PySem PySem.Spec PyProof.Rows L2 L2H
section
variable {X : Cx} {pn : List (Addr × Obj)} {W : WX} {k : Nat} {e e' elt : Expr} {ifs : List Expr} {scope : Scope} {l : AA} {t : AT} {a : AE} {pos spos pyz px py p1 p2 kt : Pos} {pt : Pos} {x y z : Str}
end
end DK
/-! list(range(a, b, c)) -/
namespace DK
open PySem PySem.Spec PyProof.Rows L2 L2H
def rcV (a c : Int) (n : Nat) : List V := (List.range n).map fun i => V.int (a + (i : Nat) * c)
def rcD (a c : Int) (n : Nat) : List D := (List.range n).map fun i => D.v (.int (a + (i : Nat) * c))
section
variable {X : Cx} {pn : List (Addr × Obj)} {W : WX} {k : Nat} {ta : TA} {e1 e2 e3 : Expr} {p pos p2 pos2 : Pos} {l : AA}
def tLstRc (ta : TA) : TE := fun σ H Q => ta σ H fun vs H1 => ∃ (i j c : Int) (n : Nat), vs = [.int i, .int j, .int c] ∧ RgC i j c n ∧ n ≤ 2 ^ 24 ∧ ∀ q, H1 q = none → Q (.ref q) (upd H1 q (.lst (rcV i c n)))
def aLsR3 (l : AA) : AE := fun ρ μ Q X => l ρ μ (fun ds μ1 => match ds with
  | [.v (.int a), .v (.int b), .v (.int c)] => ∃ n : Nat, RgC a b c n ∧ n ≤ 500000 ∧ Q (.lst (rcD a c n)) μ1
  | _ => False) X
end
end DK
set_option Elab.async false
set_option linter.all false
set_option maxRecDepth 100000
set_option maxHeartbeats 4000000
/-! a, b, c = a tuple; for x in a cell whose items are plain or cells -/
namespace DK
open PySem PySem.Spec PyProof.Rows L2 L2H
def sUnpT (is : List Nat) (e : AE) : AS := fun A ρ μ => e ρ μ (fun d μ1 => match d with | .tup ds => ds.length = is.length ∧ A.nx (setAll ρ is ds) μ1 | _ => False) (fun x μ1 => A.er x ρ μ1)
def pinD : D → Bool | .v _ => true | .loc _ => true | _ => false
section
variable {K : PySem.W.Frag} {pn : List (Addr × Obj)} {W : WX} {te : TE} {e : AE}
end
def sForQ (e : AE) (i : Nat) (b : AS) : AS := fun A ρ μ => e ρ μ (fun d μ1 => match d with
  | .loc k => ∃ ds, (ds.all pinD = true) ∧ loopC k ds i b A ρ μ1
  | _ => False) (fun x μ1 => A.er x ρ μ1)
section
variable {K : PySem.W.Frag} {pn : List (Addr × Obj)} {W : WX} {te : TE} {e : AE} {tb : TS} {b : AS} {i : Nat}
end
def sForW (e : AE) (i : Nat) (b : AS) : AS := fun A ρ μ => sForQ e i b A ρ μ ∨ sForU e i b A ρ μ
section
variable {K : PySem.W.Frag} {pn : List (Addr × Obj)} {W : WX} {te : TE} {e : AE} {tb : TS} {b : AS} {i : Nat}
end
section
variable {X : Cx} {pn : List (Addr × Obj)} {W : WX} {k : Nat} {e : Expr} {body : List Stmt} {a ae : AE} {b : AS} {pos p pt : Pos} {y : Str} {es : List Expr}
end
end DK
set_option Elab.async false
set_option linter.all false
set_option maxRecDepth 100000
set_option maxHeartbeats 4000000
/-! for x, y, z in zip of three lists -/
namespace DK
open PySem PySem.Spec PyProof.Rows L2 L2H
def ItZ3 (K : PySem.W.Frag) (l m n : Addr) : It :=
  ⟨fun i H => ∃ (xs ys zs : List V) (x y z : V), SqL K H l xs ∧ SqL K H m ys ∧ SqL K H n zs ∧ xs[i]? = some x ∧ ys[i]? = some y ∧ zs[i]? = some z,
    fun i H v H' => ∃ T x y z, v = .ref T ∧ H T = none ∧ H' = upd H T (.tup [x, y, z]) ∧ (∀ vs, SqL K H l vs → vs[i]? = some x) ∧ (∀ vs, SqL K H m vs → vs[i]? = some y) ∧ ∀ vs, SqL K H n vs → vs[i]? = some z,
    fun i H => ∃ xs ys zs : List V, SqL K H l xs ∧ SqL K H m ys ∧ SqL K H n zs ∧ xs.length = i ∧ ys.length = i ∧ zs.length = i⟩
def iZip3 (K : PySem.W.Frag) (ta : TA) : TI := fun σ H R => ta σ H fun vs H1 => ∃ l m n xs ys zs, vs = [.ref l, .ref m, .ref n] ∧ SqL K H1 l xs ∧ SqL K H1 m ys ∧ SqL K H1 n zs ∧ R (ItZ3 K l m n) H1
def YTrip (xs ys zs : Nat → Option V) : Nat → Hp → V → Hp → Prop := fun i H v H' => ∃ T x y z, v = .ref T ∧ H T = none ∧ H' = upd H T (.tup [x, y, z]) ∧ xs i = some x ∧ ys i = some y ∧ zs i = some z
/-- for i, j, k in zip(a, b, c): lists of one length that stay -/
def sForZ3 (l : AA) (i j k : Nat) (b : AS) : AS := fun A ρ μ => l ρ μ (fun ds0 μ1 => match ds0 with
  | [d, d', d''] => ∃ ds ds' ds'', ds'.length = ds.length ∧ ds''.length = ds.length ∧ ∃ I : Nat → Rho → Sto → Prop, I 0 ρ μ1 ∧ (∀ n ρ' μ', I n ρ' μ' → staysD d ds μ' ∧ staysD d' ds' μ' ∧ staysD d'' ds'' μ') ∧
    (∀ n ρ' μ' x y z, ds[n]? = some x → ds'[n]? = some y → ds''[n]? = some z → I n ρ' μ' → b { A with nx := I (n + 1), ct := I (n + 1), bk := A.nx } (((ρ'.set i (some x)).set j (some y)).set k (some z)) μ') ∧ ∀ ρ' μ', I ds.length ρ' μ' → A.nx ρ' μ'
  | _ => False) (fun x μ1 => A.er x ρ μ1)
section
variable {K : PySem.W.Frag} {pn : List (Addr × Obj)} {W : WX} {tl : TA} {l : AA} {i j k : Nat} {tb : TS} {b : AS}
end
section
variable {X : Cx} {pn : List (Addr × Obj)} {W : WX} {k : Nat} {e e' e'' : Expr} {body : List Stmt} {l : AA} {b : AS} {pos p p1 p2 px py pu pt : Pos} {z y u : Str} {kt : Nat}
end
end DK
set_option Elab.async false
set_option linter.all false
set_option maxRecDepth 100000
set_option maxHeartbeats 4000000
/-! list(zip(a, b)), two lists of one length -/
namespace DK
open PySem PySem.Spec PyProof.Rows L2 L2H
/-- a zip, fresh or with a tuple of its own still out -/
def ZSt (h : Heap) (z t o p q l m S : Addr) (xs ys : Array Value) (i : Nat) : Prop :=
  IsPair h t (.ref p) (.ref q) ∧ h.IsListIter p l i ∧ h.IsListIter q m i ∧ h.IsList l xs ∧ h.IsList m ys ∧
    ((IsZip h z t o .none ∧ ∃ a b, IsPair h o a b) ∨ ∃ T f oT, IsZipHeld h z t o T f ∧ h.get? T = some oT ∧ T ≠ z ∧ T ≠ p ∧ T ≠ q ∧ T ≠ S)
/-- the list S lies behind all that the zip is -/
structure ZB (z t o p q l m S : Addr) : Prop where
  z : z ≠ S
  t : t ≠ S
  o : o ≠ S
  p : p ≠ S
  q : q ≠ S
  l : l ≠ S
  m : m ≠ S
structure ZG (xs ys : Array Value) (lo : Addr) (h : Heap) (as : List Addr) : Prop where
  rise : as.Pairwise (· < ·)
  above : ∀ a ∈ as, lo < a
  pairs : ∀ (j : Nat) (a : Addr), as[j]? = some a → ∃ x y, xs[j]? = some x ∧ ys[j]? = some y ∧ h.get? a = some { cls := .type "tuple", data := .seq #[x, y] }
section
variable {prog : Program} {w : World} {A : Around} {E : Value → Shared → Prop} {s : Shared} {z t o p q l m S : Addr} {xs ys : Array Value} {i : Nat}
end
section
variable {prog : Program} {w : World} {A : Around} {s : Shared} {R : Result → Shared → Prop} {z t o p q l m S : Addr} {xs ys : Array Value}
/-- what stays -/
abbrev Kp5 (h h' : Heap) (S z o p q : Addr) : Prop := ∀ b u, b ≠ S → b ≠ z → b ≠ o → b ≠ p → b ≠ q → h.get? b = some u → h'.get? b = some u
end
end DK
set_option Elab.async false
set_option linter.all false
set_option maxRecDepth 100000
set_option maxHeartbeats 4000000
namespace DK
open PySem PySem.Spec PyProof.Rows L2 L2H
section
variable {prog : Program} {w : World} {A : Around} {E : Value → Shared → Prop} {s : Shared} {z t o p q l m : Addr} {xs ys : Array Value}
end
/-- the tuples tracked at their addresses -/
def put2 : Hp → List Addr → List V → List V → Hp
  | H, a :: as, x :: xs, y :: ys => put2 (upd H a (.tup [x, y])) as xs ys
  | H, _, _, _ => H
def tLZ (K : PySem.W.Frag) (ta : TA) : TE := fun σ H Q => ta σ H fun vs H1 => ∃ a b xs ys, vs = [.ref a, .ref b] ∧ SqL K H1 a xs ∧ SqL K H1 b ys ∧ ys.length = xs.length ∧
  ∀ (S : Addr) (as : List Addr), H1 S = none → (∀ t ∈ as, H1 t = none) → S ∉ as → as.Nodup → as.length = xs.length → Q (.ref S) (put2 (upd H1 S (.lst (as.map V.ref))) as xs ys)
section
variable {X : Cx}
variable {e e2 : Expr} {ta : TA} {p p2 q pos : Pos}
end
end DK
set_option Elab.async false
set_option linter.all false
set_option maxRecDepth 100000
set_option maxHeartbeats 4000000
namespace DK
open PySem PySem.Spec PyProof.Rows L2 L2H
/-- list(zip(a, b)) of two lists of one length -/
def aLZ (l : AA) : AE := fun ρ μ Q X => l ρ μ (fun ds0 μ1 => match ds0 with
  | [d, d'] => ∃ ds ds', staysD d ds μ1 ∧ staysD d' ds' μ1 ∧ ds'.length = ds.length ∧ Q (.lst (List.zipWith (fun x y => D.tup [x, y]) ds ds')) μ1
  | _ => False) X
section
variable {X : Cx} {pn : List (Addr × Obj)} {W : WX} {k : Nat} {e e' : Expr} {l : AA} {p p2 q pos : Pos}
end
/-! ### xs.extend(a tuple) -/
def rExtendT (K : PySem.W.Frag) : V → List V → Hp → VK → Prop := fun x vs H Q => ∃ l b xs zs, x = .ref l ∧ vs = [.ref b] ∧ H l = some (.lst xs) ∧ SqT K H b zs ∧ xs.length + zs.length ≤ sizeLine ∧ Q .non (upd H l (.lst (xs ++ zs)))
def extTt (x d : D) (μ : Sto) (Q : Sto → Prop) : Prop := match x, d with
  | .loc k, .tup es => (match μ[k]? with | some (.lst ds) => ds.length + es.length ≤ 1000000 ∧ Q (μ.set k (.lst (ds ++ es))) | _ => False)
  | _, _ => False
def aExtT (o e : AE) : AE := fun ρ μ Q X => o ρ μ (fun x μ1 => isL x μ1 = true ∧ e ρ μ1 (fun d μ2 => extTt x d μ2 fun μ3 => Q (.v .non) μ3) X) X
section
variable {X : Cx} {W : WX} {o e : Expr} {a b : AE} {apos pos : Pos}
end
end DK
set_option Elab.async false
set_option linter.all false
set_option maxRecDepth 100000
set_option maxHeartbeats 4000000
/-! for x in a cell, items of any kind; list(zip(a, b)) as a cell -/
namespace DK
open PySem PySem.Spec PyProof.Rows L2 L2H
def sForG (e : AE) (i : Nat) (b : AS) : AS := fun A ρ μ => e ρ μ (fun d μ1 => match d with
  | .loc k => ∃ ds, noErrs ds = true ∧ loopC k ds i b A ρ μ1
  | _ => False) (fun x μ1 => A.er x ρ μ1)
section
variable {K : PySem.W.Frag} {pn : List (Addr × Obj)} {W : WX} {te : TE} {e : AE} {tb : TS} {b : AS} {i : Nat}
end
/-- for x in e: a cell with items of any kind, a list, a tuple -/
def sForV (e : AE) (i : Nat) (b : AS) : AS := fun A ρ μ => sForG e i b A ρ μ ∨ sForU e i b A ρ μ
section
variable {K : PySem.W.Frag} {pn : List (Addr × Obj)} {W : WX} {te : TE} {e : AE} {tb : TS} {b : AS} {i : Nat}
end
section
variable {X : Cx} {pn : List (Addr × Obj)} {W : WX} {k : Nat} {e : Expr} {body : List Stmt} {a : AE} {b : AS} {pos p : Pos} {y : Str}
end
/-! ### list(zip(a, b)) as a cell -/
def aLZM (l : AA) : AE := fun ρ μ Q X => l ρ μ (fun ds0 μ1 => match ds0 with
  | [d, d'] => ∃ ds ds', staysD d ds μ1 ∧ staysD d' ds' μ1 ∧ ds'.length = ds.length ∧ Q (.loc μ1.length) (μ1 ++ [.lst (List.zipWith (fun x y => D.tup [x, y]) ds ds')])
  | _ => False) X
section
variable {X : Cx} {W : WX} {k : Nat} {e e' : Expr} {l : AA} {p p2 q pos : Pos}
end
end DK
set_option Elab.async false
set_option linter.all false
namespace DK
open PySem PySem.Spec PyProof.Rows L2 L2H
/-- isinstance(x, C), x an instance of the own class C -/
def fIsiO (C : Addr) : FL := fun xs μ Q => match xs with
  | [x, .v (.ref D)] => D = C ∧ ((∃ ns ds, x = .ins C ns ds) ∨ ∃ k fs, x = .loc k ∧ μ[k]? = some (.ins C fs)) ∧ Q (.v (.bl true)) μ
  | _ => False
section
variable {X : Cx} {pn : List (Addr × Obj)}
end
end DK
set_option Elab.async false
set_option linter.all false
namespace DK
open PySem PySem.Spec PyProof.Rows L2 L2H
/-! for a, b, .. in a tuple (a list) of tuples -/
def loopQ (ds : List D) (is : List Nat) (b : AS) : AS := fun A ρ μ => ∃ I : Nat → Rho → Sto → Prop, I 0 ρ μ ∧
  (∀ n ρ' μ' x, ds[n]? = some x → I n ρ' μ' → ∃ xs, x = .tup xs ∧ xs.length = is.length ∧ b { A with nx := I (n + 1), ct := I (n + 1), bk := A.nx } (setAll ρ' is xs) μ') ∧ ∀ ρ' μ', I ds.length ρ' μ' → A.nx ρ' μ'
def sForTq (e : AE) (is : List Nat) (b : AS) : AS := fun A ρ μ => e ρ μ (fun d μ1 => ∃ ds, d = .tup ds ∧ loopQ ds is b A ρ μ1) (fun x μ1 => A.er x ρ μ1)
def sForLq (e : AE) (is : List Nat) (b : AS) : AS := fun A ρ μ => e ρ μ (fun d μ1 => ∃ ds, d = .lst ds ∧ loopQ ds is b A ρ μ1) (fun x μ1 => A.er x ρ μ1)
section
variable {K : PySem.W.Frag} {pn : List (Addr × Obj)} {W : WX} {te : TE} {e : AE} {tb : TS} {b : AS} {is : List Nat}
end
section
variable {X : Cx} {pn : List (Addr × Obj)} {W : WX} {k : Nat} {e : Expr} {body : List Stmt} {a : AE} {b : AS} {pos pt : Pos} {es : List Expr}
end
end DK
set_option Elab.async false
set_option linter.all false
namespace L2
open PySem PySem.Spec PyProof.Rows
section
variable {prog : Program} {w : World} {A : Around} {E : Value → Shared → Prop} {s : Shared}
variable {X : Cx}
def rSumT (K : PySem.W.Frag) : List V → Hp → VK → Prop := fun vs H Q => ∃ (a : Addr) (ns : List Int), vs = [V.ref a] ∧ SqT K H a (ns.map V.int) ∧ Q (.int ns.sum) H
end
end L2
namespace DK
open PySem PySem.Spec PyProof.Rows L2 L2H
/-- sum of a tuple of ints -/
def fSumT : FL := fun xs μ Q => match xs with
  | [.tup ds] => ∃ ns : List Int, ds = (ns.map fun z => .v (.int z)) ∧ Q (.v (.int ns.sum)) μ
  | _ => False
section
variable {X : Cx} {pn : List (Addr × Obj)}
end
end DK
set_option Elab.async false
set_option linter.all false
set_option maxRecDepth 100000
set_option maxHeartbeats 4000000
namespace DK
open PySem PySem.Spec PyProof.Rows L2 L2H
/-! str of an int; a tuple times an int -/
def fStrI : FL := fun xs μ Q => match xs with
  | [.v (.int i)] => i.natAbs.log2 < 1920 ∧ Q (.v (.str (toString i))) μ
  | _ => False
def fRepT : F2 := fun x y μ Q => match x, y with
  | .tup ds, .v (.int n) => (ds ≠ [] ∧ 2 ≤ n ∧ n ≤ 1000 ∧ ds.length ≤ 1000) ∧ Q (.tup (List.replicate n.toNat ds).flatten) μ
  | _, _ => False
section
variable {X : Cx} {pn : List (Addr × Obj)}
end
/-! xs.insert(i, x), xs a cell -/
def insIt (x : D) (ys : List D) (μ : Sto) (Q : QD) : Prop := match x, ys with
  | .loc k, [.v (.int i), d] => (match μ[k]? with | some (.lst ds) => (0 ≤ i ∧ i < 2 ^ 62) ∧ ds.length ≤ 1000000 ∧ Q (.v .non) (μ.set k (.lst (ds.take i.toNat ++ [d] ++ ds.drop i.toNat))) | _ => False)
  | _, _ => False
def aIns (o : AE) (l : AA) : AE := fun ρ μ Q X => o ρ μ (fun x μ1 => isL x μ1 = true ∧ l ρ μ1 (fun ds μ2 => insIt x ds μ2 Q) X) X
section
variable {X : Cx} {W : WX} {o e e' : Expr} {a : AE} {l : AA} {apos pos : Pos}
end
/-! comprehensions over zip of two tuples -/
def aLcZT (l : AA) (i j : Nat) (t : AT) (e : AE) : AE := fun ρ μ Q X => l ρ μ (fun ds0 μ1 => match ds0 with
  | [.tup ds, .tup es] => ds.length ≤ 500000 ∧ ∃ I : Nat → List D → Prop, I 0 [] ∧ (∀ n acc x y, ds[n]? = some x → es[n]? = some y → I n acc → aTurn2 i j t e (wipeD (wipeD ρ j) i) acc μ1 x y (I (n + 1))) ∧ ∀ acc, I (min ds.length es.length) acc → Q (.lst acc) μ1
  | _ => False) X
section
variable {K : PySem.W.Frag} {pn : List (Addr × Obj)} {W : WX} {tl : TA} {l : AA} {tt : TT} {t : AT} {te : TE} {e : AE} {i j : Nat}
end
section
variable {X : Cx} {pn : List (Addr × Obj)} {W : WX} {k : Nat} {e e' elt : Expr} {ifs : List Expr} {scope : Scope} {l : AA} {t : AT} {a : AE} {pos p p1 p2 px py pt : Pos} {x y : Str} {kt : Nat}
end
end DK
set_option Elab.async false
set_option linter.all false
namespace DK
open PySem PySem.Spec PyProof.Rows L2 L2H
/-! tuple(xs), xs a cell -/
def fTupC : FL := fun xs μ Q => match xs with
  | [.loc k] => (match μ[k]? with | some (.lst ds) => Q (.tup ds) μ | _ => False)
  | _ => False
section
variable {X : Cx} {pn : List (Addr × Obj)}
end
end DK
set_option Elab.async false
set_option linter.all false
set_option maxRecDepth 100000
set_option maxHeartbeats 4000000
namespace DK
open PySem PySem.Spec PyProof.Rows L2 L2H StX
/-! def f(*v) -/
theorem cxUpN {P : Program} {w : World} : CXUp (L2N.CX P w) := by
  rintro outer s H s2 H2 E e s' un kp ho ⟨a, B, H', cls, d, ea, fl, hok, ub, na, os, ag, he⟩
  refine ⟨a, B, H', cls, d, ea, fl, hok, ⟨fun b o q n hb => ub.keep b o (kp b o q) (un.free b o q n (by simp)) hb, fun b o q hb => ub.slot b o (kp b o q) hb, fun b o q n => ub.free b o (kp b o q) (un.free b o q n (by simp)),
    fun b o q hb => ub.there b o (kp b o q) hb, fun b xs q => ub.tups b xs (un.tups b xs q), fun b o xs q => ub.frzs b o xs (un.frzs b o xs q), fun b ps q => ?_⟩, na, os.trans ho, ag, he⟩
  obtain ⟨m1, e1⟩ := un.tbls b ps q
  obtain ⟨m2, e2⟩ := ub.tbls b _ e1
  exact ⟨m1 ++ m2, by rw [e2, Array.append_assoc]⟩
/-- its promise: the arguments stand in one new tuple -/
def spS (K : PySem.W.Frag) (F : FD) : Sp := fun vs H Q E => vs.length ≤ sizeLine ∧ ∀ p, H p = Option.none → spD K 1 F [V.ref p] (upd H p (.tup vs)) Q E
abbrev FnS (P : Program) (w : World) (K : PySem.W.Frag) (mg : Str → Option Value) (base : Heap) (k : Nat) (f : Addr) (F : FD) : Prop := FnR P w K mg base (L2N.CX P w) k f (spS K F)
section
variable {P : Program} {w : World} {K : PySem.W.Frag} {mg : Str → Option Value} {base : Heap}
theorem fnD_star {x qual pv : Str} {st : Stmt} {f : Addr} {fd : FuncData} {N : List Str} {k : Nat} {F : FD} (b : AS) (Fn : Fun K x qual st f fd) (S : FnScope N [pv] (defScope st))
    (hbind : ∀ (kV doc pm : Value) (an : Option Addr) (cdv ct : Value) (us : List Value), bindArgs (PySem.W.fnOf x qual (defArgs st) (defBody st) (defScope st) .none kV doc pm an cdv ct) ⟨us, []⟩ = (newTuple us >>= fun t => pure [(pv, t)]))
    (hbody : ∀ (cd : Value) (A : Around) (outer : List Env) (s : Shared) (H : Hp) (E : XK), Bd (cxN P w K mg base N qual (defScope st) f cd A outer s H E) (wxN E) k → DSs (cxN P w K mg base N qual (defScope st) f cd A outer s H E) [] (wxN E) (defBody st) b)
    (hread : ∀ (ds : List D) (μ : Sto) (QA : QD) (XA : QX), ds.length = 1 → F ds μ QA XA → b (dEnds QA XA) (startD N.length ds) μ) : FnS P w K mg base (k + 1) f F := by
  obtain ⟨oc, od, kV, doc, pm, an, cdv, ct, osl, rfl, lk, hcd⟩ := Fn.ex
  refine (fn_star (ps := []) (sp := spD K 1 F) lk hcd S cxUpN (fun us rest hl => ?_) fun A outer s H vs Q E hr hsp => ?_).imp fun vs H Q E h => ⟨[], vs, rfl, rfl, h.1, fun p hp => h.2 p hp⟩
  · have : us = [] := List.length_eq_zero_iff.mp hl
    subst this
    exact hbind kV doc pm an cdv ct rest
  · obtain ⟨θ, μ, ds, QA, XA, ok, hd, hl, hF, hq, hx⟩ := hsp
    obtain ⟨t, h, h'⟩ := (hbody cdv A outer s H E ⟨takesN, L2.passes_of rfl, rfl, hr, S.nd⟩).ex
    refine ⟨t, h, ?_⟩
    have hpl : 1 ≤ N.length := by have := congrArg List.length S.pre; rw [List.length_take] at this; simp only [List.nil_append, List.length_singleton] at this; omega
    refine h'.run ⟨θ, H, μ⟩ _ _ ok (start_env hd (by rw [hd.len, hl]; exact hpl)) _ (hread ds μ QA XA hl hF) _ ⟨fun ρ' μ' q σ' w' em l k' e' => ?_, fun d μ' q => hq d μ' q, fun _ _ q => q.elim, fun _ _ q => q.elim, fun x ρ' μ' q σ' cls dd w' em l k' e' dx => ?_⟩
    · exact hq _ _ q .non w' em l k' .v
    · exact hx x μ' q cls dd w' em l k' dx
end
section
variable {X : Cx} {k : Nat} {f : Addr} {sp : Sp} {E : L2.St → XK} {x : Str} {p pos : Pos} {e : Expr} {es : List Expr} {t : TA}
theorem run_fnRS {CX : CXT} {pins : List (Addr × Obj)} {σ : L2.St} {H : Hp} {s : Shared} {Q : VK} {us : List Value} {vs : List V} (F : FnR X.prog X.w X.K X.mg X.base CX k f sp) (hr : Room k X.A) (hx : PassesAt CX X σ (E σ)) (I : Inv X pins σ H s) (r : Vals vs us) (h : sp vs H Q (E σ)) :
    wpAny (model X.prog X.w) X.A (call (.ref f) us) (EP X pins σ Q) X.xe s := by
  refine wpAny_call (codeAny_mono (F X.A X.stack s H us vs Q (E σ) hr I.env0 r h) fun r s' hq => ?_)
  cases r with
  | error e => exact hx pins H s e s' I hq
  | ok fl =>
    cases fl with
    | ret u => exact I.after hq
    | next => exact False.elim hq
    | brk => exact False.elim hq
    | cont => exact False.elim hq
theorem pe_callRS {CX : CXT} (F : FnR X.prog X.w X.K X.mg X.base CX k f sp) (hr : Room k X.A) (hg : Gl X x) (hm : X.mg x = some (.ref f)) (hk : PySem.W.keepIn X.K (.ref f) = true) (hx : ∀ σ, PassesAt CX X σ (E σ))
    (ha : PA X (e :: es) t) (hdb : (x == ("__debug__" : Str)) = false := by decide) (he : starEach (e :: es) X.env = (false, eval e X.env) :: starEach es X.env := by rfl) (hpl : (backTo pos (starEach es X.env)).any (·.1) = false := by rfl) :
    PE X (.Call (.Name x p) (e :: es) [] pos) (tCallS sp E t) := by
  refine ⟨fun pins s σ H Q I h => ?_⟩
  refine wpAny_Call_Name_kw (ld_glob I hg hm ?_ hdb)
  refine PySem.W.callWith_K (h₀ := X.base) I.ok.mod.kin hk (thn (ha.run pos pins s σ H _ I h) fun us s1 ⟨vs, H1, I1, r, q⟩ => ⟨I1.kIn, ?_⟩) he hpl
  exact run_fnRS F hr (hx σ) I1 r q
end
def aCallSt (F : FD) (l : AA) : AE := fun ρ μ Q X => l ρ μ (fun ds μ1 => ds.length ≤ 1000 ∧ F [.tup ds] μ1 Q X) X
section
variable {X : Cx} {W : WX} {k k' : Nat} {f : Addr} {F : FD} {x : Str} {e : Expr} {es : List Expr} {l : AA} {p pos : Pos}
/-- f(e, ..), f a def with *v alone -/
theorem d_callSt (B : Bd X W k) (G : FnS X.prog X.w X.K X.mg X.base k' f F) (hk' : k' ≤ k) (hm : X.mg x = some (.ref f)) (hk : PySem.W.keepIn X.K (.ref f) = true) (ha : DA X [] W (e :: es) l)
    (hg : Gl X x := by rfl) (hdb : (x == ("__debug__" : Str)) = false := by decide) (he : starEach (e :: es) X.env = (false, eval e X.env) :: starEach es X.env := by rfl) (hpl : (backTo pos (starEach es X.env)).any (·.1) = false := by rfl) :
    DE X [] W (.Call (.Name x p) (e :: es) [] pos) (aCallSt F l) := by
  obtain ⟨tl, l1, l2⟩ := ha.ex
  refine ⟨_, pe_callRS G (B.room.mono hk') hg hm hk (fun σ => L2N.passAt B.tk σ) l1 hdb he hpl, ⟨fun w σ ρ ok er QA XA h Q hq hx => ?_⟩⟩
  refine l2.run w σ ρ ok er _ XA h _ (fun ds μ1 h1 vs w1 em l1 k1 dn => ?_) hx
  subst em
  obtain ⟨hlen, hF⟩ := h1
  refine ⟨by rw [dn.len, sizeLine_eq]; omega, fun q hn => ?_⟩
  obtain ⟨l3, k3, n3⟩ := k1.new (o := .tup vs) hn
  have l4 : WLe w1 ⟨w1.θ, upd w1.H q (.tup vs), w1.μ⟩ := l3
  refine ⟨w1.θ, w1.μ, [.tup ds], QA, XA, k3, .cons (.tup (.inl ⟨upd_same, n3⟩) (dn.mono l3)) .nil, rfl, hF, fun d μ' z => ((hq d μ' z).mono l1).mono l4, fun x μ' z => ((hx x μ' z).mono l1).mono l4⟩
end
end DK
set_option Elab.async false
set_option linter.all false
set_option maxRecDepth 100000
set_option maxHeartbeats 4000000
/-! for i, x in enumerate(a cell with items of any kind) -/
namespace DK
open PySem PySem.Spec PyProof.Rows L2 L2H
theorem walk_enumG {K : PySem.W.Frag} {a : Addr} {n : Nat} : Walk (Ite K a) n (fun H => ∃ xs, SqL K H a xs ∧ xs.length = n) (fun i H v H' => ∃ T x, v = .ref T ∧ H T = none ∧ H' = upd H T (.tup [.int (i : Nat), x]) ∧ ∀ xs, SqL K H a xs → xs[i]? = some x) :=
  ⟨fun i _ hi ⟨xs, q, e⟩ => ⟨xs, xs[i]'(by omega), q, List.getElem?_eq_getElem (by omega)⟩, fun _ ⟨xs, q, e⟩ => ⟨xs, q, by omega⟩, fun _ _ _ _ _ _ y => y⟩
def loopEG (c : Nat) (ds : List D) (i j : Nat) (b : AS) : AS := fun A ρ μ => ∃ I : Nat → Rho → Sto → Prop, I 0 ρ μ ∧ (∀ n ρ' μ', I n ρ' μ' → μ'[c]? = some (.lst ds)) ∧
    (∀ n ρ' μ' x, ds[n]? = some x → I n ρ' μ' → b { A with nx := I (n + 1), ct := I (n + 1), bk := A.nx } ((ρ'.set i (some (.v (.int (n : Nat))))).set j (some x)) μ') ∧ ∀ ρ' μ', I ds.length ρ' μ' → A.nx ρ' μ'
def sForEG (l : AA) (i j : Nat) (b : AS) : AS := fun A ρ μ => l ρ μ (fun ds0 μ1 => match ds0 with
  | [.loc c] => ∃ ds, noErrs ds = true ∧ loopEG c ds i j b A ρ μ1
  | _ => False) (fun x μ1 => A.er x ρ μ1)
section
variable {K : PySem.W.Frag} {pn : List (Addr × Obj)} {W : WX} {tl : TA} {l : AA} {tb : TS} {b : AS} {i j : Nat}
theorem ss_forEG (hl : SA K pn W tl l) (hb : SS K pn W tb b) : SS K pn W (tFor (iEnum K tl) (gTup K 2 (gCons (gName i) (gCons (gName j) gNil))) tb) (sForEG l i j b) := ⟨fun w σ ρ k er A h E hE =>
  hl.run w σ ρ k er _ _ h _ (fun ds0 μ1 h1 vs0 w1 em l1 k1 dn => by
    subst em
    split at h1
    · rename_i c
      cases dn with
      | cons d1 d2 =>
        cases d2
        obtain ⟨ds, hne, I, i0, hst, hs, hn⟩ := h1
        cases d1 with
        | @loc _ p hp =>
          have at_ : ∀ (n : Nat) (w2 : Wd) (ρ2 : Rho), WLe w1 w2 → Ok K w2 → I n ρ2 w2.μ → ∃ vs, SqL K w2.H p vs ∧ Dens K [] w2.θ w2.H vs ds := fun n w2 ρ2 l2 k2 q => by
            obtain ⟨vs, a, b⟩ := k2.cell _ _ _ (l2.get hp) (hst n ρ2 w2.μ q)
            exact ⟨vs, .inl (.inl a), b⟩
          obtain ⟨vs0, a0, b0⟩ := at_ 0 w1 ρ k1.refl k1 i0
          refine ⟨p, vs0, rfl, a0, for_it (walk_enumG (n := ds.length)) (WI K pn w1 I) ⟨w1, ρ, rfl, k1.refl, k1, er.mono l1, i0⟩ (fun n σ' H' _ q => ?_) (fun n x σ' H' H'' hlt q y => ?_) (fun σ' H' q => ?_)⟩
          · obtain ⟨w2, ρ2, rfl, l2, k2, e2, q⟩ := q
            obtain ⟨vs, a, b⟩ := at_ n w2 ρ2 l2 k2 q
            exact ⟨vs, a, b.len⟩
          · obtain ⟨w2, ρ2, rfl, l2, k2, e2, q⟩ := q
            obtain ⟨T, y0, rfl, hT, rfl, hy0⟩ := y
            obtain ⟨vs, a, b⟩ := at_ n w2 ρ2 l2 k2 q
            obtain ⟨dx, ed⟩ : ∃ dx, ds[n]? = some dx := ⟨_, List.getElem?_eq_getElem hlt⟩
            obtain ⟨y', ey, dy⟩ := (b.un (pn' := pn) hne).get ed
            cases (ey.symm.trans (hy0 vs a))
            obtain ⟨l3, k3, _⟩ := k2.new (o := .tup [.int (n : Nat), y0]) hT
            have l03 := (l1.trans l2).trans l3
            exact ⟨T, _, rfl, .inl (Rd.of upd_same), rfl, _, _, rfl, _, _, rfl, rfl, hb.run ⟨w2.θ, upd w2.H T (.tup [.int (n : Nat), y0]), w2.μ⟩ _ _ k3 (((e2.mono l3).set .v).set (dy.mono l3)) _ (hs n ρ2 w2.μ dx ed q) _ ⟨pr_wi (l2.trans l3), fun d m z => (hE.rt d m z).mono l03, fun r m z => (hE.nx r m z).mono l03, pr_wi (l2.trans l3), (hE.mono l03).er⟩⟩
          · obtain ⟨w2, ρ2, rfl, l2, k2, e2, q⟩ := q
            exact ((hE.nx _ _ (hn _ _ q)).mono (l1.trans l2)).same k2 e2
    · exact h1.elim) (hE.ex er)⟩
def sForEV (l : AA) (i j : Nat) (b : AS) : AS := fun A ρ μ => sForEG l i j b A ρ μ ∨ sForE l i j b A ρ μ
theorem ss_forEV (hl : SA K pn W tl l) (hb : SS K pn W tb b) : SS K pn W (tFor (iEnum K tl) (gTup K 2 (gCons (gName i) (gCons (gName j) gNil))) tb) (sForEV l i j b) := ⟨fun w σ ρ k er A h E hE => by
  rcases h with h | h
  · exact (ss_forEG hl hb).run w σ ρ k er A h E hE
  · exact (ss_forE hl hb).run w σ ρ k er A h E hE⟩
end
section
variable {X : Cx} {pn : List (Addr × Obj)} {W : WX} {k : Nat} {e : Expr} {body : List Stmt} {l : AA} {b : AS} {pos p p1 p2 px py pt : Pos} {x y : Str} {kt : Nat}
theorem d_forEV (i j : Nat) (B : Bd X W k) (hm : X.mg "enumerate" = none) (hl : DA X pn W [e] l) (hb : DSs X pn W body b) (hg : Gl X "enumerate" := by rfl) (hi : X.N[i]? = some x := by rfl) (hj : X.N[j]? = some y := by rfl)
    (hx : Loc X.env.scope x := by first | exact Or.inl rfl | exact Or.inr rfl) (hy : Loc X.env.scope y := by first | exact Or.inl rfl | exact Or.inr rfl)
    (hfx : X.fn x = true ∨ X.env.scope.names.lookup x = some .local := by first | exact .inl rfl | exact .inr rfl) (hfy : X.fn y = true ∨ X.env.scope.names.lookup y = some .local := by first | exact .inl rfl | exact .inr rfl)
    (hs : starEach [e] X.env = [(false, eval e X.env)] := by rfl) (hfs : ∀ v : Value, foldedSetIterable (.Call (.Name "enumerate" p1) [e] [] p2) X.env v = pure v := by intro _; rfl) :
    DS X pn W (.For (.Tuple [.Name x px, .Name y py] kt pt) (.Call (.Name "enumerate" p1) [e] [] p2) body [] pos) (sForEV l i j b) := by
  obtain ⟨_, h, h'⟩ := hl.ex
  obtain ⟨_, h2, h2'⟩ := hb.ex
  exact ⟨_, ps_for B.own B.calm (pi_enum hg hm h hs) (pg_tup B.calm (pgs_cons (pg_name B.nd hi hx hfx) (pgs_cons (pg_name B.nd hj hy hfy) pgs_nil))) h2 hfs, ss_forEV h' h2'⟩
end
section
variable {X : Cx} {pn : List (Addr × Obj)} {W : WX} {k : Nat} {e e1 elt : Expr} {es : List Expr} {scope : Scope} {l : AA} {a a0 a1 : AE} {pos px py p1 p2 : Pos} {x y : Str}
theorem d_lc2tS (i j : Nat) (B : Bd X W k) (h0 : DE X pn W e a0) (h1 : ∀ s H C cl fp, Bd (nblk X scope s H C cl fp) w0 k → DE (nblk X scope s H C cl fp) pn w0 e1 a1) (he : ∀ s H C cl fp, Bd (nblk X scope s H C cl fp) w0 k → DE (nblk X scope s H C cl fp) pn w0 elt a)
    (hok : blkC X.N X.env.scope scope [(x, i), (y, j)] = true) (hpx : ∀ s H C cl fp, PG (nblk X scope s H C cl fp) (.Name x px) (gName i)) (hpy : ∀ s H C cl fp, PG (nblk X scope s H C cl fp) (.Name y py) (gName j)) (hij : i ≠ j := by decide)
    (hfs : ∀ v : Value, foldedSetIterable e X.env v = pure v := by intro _; rfl) (hfs1 : ∀ (env : Env) (v : Value), foldedSetIterable e1 env v = pure v := by intro _ _; rfl) :
    DE X pn W (.ListComp elt [⟨.Name x px, e, [], 0⟩, ⟨.Name y py, e1, [], 0⟩] scope pos) (aLc2 (rT a0) i (rS1 a1) j a) := by
  obtain ⟨te, _, e2, _, e4, _⟩ := lc_parts (X := X) (ifs := []) (t := aYes) (nblk X scope) (fun _ _ _ _ _ => rfl) (fun s H C cl fp => he s H C cl fp (B.blk ..)) (fun _ _ _ _ _ => d_ifs0)
  obtain ⟨t1, _, f2, _, f4, _⟩ := lc_parts (X := X) (ifs := []) (t := aYes) (nblk X scope) (fun _ _ _ _ _ => rfl) (fun s H C cl fp => h1 s H C cl fp (B.blk ..)) (fun _ _ _ _ _ => d_ifs0)
  obtain ⟨tx, x1, x2⟩ := h0.ex
  exact ⟨_, pe_lc2 (own := [(x, i), (y, j)]) (vs1 := [j]) B.calm B.nd (pi_tup x1) (blkOk_by hok) (by intro z hz; rw [List.mem_singleton.mp hz]; simp) hpx (fun _ _ _ _ _ => pts_nil) (fun s H C cl fp => pi_list (f2 s H C cl fp)) hpy (fun _ _ _ _ _ => pts_nil) e2 hfs hfs1, se_lc2 hij (si_T x2) (si_S1 f4) e4⟩
end
/-- f(k = v, ..), the other parameters by their defaults -/
def aCallKX (F : FD) (n j : Nat) (g : List D → List D) (l : AA) : AE := fun ρ μ Q X => l ρ μ (fun ds μ1 => (ds.length = j ∧ (g ds).length = n) ∧ F (g ds) μ1 Q X) X
section
variable {X : Cx} {W : WX} {k k' : Nat} {f : Addr} {fd : FuncData} {ps ks : List Str} {F : FD} {x : Str} {kws : List Keyword} {l : AA} {p pos : Pos}
theorem d_callKX {gV : List V → List V → List V} {gD : List D → List D → List D} (B : Bd X W k) (G : FnD X.prog X.w X.K X.mg X.base k' f fd ps F) (hk' : k' ≤ k) (hm : X.mg x = some (.ref f)) (hk : PySem.W.keepIn X.K (.ref f) = true) (hb : ∃ g, KBN X.K fd ps 0 ks g ∧ PermN g gV gD) (ha : DK1 X [] W kws l)
    (hg : Gl X x := by rfl) (hdb : (x == ("__debug__" : Str)) = false := by decide) (hall : (backToKw pos (keywordEach kws X.env)).all (·.1.isSome) = true := by rfl) (hks : (backToKw pos (keywordEach kws X.env)).filterMap (·.1) = ks := by rfl)
    (hpl : ((backTo pos (starEach [] X.env)).any (·.1) || (backToKw pos (keywordEach kws X.env)).any (·.1.isNone)) = false := by rfl) :
    DE X [] W (.Call (.Name x p) [] kws pos) (aCallKX F ps.length ks.length (gD []) l) := by
  obtain ⟨tl, l1, l2⟩ := ha.ex
  obtain ⟨g, hb, pm⟩ := hb
  refine ⟨fun σ H Q => tl σ H fun vs H1 => vs.length = ks.length ∧ spD X.K ps.length F (gV [] vs) H1 Q (WE W σ), ⟨fun pins s σ H Q I h => ?_⟩, ⟨fun w σ ρ ok er QA XA h Q hq hx => ?_⟩⟩
  · refine wpAny_Call_Name_kw (ld_glob I hg hm ?_ hdb)
    refine PySem.W.callWith_KW0 (h₀ := X.base) I.ok.mod.kin hk hall ?_ hpl
    refine thn (l1.run pos pins s σ H _ I h) fun ws s2 ⟨zs, H2, I2, rz, e2, q2⟩ => ⟨I2.kIn, ?_⟩
    rw [hks]
    have r2 := pm.val .nil rz
    refine wpAny_call (codeAny_mono (G.run X.A X.stack s2 H2 ⟨[], ks.zip ws⟩ (g [] ws) (gV [] zs) Q (WE W σ) (B.room.mono hk') I2.env0 (hb s2 [] ws I2.kIn rfl (by rw [← rz.length]; exact e2)) r2 q2) fun r s' hq => ?_)
    cases r with
    | error e => exact L2N.passAt B.tk σ pins H2 s2 e s' I2 hq
    | ok fl =>
      cases fl with
      | ret u => exact I2.after hq
      | next => exact hq.elim
      | brk => exact hq.elim
      | cont => exact hq.elim
  · refine l2.run w σ ρ ok er _ XA h _ (fun ds μ1 h1 vs w1 em l1 k1 dn => ?_) hx
    subst em
    exact ⟨by rw [dn.len]; exact h1.1.1, w1.θ, w1.μ, gD [] ds, QA, XA, k1, pm.den .nil dn, h1.1.2, h1.2, fun d μ' q => (hq d μ' q).mono l1, fun x μ' q => (hx x μ' q).mono l1⟩
end
section
variable {X : Cx} {pn : List (Addr × Obj)} {W : WX} {s0 s1 s2 s3 : Stmt} {sts : List Stmt} {a0 a1 a2 a3 d : AS}
theorem d_grp4 (h0 : DS X pn W s0 a0) (h1 : DS X pn W s1 a1) (h2 : DS X pn W s2 a2) (h3 : DS X pn W s3 a3) (hr : DSs X pn W sts d) : DSs X pn W (s0 :: s1 :: s2 :: s3 :: sts) (sSeq (sFz (sSeq a0 (sSeq a1 (sSeq a2 a3)))) d) := by
  obtain ⟨t0, h0, g0⟩ := h0.ex
  obtain ⟨t1, h1, g1⟩ := h1.ex
  obtain ⟨t2, h2, g2⟩ := h2.ex
  obtain ⟨t3, h3, g3⟩ := h3.ex
  obtain ⟨u, hr, hr'⟩ := hr.ex
  have z : SS X.K pn W (tSeq (tSeq t0 (tSeq t1 (tSeq t2 t3))) u) (sSeq (sFz (sSeq a0 (sSeq a1 (sSeq a2 a3)))) d) := ss_seq (ss_fz (ss_seq g0 (ss_seq g1 (ss_seq g2 g3)))) hr'
  exact ⟨_, pss_cons h0 (pss_cons h1 (pss_cons h2 (pss_cons h3 hr))), z⟩
end
/-! a condition given between two statements -/
def sMid (a b : AS) : AS := fun A ρ μ => ∃ M : Rho → Sto → Prop, a { A with nx := M } ρ μ ∧ ∀ ρ' μ', M ρ' μ' → b A ρ' μ'
section
variable {K : PySem.W.Frag} {pn : List (Addr × Obj)} {W : WX} {ta tb : TS} {a b : AS}
theorem ss_mid (ha : SS K pn W ta a) (hb : SS K pn W tb b) : SS K pn W (tSeq ta tb) (sMid a b) := ⟨fun w σ ρ k e A ⟨_, h, hM⟩ E hE =>
  ha.run w σ ρ k e _ h _ ⟨fun ρ' μ' q σ' w' em l k' e' => by
    subst em
    exact hb.run w' σ' ρ' k' e' A (hM _ _ q) E (hE.mono l), hE.rt, hE.bk, hE.ct, hE.er⟩⟩
end
section
variable {X : Cx} {pn : List (Addr × Obj)} {W : WX} {st : Stmt} {sts : List Stmt} {b c : AS}
theorem d_mid (h : DS X pn W st b) (h2 : DSs X pn W sts c) : DSs X pn W (st :: sts) (sMid b c) := by
  obtain ⟨_, h, h'⟩ := h.ex
  obtain ⟨_, h2, h2'⟩ := h2.ex
  exact ⟨_, pss_cons h h2, ss_mid h' h2'⟩
end
end DK
set_option Elab.async false
set_option linter.all false
set_option maxRecDepth 100000
set_option maxHeartbeats 4000000
namespace Pf
open PySem L2 DK
def top (i : Nat) : Stmt := PySem.Challenge.pw_noisebound_k04_checks_in_order.main.body.getD i (.Pass ⟨0, 0, 0, 0⟩)
set_option genSizeOf false in
set_option genInjectivity false in
structure Tx (K : PySem.W.Frag) (mg : Str → Option Value) where
  n_ValueError : mg "ValueError" = none
  n_enumerate : mg "enumerate" = none
  n_max : mg "max" = none
  n_range : mg "range" = none
  n_isinstance : mg "isinstance" = none
  n_int : mg "int" = none
  n_str : mg "str" = none
  n_list : mg "list" = none
  n_len : mg "len" = none
  n_min : mg "min" = none
  n_tuple : mg "tuple" = none
  n_bool : mg "bool" = none
  n_zip : mg "zip" = none
  t_LONGEST : Tok
  m_LONGEST : mg "LONGEST" = some (.int 20000 t_LONGEST)
  a_NoiseboundError : Addr
  m_NoiseboundError : mg "NoiseboundError" = some (.ref a_NoiseboundError)
  a_OutOfRange : Addr
  m_OutOfRange : mg "OutOfRange" = some (.ref a_OutOfRange)
  a_BadItem : Addr
  m_BadItem : mg "BadItem" = some (.ref a_BadItem)
  a_BadLength : Addr
  m_BadLength : mg "BadLength" = some (.ref a_BadLength)
  a_BadText : Addr
  m_BadText : mg "BadText" = some (.ref a_BadText)
  a_BadPadding : Addr
  m_BadPadding : mg "BadPadding" = some (.ref a_BadPadding)
  a_WrongPhase : Addr
  m_WrongPhase : mg "WrongPhase" = some (.ref a_WrongPhase)
  a_NotInvertible : Addr
  m_NotInvertible : mg "NotInvertible" = some (.ref a_NotInvertible)
  a_BadRing : Addr
  m_BadRing : mg "BadRing" = some (.ref a_BadRing)
  a_BadParameters : Addr
  m_BadParameters : mg "BadParameters" = some (.ref a_BadParameters)
  a_UnknownName : Addr
  m_UnknownName : mg "UnknownName" = some (.ref a_UnknownName)
  a_DifferentRings : Addr
  m_DifferentRings : mg "DifferentRings" = some (.ref a_DifferentRings)
  a_BadKey : Addr
  m_BadKey : mg "BadKey" = some (.ref a_BadKey)
  a_BadLetter : Addr
  m_BadLetter : mg "BadLetter" = some (.ref a_BadLetter)
  a_BadKeyText : Addr
  m_BadKeyText : mg "BadKeyText" = some (.ref a_BadKeyText)
  a_BadRecord : Addr
  m_BadRecord : mg "BadRecord" = some (.ref a_BadRecord)
  a_BadCommand : Addr
  m_BadCommand : mg "BadCommand" = some (.ref a_BadCommand)
  a_NoEntry : Addr
  m_NoEntry : mg "NoEntry" = some (.ref a_NoEntry)
  a_NothingLeft : Addr
  m_NothingLeft : mg "NothingLeft" = some (.ref a_NothingLeft)
  a_is_number : Addr
  fd_is_number : FuncData
  F_is_number : Fun K "is_number" "is_number" (top 21) a_is_number fd_is_number
  m_is_number : mg "is_number" = some (.ref a_is_number)
  k_is_number : PySem.W.keepIn K (.ref a_is_number) = true
  b_is_number : Binds K fd_is_number ["value"] []
  a_is_between : Addr
  fd_is_between : FuncData
  F_is_between : Fun K "is_between" "is_between" (top 22) a_is_between fd_is_between
  m_is_between : mg "is_between" = some (.ref a_is_between)
  k_is_between : PySem.W.keepIn K (.ref a_is_between) = true
  b_is_between : Binds K fd_is_between ["value", "low", "high"] []
  a_check_between : Addr
  fd_check_between : FuncData
  F_check_between : Fun K "check_between" "check_between" (top 23) a_check_between fd_check_between
  m_check_between : mg "check_between" = some (.ref a_check_between)
  k_check_between : PySem.W.keepIn K (.ref a_check_between) = true
  b_check_between : Binds K fd_check_between ["name", "value", "low", "high"] []
  a_check_length : Addr
  fd_check_length : FuncData
  F_check_length : Fun K "check_length" "check_length" (top 24) a_check_length fd_check_length
  m_check_length : mg "check_length" = some (.ref a_check_length)
  k_check_length : PySem.W.keepIn K (.ref a_check_length) = true
  b_check_length : Binds K fd_check_length ["items", "expected"] []
  a_check_items : Addr
  fd_check_items : FuncData
  F_check_items : Fun K "check_items" "check_items" (top 25) a_check_items fd_check_items
  m_check_items : mg "check_items" = some (.ref a_check_items)
  k_check_items : PySem.W.keepIn K (.ref a_check_items) = true
  b_check_items : Binds K fd_check_items ["items", "low", "high"] []
  a_check_bytes : Addr
  fd_check_bytes : FuncData
  F_check_bytes : Fun K "check_bytes" "check_bytes" (top 28) a_check_bytes fd_check_bytes
  m_check_bytes : mg "check_bytes" = some (.ref a_check_bytes)
  k_check_bytes : PySem.W.keepIn K (.ref a_check_bytes) = true
  bd_check_bytes : ∃ ds, Vals [.non] ds ∧ Binds K fd_check_bytes ["data", "length"] ds
  a_concatenate : Addr
  fd_concatenate : FuncData
  F_concatenate : Fun K "concatenate" "concatenate" (top 29) a_concatenate fd_concatenate
  m_concatenate : mg "concatenate" = some (.ref a_concatenate)
  k_concatenate : PySem.W.keepIn K (.ref a_concatenate) = true
  a_xor_bytes : Addr
  fd_xor_bytes : FuncData
  F_xor_bytes : Fun K "xor_bytes" "xor_bytes" (top 30) a_xor_bytes fd_xor_bytes
  m_xor_bytes : mg "xor_bytes" = some (.ref a_xor_bytes)
  k_xor_bytes : PySem.W.keepIn K (.ref a_xor_bytes) = true
  b_xor_bytes : Binds K fd_xor_bytes ["first", "second"] []
  a__law_begin : Addr
  fd__law_begin : FuncData
  F__law_begin : Fun K "_law_begin" "_law_begin" (top 32) a__law_begin fd__law_begin
  m__law_begin : mg "_law_begin" = some (.ref a__law_begin)
  k__law_begin : PySem.W.keepIn K (.ref a__law_begin) = true
  b__law_begin : Binds K fd__law_begin ["script"] []
  a__law_mixed : Addr
  fd__law_mixed : FuncData
  F__law_mixed : Fun K "_law_mixed" "_law_mixed" (top 33) a__law_mixed fd__law_mixed
  m__law_mixed : mg "_law_mixed" = some (.ref a__law_mixed)
  k__law_mixed : PySem.W.keepIn K (.ref a__law_mixed) = true
  b__law_mixed : Binds K fd__law_mixed ["seed", "turn"] []
  a__law_take : Addr
  fd__law_take : FuncData
  F__law_take : Fun K "_law_take" "_law_take" (top 34) a__law_take fd__law_take
  m__law_take : mg "_law_take" = some (.ref a__law_take)
  k__law_take : PySem.W.keepIn K (.ref a__law_take) = true
  b__law_take : Binds K fd__law_take ["store", "many"] []
  a__law_wide : Addr
  fd__law_wide : FuncData
  F__law_wide : Fun K "_law_wide" "_law_wide" (top 35) a__law_wide fd__law_wide
  m__law_wide : mg "_law_wide" = some (.ref a__law_wide)
  k__law_wide : PySem.W.keepIn K (.ref a__law_wide) = true
  b__law_wide : Binds K fd__law_wide ["store", "many"] []
  a__law_pick : Addr
  fd__law_pick : FuncData
  F__law_pick : Fun K "_law_pick" "_law_pick" (top 36) a__law_pick fd__law_pick
  m__law_pick : mg "_law_pick" = some (.ref a__law_pick)
  k__law_pick : PySem.W.keepIn K (.ref a__law_pick) = true
  b__law_pick : Binds K fd__law_pick ["store", "row"] []
  a__law_between : Addr
  fd__law_between : FuncData
  F__law_between : Fun K "_law_between" "_law_between" (top 37) a__law_between fd__law_between
  m__law_between : mg "_law_between" = some (.ref a__law_between)
  k__law_between : PySem.W.keepIn K (.ref a__law_between) = true
  b__law_between : Binds K fd__law_between ["store", "low", "high"] []
  a__law_count : Addr
  fd__law_count : FuncData
  F__law_count : Fun K "_law_count" "_law_count" (top 38) a__law_count fd__law_count
  m__law_count : mg "_law_count" = some (.ref a__law_count)
  k__law_count : PySem.W.keepIn K (.ref a__law_count) = true
  b__law_count : Binds K fd__law_count ["store", "most"] []
  a__law_other : Addr
  fd__law_other : FuncData
  F__law_other : Fun K "_law_other" "_law_other" (top 39) a__law_other fd__law_other
  m__law_other : mg "_law_other" = some (.ref a__law_other)
  k__law_other : PySem.W.keepIn K (.ref a__law_other) = true
  b__law_other : Binds K fd__law_other ["store"] []
  a__law_beyond : Addr
  fd__law_beyond : FuncData
  F__law_beyond : Fun K "_law_beyond" "_law_beyond" (top 40) a__law_beyond fd__law_beyond
  m__law_beyond : mg "_law_beyond" = some (.ref a__law_beyond)
  k__law_beyond : PySem.W.keepIn K (.ref a__law_beyond) = true
  b__law_beyond : Binds K fd__law_beyond ["store", "low", "high"] []
  a__law_same : Addr
  fd__law_same : FuncData
  F__law_same : Fun K "_law_same" "_law_same" (top 41) a__law_same fd__law_same
  m__law_same : mg "_law_same" = some (.ref a__law_same)
  k__law_same : PySem.W.keepIn K (.ref a__law_same) = true
  b__law_same : Binds K fd__law_same ["actual", "expected"] []
  a__law_whole : Addr
  fd__law_whole : FuncData
  F__law_whole : Fun K "_law_whole" "_law_whole" (top 42) a__law_whole fd__law_whole
  m__law_whole : mg "_law_whole" = some (.ref a__law_whole)
  k__law_whole : PySem.W.keepIn K (.ref a__law_whole) = true
  b__law_whole : Binds K fd__law_whole ["actual"] []
  a__law_within : Addr
  fd__law_within : FuncData
  F__law_within : Fun K "_law_within" "_law_within" (top 43) a__law_within fd__law_within
  m__law_within : mg "_law_within" = some (.ref a__law_within)
  k__law_within : PySem.W.keepIn K (.ref a__law_within) = true
  b__law_within : Binds K fd__law_within ["actual", "low", "high"] []
  a__law_kin : Addr
  fd__law_kin : FuncData
  F__law_kin : Fun K "_law_kin" "_law_kin" (top 44) a__law_kin fd__law_kin
  m__law_kin : mg "_law_kin" = some (.ref a__law_kin)
  k__law_kin : PySem.W.keepIn K (.ref a__law_kin) = true
  b__law_kin : Binds K fd__law_kin ["error"] []
  a__law_refusal : Addr
  fd__law_refusal : FuncData
  F__law_refusal : Fun K "_law_refusal" "_law_refusal" (top 45) a__law_refusal fd__law_refusal
  m__law_refusal : mg "_law_refusal" = some (.ref a__law_refusal)
  k__law_refusal : PySem.W.keepIn K (.ref a__law_refusal) = true
  b__law_refusal : Binds K fd__law_refusal ["error"] []
  a__law_bytes : Addr
  fd__law_bytes : FuncData
  F__law_bytes : Fun K "_law_bytes" "_law_bytes" (top 46) a__law_bytes fd__law_bytes
  m__law_bytes : mg "_law_bytes" = some (.ref a__law_bytes)
  k__law_bytes : PySem.W.keepIn K (.ref a__law_bytes) = true
  b__law_bytes : Binds K fd__law_bytes ["store", "count"] []
  a__law_byte_row : Addr
  fd__law_byte_row : FuncData
  F__law_byte_row : Fun K "_law_byte_row" "_law_byte_row" (top 47) a__law_byte_row fd__law_byte_row
  m__law_byte_row : mg "_law_byte_row" = some (.ref a__law_byte_row)
  k__law_byte_row : PySem.W.keepIn K (.ref a__law_byte_row) = true
  b__law_byte_row : Binds K fd__law_byte_row ["store", "most"] []
  a__law_misfit : Addr
  fd__law_misfit : FuncData
  F__law_misfit : Fun K "_law_misfit" "_law_misfit" (top 48) a__law_misfit fd__law_misfit
  m__law_misfit : mg "_law_misfit" = some (.ref a__law_misfit)
  k__law_misfit : PySem.W.keepIn K (.ref a__law_misfit) = true
  b__law_misfit : Binds K fd__law_misfit ["store", "row"] []
  a__law_bent_row : Addr
  fd__law_bent_row : FuncData
  F__law_bent_row : Fun K "_law_bent_row" "_law_bent_row" (top 49) a__law_bent_row fd__law_bent_row
  m__law_bent_row : mg "_law_bent_row" = some (.ref a__law_bent_row)
  k__law_bent_row : PySem.W.keepIn K (.ref a__law_bent_row) = true
  b__law_bent_row : Binds K fd__law_bent_row ["store", "row", "low", "high"] []
  a__law_row_due : Addr
  fd__law_row_due : FuncData
  F__law_row_due : Fun K "_law_row_due" "_law_row_due" (top 50) a__law_row_due fd__law_row_due
  m__law_row_due : mg "_law_row_due" = some (.ref a__law_row_due)
  k__law_row_due : PySem.W.keepIn K (.ref a__law_row_due) = true
  b__law_row_due : Binds K fd__law_row_due ["row", "count", "low", "high"] []
  a__law_told_check : Addr
  fd__law_told_check : FuncData
  F__law_told_check : Fun K "_law_told_check" "_law_told_check" (top 51) a__law_told_check fd__law_told_check
  m__law_told_check : mg "_law_told_check" = some (.ref a__law_told_check)
  k__law_told_check : PySem.W.keepIn K (.ref a__law_told_check) = true
  b__law_told_check : Binds K fd__law_told_check ["row", "wanted"] []
  a__law_told_plain : Addr
  fd__law_told_plain : FuncData
  F__law_told_plain : Fun K "_law_told_plain" "_law_told_plain" (top 52) a__law_told_plain fd__law_told_plain
  m__law_told_plain : mg "_law_told_plain" = some (.ref a__law_told_plain)
  k__law_told_plain : PySem.W.keepIn K (.ref a__law_told_plain) = true
  b__law_told_plain : Binds K fd__law_told_plain ["row"] []
  a__law_told_xor : Addr
  fd__law_told_xor : FuncData
  F__law_told_xor : Fun K "_law_told_xor" "_law_told_xor" (top 53) a__law_told_xor fd__law_told_xor
  m__law_told_xor : mg "_law_told_xor" = some (.ref a__law_told_xor)
  k__law_told_xor : PySem.W.keepIn K (.ref a__law_told_xor) = true
  b__law_told_xor : Binds K fd__law_told_xor ["first", "second"] []
  a__law_told_join : Addr
  fd__law_told_join : FuncData
  F__law_told_join : Fun K "_law_told_join" "_law_told_join" (top 54) a__law_told_join fd__law_told_join
  m__law_told_join : mg "_law_told_join" = some (.ref a__law_told_join)
  k__law_told_join : PySem.W.keepIn K (.ref a__law_told_join) = true
  b__law_told_join : Binds K fd__law_told_join ["rows"] []
  a__law_check_due : Addr
  fd__law_check_due : FuncData
  F__law_check_due : Fun K "_law_check_due" "_law_check_due" (top 55) a__law_check_due fd__law_check_due
  m__law_check_due : mg "_law_check_due" = some (.ref a__law_check_due)
  k__law_check_due : PySem.W.keepIn K (.ref a__law_check_due) = true
  b__law_check_due : Binds K fd__law_check_due ["row", "wanted"] []
  a__law_xor_due : Addr
  fd__law_xor_due : FuncData
  F__law_xor_due : Fun K "_law_xor_due" "_law_xor_due" (top 56) a__law_xor_due fd__law_xor_due
  m__law_xor_due : mg "_law_xor_due" = some (.ref a__law_xor_due)
  k__law_xor_due : PySem.W.keepIn K (.ref a__law_xor_due) = true
  b__law_xor_due : Binds K fd__law_xor_due ["first", "second"] []
  a__law_join_due : Addr
  fd__law_join_due : FuncData
  F__law_join_due : Fun K "_law_join_due" "_law_join_due" (top 57) a__law_join_due fd__law_join_due
  m__law_join_due : mg "_law_join_due" = some (.ref a__law_join_due)
  k__law_join_due : PySem.W.keepIn K (.ref a__law_join_due) = true
  b__law_join_due : Binds K fd__law_join_due ["rows"] []
  a__law_perhaps_bent : Addr
  fd__law_perhaps_bent : FuncData
  F__law_perhaps_bent : Fun K "_law_perhaps_bent" "_law_perhaps_bent" (top 58) a__law_perhaps_bent fd__law_perhaps_bent
  m__law_perhaps_bent : mg "_law_perhaps_bent" = some (.ref a__law_perhaps_bent)
  k__law_perhaps_bent : PySem.W.keepIn K (.ref a__law_perhaps_bent) = true
  b__law_perhaps_bent : Binds K fd__law_perhaps_bent ["store", "row"] []
  a__law_checks : Addr
  fd__law_checks : FuncData
  F__law_checks : Fun K "_law_checks" "_law_checks" (top 59) a__law_checks fd__law_checks
  m__law_checks : mg "_law_checks" = some (.ref a__law_checks)
  k__law_checks : PySem.W.keepIn K (.ref a__law_checks) = true
  b__law_checks : Binds K fd__law_checks ["row", "wanted"] []
  a__law_great : Addr
  fd__law_great : FuncData
  F__law_great : Fun K "_law_great" "_law_great" (top 60) a__law_great fd__law_great
  m__law_great : mg "_law_great" = some (.ref a__law_great)
  k__law_great : PySem.W.keepIn K (.ref a__law_great) = true
  b__law_great : Binds K fd__law_great ["store"] []
  a__law_longest : Addr
  fd__law_longest : FuncData
  F__law_longest : Fun K "_law_longest" "_law_longest" (top 61) a__law_longest fd__law_longest
  m__law_longest : mg "_law_longest" = some (.ref a__law_longest)
  k__law_longest : PySem.W.keepIn K (.ref a__law_longest) = true
  b__law_longest : Binds K fd__law_longest [] []
  a_law : Addr
  fd_law : FuncData
  F_law : Fun K "law" "law" (top 62) a_law fd_law
  m_law : mg "law" = some (.ref a_law)
  k_law : PySem.W.keepIn K (.ref a_law) = true
  b_law : Binds K fd_law ["script"] []
  fi_OutOfRange : Addr
  fdi_OutOfRange : FuncData
  e_OutOfRange : ErC K mg "OutOfRange" a_OutOfRange fi_OutOfRange
  in_OutOfRange : InC K a_OutOfRange ["name"]
  ii_OutOfRange : Fun K "__init__" "OutOfRange.__init__" (meth (top 2) 0) fi_OutOfRange fdi_OutOfRange
  bi_OutOfRange : Binds K fdi_OutOfRange ["self", "name"] []
  x_OutOfRange : PySem.W.ErrK K a_OutOfRange
  f_OutOfRange : XfC K a_OutOfRange
  exm_OutOfRange : PySem.W.exmOne K (.ref a_OutOfRange) (.ref a_NoiseboundError) = some true
  q_OutOfRange_ValueError : PySem.W.kitOne K (.ref a_OutOfRange) (.type "ValueError") = some true
  g_OutOfRange_name : PySem.W.findIn K (.ref a_OutOfRange) "name" = some none
  q_OutOfRange_NoiseboundError : PySem.W.kitOne K (.ref a_OutOfRange) (.ref a_NoiseboundError) = some true
  q_OutOfRange_OutOfRange : PySem.W.kitOne K (.ref a_OutOfRange) (.ref a_OutOfRange) = some true
  q_OutOfRange_BadItem : PySem.W.kitOne K (.ref a_OutOfRange) (.ref a_BadItem) = some false
  q_OutOfRange_BadLength : PySem.W.kitOne K (.ref a_OutOfRange) (.ref a_BadLength) = some false
  q_OutOfRange_BadText : PySem.W.kitOne K (.ref a_OutOfRange) (.ref a_BadText) = some false
  q_OutOfRange_BadPadding : PySem.W.kitOne K (.ref a_OutOfRange) (.ref a_BadPadding) = some false
  q_OutOfRange_WrongPhase : PySem.W.kitOne K (.ref a_OutOfRange) (.ref a_WrongPhase) = some false
  q_OutOfRange_NotInvertible : PySem.W.kitOne K (.ref a_OutOfRange) (.ref a_NotInvertible) = some false
  q_OutOfRange_BadRing : PySem.W.kitOne K (.ref a_OutOfRange) (.ref a_BadRing) = some false
  q_OutOfRange_BadParameters : PySem.W.kitOne K (.ref a_OutOfRange) (.ref a_BadParameters) = some false
  q_OutOfRange_UnknownName : PySem.W.kitOne K (.ref a_OutOfRange) (.ref a_UnknownName) = some false
  q_OutOfRange_DifferentRings : PySem.W.kitOne K (.ref a_OutOfRange) (.ref a_DifferentRings) = some false
  q_OutOfRange_BadKey : PySem.W.kitOne K (.ref a_OutOfRange) (.ref a_BadKey) = some false
  q_OutOfRange_BadLetter : PySem.W.kitOne K (.ref a_OutOfRange) (.ref a_BadLetter) = some false
  q_OutOfRange_BadKeyText : PySem.W.kitOne K (.ref a_OutOfRange) (.ref a_BadKeyText) = some false
  q_OutOfRange_BadRecord : PySem.W.kitOne K (.ref a_OutOfRange) (.ref a_BadRecord) = some false
  q_OutOfRange_BadCommand : PySem.W.kitOne K (.ref a_OutOfRange) (.ref a_BadCommand) = some false
  q_OutOfRange_NoEntry : PySem.W.kitOne K (.ref a_OutOfRange) (.ref a_NoEntry) = some false
  q_OutOfRange_NothingLeft : PySem.W.kitOne K (.ref a_OutOfRange) (.ref a_NothingLeft) = some false
  fi_BadItem : Addr
  fdi_BadItem : FuncData
  e_BadItem : ErC K mg "BadItem" a_BadItem fi_BadItem
  in_BadItem : InC K a_BadItem ["index"]
  ii_BadItem : Fun K "__init__" "BadItem.__init__" (meth (top 3) 0) fi_BadItem fdi_BadItem
  bi_BadItem : Binds K fdi_BadItem ["self", "index"] []
  x_BadItem : PySem.W.ErrK K a_BadItem
  f_BadItem : XfC K a_BadItem
  exm_BadItem : PySem.W.exmOne K (.ref a_BadItem) (.ref a_NoiseboundError) = some true
  q_BadItem_ValueError : PySem.W.kitOne K (.ref a_BadItem) (.type "ValueError") = some true
  g_BadItem_index : PySem.W.findIn K (.ref a_BadItem) "index" = some none
  q_BadItem_NoiseboundError : PySem.W.kitOne K (.ref a_BadItem) (.ref a_NoiseboundError) = some true
  q_BadItem_OutOfRange : PySem.W.kitOne K (.ref a_BadItem) (.ref a_OutOfRange) = some false
  q_BadItem_BadItem : PySem.W.kitOne K (.ref a_BadItem) (.ref a_BadItem) = some true
  q_BadItem_BadLength : PySem.W.kitOne K (.ref a_BadItem) (.ref a_BadLength) = some false
  q_BadItem_BadText : PySem.W.kitOne K (.ref a_BadItem) (.ref a_BadText) = some false
  q_BadItem_BadPadding : PySem.W.kitOne K (.ref a_BadItem) (.ref a_BadPadding) = some false
  q_BadItem_WrongPhase : PySem.W.kitOne K (.ref a_BadItem) (.ref a_WrongPhase) = some false
  q_BadItem_NotInvertible : PySem.W.kitOne K (.ref a_BadItem) (.ref a_NotInvertible) = some false
  q_BadItem_BadRing : PySem.W.kitOne K (.ref a_BadItem) (.ref a_BadRing) = some false
  q_BadItem_BadParameters : PySem.W.kitOne K (.ref a_BadItem) (.ref a_BadParameters) = some false
  q_BadItem_UnknownName : PySem.W.kitOne K (.ref a_BadItem) (.ref a_UnknownName) = some false
  q_BadItem_DifferentRings : PySem.W.kitOne K (.ref a_BadItem) (.ref a_DifferentRings) = some false
  q_BadItem_BadKey : PySem.W.kitOne K (.ref a_BadItem) (.ref a_BadKey) = some false
  q_BadItem_BadLetter : PySem.W.kitOne K (.ref a_BadItem) (.ref a_BadLetter) = some false
  q_BadItem_BadKeyText : PySem.W.kitOne K (.ref a_BadItem) (.ref a_BadKeyText) = some false
  q_BadItem_BadRecord : PySem.W.kitOne K (.ref a_BadItem) (.ref a_BadRecord) = some false
  q_BadItem_BadCommand : PySem.W.kitOne K (.ref a_BadItem) (.ref a_BadCommand) = some false
  q_BadItem_NoEntry : PySem.W.kitOne K (.ref a_BadItem) (.ref a_NoEntry) = some false
  q_BadItem_NothingLeft : PySem.W.kitOne K (.ref a_BadItem) (.ref a_NothingLeft) = some false
  fi_BadLength : Addr
  fdi_BadLength : FuncData
  e_BadLength : ErC K mg "BadLength" a_BadLength fi_BadLength
  in_BadLength : InC K a_BadLength ["expected", "found"]
  ii_BadLength : Fun K "__init__" "BadLength.__init__" (meth (top 4) 0) fi_BadLength fdi_BadLength
  bi_BadLength : Binds K fdi_BadLength ["self", "expected", "found"] []
  x_BadLength : PySem.W.ErrK K a_BadLength
  f_BadLength : XfC K a_BadLength
  exm_BadLength : PySem.W.exmOne K (.ref a_BadLength) (.ref a_NoiseboundError) = some true
  q_BadLength_ValueError : PySem.W.kitOne K (.ref a_BadLength) (.type "ValueError") = some true
  g_BadLength_expected : PySem.W.findIn K (.ref a_BadLength) "expected" = some none
  g_BadLength_found : PySem.W.findIn K (.ref a_BadLength) "found" = some none
  q_BadLength_NoiseboundError : PySem.W.kitOne K (.ref a_BadLength) (.ref a_NoiseboundError) = some true
  q_BadLength_OutOfRange : PySem.W.kitOne K (.ref a_BadLength) (.ref a_OutOfRange) = some false
  q_BadLength_BadItem : PySem.W.kitOne K (.ref a_BadLength) (.ref a_BadItem) = some false
  q_BadLength_BadLength : PySem.W.kitOne K (.ref a_BadLength) (.ref a_BadLength) = some true
  q_BadLength_BadText : PySem.W.kitOne K (.ref a_BadLength) (.ref a_BadText) = some false
  q_BadLength_BadPadding : PySem.W.kitOne K (.ref a_BadLength) (.ref a_BadPadding) = some false
  q_BadLength_WrongPhase : PySem.W.kitOne K (.ref a_BadLength) (.ref a_WrongPhase) = some false
  q_BadLength_NotInvertible : PySem.W.kitOne K (.ref a_BadLength) (.ref a_NotInvertible) = some false
  q_BadLength_BadRing : PySem.W.kitOne K (.ref a_BadLength) (.ref a_BadRing) = some false
  q_BadLength_BadParameters : PySem.W.kitOne K (.ref a_BadLength) (.ref a_BadParameters) = some false
  q_BadLength_UnknownName : PySem.W.kitOne K (.ref a_BadLength) (.ref a_UnknownName) = some false
  q_BadLength_DifferentRings : PySem.W.kitOne K (.ref a_BadLength) (.ref a_DifferentRings) = some false
  q_BadLength_BadKey : PySem.W.kitOne K (.ref a_BadLength) (.ref a_BadKey) = some false
  q_BadLength_BadLetter : PySem.W.kitOne K (.ref a_BadLength) (.ref a_BadLetter) = some false
  q_BadLength_BadKeyText : PySem.W.kitOne K (.ref a_BadLength) (.ref a_BadKeyText) = some false
  q_BadLength_BadRecord : PySem.W.kitOne K (.ref a_BadLength) (.ref a_BadRecord) = some false
  q_BadLength_BadCommand : PySem.W.kitOne K (.ref a_BadLength) (.ref a_BadCommand) = some false
  q_BadLength_NoEntry : PySem.W.kitOne K (.ref a_BadLength) (.ref a_NoEntry) = some false
  q_BadLength_NothingLeft : PySem.W.kitOne K (.ref a_BadLength) (.ref a_NothingLeft) = some false
  kn_check_bytes : KBN K fd_check_bytes ["data", "length"] 1 ["length"] (fun us ws => us ++ ws)
  kx_check_bytes_data : ∃ g, KBN K fd_check_bytes ["data", "length"] 0 ["data"] g ∧ PermN g (fun vs zs => gEnd vs [V.non] zs) (fun ds es => gEnd ds ([V.non].map D.v) es)
local macro_rules | `(tactic| walk_at "side") => `(tactic| first
  | decide
  | ((with_reducible show (_ : Nat) ≤ _); exact Nat.le_of_ble_eq_true rfl)
  | ((with_reducible show (_ : Int) < _); omega)
  | ((with_reducible show (_ : Int) ≤ _); omega)
  | ((with_reducible show CM _ _); exact Or.inl (Or.inr (by decide)))
  | ((with_reducible show CM _ _); exact Or.inl (Or.inl (by decide)))
  | ((with_reducible show CDivW _ _); exact ⟨by first | assumption | omega, by first | assumption | decide⟩)
  | ((with_reducible show scal _ _ = true); rfl)
  | ((with_reducible show CPow _ _); exact ⟨by decide, by decide, by decide⟩)
  | ((with_reducible show _ = _); rfl)
  | ((with_reducible show (_ = _) ∧ (_ = _)); exact ⟨rfl, rfl⟩)
  | ((with_reducible show (_ : Int) ≤ _ ∧ (_ : Int) < _); omega)
  | ((with_reducible show ((_ : Int) ≤ _ ∧ (_ : Int) < _) ∧ ((_ : Int) ≤ _ ∧ (_ : Int) < _)); omega)
  | ((with_reducible show RgOk _ _); unfold RgOk; omega)
  | assumption
  | walk_at "mine"
  | fail)
local macro_rules | `(tactic| walk_at "mine") => `(tactic| fail)
local macro_rules | `(tactic| walk_at "br") => `(tactic| ((refine And.intro (fun (e : (_ : Bool) = true) => ?_) (fun (e : (_ : Bool) = false) => ?_)) <;> (try simp only [Bool.not_eq_true', Bool.not_eq_false', decide_eq_true_eq, decide_eq_false_iff_not, V.int.injEq] at e)))
local macro_rules | `(tactic| walk_at "st") => `(tactic| first
  | (refine at_slots (by (simp only [List.length_cons, List.length_nil, startD_cons, startD_none, startD_nil, List.set_cons_zero, List.set_cons_succ]; rfl)) ?_)
  | ((conv => whnf); first | (with_reducible refine And.intro (fun _ => ?_) (fun e => Bool.noConfusion e)) | (with_reducible refine And.intro (fun e => Bool.noConfusion e) (fun _ => ?_)) | ((with_reducible refine And.intro ?walk_side ?_); (case walk_side => walk_at "side")))
  | walk_at "call"
  | fail)
local macro_rules | `(tactic| walk_at "call") => `(tactic| fail)
local macro_rules | `(tactic| walk_at "go") => `(tactic| (repeat walk_at "st"))
local macro_rules | `(tactic| walk_at "all") => `(tactic| (repeat' (first
  | (refine at_slots (by (simp only [List.length_cons, List.length_nil, startD_cons, startD_none, startD_nil, List.set_cons_zero, List.set_cons_succ]; rfl)) ?_)
  | ((conv => whnf); first | (with_reducible refine And.intro (fun _ => ?_) (fun e => Bool.noConfusion e)) | (with_reducible refine And.intro (fun e => Bool.noConfusion e) (fun _ => ?_)) | ((with_reducible refine And.intro (fun (e : (_ : Bool) = true) => ?_) (fun (e : (_ : Bool) = false) => ?_)) <;> (try simp only [Bool.not_eq_true', Bool.not_eq_false', decide_eq_true_eq, decide_eq_false_iff_not, V.int.injEq] at e)) | ((with_reducible refine And.intro ?walk_side ?_); (case walk_side => walk_at "side")))
  | walk_at "call"
  | fail)))
theorem atI_ints {ns : List Int} {i : Int} (h0 : 0 ≤ i) (h1 : i < (List.map (fun z => D.v (.int z)) ns).length) : ∃ z : Int, atD (List.map (fun z => D.v (.int z)) ns) i = some (.v (.int z)) := by
  have hl : i.toNat < (List.map (fun z => D.v (.int z)) ns).length := by omega
  have hl' : i.toNat < ns.length := by simpa using hl
  refine ⟨ns[i.toNat], ?_⟩
  rw [atD_eq]
  unfold atI ixN
  rw [if_pos h0, if_pos h1]
  show (List.map (fun z => D.v (.int z)) ns)[i.toNat]? = _
  rw [List.getElem?_map, List.getElem?_eq_getElem hl']
  rfl
theorem atI_in {α : Type} {xs : List α} {i : Int} (h0 : 0 ≤ i) (h1 : i < xs.length) : ∃ d, atD xs i = some d ∧ xs[i.toNat]? = some d := by
  have hl : i.toNat < xs.length := by omega
  refine ⟨xs[i.toNat], ?_, List.getElem?_eq_getElem hl⟩
  rw [atD_eq]
  unfold atI ixN
  rw [if_pos h0, if_pos h1]
  exact List.getElem?_eq_getElem hl
section
variable {P : Program} {w : World} {K : PySem.W.Frag} {mg : Str → Option Value} {base : Heap}
/-- the script's copy, and the store of draws -/
def StC (c : Cell) : Prop := ∃ (ns : List Int) (i c' t n h : Int), c = .lst [.lst (ns.map fun z => .v (.int z)), .v (.int i), .v (.int c'), .v (.int t), .v (.int n), .v (.int h)] ∧ 0 ≤ i
def fBegin : FD := fun ds μ Q _ => ∃ ns : List Int, ds = [.rl (ns.map fun z => .v (.int z))] ∧ ns.length ≤ 63 ∧ ∀ c, StC c → Q (.loc μ.length) (μ ++ [c])
def fMixed : FD := fun ds μ Q _ => ∃ a b : Int, ds = [.v (.int a), .v (.int b)] ∧ ∀ r : Int, Q (.v (.int r)) μ
def fTake : FD := fun ds μ Q _ => ∃ (m : Int) (c : Cell) (μ' : Sto), ds = [.loc 0, .v (.int m)] ∧ m.natAbs.log2 < 9000 ∧ μ = c :: μ' ∧ StC c ∧ ∀ (r : Int) (c' : Cell), 0 ≤ r → (r < m ∨ r < 1) → StC c' → Q (.v (.int r)) (c' :: μ')
theorem sc__law_begin : FnScope ["script"] ["script"] (defScope (top 32)) := ⟨rfl, rfl, rfl, by decide +kernel, rfl, by decide +kernel, by decide +kernel⟩
theorem ok__law_begin (T : Tx K mg) : FnD P w K mg base 1 T.a__law_begin T.fd__law_begin ["script"] fBegin := by
  refine fnD _ T.F__law_begin sc__law_begin (fun cd A outer s H E B => (d_sone (d_ret (d_lstM (d_cons (d_ct c_list T.n_list (by decide +kernel) (d_cons (d_var 0) d_nil)) (d_cons d_int (d_cons d_int (d_cons d_int (d_cons d_int (d_cons d_int d_nil)))))))))) ?_
  rintro ds μ QA XA hl ⟨ns, rfl, hn, h⟩
  refine ⟨by simp, h _ ⟨ns, 0, 0, 0, 0, 0, rfl, by decide⟩⟩
theorem sc__law_mixed : FnScope ["seed", "turn", "number"] ["seed", "turn"] (defScope (top 33)) := ⟨rfl, rfl, rfl, by decide +kernel, rfl, by decide +kernel, by decide +kernel⟩
theorem ok__law_mixed (T : Tx K mg) : FnD P w K mg base 1 T.a__law_mixed T.fd__law_mixed ["seed", "turn"] fMixed := by
  refine fnD _ T.F__law_mixed sc__law_mixed (fun cd A outer s H E B => (d_scons (d_set 2 B.nd (d_bin o_addU (d_bin o_mul (d_bin o_mod (d_ct c_int T.n_int (by decide +kernel) (d_cons (d_var 0) d_nil)) d_int) d_int) (d_bin o_mul (d_bin o_mod (d_ct c_int T.n_int (by decide +kernel) (d_cons (d_var 1) d_nil)) d_int) d_int)))
    (d_scons (d_set 2 B.nd (d_bin o_mod (d_ct c_int T.n_int (by decide +kernel) (d_cons (d_bin o_addU (d_var 2) d_int) d_nil)) d_int))
    (d_scons (d_set 2 B.nd (d_bin o_mul (d_bin o_xor (d_var 2) (d_bin o_div (d_var 2) d_int)) d_int))
    (d_scons (d_set 2 B.nd (d_bin o_mod (d_ct c_int T.n_int (by decide +kernel) (d_cons (d_var 2) d_nil)) d_int))
    (d_scons (d_set 2 B.nd (d_bin o_mul (d_bin o_xor (d_var 2) (d_bin o_div (d_var 2) d_int)) d_int))
    (d_sone (d_ret (d_bin o_mod (d_ct c_int T.n_int (by decide +kernel) (d_cons (d_var 2) d_nil)) d_int))))))))) ?_
  rintro ds μ QA XA hl ⟨a, b, rfl, h⟩
  walk_at "go"
  exact h _
local macro_rules | `(tactic| walk_at "call") => `(tactic| (show fMixed _ _ _ _; refine ⟨_, _, rfl, fun r => ?_⟩))
theorem sc__law_take : FnScope ["store", "many", "limit", "cell", "rest"] ["store", "many"] (defScope (top 34)) := ⟨rfl, rfl, rfl, by decide +kernel, rfl, by decide +kernel, by decide +kernel⟩
theorem ok__law_take (T : Tx K mg) : FnD P w K mg base 2 T.a__law_take T.fd__law_take ["store", "many"] fTake := by
  refine fnD _ T.F__law_take sc__law_take (fun cd A outer s H E B => (d_scons (d_set 2 B.nd (d_cb (id := "max") (c_max B.calm) T.n_max (by decide +kernel) (d_cons d_int (d_cons (d_var 1) d_nil))))
    (d_scons (d_setIx (d_bin o_addU (d_ix (d_var 0) d_int) d_int) (d_var 0) d_int)
    (d_scons (d_sif (d_tw (d_wand (d_tcmp o_eq (d_ix (d_var 0) d_int) d_int) (d_wand (d_tcmp o_eq (d_ix (d_var 0) d_int) d_int) (d_wand1 (d_tcmp o_lt (d_ix (d_var 0) d_int) (d_cb (id := "len") c_len T.n_len (by decide +kernel) (d_cons (d_ix (d_var 0) d_int) d_nil))))))) (d_scons (d_set 3 B.nd (d_ct c_int T.n_int (by decide +kernel) (d_cons (d_ix (d_ix (d_var 0) d_int) (d_ix (d_var 0) d_int)) d_nil)))
    (d_scons (d_setIx (d_bin o_addU (d_ix (d_var 0) d_int) d_int) (d_var 0) d_int)
    (d_scons (d_setIx (d_bin o_mod (d_ct c_int T.n_int (by decide +kernel) (d_cons (d_bin o_addU (d_bin o_addU (d_bin o_mul (d_ct c_int T.n_int (by decide +kernel) (d_cons (d_ix (d_var 0) d_int) d_nil)) d_int) (d_bin o_mod (d_ct c_int T.n_int (by decide +kernel) (d_cons (d_var 3) d_nil)) d_int)) d_int) d_nil)) d_int) (d_var 0) d_int)
    (d_sone (d_sif (d_tcmp o_ge (d_var 3) (d_bin o_pow d_int d_int)) (d_sone (d_setIx (d_var 3) (d_var 0) d_int)) (d_sone (d_setIx d_int (d_var 0) d_int))))))) d_snil)
    (d_scons (d_sif (d_tcmp o_gt (d_ix (d_var 0) d_int) d_int) (d_scons (d_set 4 B.nd (d_ct c_int T.n_int (by decide +kernel) (d_cons (d_ix (d_var 0) d_int) d_nil)))
    (d_scons (d_setIx (d_bin o_div (d_var 4) (d_var 2)) (d_var 0) d_int)
    (d_sone (d_ret (d_bin o_mod (d_ct c_int T.n_int (by decide +kernel) (d_cons (d_var 4) d_nil)) (d_var 2)))))) d_snil)
    (d_scons (d_sif (d_tcmp o_gt (d_ix (d_var 0) d_int) d_int) (d_sone (d_setIx (d_bin o_sub (d_ix (d_var 0) d_int) d_int) (d_var 0) d_int)) d_snil)
    (d_sone (d_ret (d_bin o_mod (d_ct c_int T.n_int (by decide +kernel) (d_cons (d_call B (ok__law_mixed T) (by decide) T.m__law_mixed T.k__law_mixed T.b__law_mixed (d_cons (d_ix (d_var 0) d_int) (d_cons (d_ix (d_var 0) d_int) d_nil))) d_nil)) (d_var 2)))))))))) ?_
  rintro ds μ QA XA hl ⟨m, c, μ', rfl, hm, rfl, ⟨ns, i, c', t, n, h, rfl, hi⟩, hQ⟩
  have hlim : (if m > 1 then m else 1).natAbs.log2 < 9000 ∧ 0 < (if m > 1 then m else 1) ∧ ((if m > 1 then m else 1) ≤ m ∨ (if m > 1 then m else 1) ≤ 1) := by
    split
    · exact ⟨hm, by omega, by omega⟩
    · exact ⟨by decide, by decide, by omega⟩
  obtain ⟨hl1, hl2, hl3⟩ := hlim
  have fin : ∀ (x i c' t n h : Int), 0 ≤ i → QA (.v (.int (x % (if m > 1 then m else 1)))) (.lst [.lst (ns.map fun z => .v (.int z)), .v (.int i), .v (.int c'), .v (.int t), .v (.int n), .v (.int h)] :: μ') := fun x i c' t n h hi => by
    have h1 := Int.emod_nonneg x (by omega : (if m > 1 then m else 1) ≠ 0)
    have h2 := Int.emod_lt_of_pos x hl2
    exact hQ _ _ h1 (by omega) ⟨ns, i, c', t, n, h, rfl, hi⟩
  walk_at "all"
  · obtain ⟨z, hz⟩ := atI_ints hi ‹_›
    conv => whnf
    rw [hz]
    walk_at "all"
    all_goals exact fin _ _ _ _ _ _ (by first | omega | (show (0 : Int) ≤ _ + _; omega))
  all_goals exact fin _ _ _ _ _ _ hi
end
end Pf
set_option Elab.async false
set_option linter.all false
set_option maxRecDepth 100000
set_option maxHeartbeats 4000000
namespace Pf
open PySem L2 DK
local macro_rules | `(tactic| walk_at "side") => `(tactic| first
  | decide
  | ((with_reducible show (_ : Nat) ≤ _); exact Nat.le_of_ble_eq_true rfl)
  | ((with_reducible show (_ : Int) < _); omega)
  | ((with_reducible show (_ : Int) ≤ _); omega)
  | ((with_reducible show CM _ _); exact Or.inl (Or.inr (by decide)))
  | ((with_reducible show CM _ _); exact Or.inl (Or.inl (by decide)))
  | ((with_reducible show CDivW _ _); exact ⟨by first | assumption | omega, by first | assumption | decide⟩)
  | ((with_reducible show scal _ _ = true); rfl)
  | ((with_reducible show CPow _ _); exact ⟨by decide, by decide, by decide⟩)
  | ((with_reducible show _ = _); rfl)
  | ((with_reducible show (_ = _) ∧ (_ = _)); exact ⟨rfl, rfl⟩)
  | ((with_reducible show (_ : Int) ≤ _ ∧ (_ : Int) < _); omega)
  | ((with_reducible show ((_ : Int) ≤ _ ∧ (_ : Int) < _) ∧ ((_ : Int) ≤ _ ∧ (_ : Int) < _)); omega)
  | ((with_reducible show RgOk _ _); unfold RgOk; omega)
  | assumption
  | walk_at "mine"
  | fail)
local macro_rules | `(tactic| walk_at "mine") => `(tactic| fail)
local macro_rules | `(tactic| walk_at "br") => `(tactic| ((refine And.intro (fun (e : (_ : Bool) = true) => ?_) (fun (e : (_ : Bool) = false) => ?_)) <;> (try simp only [Bool.not_eq_true', Bool.not_eq_false', decide_eq_true_eq, decide_eq_false_iff_not, V.int.injEq] at e)))
local macro_rules | `(tactic| walk_at "st") => `(tactic| first
  | (refine at_slots (by (simp only [List.length_cons, List.length_nil, startD_cons, startD_none, startD_nil, List.set_cons_zero, List.set_cons_succ]; rfl)) ?_)
  | ((conv => whnf); first | (with_reducible refine And.intro (fun _ => ?_) (fun e => Bool.noConfusion e)) | (with_reducible refine And.intro (fun e => Bool.noConfusion e) (fun _ => ?_)) | ((with_reducible refine And.intro ?walk_side ?_); (case walk_side => walk_at "side")))
  | walk_at "call"
  | fail)
local macro_rules | `(tactic| walk_at "call") => `(tactic| fail)
local macro_rules | `(tactic| walk_at "go") => `(tactic| (repeat walk_at "st"))
local macro_rules | `(tactic| walk_at "all") => `(tactic| (repeat' (first
  | (refine at_slots (by (simp only [List.length_cons, List.length_nil, startD_cons, startD_none, startD_nil, List.set_cons_zero, List.set_cons_succ]; rfl)) ?_)
  | ((conv => whnf); first | (with_reducible refine And.intro (fun _ => ?_) (fun e => Bool.noConfusion e)) | (with_reducible refine And.intro (fun e => Bool.noConfusion e) (fun _ => ?_)) | ((with_reducible refine And.intro (fun (e : (_ : Bool) = true) => ?_) (fun (e : (_ : Bool) = false) => ?_)) <;> (try simp only [Bool.not_eq_true', Bool.not_eq_false', decide_eq_true_eq, decide_eq_false_iff_not, V.int.injEq] at e)) | ((with_reducible refine And.intro ?walk_side ?_); (case walk_side => walk_at "side")))
  | walk_at "call"
  | fail)))
section
variable {P : Program} {w : World} {K : PySem.W.Frag} {mg : Str → Option Value} {base : Heap}
/-- m drawn of: a number below m (or 0) -/
def fDraw : FD := fun ds μ Q _ => ∃ (m : Int) (c : Cell) (μ' : Sto), ds = [.loc 0, .v (.int m)] ∧ μ = c :: μ' ∧ StC c ∧ ∀ (r : Int) (c' : Cell), 0 ≤ r → (r < m ∨ r < 1) → StC c' → Q (.v (.int r)) (c' :: μ')
theorem log_small {m : Int} (h0 : 0 ≤ m) (h : m ≤ 10 ^ 15) : m.natAbs.log2 < 9000 := by
  by_cases z : m.natAbs = 0
  · rw [z]; decide
  · rw [Nat.log2_lt z]
    have : m.natAbs ≤ 10 ^ 15 := by omega
    exact Nat.lt_of_le_of_lt this (by decide)
local macro_rules | `(tactic| walk_at "call") => `(tactic| (show fTake _ _ _ _; refine ⟨_, _, _, rfl, by first | assumption | decide | exact (‹_ ≤ _ → Nat.log2 _ < 9000›) ‹_›, rfl, ‹StC _›, fun r c' hr0 hr1 hc => ?_⟩))
theorem sc__law_wide : FnScope ["store", "many", "limit", "number", "span", "turn"] ["store", "many"] (defScope (top 35)) := ⟨rfl, rfl, rfl, by decide +kernel, rfl, by decide +kernel, by decide +kernel⟩
theorem ok__law_wide (T : Tx K mg) : FnD P w K mg base 3 T.a__law_wide T.fd__law_wide ["store", "many"] fDraw := by
  refine fnD _ T.F__law_wide sc__law_wide (fun cd A outer s H E B => (d_scons (d_set 2 B.nd (d_cb (id := "max") (c_max B.calm) T.n_max (by decide +kernel) (d_cons d_int (d_cons (d_var 1) d_nil))))
    (d_scons (d_sif (d_tcmp o_le (d_var 2) (d_bin o_pow d_int d_int)) (d_sone (d_ret (d_call B (ok__law_take T) (by decide) T.m__law_take T.k__law_take T.b__law_take (d_cons (d_var 0) (d_cons (d_var 2) d_nil))))) d_snil)
    (d_scons (d_set 3 B.nd d_int)
    (d_scons (d_set 4 B.nd d_int)
    (d_scons (d_forR1 5 B T.n_range (d_cons d_int d_nil) (d_scons (d_sif (d_tcmp o_ge (d_var 4) (d_var 2)) (d_sone d_break) d_snil)
    (d_scons (d_set 3 B.nd (d_bin o_addU (d_bin o_mul (d_var 3) (d_bin o_pow d_int d_int)) (d_call B (ok__law_take T) (by decide) T.m__law_take T.k__law_take T.b__law_take (d_cons (d_var 0) (d_cons (d_bin o_pow d_int d_int) d_nil)))))
    (d_sone (d_set 4 B.nd (d_bin o_mul (d_var 4) (d_bin o_pow d_int d_int)))))))
    (d_sone (d_ret (d_bin o_mod (d_ct c_int T.n_int (by decide +kernel) (d_cons (d_var 3) d_nil)) (d_var 2)))))))))) ?_
  rintro ds μ QA XA hl ⟨m, c, μ', rfl, rfl, hc, hQ⟩
  have hlim : (if m > 1 then m else 1) > 0 ∧ ((if m > 1 then m else 1) ≤ m ∨ (if m > 1 then m else 1) ≤ 1) := by
    split <;> omega
  obtain ⟨hl2, hl3⟩ := hlim
  have fin : ∀ (a : Int) (c1 : Cell), StC c1 → QA (.v (.int (a % (if m > 1 then m else 1)))) (c1 :: μ') := fun a c1 hc1 => by
    have h1 := Int.emod_nonneg a (by omega : (if m > 1 then m else 1) ≠ 0)
    have h2 := Int.emod_lt_of_pos a hl2
    exact hQ _ _ h1 (by omega) hc1
  have hsm : (if m > 1 then m else 1) ≤ 10 ^ Int.toNat 15 → (if m > 1 then m else 1).natAbs.log2 < 9000 := fun z => log_small (by omega) z
  walk_at "all"
  · exact hQ _ _ (by assumption) (by omega) (by assumption)
  · show ∃ I : Nat → Rho → Sto → Prop, _
    refine ⟨fun _ ρ μ => ∃ (n s : Int) (t : Option D) (c : Cell), ρ = [some (.loc 0), some (.v (.int m)), some (.v (.int (if m > 1 then m else 1))), some (.v (.int n)), some (.v (.int s)), t] ∧ μ = c :: μ' ∧ StC c, ⟨_, _, _, _, rfl, rfl, hc⟩, ?_, ?_⟩
    · rintro n ρ' μ1 hn ⟨a, s, t, c1, rfl, rfl, hc1⟩
      walk_at "all"
      · exact fin _ _ hc1
      · exact ⟨_, _, _, _, rfl, rfl, ‹_›⟩
    · rintro ρ' μ1 ⟨a, s, t, c1, rfl, rfl, hc1⟩
      walk_at "all"
      exact fin _ _ hc1
local macro_rules | `(tactic| walk_at "call") => `(tactic| (show fDraw _ _ _ _; refine ⟨_, _, _, rfl, rfl, ‹StC _›, fun r c' hr0 hr1 hc => ?_⟩))
/-- an item of a row -/
def fPick : FD := fun ds μ Q _ => ∃ (r : D) (es : List D) (c : Cell) (μ' : Sto), ds = [.loc 0, r] ∧ (r = .lst es ∨ r = .tup es) ∧ 0 < es.length ∧ es.length < 1000 ∧ μ = c :: μ' ∧ StC c ∧ ∀ (d : D) (c' : Cell), d ∈ es → StC c' → Q d (c' :: μ')
theorem sc__law_pick : FnScope ["store", "row"] ["store", "row"] (defScope (top 36)) := ⟨rfl, rfl, rfl, by decide +kernel, rfl, by decide +kernel, by decide +kernel⟩
theorem ok__law_pick (T : Tx K mg) : FnD P w K mg base 3 T.a__law_pick T.fd__law_pick ["store", "row"] fPick := by
  refine fnD _ T.F__law_pick sc__law_pick (fun cd A outer s H E B => (d_sone (d_ret (d_ix (d_var 1) (d_call B (ok__law_take T) (by decide) T.m__law_take T.k__law_take T.b__law_take (d_cons (d_var 0) (d_cons (d_cb (id := "len") c_len T.n_len (by decide +kernel) (d_cons (d_var 1) d_nil)) d_nil))))))) ?_
  rintro ds μ QA XA hl ⟨r, es, c, μ', rfl, hr, h1, h2, rfl, hc, hQ⟩
  have key : ∀ (i : Int) (c' : Cell), 0 ≤ i → (i < es.length ∨ i < 1) → StC c' → ∃ d, atD es i = some d ∧ QA d (c' :: μ') := fun i c' h0 h3 hc' => by
    obtain ⟨d, e1, e2⟩ := atI_in (xs := es) h0 (by omega)
    exact ⟨d, e1, hQ d c' (List.mem_of_getElem? e2) hc'⟩
  have hlg : (es.length : Int).natAbs.log2 < 9000 := log_small (by omega) (by omega)
  rcases hr with rfl | rfl
  all_goals
    walk_at "all"
    obtain ⟨d, e1, e2⟩ := key _ _ (by assumption) (by assumption) (by assumption)
    conv => whnf
    rw [e1]
    exact e2
def othersD : List D := [.v (.bl true), .v (.bl false), .v .non, .v (.str ""), .v (.str "3"), .lst [], .lst [.v (.int 3)], .tup [], .tup [.v (.int 3)], .v (.str "a")]
def fOther : FD := fun ds μ Q _ => ∃ (c : Cell) (μ' : Sto), ds = [.loc 0] ∧ μ = c :: μ' ∧ StC c ∧ ∀ (d : D) (c' : Cell), d ∈ othersD → StC c' → Q d (c' :: μ')
end
end Pf
set_option Elab.async false
set_option linter.all false
set_option maxRecDepth 100000
set_option maxHeartbeats 4000000
namespace Pf
open PySem L2 DK
local macro_rules | `(tactic| walk_at "side") => `(tactic| first
  | decide
  | ((with_reducible show (_ : Nat) ≤ _); exact Nat.le_of_ble_eq_true rfl)
  | ((with_reducible show (_ : Int) < _); omega)
  | ((with_reducible show (_ : Int) ≤ _); omega)
  | ((with_reducible show CM _ _); exact Or.inl (Or.inr (by decide)))
  | ((with_reducible show CM _ _); exact Or.inl (Or.inl (by decide)))
  | ((with_reducible show CDivW _ _); exact ⟨by first | assumption | omega, by first | assumption | decide⟩)
  | ((with_reducible show scal _ _ = true); rfl)
  | ((with_reducible show CPow _ _); exact ⟨by decide, by decide, by decide⟩)
  | ((with_reducible show _ = _); rfl)
  | ((with_reducible show (_ = _) ∧ (_ = _)); exact ⟨rfl, rfl⟩)
  | ((with_reducible show (_ : Int) ≤ _ ∧ (_ : Int) < _); omega)
  | ((with_reducible show ((_ : Int) ≤ _ ∧ (_ : Int) < _) ∧ ((_ : Int) ≤ _ ∧ (_ : Int) < _)); omega)
  | ((with_reducible show RgOk _ _); unfold RgOk; omega)
  | assumption
  | walk_at "mine"
  | fail)
local macro_rules | `(tactic| walk_at "mine") => `(tactic| fail)
local macro_rules | `(tactic| walk_at "br") => `(tactic| ((refine And.intro (fun (e : (_ : Bool) = true) => ?_) (fun (e : (_ : Bool) = false) => ?_)) <;> (try simp only [Bool.not_eq_true', Bool.not_eq_false', decide_eq_true_eq, decide_eq_false_iff_not, V.int.injEq] at e)))
local macro_rules | `(tactic| walk_at "st") => `(tactic| first
  | (refine at_slots (by (simp only [List.length_cons, List.length_nil, startD_cons, startD_none, startD_nil, List.set_cons_zero, List.set_cons_succ]; rfl)) ?_)
  | ((conv => whnf); first | (with_reducible refine And.intro (fun _ => ?_) (fun e => Bool.noConfusion e)) | (with_reducible refine And.intro (fun e => Bool.noConfusion e) (fun _ => ?_)) | ((with_reducible refine And.intro ?walk_side ?_); (case walk_side => walk_at "side")))
  | walk_at "call"
  | fail)
local macro_rules | `(tactic| walk_at "call") => `(tactic| fail)
local macro_rules | `(tactic| walk_at "go") => `(tactic| (repeat walk_at "st"))
local macro_rules | `(tactic| walk_at "all") => `(tactic| (repeat' (first
  | (refine at_slots (by (simp only [List.length_cons, List.length_nil, startD_cons, startD_none, startD_nil, List.set_cons_zero, List.set_cons_succ]; rfl)) ?_)
  | ((conv => whnf); first | (with_reducible refine And.intro (fun _ => ?_) (fun e => Bool.noConfusion e)) | (with_reducible refine And.intro (fun e => Bool.noConfusion e) (fun _ => ?_)) | ((with_reducible refine And.intro (fun (e : (_ : Bool) = true) => ?_) (fun (e : (_ : Bool) = false) => ?_)) <;> (try simp only [Bool.not_eq_true', Bool.not_eq_false', decide_eq_true_eq, decide_eq_false_iff_not, V.int.injEq] at e)) | ((with_reducible refine And.intro ?walk_side ?_); (case walk_side => walk_at "side")))
  | walk_at "call"
  | fail)))
local macro_rules | `(tactic| walk_at "call") => `(tactic| (show fTake _ _ _ _; refine ⟨_, _, _, rfl, by first | assumption | decide, rfl, ‹StC _›, fun r c' hr0 hr1 hc => ?_⟩))
local macro_rules | `(tactic| walk_at "call") => `(tactic| (show fDraw _ _ _ _; refine ⟨_, _, _, rfl, rfl, ‹StC _›, fun r c' hr0 hr1 hc => ?_⟩))
local macro_rules | `(tactic| walk_at "call") => `(tactic| (show fPick _ _ _ _; refine ⟨_, _, _, _, rfl, Or.inl rfl, by simp, by simp, rfl, ‹StC _›, fun d c' hd hc => ?_⟩))
section
variable {P : Program} {w : World} {K : PySem.W.Frag} {mg : Str → Option Value} {base : Heap}
/-- a number from lo to hi -/
def fBetw : FD := fun ds μ Q _ => ∃ (lo hi : Int) (c : Cell) (μ' : Sto), ds = [.loc 0, .v (.int lo), .v (.int hi)] ∧ lo ≤ hi ∧ μ = c :: μ' ∧ StC c ∧ ∀ (r : Int) (c' : Cell), lo ≤ r → r ≤ hi → StC c' → Q (.v (.int r)) (c' :: μ')
theorem sc__law_between : FnScope ["store", "low", "high", "span"] ["store", "low", "high"] (defScope (top 37)) := ⟨rfl, rfl, rfl, by decide +kernel, rfl, by decide +kernel, by decide +kernel⟩
theorem ok__law_between (T : Tx K mg) : FnD P w K mg base 4 T.a__law_between T.fd__law_between ["store", "low", "high"] fBetw := by
  refine fnD _ T.F__law_between sc__law_between (fun cd A outer s H E B => (d_scons (d_set 3 B.nd (d_cb (id := "max") (c_max B.calm) T.n_max (by decide +kernel) (d_cons d_int (d_cons (d_bin o_addU (d_bin o_sub (d_var 2) (d_var 1)) d_int) d_nil))))
    (d_scons (d_sif (d_tw (d_wand (d_tcmp o_gt (d_var 3) d_int) (d_wand1 (d_tcmp o_eq (d_call B (ok__law_take T) (by decide) T.m__law_take T.k__law_take T.b__law_take (d_cons (d_var 0) (d_cons d_int d_nil))) d_int)))) (d_sone (d_ret (d_call B (ok__law_pick T) (by decide) T.m__law_pick T.k__law_pick T.b__law_pick (d_cons (d_var 0) (d_cons (d_lst (d_cons (d_var 1) (d_cons (d_var 2) (d_cons (d_bin o_addU (d_var 1) d_int) (d_cons (d_bin o_sub (d_var 2) d_int) (d_cons (d_bin o_addU (d_var 1) (d_bin o_div (d_var 3) d_int)) d_nil)))))) d_nil))))) d_snil)
    (d_sone (d_ret (d_bin o_addU (d_var 1) (d_call B (ok__law_wide T) (by decide) T.m__law_wide T.k__law_wide T.b__law_wide (d_cons (d_var 0) (d_cons (d_var 3) d_nil))))))))) ?_
  rintro ds μ QA XA hl ⟨lo, hi, c, μ', rfl, hle, rfl, hc, hQ⟩
  have hsp : (if hi - lo + 1 > 1 then hi - lo + 1 else 1) = hi - lo + 1 := by split <;> omega
  have fin : ∀ (r : Int) (c' : Cell), StC c' → 0 ≤ r → (r < (if hi - lo + 1 > 1 then hi - lo + 1 else 1) ∨ r < 1) → QA (.v (.int (lo + r))) (c' :: μ') := fun r c' hc' h0 h1 => by
    rw [hsp] at h1
    exact hQ _ _ (by omega) (by omega) hc'
  walk_at "all"
  · rename_i hd hc'
    rw [hsp] at *
    simp only [List.mem_cons, List.not_mem_nil, or_false] at hd
    rcases hd with rfl | rfl | rfl | rfl | rfl
    · exact hQ _ _ (by omega) (by omega) hc'
    · exact hQ _ _ (by omega) (by omega) hc'
    · exact hQ _ _ (by omega) (by omega) hc'
    · exact hQ _ _ (by omega) (by omega) hc'
    · exact hQ _ _ (by omega) (by omega) hc'
  all_goals exact fin _ _ (by assumption) (by assumption) (by assumption)
theorem sc__law_other : FnScope ["store"] ["store"] (defScope (top 39)) := ⟨rfl, rfl, rfl, by decide +kernel, rfl, by decide +kernel, by decide +kernel⟩
theorem ok__law_other (T : Tx K mg) : FnD P w K mg base 3 T.a__law_other T.fd__law_other ["store"] fOther := by
  refine fnD _ T.F__law_other sc__law_other (fun cd A outer s H E B => (d_sone (d_ret (d_ix (d_lst (d_cons d_bl (d_cons d_bl (d_cons d_non (d_cons d_str (d_cons d_str (d_cons (d_lst d_nil) (d_cons (d_lst (d_cons d_int d_nil)) (d_cons (d_tup d_nil) (d_cons (d_tup (d_cons d_int d_nil)) (d_cons d_str d_nil))))))))))) (d_call B (ok__law_take T) (by decide) T.m__law_take T.k__law_take T.b__law_take (d_cons (d_var 0) (d_cons d_int d_nil))))))) ?_
  rintro ds μ QA XA hl ⟨c, μ', rfl, rfl, hc, hQ⟩
  walk_at "all"
  rename_i r c' h0 h1 hc'
  have h1 : r < 10 := by omega
  obtain ⟨n, rfl⟩ : ∃ n : Nat, r = n := ⟨r.toNat, by omega⟩
  have hn : n < 10 := by omega
  have key : ∀ d, othersD[n]? = some d → QA d (c' :: μ') := fun d e => hQ d c' (List.mem_of_getElem? e) hc'
  match n, hn with
  | 0, _ => exact key _ rfl
  | 1, _ => exact key _ rfl
  | 2, _ => exact key _ rfl
  | 3, _ => exact key _ rfl
  | 4, _ => exact key _ rfl
  | 5, _ => exact key _ rfl
  | 6, _ => exact key _ rfl
  | 7, _ => exact key _ rfl
  | 8, _ => exact key _ rfl
  | 9, _ => exact key _ rfl
local macro_rules | `(tactic| walk_at "call") => `(tactic| (show fOther _ _ _ _; refine ⟨_, _, rfl, rfl, ‹StC _›, fun d c' hd hc => ?_⟩))
/-- what lies beyond lo to hi -/
def OutD (lo hi : Int) (d : D) : Prop := d ∈ othersD ∨ ∃ r : Int, d = .v (.int r) ∧ (r < lo ∨ hi < r)
def fBeyond : FD := fun ds μ Q _ => ∃ (lo hi : Int) (c : Cell) (μ' : Sto), ds = [.loc 0, .v (.int lo), .v (.int hi)] ∧ μ = c :: μ' ∧ StC c ∧ ∀ (d : D) (c' : Cell), OutD lo hi d → StC c' → Q d (c' :: μ')
theorem sc__law_beyond : FnScope ["store", "low", "high", "kind"] ["store", "low", "high"] (defScope (top 40)) := ⟨rfl, rfl, rfl, by decide +kernel, rfl, by decide +kernel, by decide +kernel⟩
theorem ok__law_beyond (T : Tx K mg) : FnD P w K mg base 4 T.a__law_beyond T.fd__law_beyond ["store", "low", "high"] fBeyond := by
  refine fnD _ T.F__law_beyond sc__law_beyond (fun cd A outer s H E B => (d_scons (d_set 3 B.nd (d_call B (ok__law_take T) (by decide) T.m__law_take T.k__law_take T.b__law_take (d_cons (d_var 0) (d_cons d_int d_nil))))
    (d_scons (d_sif (d_tcmp o_eq (d_var 3) d_int) (d_sone (d_ret (d_call B (ok__law_other T) (by decide) T.m__law_other T.k__law_other T.b__law_other (d_cons (d_var 0) d_nil)))) d_snil)
    (d_scons (d_sif (d_tcmp o_eq (d_var 3) d_int) (d_sone (d_ret (d_call B (ok__law_pick T) (by decide) T.m__law_pick T.k__law_pick T.b__law_pick (d_cons (d_var 0) (d_cons (d_lst (d_cons (d_bin o_sub (d_var 1) d_int) (d_cons (d_bin o_addU (d_var 2) d_int) d_nil))) d_nil))))) d_snil)
    (d_scons (d_sif (d_tcmp o_eq (d_var 3) d_int) (d_sone (d_ret (d_bin o_sub (d_bin o_sub (d_var 1) d_int) (d_call B (ok__law_wide T) (by decide) T.m__law_wide T.k__law_wide T.b__law_wide (d_cons (d_var 0) (d_cons (d_bin o_pow d_int d_int) d_nil)))))) d_snil)
    (d_sone (d_ret (d_bin o_addU (d_bin o_addU (d_var 2) d_int) (d_call B (ok__law_wide T) (by decide) T.m__law_wide T.k__law_wide T.b__law_wide (d_cons (d_var 0) (d_cons (d_bin o_pow d_int d_int) d_nil))))))))))) ?_
  rintro ds μ QA XA hl ⟨lo, hi, c, μ', rfl, rfl, hc, hQ⟩
  have fin : ∀ (r : Int) (c' : Cell), (r < lo ∨ hi < r) → StC c' → QA (.v (.int r)) (c' :: μ') := fun r c' h hc' => hQ _ _ (.inr ⟨r, rfl, h⟩) hc'
  walk_at "all"
  · exact hQ _ _ (.inl (by assumption)) (by assumption)
  · rename_i hd hc'
    simp only [List.mem_cons, List.not_mem_nil, or_false] at hd
    rcases hd with rfl | rfl
    · exact fin _ _ (.inl (by omega)) hc'
    · exact fin _ _ (.inr (by omega)) hc'
  · exact fin _ _ (.inl (by omega)) (by assumption)
  · exact fin _ _ (.inr (by omega)) (by assumption)
end
end Pf
set_option Elab.async false
set_option linter.all false
set_option maxRecDepth 100000
set_option maxHeartbeats 4000000
namespace Pf
open PySem L2 DK
local macro_rules | `(tactic| walk_at "side") => `(tactic| first
  | decide
  | ((with_reducible show (_ : Nat) ≤ _); exact Nat.le_of_ble_eq_true rfl)
  | ((with_reducible show (_ : Int) < _); omega)
  | ((with_reducible show (_ : Int) ≤ _); omega)
  | ((with_reducible show CM _ _); exact Or.inl (Or.inr (by decide)))
  | ((with_reducible show CM _ _); exact Or.inl (Or.inl (by decide)))
  | ((with_reducible show CDivW _ _); exact ⟨by first | assumption | omega, by first | assumption | decide⟩)
  | ((with_reducible show scal _ _ = true); rfl)
  | ((with_reducible show CPow _ _); exact ⟨by decide, by decide, by decide⟩)
  | ((with_reducible show _ = _); rfl)
  | ((with_reducible show (_ = _) ∧ (_ = _)); exact ⟨rfl, rfl⟩)
  | ((with_reducible show (_ : Int) ≤ _ ∧ (_ : Int) < _); omega)
  | ((with_reducible show ((_ : Int) ≤ _ ∧ (_ : Int) < _) ∧ ((_ : Int) ≤ _ ∧ (_ : Int) < _)); omega)
  | ((with_reducible show RgOk _ _); unfold RgOk; omega)
  | assumption
  | walk_at "mine"
  | fail)
local macro_rules | `(tactic| walk_at "mine") => `(tactic| fail)
local macro_rules | `(tactic| walk_at "br") => `(tactic| ((refine And.intro (fun (e : (_ : Bool) = true) => ?_) (fun (e : (_ : Bool) = false) => ?_)) <;> (try simp only [Bool.not_eq_true', Bool.not_eq_false', decide_eq_true_eq, decide_eq_false_iff_not, V.int.injEq] at e)))
local macro_rules | `(tactic| walk_at "st") => `(tactic| first
  | (refine at_slots (by (simp only [List.length_cons, List.length_nil, startD_cons, startD_none, startD_nil, List.set_cons_zero, List.set_cons_succ]; rfl)) ?_)
  | ((conv => whnf); first | (with_reducible refine And.intro (fun _ => ?_) (fun e => Bool.noConfusion e)) | (with_reducible refine And.intro (fun e => Bool.noConfusion e) (fun _ => ?_)) | ((with_reducible refine And.intro ?walk_side ?_); (case walk_side => walk_at "side")))
  | walk_at "call"
  | fail)
local macro_rules | `(tactic| walk_at "call") => `(tactic| fail)
local macro_rules | `(tactic| walk_at "go") => `(tactic| (repeat walk_at "st"))
local macro_rules | `(tactic| walk_at "all") => `(tactic| (repeat' (first
  | (refine at_slots (by (simp only [List.length_cons, List.length_nil, startD_cons, startD_none, startD_nil, List.set_cons_zero, List.set_cons_succ]; rfl)) ?_)
  | ((conv => whnf); first | (with_reducible refine And.intro (fun _ => ?_) (fun e => Bool.noConfusion e)) | (with_reducible refine And.intro (fun e => Bool.noConfusion e) (fun _ => ?_)) | ((with_reducible refine And.intro (fun (e : (_ : Bool) = true) => ?_) (fun (e : (_ : Bool) = false) => ?_)) <;> (try simp only [Bool.not_eq_true', Bool.not_eq_false', decide_eq_true_eq, decide_eq_false_iff_not, V.int.injEq] at e)) | ((with_reducible refine And.intro ?walk_side ?_); (case walk_side => walk_at "side")))
  | walk_at "call"
  | fail)))
section
variable {P : Program} {w : World} {K : PySem.W.Frag} {mg : Str → Option Value} {base : Heap}
def plD : Nat → D → Bool
  | 0, _ => false
  | n + 1, d => match d with
    | .v .non => true
    | .v (.bl _) => true
    | .v (.int _) => true
    | .v (.str _) => true
    | .lst ds => decide (ds.length ≤ 30000) && ds.all (plD n)
    | .tup ds => decide (ds.length ≤ 30000) && ds.all (plD n)
    | _ => false
def sameD : Nat → D → D → Bool
  | 0, _, _ => false
  | n + 1, a, e => match a, e with
    | a, .v .non => isV a .non
    | a, .v (.bl b) => isV a (.bl b)
    | .v (.int j), .v (.int i) => decide (V.int j = V.int i)
    | .v (.str t), .v (.str s) => decide (V.str t = V.str s)
    | .lst as, .lst es => decide (as.length = es.length) && (as.zip es).all fun p => sameD n p.1 p.2
    | .tup as, .tup es => decide (as.length = es.length) && (as.zip es).all fun p => sameD n p.1 p.2
    | _, _ => false
/-- an item, perhaps a cell, is the same -/
def SameI (n : Nat) (μ : Sto) (x y : D) : Prop := (plD n x = true ∧ plD n y = true ∧ sameD n x y = true) ∨ ∃ k as es, x = .loc k ∧ y = .lst es ∧ μ[k]? = some (.lst as) ∧ plD n (.lst as) = true ∧ plD n (.lst es) = true ∧ sameD n (.lst as) (.lst es) = true
def fSame : Nat → FD
  | 0 => fun _ _ _ _ => False
  | n + 1 => fun ds μ Q _ => ∃ a e, ds = [a, e] ∧ ((plD (n + 1) a = true ∧ plD (n + 1) e = true ∧ Q (.v (.bl (sameD (n + 1) a e))) μ) ∨ (∃ k as es, a = .loc k ∧ e = .lst es ∧ μ[k]? = some (.lst as) ∧ plD (n + 1) (.lst as) = true ∧ plD (n + 1) (.lst es) = true ∧ Q (.v (.bl (sameD (n + 1) (.lst as) (.lst es)))) μ) ∨ ∃ as es, a = .tup as ∧ e = .tup es ∧ as.length = es.length ∧ es.length ≤ 30000 ∧ (∀ (j : Nat) x y, as[j]? = some x → es[j]? = some y → SameI n μ x y) ∧ Q (.v (.bl true)) μ)
theorem zip_all {as es : List D} {n : Nat} (hl : as.length = es.length) (h : ∀ (j : Nat) x y, as[j]? = some x → es[j]? = some y → sameD n x y = true) : ((as.zip es).all fun p => sameD n p.1 p.2) = true := by
  rw [List.all_eq_true]
  intro p hp
  obtain ⟨j, hj⟩ := List.mem_iff_getElem?.mp hp
  rw [List.getElem?_zip_eq_some] at hj
  exact h j _ _ hj.1 hj.2
theorem zip_one {as es : List D} {n j : Nat} {x y : D} (h1 : as[j]? = some x) (h2 : es[j]? = some y) (h : sameD n x y = false) : ((as.zip es).all fun p => sameD n p.1 p.2) = false := by
  rw [List.all_eq_false]
  refine ⟨(x, y), List.mem_iff_getElem?.mpr ⟨j, ?_⟩, by simp [h]⟩
  rw [List.getElem?_zip_eq_some]
  exact ⟨h1, h2⟩
theorem sc__law_same : FnScope ["actual", "expected", "at"] ["actual", "expected"] (defScope (top 41)) := ⟨rfl, rfl, rfl, by decide +kernel, rfl, by decide +kernel, by decide +kernel⟩
theorem ok__law_same (T : Tx K mg) (n : Nat) : FnD P w K mg base n T.a__law_same T.fd__law_same ["actual", "expected"] (fSame n) := by
  induction n with
  | zero => exact fnD_no (fun _ _ _ _ h => h)
  | succ n ih =>
    refine fnD _ T.F__law_same sc__law_same (fun cd A outer s H E B => (d_scons (d_sif (d_tcmp o_is (d_var 1) d_non) (d_sone (d_ret (d_cmp o_is (d_var 0) d_non))) d_snil)
    (d_scons (d_sif (d_tcmp o_is (d_var 1) d_bl) (d_sone (d_ret (d_cmp o_is (d_var 0) d_bl))) d_snil)
    (d_scons (d_sif (d_tcmp o_is (d_var 1) d_bl) (d_sone (d_ret (d_cmp o_is (d_var 0) d_bl))) d_snil)
    (d_scons (d_sif (d_tval (d_cb (id := "isinstance") c_isiM T.n_isinstance (by decide +kernel) (d_cons (d_var 1) (d_cons (d_ty (T := "int") T.n_int (by decide +kernel)) d_nil)))) (d_sone (d_ret (d_and (d_cb (id := "isinstance") c_isiM T.n_isinstance (by decide +kernel) (d_cons (d_var 0) (d_cons (d_ty (T := "int") T.n_int (by decide +kernel)) d_nil))) (d_and (d_not (d_cb (id := "isinstance") c_isiM T.n_isinstance (by decide +kernel) (d_cons (d_var 0) (d_cons (d_ty (T := "bool") T.n_bool (by decide +kernel)) d_nil)))) (d_one (d_cmp o_eq (d_var 0) (d_var 1))))))) d_snil)
    (d_scons (d_sif (d_tval (d_cb (id := "isinstance") c_isiM T.n_isinstance (by decide +kernel) (d_cons (d_var 1) (d_cons (d_ty (T := "str") T.n_str (by decide +kernel)) d_nil)))) (d_sone (d_ret (d_and (d_cb (id := "isinstance") c_isiM T.n_isinstance (by decide +kernel) (d_cons (d_var 0) (d_cons (d_ty (T := "str") T.n_str (by decide +kernel)) d_nil))) (d_one (d_cmp o_eq (d_var 0) (d_var 1)))))) d_snil)
    (d_scons (d_sif (d_tw (d_wand (d_tval (d_cb (id := "isinstance") c_isiM T.n_isinstance (by decide +kernel) (d_cons (d_var 1) (d_cons (d_ty (T := "list") T.n_list (by decide +kernel)) d_nil)))) (d_wand1 (d_tnot (d_tval (d_cb (id := "isinstance") c_isiM T.n_isinstance (by decide +kernel) (d_cons (d_var 0) (d_cons (d_ty (T := "list") T.n_list (by decide +kernel)) d_nil)))))))) (d_sone (d_ret d_bl)) d_snil)
    (d_scons (d_sif (d_tw (d_wand (d_tval (d_cb (id := "isinstance") c_isiM T.n_isinstance (by decide +kernel) (d_cons (d_var 1) (d_cons (d_ty (T := "tuple") T.n_tuple (by decide +kernel)) d_nil)))) (d_wand1 (d_tnot (d_tval (d_cb (id := "isinstance") c_isiM T.n_isinstance (by decide +kernel) (d_cons (d_var 0) (d_cons (d_ty (T := "tuple") T.n_tuple (by decide +kernel)) d_nil)))))))) (d_sone (d_ret d_bl)) d_snil)
    (d_scons (d_sif (d_tw (d_wor (d_tnot (d_tval (d_cb (id := "isinstance") c_isiM T.n_isinstance (by decide +kernel) (d_cons (d_var 1) (d_cons (d_tup (d_cons (d_ty (T := "list") T.n_list (by decide +kernel)) (d_cons (d_ty (T := "tuple") T.n_tuple (by decide +kernel)) d_nil))) d_nil))))) (d_wor1 (d_tcmp o_ne (d_cb (id := "len") c_len T.n_len (by decide +kernel) (d_cons (d_var 0) d_nil)) (d_cb (id := "len") c_len T.n_len (by decide +kernel) (d_cons (d_var 1) d_nil)))))) (d_sone (d_ret d_bl)) d_snil)
    (d_scons (d_forR1 2 B T.n_range (d_cons (d_cb (id := "len") c_len T.n_len (by decide +kernel) (d_cons (d_var 1) d_nil)) d_nil) (d_sone (d_sif (d_tnot (d_tval (d_call B ih (Nat.le_refl n) T.m__law_same T.k__law_same T.b__law_same (d_cons (d_ix (d_var 0) (d_var 2)) (d_cons (d_ix (d_var 1) (d_var 2)) d_nil))))) (d_sone (d_ret d_bl)) d_snil)))
    (d_sone (d_ret d_bl)))))))))))) ?_
    rintro ds μ QA XA hl ⟨a, e, rfl, ⟨ha, he, hQ⟩ | ⟨k, as, es, rfl, rfl, hm, ha, he, hQ⟩ | ⟨as, es, rfl, rfl, hlen, hle, hall, hQ⟩⟩
    rotate_left
    ·
      obtain ⟨he1, he2⟩ := Bool.and_eq_true_iff.mp (show (decide (es.length ≤ 30000) && es.all (plD n)) = true from he)
      have he1 := of_decide_eq_true he1
      obtain ⟨ha1, ha2⟩ := Bool.and_eq_true_iff.mp (show (decide (as.length ≤ 30000) && as.all (plD n)) = true from ha)
      have ha1 := of_decide_eq_true ha1
      have hQ' : QA (.v (.bl (decide (as.length = es.length) && (as.zip es).all fun p => sameD n p.1 p.2))) μ := hQ
      have ht : tyM μ (.loc k) = some "list" := by simp [tyM, hm]
      have hi : itemsOf (.loc k) μ = some as := by simp [itemsOf, hm]
      walk_at "all"
      conv => whnf
      rw [ht]
      walk_at "all"
      conv => whnf
      rw [hi]
      walk_at "all"
      · rename_i e
        have e : as.length ≠ es.length := by omega
        rw [decide_eq_false e] at hQ'
        exact hQ'
      · rename_i e
        have e : as.length = es.length := by omega
        rw [decide_eq_true e] at hQ'
        refine ⟨fun k' ρ m => m = μ ∧ (∃ t, ρ = [some (.loc k), some (.lst es), t]) ∧ ∀ (j : Nat) x y, j < k' → as[j]? = some x → es[j]? = some y → sameD n x y = true, ⟨rfl, ⟨_, rfl⟩, fun j _ _ hj => absurd hj (Nat.not_lt_zero _)⟩, ?_, ?_⟩
        · rintro k' ρ' _ hk ⟨rfl, ⟨t, rfl⟩, hall⟩
          obtain ⟨x, ex, ex'⟩ := atI_in (xs := as) (i := 0 + (k' : Int)) (by omega) (by omega)
          obtain ⟨y, ey, ey'⟩ := atI_in (xs := es) (i := 0 + (k' : Int)) (by omega) (by omega)
          have hx : plD n x = true := List.all_eq_true.mp ha2 x (List.mem_of_getElem? ex')
          have hy : plD n y = true := List.all_eq_true.mp he2 y (List.mem_of_getElem? ey')
          have ek : (0 + (k' : Int)).toNat = k' := by omega
          rw [ek] at ex' ey'
          conv => whnf
          rw [hi]
          conv => whnf
          rw [ex]
          conv => whnf
          rw [ey]
          cases n with
          | zero => cases hx
          | succ n =>
            refine And.intro rfl ⟨x, y, rfl, Or.inl ⟨hx, hy, ?_⟩⟩
            walk_at "br"
            · rename_i e2
              have z := zip_one ex' ey' e2
              rw [z] at hQ'
              exact hQ'
            · rename_i e2
              refine ⟨rfl, ⟨_, rfl⟩, fun j u v hj eu ev => ?_⟩
              by_cases q : j = k'
              · subst q
                cases (eu.symm.trans ex')
                cases (ev.symm.trans ey')
                exact e2
              · exact hall j u v (by omega) eu ev
        · rintro ρ' _ ⟨rfl, ⟨t, rfl⟩, hall⟩
          have z : ((as.zip es).all fun p => sameD n p.1 p.2) = true := zip_all e fun j x y eu ev => hall j x y (by have := (List.getElem?_eq_some_iff.mp ev).1; omega) eu ev
          rw [z] at hQ'
          exact hQ'
    ·
      walk_at "all"
      · rename_i e
        exact absurd hlen (by omega)
      · refine ⟨fun k ρ m => m = μ ∧ ∃ t, ρ = [some (.tup as), some (.tup es), t], ⟨rfl, ⟨none, rfl⟩⟩, ?_, ?_⟩
        · rintro k ρ' _ hk ⟨rfl, ⟨t, rfl⟩⟩
          obtain ⟨x, ex, ex'⟩ := atI_in (xs := as) (i := 0 + (k : Int)) (by omega) (by omega)
          obtain ⟨y, ey, ey'⟩ := atI_in (xs := es) (i := 0 + (k : Int)) (by omega) (by omega)
          have hi := hall _ x y ex' ey'
          conv => whnf
          rw [ex]
          conv => whnf
          rw [ey]
          cases n with
          | zero => rcases hi with ⟨h, _⟩ | ⟨_, _, _, _, _, _, h, _⟩ <;> cases h
          | succ n =>
            rcases hi with ⟨px, py, ps⟩ | ⟨k', as', es', rfl, rfl, hm, p1, p2, ps⟩
            · refine And.intro rfl ⟨x, y, rfl, Or.inl ⟨px, py, ?_⟩⟩
              rw [ps]
              walk_at "all"
              first | exact ⟨rfl, ⟨_, rfl⟩⟩ | exact ⟨_, rfl⟩
            · refine And.intro rfl ⟨_, _, rfl, Or.inr (Or.inl ⟨k', as', es', rfl, rfl, hm, p1, p2, ?_⟩)⟩
              rw [ps]
              walk_at "all"
              first | exact ⟨rfl, ⟨_, rfl⟩⟩ | exact ⟨_, rfl⟩
        · rintro ρ' _ ⟨rfl, ⟨t, rfl⟩⟩
          walk_at "all"
          exact hQ
    cases e with
    | v x =>
      cases x with
      | non => walk_at "all"; exact hQ
      | bl b => cases b <;> (walk_at "all"; exact hQ)
      | int i =>
        cases a with
        | v y => cases y <;> first | (cases ha; done) | (walk_at "all"; exact hQ)
        | lst as => walk_at "all"; exact hQ
        | tup as => walk_at "all"; exact hQ
        | _ => cases ha
      | str s =>
        cases a with
        | v y => cases y <;> first | (cases ha; done) | (walk_at "all"; exact hQ)
        | lst as => walk_at "all"; exact hQ
        | tup as => walk_at "all"; exact hQ
        | _ => cases ha
      | _ => cases he
    | lst es =>
      obtain ⟨he1, he2⟩ := Bool.and_eq_true_iff.mp (show (decide (es.length ≤ 30000) && es.all (plD n)) = true from he)
      have he1 := of_decide_eq_true he1
      cases a with
      | v y => cases y <;> first | (cases ha; done) | (walk_at "all"; exact hQ)
      | lst as =>
        obtain ⟨ha1, ha2⟩ := Bool.and_eq_true_iff.mp (show (decide (as.length ≤ 30000) && as.all (plD n)) = true from ha)
        have ha1 := of_decide_eq_true ha1
        have hQ' : QA (.v (.bl (decide (as.length = es.length) && (as.zip es).all fun p => sameD n p.1 p.2))) μ := hQ
        walk_at "all"
        · rename_i e
          have e : as.length ≠ es.length := by omega
          rw [decide_eq_false e] at hQ'
          exact hQ'
        · rename_i e
          have e : as.length = es.length := by omega
          rw [decide_eq_true e] at hQ'
          refine ⟨fun k ρ m => m = μ ∧ (∃ t, ρ = [some (.lst as), some (.lst es), t]) ∧ ∀ (j : Nat) x y, j < k → as[j]? = some x → es[j]? = some y → sameD n x y = true, ⟨rfl, ⟨_, rfl⟩, fun j _ _ hj => absurd hj (Nat.not_lt_zero _)⟩, ?_, ?_⟩
          · rintro k ρ' _ hk ⟨rfl, ⟨t, rfl⟩, hall⟩
            obtain ⟨x, ex, ex'⟩ := atI_in (xs := as) (i := 0 + (k : Int)) (by omega) (by omega)
            obtain ⟨y, ey, ey'⟩ := atI_in (xs := es) (i := 0 + (k : Int)) (by omega) (by omega)
            have hx : plD n x = true := List.all_eq_true.mp ha2 x (List.mem_of_getElem? ex')
            have hy : plD n y = true := List.all_eq_true.mp he2 y (List.mem_of_getElem? ey')
            have ek : (0 + (k : Int)).toNat = k := by omega
            rw [ek] at ex' ey'
            conv => whnf
            rw [ex]
            conv => whnf
            rw [ey]
            cases n with
            | zero => cases hx
            | succ n =>
              refine And.intro rfl ⟨x, y, rfl, Or.inl ⟨hx, hy, ?_⟩⟩
              walk_at "br"
              · rename_i e2
                have z := zip_one ex' ey' e2
                rw [z] at hQ'
                exact hQ'
              · rename_i e2
                refine ⟨rfl, ⟨_, rfl⟩, fun j u v hj eu ev => ?_⟩
                by_cases q : j = k
                · subst q
                  cases (eu.symm.trans ex')
                  cases (ev.symm.trans ey')
                  exact e2
                · exact hall j u v (by omega) eu ev
          · rintro ρ' _ ⟨rfl, ⟨t, rfl⟩, hall⟩
            have z : ((as.zip es).all fun p => sameD n p.1 p.2) = true := zip_all e fun j x y eu ev => hall j x y (by have := (List.getElem?_eq_some_iff.mp ev).1; omega) eu ev
            rw [z] at hQ'
            exact hQ'
      | tup as => walk_at "all"; exact hQ
      | _ => cases ha
    | tup es =>
      obtain ⟨he1, he2⟩ := Bool.and_eq_true_iff.mp (show (decide (es.length ≤ 30000) && es.all (plD n)) = true from he)
      have he1 := of_decide_eq_true he1
      cases a with
      | v y => cases y <;> first | (cases ha; done) | (walk_at "all"; exact hQ)
      | tup as =>
        obtain ⟨ha1, ha2⟩ := Bool.and_eq_true_iff.mp (show (decide (as.length ≤ 30000) && as.all (plD n)) = true from ha)
        have ha1 := of_decide_eq_true ha1
        have hQ' : QA (.v (.bl (decide (as.length = es.length) && (as.zip es).all fun p => sameD n p.1 p.2))) μ := hQ
        walk_at "all"
        · rename_i e
          have e : as.length ≠ es.length := by omega
          rw [decide_eq_false e] at hQ'
          exact hQ'
        · rename_i e
          have e : as.length = es.length := by omega
          rw [decide_eq_true e] at hQ'
          refine ⟨fun k ρ m => m = μ ∧ (∃ t, ρ = [some (.tup as), some (.tup es), t]) ∧ ∀ (j : Nat) x y, j < k → as[j]? = some x → es[j]? = some y → sameD n x y = true, ⟨rfl, ⟨_, rfl⟩, fun j _ _ hj => absurd hj (Nat.not_lt_zero _)⟩, ?_, ?_⟩
          · rintro k ρ' _ hk ⟨rfl, ⟨t, rfl⟩, hall⟩
            obtain ⟨x, ex, ex'⟩ := atI_in (xs := as) (i := 0 + (k : Int)) (by omega) (by omega)
            obtain ⟨y, ey, ey'⟩ := atI_in (xs := es) (i := 0 + (k : Int)) (by omega) (by omega)
            have hx : plD n x = true := List.all_eq_true.mp ha2 x (List.mem_of_getElem? ex')
            have hy : plD n y = true := List.all_eq_true.mp he2 y (List.mem_of_getElem? ey')
            have ek : (0 + (k : Int)).toNat = k := by omega
            rw [ek] at ex' ey'
            conv => whnf
            rw [ex]
            conv => whnf
            rw [ey]
            cases n with
            | zero => cases hx
            | succ n =>
              refine And.intro rfl ⟨x, y, rfl, Or.inl ⟨hx, hy, ?_⟩⟩
              walk_at "br"
              · rename_i e2
                have z := zip_one ex' ey' e2
                rw [z] at hQ'
                exact hQ'
              · rename_i e2
                refine ⟨rfl, ⟨_, rfl⟩, fun j u v hj eu ev => ?_⟩
                by_cases q : j = k
                · subst q
                  cases (eu.symm.trans ex')
                  cases (ev.symm.trans ey')
                  exact e2
                · exact hall j u v (by omega) eu ev
          · rintro ρ' _ ⟨rfl, ⟨t, rfl⟩, hall⟩
            have z : ((as.zip es).all fun p => sameD n p.1 p.2) = true := zip_all e fun j x y eu ev => hall j x y (by have := (List.getElem?_eq_some_iff.mp ev).1; omega) eu ev
            rw [z] at hQ'
            exact hQ'
      | lst as => walk_at "all"; exact hQ
      | _ => cases ha
    | _ => cases he
end
end Pf
set_option Elab.async false
set_option linter.all false
set_option maxRecDepth 100000
set_option maxHeartbeats 4000000
namespace Pf
open PySem L2 DK
local macro_rules | `(tactic| walk_at "side") => `(tactic| first
  | decide
  | ((with_reducible show (_ : Nat) ≤ _); exact Nat.le_of_ble_eq_true rfl)
  | ((with_reducible show (_ : Int) < _); omega)
  | ((with_reducible show (_ : Int) ≤ _); omega)
  | ((with_reducible show CM _ _); exact Or.inl (Or.inr (by decide)))
  | ((with_reducible show CM _ _); exact Or.inl (Or.inl (by decide)))
  | ((with_reducible show CDivW _ _); exact ⟨by first | assumption | omega, by first | assumption | decide⟩)
  | ((with_reducible show scal _ _ = true); rfl)
  | ((with_reducible show CPow _ _); exact ⟨by decide, by decide, by decide⟩)
  | ((with_reducible show _ = _); rfl)
  | ((with_reducible show (_ = _) ∧ (_ = _)); exact ⟨rfl, rfl⟩)
  | ((with_reducible show (_ : Int) ≤ _ ∧ (_ : Int) < _); omega)
  | ((with_reducible show ((_ : Int) ≤ _ ∧ (_ : Int) < _) ∧ ((_ : Int) ≤ _ ∧ (_ : Int) < _)); omega)
  | ((with_reducible show RgOk _ _); unfold RgOk; omega)
  | assumption
  | walk_at "mine"
  | fail)
local macro_rules | `(tactic| walk_at "mine") => `(tactic| fail)
local macro_rules | `(tactic| walk_at "br") => `(tactic| ((refine And.intro (fun (e : (_ : Bool) = true) => ?_) (fun (e : (_ : Bool) = false) => ?_)) <;> (try simp only [Bool.not_eq_true', Bool.not_eq_false', decide_eq_true_eq, decide_eq_false_iff_not, V.int.injEq] at e)))
local macro_rules | `(tactic| walk_at "st") => `(tactic| first
  | (refine at_slots (by (simp only [List.length_cons, List.length_nil, startD_cons, startD_none, startD_nil, List.set_cons_zero, List.set_cons_succ]; rfl)) ?_)
  | ((conv => whnf); first | (with_reducible refine And.intro (fun _ => ?_) (fun e => Bool.noConfusion e)) | (with_reducible refine And.intro (fun e => Bool.noConfusion e) (fun _ => ?_)) | ((with_reducible refine And.intro ?walk_side ?_); (case walk_side => walk_at "side")))
  | walk_at "call"
  | fail)
local macro_rules | `(tactic| walk_at "call") => `(tactic| fail)
local macro_rules | `(tactic| walk_at "go") => `(tactic| (repeat walk_at "st"))
local macro_rules | `(tactic| walk_at "all") => `(tactic| (repeat' (first
  | (refine at_slots (by (simp only [List.length_cons, List.length_nil, startD_cons, startD_none, startD_nil, List.set_cons_zero, List.set_cons_succ]; rfl)) ?_)
  | ((conv => whnf); first | (with_reducible refine And.intro (fun _ => ?_) (fun e => Bool.noConfusion e)) | (with_reducible refine And.intro (fun e => Bool.noConfusion e) (fun _ => ?_)) | ((with_reducible refine And.intro (fun (e : (_ : Bool) = true) => ?_) (fun (e : (_ : Bool) = false) => ?_)) <;> (try simp only [Bool.not_eq_true', Bool.not_eq_false', decide_eq_true_eq, decide_eq_false_iff_not, V.int.injEq] at e)) | ((with_reducible refine And.intro ?walk_side ?_); (case walk_side => walk_at "side")))
  | walk_at "call"
  | fail)))
local macro_rules | `(tactic| walk_at "call") => `(tactic| (show fTake _ _ _ _; refine ⟨_, _, _, rfl, by first | assumption | decide, rfl, ‹StC _›, fun r c' hr0 hr1 hc => ?_⟩))
local macro_rules | `(tactic| walk_at "call") => `(tactic| (show fPick _ _ _ _; refine ⟨_, _, _, _, rfl, Or.inl rfl, by simp, by simp, rfl, ‹StC _›, fun d c' hd hc => ?_⟩))
local macro_rules | `(tactic| walk_at "mine") => `(tactic| (show CShl _ _; exact cshl_small (by omega) (by omega) (by omega) (by omega)))
section
variable {P : Program} {w : World} {K : PySem.W.Frag} {mg : Str → Option Value} {base : Heap}
def numD (d : D) : Bool := match d with | .v (.int _) => true | _ => false
def betD (d : D) (lo hi : Int) : Bool := match d with | .v (.int i) => decide (lo ≤ i) && decide (i ≤ hi) | _ => false
def fNum : FD := fun ds μ Q _ => ∃ d t, ds = [d] ∧ tyD d = some t ∧ Q (.v (.bl (numD d))) μ
def fBet : FD := fun ds μ Q _ => ∃ d lo hi t, ds = [d, .v (.int lo), .v (.int hi)] ∧ tyD d = some t ∧ Q (.v (.bl (betD d lo hi))) μ
def fCheck (C : Addr) : FD := fun ds μ Q X => ∃ s d lo hi t, ds = [.v (.str s), d, .v (.int lo), .v (.int hi)] ∧ tyD d = some t ∧ (betD d lo hi = true → Q (.v .non) μ) ∧ (betD d lo hi = false → X ⟨C, [("name", .v (.str s))]⟩ μ)
theorem sc_is_number : FnScope ["value"] ["value"] (defScope (top 21)) := ⟨rfl, rfl, rfl, by decide +kernel, rfl, by decide +kernel, by decide +kernel⟩
theorem ok_is_number (T : Tx K mg) : FnD P w K mg base 1 T.a_is_number T.fd_is_number ["value"] fNum := by
  refine fnD _ T.F_is_number sc_is_number (fun cd A outer s H E B => (d_sone (d_ret (d_and (d_cb (id := "isinstance") c_isi T.n_isinstance (by decide +kernel) (d_cons (d_var 0) (d_cons (d_ty (T := "int") T.n_int (by decide +kernel)) d_nil))) (d_one (d_not (d_cb (id := "isinstance") c_isi T.n_isinstance (by decide +kernel) (d_cons (d_var 0) (d_cons (d_ty (T := "bool") T.n_bool (by decide +kernel)) d_nil))))))))) ?_
  rintro ds μ QA XA hl ⟨d, t, rfl, ht, hQ⟩
  cases d with
  | v x => cases x <;> first | (cases ht; done) | (walk_at "all"; exact hQ)
  | lst es => walk_at "all"; exact hQ
  | tup es => walk_at "all"; exact hQ
  | dic es => walk_at "all"; exact hQ
  | ins _ _ _ => walk_at "all"; exact hQ
  | _ => cases ht
local macro_rules | `(tactic| walk_at "call") => `(tactic| (show fNum _ _ _ _; refine ⟨_, _, rfl, by first | assumption | rfl, ?_⟩))
theorem sc_is_between : FnScope ["value", "low", "high"] ["value", "low", "high"] (defScope (top 22)) := ⟨rfl, rfl, rfl, by decide +kernel, rfl, by decide +kernel, by decide +kernel⟩
theorem ok_is_between (T : Tx K mg) : FnD P w K mg base 2 T.a_is_between T.fd_is_between ["value", "low", "high"] fBet := by
  refine fnD _ T.F_is_between sc_is_between (fun cd A outer s H E B => (d_sone (d_ret (d_and (d_call B (ok_is_number T) (by decide) T.m_is_number T.k_is_number T.b_is_number (d_cons (d_var 0) d_nil)) (d_one (d_chain o_le o_le (d_var 1) (d_var 0) (d_var 2))))))) ?_
  rintro ds μ QA XA hl ⟨d, lo, hi, t, rfl, ht, hQ⟩
  cases d with
  | v x =>
    cases x with
    | int i =>
      have hQ' : QA (.v (.bl (decide (lo ≤ i) && decide (i ≤ hi)))) μ := hQ
      walk_at "all"
      · rename_i e
        rw [decide_eq_true e, Bool.true_and] at hQ'
        exact hQ'
      · rename_i e
        rw [decide_eq_false e, Bool.false_and] at hQ'
        exact hQ'
    | _ => first | (cases ht; done) | (walk_at "all"; exact hQ)
  | lst es => walk_at "all"; exact hQ
  | tup es => walk_at "all"; exact hQ
  | dic es => walk_at "all"; exact hQ
  | ins _ _ _ => walk_at "all"; exact hQ
  | _ => cases ht
local macro_rules | `(tactic| walk_at "call") => `(tactic| (show fBet _ _ _ _; refine ⟨_, _, _, _, rfl, by first | assumption | rfl, ?_⟩))
theorem sci_OutOfRange : FnScope ["self", "name"] ["self", "name"] (defScope (meth (top 2) 0)) := ⟨rfl, rfl, rfl, by decide +kernel, rfl, by decide +kernel, by decide +kernel⟩
theorem oki_OutOfRange (T : Tx K mg) : FnOk P w K mg base CX0 1 T.fi_OutOfRange T.fdi_OutOfRange ["self", "name"] (spInit T.a_OutOfRange ["name"]) :=
  ok_init T.ii_OutOfRange sci_OutOfRange T.in_OutOfRange (by decide) fun cdv A outer s H E => (pss_one (ps_ost (pv 0) (pv 1) rfl))
theorem sci_BadItem : FnScope ["self", "index"] ["self", "index"] (defScope (meth (top 3) 0)) := ⟨rfl, rfl, rfl, by decide +kernel, rfl, by decide +kernel, by decide +kernel⟩
theorem oki_BadItem (T : Tx K mg) : FnOk P w K mg base CX0 1 T.fi_BadItem T.fdi_BadItem ["self", "index"] (spInit T.a_BadItem ["index"]) :=
  ok_init T.ii_BadItem sci_BadItem T.in_BadItem (by decide) fun cdv A outer s H E => (pss_one (ps_ost (pv 0) (pv 1) rfl))
theorem sci_BadLength : FnScope ["self", "expected", "found"] ["self", "expected", "found"] (defScope (meth (top 4) 0)) := ⟨rfl, rfl, rfl, by decide +kernel, rfl, by decide +kernel, by decide +kernel⟩
theorem oki_BadLength (T : Tx K mg) : FnOk P w K mg base CX0 1 T.fi_BadLength T.fdi_BadLength ["self", "expected", "found"] (spInit T.a_BadLength ["expected", "found"]) :=
  ok_init T.ii_BadLength sci_BadLength T.in_BadLength (by decide) fun cdv A outer s H E => (pss_cons (ps_ost (pv 0) (pv 1) rfl) (pss_one (ps_ost (pv 0) (pv 2) rfl)))
theorem sc_check_between : FnScope ["name", "value", "low", "high"] ["name", "value", "low", "high"] (defScope (top 23)) := ⟨rfl, rfl, rfl, by decide +kernel, rfl, by decide +kernel, by decide +kernel⟩
theorem ok_check_between (T : Tx K mg) : FnD P w K mg base 3 T.a_check_between T.fd_check_between ["name", "value", "low", "high"] (fCheck T.a_OutOfRange) := by
  refine fnD _ T.F_check_between sc_check_between (fun cd A outer s H E B => (d_sone (d_sif (d_tnot (d_tval (d_call B (ok_is_between T) (by decide) T.m_is_between T.k_is_between T.b_is_between (d_cons (d_var 1) (d_cons (d_var 2) (d_cons (d_var 3) d_nil)))))) (d_sone (d_raise B T.e_OutOfRange (oki_OutOfRange T) (by decide) T.bi_OutOfRange (d_cons (d_var 0) d_nil))) d_snil))) ?_
  rintro ds μ QA XA hl ⟨s, d, lo, hi, t, rfl, ht, h1, h2⟩
  walk_at "all"
  · exact h2 (by assumption)
  · exact h1 (by assumption)
theorem bet_inv {d : D} {lo hi : Int} (h : betD d lo hi = true) : ∃ i : Int, d = .v (.int i) ∧ lo ≤ i ∧ i ≤ hi := by
  unfold betD at h
  split at h
  · simp at h
    exact ⟨_, rfl, h.1, h.2⟩
  · cases h
end
end Pf
set_option Elab.async false
set_option linter.all false
set_option maxRecDepth 100000
set_option maxHeartbeats 4000000
namespace Pf
open PySem L2 DK
local macro_rules | `(tactic| walk_at "side") => `(tactic| first
  | decide
  | ((with_reducible show (_ : Nat) ≤ _); exact Nat.le_of_ble_eq_true rfl)
  | ((with_reducible show (_ : Int) < _); omega)
  | ((with_reducible show (_ : Int) ≤ _); omega)
  | ((with_reducible show CM _ _); exact Or.inl (Or.inr (by decide)))
  | ((with_reducible show CM _ _); exact Or.inl (Or.inl (by decide)))
  | ((with_reducible show CDivW _ _); exact ⟨by first | assumption | omega, by first | assumption | decide⟩)
  | ((with_reducible show scal _ _ = true); rfl)
  | ((with_reducible show CPow _ _); exact ⟨by decide, by decide, by decide⟩)
  | ((with_reducible show _ = _); rfl)
  | ((with_reducible show (_ = _) ∧ (_ = _)); exact ⟨rfl, rfl⟩)
  | ((with_reducible show (_ : Int) ≤ _ ∧ (_ : Int) < _); omega)
  | ((with_reducible show ((_ : Int) ≤ _ ∧ (_ : Int) < _) ∧ ((_ : Int) ≤ _ ∧ (_ : Int) < _)); omega)
  | ((with_reducible show RgOk _ _); unfold RgOk; omega)
  | assumption
  | walk_at "mine"
  | fail)
local macro_rules | `(tactic| walk_at "mine") => `(tactic| fail)
local macro_rules | `(tactic| walk_at "br") => `(tactic| ((refine And.intro (fun (e : (_ : Bool) = true) => ?_) (fun (e : (_ : Bool) = false) => ?_)) <;> (try simp only [Bool.not_eq_true', Bool.not_eq_false', decide_eq_true_eq, decide_eq_false_iff_not, V.int.injEq] at e)))
local macro_rules | `(tactic| walk_at "st") => `(tactic| first
  | (refine at_slots (by (simp only [List.length_cons, List.length_nil, startD_cons, startD_none, startD_nil, List.set_cons_zero, List.set_cons_succ]; rfl)) ?_)
  | ((conv => whnf); first | (with_reducible refine And.intro (fun _ => ?_) (fun e => Bool.noConfusion e)) | (with_reducible refine And.intro (fun e => Bool.noConfusion e) (fun _ => ?_)) | ((with_reducible refine And.intro ?walk_side ?_); (case walk_side => walk_at "side")))
  | walk_at "call"
  | fail)
local macro_rules | `(tactic| walk_at "call") => `(tactic| fail)
local macro_rules | `(tactic| walk_at "go") => `(tactic| (repeat walk_at "st"))
local macro_rules | `(tactic| walk_at "all") => `(tactic| (repeat' (first
  | (refine at_slots (by (simp only [List.length_cons, List.length_nil, startD_cons, startD_none, startD_nil, List.set_cons_zero, List.set_cons_succ]; rfl)) ?_)
  | ((conv => whnf); first | (with_reducible refine And.intro (fun _ => ?_) (fun e => Bool.noConfusion e)) | (with_reducible refine And.intro (fun e => Bool.noConfusion e) (fun _ => ?_)) | ((with_reducible refine And.intro (fun (e : (_ : Bool) = true) => ?_) (fun (e : (_ : Bool) = false) => ?_)) <;> (try simp only [Bool.not_eq_true', Bool.not_eq_false', decide_eq_true_eq, decide_eq_false_iff_not, V.int.injEq] at e)) | ((with_reducible refine And.intro ?walk_side ?_); (case walk_side => walk_at "side")))
  | walk_at "call"
  | fail)))
section
variable {P : Program} {w : World} {K : PySem.W.Frag} {mg : Str → Option Value} {base : Heap}
local macro_rules | `(tactic| walk_at "call") => `(tactic| (refine Exists.intro _ (Exists.intro _ (And.intro (by first | exact ClsV.own _ | exact ClsV.ty _) (And.intro (by assumption) (And.intro (by assumption) ?_))))))
def fKin (E : List (Addr × Str)) : FD := fun ds μ Q _ => ∃ C n fs, ds = [.err C fs] ∧ (C, n) ∈ E ∧ Q (.lst [.v (.str n)]) μ
theorem sc__law_kin : FnScope ["error", "flags", "words", "at"] ["error"] (defScope (top 44)) := ⟨rfl, rfl, rfl, by decide +kernel, rfl, by decide +kernel, by decide +kernel⟩
theorem ok__law_kin (T : Tx K mg) : FnQ P w K mg base 1 T.a__law_kin T.fd__law_kin ["error"] (fKin [(T.a_OutOfRange, "OutOfRange"), (T.a_BadItem, "BadItem"), (T.a_BadLength, "BadLength")]) := by
  refine fnQ _ T.F__law_kin sc__law_kin (fun cd A outer s H E p B => (d_scons (d_set 1 B.nd (d_lst (d_cons (d_cb (id := "isinstance") (c_isF (K := K) rfl (fun r hr => by rw [List.mem_singleton.mp hr]; exact B.mem)) T.n_isinstance (by decide +kernel) (d_cons (d_var 0) (d_cons (d_globV (v := .ref _) T.m_OutOfRange rfl) d_nil))) (d_cons (d_cb (id := "isinstance") (c_isF (K := K) rfl (fun r hr => by rw [List.mem_singleton.mp hr]; exact B.mem)) T.n_isinstance (by decide +kernel) (d_cons (d_var 0) (d_cons (d_globV (v := .ref _) T.m_BadItem rfl) d_nil))) (d_cons (d_cb (id := "isinstance") (c_isF (K := K) rfl (fun r hr => by rw [List.mem_singleton.mp hr]; exact B.mem)) T.n_isinstance (by decide +kernel) (d_cons (d_var 0) (d_cons (d_globV (v := .ref _) T.m_BadLength rfl) d_nil))) d_nil)))))
    (d_scons (d_set 1 B.nd (d_bin o_addU (d_var 1) (d_lst (d_cons (d_cb (id := "isinstance") (c_isF (K := K) rfl (fun r hr => by rw [List.mem_singleton.mp hr]; exact B.mem)) T.n_isinstance (by decide +kernel) (d_cons (d_var 0) (d_cons (d_globV (v := .ref _) T.m_BadText rfl) d_nil))) (d_cons (d_cb (id := "isinstance") (c_isF (K := K) rfl (fun r hr => by rw [List.mem_singleton.mp hr]; exact B.mem)) T.n_isinstance (by decide +kernel) (d_cons (d_var 0) (d_cons (d_globV (v := .ref _) T.m_BadPadding rfl) d_nil))) (d_cons (d_cb (id := "isinstance") (c_isF (K := K) rfl (fun r hr => by rw [List.mem_singleton.mp hr]; exact B.mem)) T.n_isinstance (by decide +kernel) (d_cons (d_var 0) (d_cons (d_globV (v := .ref _) T.m_WrongPhase rfl) d_nil))) d_nil))))))
    (d_scons (d_set 1 B.nd (d_bin o_addU (d_var 1) (d_lst (d_cons (d_cb (id := "isinstance") (c_isF (K := K) rfl (fun r hr => by rw [List.mem_singleton.mp hr]; exact B.mem)) T.n_isinstance (by decide +kernel) (d_cons (d_var 0) (d_cons (d_globV (v := .ref _) T.m_NotInvertible rfl) d_nil))) (d_cons (d_cb (id := "isinstance") (c_isF (K := K) rfl (fun r hr => by rw [List.mem_singleton.mp hr]; exact B.mem)) T.n_isinstance (by decide +kernel) (d_cons (d_var 0) (d_cons (d_globV (v := .ref _) T.m_BadRing rfl) d_nil))) (d_cons (d_cb (id := "isinstance") (c_isF (K := K) rfl (fun r hr => by rw [List.mem_singleton.mp hr]; exact B.mem)) T.n_isinstance (by decide +kernel) (d_cons (d_var 0) (d_cons (d_globV (v := .ref _) T.m_BadParameters rfl) d_nil))) d_nil))))))
    (d_scons (d_set 1 B.nd (d_bin o_addU (d_var 1) (d_lst (d_cons (d_cb (id := "isinstance") (c_isF (K := K) rfl (fun r hr => by rw [List.mem_singleton.mp hr]; exact B.mem)) T.n_isinstance (by decide +kernel) (d_cons (d_var 0) (d_cons (d_globV (v := .ref _) T.m_UnknownName rfl) d_nil))) (d_cons (d_cb (id := "isinstance") (c_isF (K := K) rfl (fun r hr => by rw [List.mem_singleton.mp hr]; exact B.mem)) T.n_isinstance (by decide +kernel) (d_cons (d_var 0) (d_cons (d_globV (v := .ref _) T.m_DifferentRings rfl) d_nil))) (d_cons (d_cb (id := "isinstance") (c_isF (K := K) rfl (fun r hr => by rw [List.mem_singleton.mp hr]; exact B.mem)) T.n_isinstance (by decide +kernel) (d_cons (d_var 0) (d_cons (d_globV (v := .ref _) T.m_BadKey rfl) d_nil))) d_nil))))))
    (d_scons (d_set 1 B.nd (d_bin o_addU (d_var 1) (d_lst (d_cons (d_cb (id := "isinstance") (c_isF (K := K) rfl (fun r hr => by rw [List.mem_singleton.mp hr]; exact B.mem)) T.n_isinstance (by decide +kernel) (d_cons (d_var 0) (d_cons (d_globV (v := .ref _) T.m_BadLetter rfl) d_nil))) (d_cons (d_cb (id := "isinstance") (c_isF (K := K) rfl (fun r hr => by rw [List.mem_singleton.mp hr]; exact B.mem)) T.n_isinstance (by decide +kernel) (d_cons (d_var 0) (d_cons (d_globV (v := .ref _) T.m_BadKeyText rfl) d_nil))) (d_cons (d_cb (id := "isinstance") (c_isF (K := K) rfl (fun r hr => by rw [List.mem_singleton.mp hr]; exact B.mem)) T.n_isinstance (by decide +kernel) (d_cons (d_var 0) (d_cons (d_globV (v := .ref _) T.m_BadRecord rfl) d_nil))) d_nil))))))
    (d_scons (d_set 1 B.nd (d_bin o_addU (d_var 1) (d_lst (d_cons (d_cb (id := "isinstance") (c_isF (K := K) rfl (fun r hr => by rw [List.mem_singleton.mp hr]; exact B.mem)) T.n_isinstance (by decide +kernel) (d_cons (d_var 0) (d_cons (d_globV (v := .ref _) T.m_BadCommand rfl) d_nil))) (d_cons (d_cb (id := "isinstance") (c_isF (K := K) rfl (fun r hr => by rw [List.mem_singleton.mp hr]; exact B.mem)) T.n_isinstance (by decide +kernel) (d_cons (d_var 0) (d_cons (d_globV (v := .ref _) T.m_NoEntry rfl) d_nil))) (d_cons (d_cb (id := "isinstance") (c_isF (K := K) rfl (fun r hr => by rw [List.mem_singleton.mp hr]; exact B.mem)) T.n_isinstance (by decide +kernel) (d_cons (d_var 0) (d_cons (d_globV (v := .ref _) T.m_NothingLeft rfl) d_nil))) d_nil))))))
    (d_scons (d_set 2 B.nd (d_lst (d_cons d_str (d_cons d_str (d_cons d_str (d_cons d_str (d_cons d_str (d_cons d_str (d_cons d_str (d_cons d_str d_nil))))))))))
    (d_scons (d_set 2 B.nd (d_bin o_addU (d_var 2) (d_lst (d_cons d_str (d_cons d_str (d_cons d_str (d_cons d_str (d_cons d_str (d_cons d_str d_nil)))))))))
    (d_scons (d_set 2 B.nd (d_bin o_addU (d_var 2) (d_lst (d_cons d_str (d_cons d_str (d_cons d_str (d_cons d_str d_nil)))))))
    (d_scons (d_sif (d_tw (d_wor (d_tnot (d_tval (d_cb (id := "isinstance") (c_isF (K := K) rfl (fun r hr => by rw [List.mem_singleton.mp hr]; exact B.mem)) T.n_isinstance (by decide +kernel) (d_cons (d_var 0) (d_cons (d_globV (v := .ref _) T.m_NoiseboundError rfl) d_nil))))) (d_wor1 (d_tnot (d_tval (d_cb (id := "isinstance") (c_isF (K := K) rfl (fun r hr => by rw [List.mem_singleton.mp hr]; exact B.mem)) T.n_isinstance (by decide +kernel) (d_cons (d_var 0) (d_cons (d_ty (T := "ValueError") T.n_ValueError (by decide +kernel)) d_nil)))))))) (d_sone (d_ret (d_lst (d_cons d_str d_nil)))) d_snil)
    (d_sone (d_ret (d_lcR1H 3 B T.n_range (d_cons d_int d_nil) (fun _ _ _ _ _ => (d_ifs1 (d_tval (d_ix (d_var 1) (d_var 3))))) (fun _ _ _ _ _ => (d_ix (d_var 2) (d_var 3))) (by show blkC ["error", "flags", "words", "at"] (defScope (top 44)) _ _ = true; decide +kernel) (fun _ _ _ _ _ => pg_name B.nd rfl (by first | exact Or.inl rfl | exact Or.inr rfl)))))))))))))))) ?_
  rintro ds μ QA hl ⟨C, n, fs, rfl, hE, hQ⟩
  simp only [List.mem_cons, List.not_mem_nil, or_false, Prod.mk.injEq] at hE
  rcases hE with ⟨rfl, rfl⟩ | ⟨rfl, rfl⟩ | ⟨rfl, rfl⟩
  · have := T.q_OutOfRange_NoiseboundError
    have := T.q_OutOfRange_OutOfRange
    have := T.q_OutOfRange_BadItem
    have := T.q_OutOfRange_BadLength
    have := T.q_OutOfRange_BadText
    have := T.q_OutOfRange_BadPadding
    have := T.q_OutOfRange_WrongPhase
    have := T.q_OutOfRange_NotInvertible
    have := T.q_OutOfRange_BadRing
    have := T.q_OutOfRange_BadParameters
    have := T.q_OutOfRange_UnknownName
    have := T.q_OutOfRange_DifferentRings
    have := T.q_OutOfRange_BadKey
    have := T.q_OutOfRange_BadLetter
    have := T.q_OutOfRange_BadKeyText
    have := T.q_OutOfRange_BadRecord
    have := T.q_OutOfRange_BadCommand
    have := T.q_OutOfRange_NoEntry
    have := T.q_OutOfRange_NothingLeft
    have := T.q_OutOfRange_ValueError
    have := T.x_OutOfRange
    have := T.f_OutOfRange
    have := T.g_OutOfRange_name
    show sSeq _ _ (pEnds QA) [some (.err T.a_OutOfRange fs), none, none, none] μ
    walk_at "all"
    simp only [List.cons_append, List.nil_append, List.set_cons_zero, List.set_cons_succ, wipeD]
    refine go_lc ?_
    walk_at "all"
    exact hQ
  · have := T.q_BadItem_NoiseboundError
    have := T.q_BadItem_OutOfRange
    have := T.q_BadItem_BadItem
    have := T.q_BadItem_BadLength
    have := T.q_BadItem_BadText
    have := T.q_BadItem_BadPadding
    have := T.q_BadItem_WrongPhase
    have := T.q_BadItem_NotInvertible
    have := T.q_BadItem_BadRing
    have := T.q_BadItem_BadParameters
    have := T.q_BadItem_UnknownName
    have := T.q_BadItem_DifferentRings
    have := T.q_BadItem_BadKey
    have := T.q_BadItem_BadLetter
    have := T.q_BadItem_BadKeyText
    have := T.q_BadItem_BadRecord
    have := T.q_BadItem_BadCommand
    have := T.q_BadItem_NoEntry
    have := T.q_BadItem_NothingLeft
    have := T.q_BadItem_ValueError
    have := T.x_BadItem
    have := T.f_BadItem
    have := T.g_BadItem_index
    show sSeq _ _ (pEnds QA) [some (.err T.a_BadItem fs), none, none, none] μ
    walk_at "all"
    simp only [List.cons_append, List.nil_append, List.set_cons_zero, List.set_cons_succ, wipeD]
    refine go_lc ?_
    walk_at "all"
    exact hQ
  · have := T.q_BadLength_NoiseboundError
    have := T.q_BadLength_OutOfRange
    have := T.q_BadLength_BadItem
    have := T.q_BadLength_BadLength
    have := T.q_BadLength_BadText
    have := T.q_BadLength_BadPadding
    have := T.q_BadLength_WrongPhase
    have := T.q_BadLength_NotInvertible
    have := T.q_BadLength_BadRing
    have := T.q_BadLength_BadParameters
    have := T.q_BadLength_UnknownName
    have := T.q_BadLength_DifferentRings
    have := T.q_BadLength_BadKey
    have := T.q_BadLength_BadLetter
    have := T.q_BadLength_BadKeyText
    have := T.q_BadLength_BadRecord
    have := T.q_BadLength_BadCommand
    have := T.q_BadLength_NoEntry
    have := T.q_BadLength_NothingLeft
    have := T.q_BadLength_ValueError
    have := T.x_BadLength
    have := T.f_BadLength
    have := T.g_BadLength_expected
    have := T.g_BadLength_found
    show sSeq _ _ (pEnds QA) [some (.err T.a_BadLength fs), none, none, none] μ
    walk_at "all"
    simp only [List.cons_append, List.nil_append, List.set_cons_zero, List.set_cons_succ, wipeD]
    refine go_lc ?_
    walk_at "all"
    exact hQ
local macro_rules | `(tactic| walk_at "call") => `(tactic| (refine Exists.intro _ (Exists.intro _ (Exists.intro _ (And.intro rfl (And.intro (by repeat first | exact List.mem_cons_self | refine List.mem_cons_of_mem _ ?_) ?_))))))
local macro_rules | `(tactic| walk_at "call") => `(tactic| (refine And.intro (Exists.intro _ (Exists.intro _ (And.intro rfl (And.intro (by assumption) (by assumption))))) ?_))
/-- a raised error and its refusal -/
def RefT (a_OutOfRange a_BadItem a_BadLength : Addr) (C : Addr) (fs : List (Str × D)) (out : List D) : Prop := (C = a_OutOfRange ∧ ∃ v0 : D, noErr v0 = true ∧ fs = ([("name", v0)] : List (Str × D)) ∧ out = [.v (.str "refused"), .v (.str "OutOfRange"), v0]) ∨ (C = a_BadItem ∧ ∃ v0 : D, noErr v0 = true ∧ fs = ([("index", v0)] : List (Str × D)) ∧ out = [.v (.str "refused"), .v (.str "BadItem"), v0]) ∨ (C = a_BadLength ∧ ∃ v0 v1 : D, noErr v0 = true ∧ noErr v1 = true ∧ fs = ([("found", v1), ("expected", v0)] : List (Str × D)) ∧ out = [.v (.str "refused"), .v (.str "BadLength"), v0, v1])
def fRef (a_OutOfRange a_BadItem a_BadLength : Addr) : FD := fun ds μ Q _ => ∃ C fs out, RefT a_OutOfRange a_BadItem a_BadLength C fs out ∧ ds = [.err C fs] ∧ Q (.tup out) μ
theorem sc__law_refusal : FnScope ["error", "kin"] ["error"] (defScope (top 45)) := ⟨rfl, rfl, rfl, by decide +kernel, rfl, by decide +kernel, by decide +kernel⟩
theorem ok__law_refusal (T : Tx K mg) : FnQ P w K mg base 2 T.a__law_refusal T.fd__law_refusal ["error"] (fRef T.a_OutOfRange T.a_BadItem T.a_BadLength) := by
  refine fnQ _ T.F__law_refusal sc__law_refusal (fun cd A outer s H E p B => (d_scons (d_set 1 B.nd (d_callH B (ok__law_kin T) (by decide) T.m__law_kin T.k__law_kin T.b__law_kin (d_cons (d_var 0) d_nil)))
    (d_scons (d_sif (d_tcmp o_ne (d_cb (id := "len") c_len T.n_len (by decide +kernel) (d_cons (d_var 1) d_nil)) d_int) (d_sone (d_ret (d_bin o_addU (d_tup (d_cons d_str d_nil)) (d_ct c_tuple T.n_tuple (by decide +kernel) (d_cons (d_var 1) d_nil))))) d_snil)
    (d_scons (d_sif (d_tval (d_cb (id := "isinstance") (c_isF (K := K) rfl (fun r hr => by rw [List.mem_singleton.mp hr]; exact B.mem)) T.n_isinstance (by decide +kernel) (d_cons (d_var 0) (d_cons (d_globV (v := .ref _) T.m_OutOfRange rfl) d_nil)))) (d_sone (d_ret (d_tup (d_cons d_str (d_cons (d_ix (d_var 1) d_int) (d_cons (d_fldE (K := K) rfl (fun r hr => by rw [List.mem_singleton.mp hr]; exact B.mem) (d_var 0)) d_nil)))))) d_snil)
    (d_scons (d_sif (d_tval (d_cb (id := "isinstance") (c_isF (K := K) rfl (fun r hr => by rw [List.mem_singleton.mp hr]; exact B.mem)) T.n_isinstance (by decide +kernel) (d_cons (d_var 0) (d_cons (d_globV (v := .ref _) T.m_BadItem rfl) d_nil)))) (d_sone (d_ret (d_tup (d_cons d_str (d_cons (d_ix (d_var 1) d_int) (d_cons (d_fldE (K := K) rfl (fun r hr => by rw [List.mem_singleton.mp hr]; exact B.mem) (d_var 0)) d_nil)))))) d_snil)
    (d_scons (d_sif (d_tval (d_cb (id := "isinstance") (c_isF (K := K) rfl (fun r hr => by rw [List.mem_singleton.mp hr]; exact B.mem)) T.n_isinstance (by decide +kernel) (d_cons (d_var 0) (d_cons (d_globV (v := .ref _) T.m_BadLength rfl) d_nil)))) (d_sone (d_ret (d_tup (d_cons d_str (d_cons (d_ix (d_var 1) d_int) (d_cons (d_fldE (K := K) rfl (fun r hr => by rw [List.mem_singleton.mp hr]; exact B.mem) (d_var 0)) (d_cons (d_fldE (K := K) rfl (fun r hr => by rw [List.mem_singleton.mp hr]; exact B.mem) (d_var 0)) d_nil))))))) d_snil)
    (d_scons (d_sif (d_tval (d_cb (id := "isinstance") (c_isF (K := K) rfl (fun r hr => by rw [List.mem_singleton.mp hr]; exact B.mem)) T.n_isinstance (by decide +kernel) (d_cons (d_var 0) (d_cons (d_globV (v := .ref _) T.m_BadText rfl) d_nil)))) (d_sone (d_ret (d_tup (d_cons d_str (d_cons (d_ix (d_var 1) d_int) (d_cons (d_fldE (K := K) rfl (fun r hr => by rw [List.mem_singleton.mp hr]; exact B.mem) (d_var 0)) d_nil)))))) d_snil)
    (d_scons (d_sif (d_tval (d_cb (id := "isinstance") (c_isF (K := K) rfl (fun r hr => by rw [List.mem_singleton.mp hr]; exact B.mem)) T.n_isinstance (by decide +kernel) (d_cons (d_var 0) (d_cons (d_globV (v := .ref _) T.m_NotInvertible rfl) d_nil)))) (d_sone (d_ret (d_tup (d_cons d_str (d_cons (d_ix (d_var 1) d_int) (d_cons (d_fldE (K := K) rfl (fun r hr => by rw [List.mem_singleton.mp hr]; exact B.mem) (d_var 0)) d_nil)))))) d_snil)
    (d_scons (d_sif (d_tval (d_cb (id := "isinstance") (c_isF (K := K) rfl (fun r hr => by rw [List.mem_singleton.mp hr]; exact B.mem)) T.n_isinstance (by decide +kernel) (d_cons (d_var 0) (d_cons (d_globV (v := .ref _) T.m_BadRing rfl) d_nil)))) (d_sone (d_ret (d_tup (d_cons d_str (d_cons (d_ix (d_var 1) d_int) (d_cons (d_fldE (K := K) rfl (fun r hr => by rw [List.mem_singleton.mp hr]; exact B.mem) (d_var 0)) d_nil)))))) d_snil)
    (d_scons (d_sif (d_tval (d_cb (id := "isinstance") (c_isF (K := K) rfl (fun r hr => by rw [List.mem_singleton.mp hr]; exact B.mem)) T.n_isinstance (by decide +kernel) (d_cons (d_var 0) (d_cons (d_globV (v := .ref _) T.m_BadParameters rfl) d_nil)))) (d_sone (d_ret (d_tup (d_cons d_str (d_cons (d_ix (d_var 1) d_int) (d_cons (d_fldE (K := K) rfl (fun r hr => by rw [List.mem_singleton.mp hr]; exact B.mem) (d_var 0)) d_nil)))))) d_snil)
    (d_scons (d_sif (d_tw (d_wor (d_tval (d_cb (id := "isinstance") (c_isF (K := K) rfl (fun r hr => by rw [List.mem_singleton.mp hr]; exact B.mem)) T.n_isinstance (by decide +kernel) (d_cons (d_var 0) (d_cons (d_globV (v := .ref _) T.m_UnknownName rfl) d_nil)))) (d_wor1 (d_tval (d_cb (id := "isinstance") (c_isF (K := K) rfl (fun r hr => by rw [List.mem_singleton.mp hr]; exact B.mem)) T.n_isinstance (by decide +kernel) (d_cons (d_var 0) (d_cons (d_globV (v := .ref _) T.m_NoEntry rfl) d_nil))))))) (d_sone (d_ret (d_tup (d_cons d_str (d_cons (d_ix (d_var 1) d_int) (d_cons (d_fldE (K := K) rfl (fun r hr => by rw [List.mem_singleton.mp hr]; exact B.mem) (d_var 0)) d_nil)))))) d_snil)
    (d_scons (d_sif (d_tw (d_wor (d_tval (d_cb (id := "isinstance") (c_isF (K := K) rfl (fun r hr => by rw [List.mem_singleton.mp hr]; exact B.mem)) T.n_isinstance (by decide +kernel) (d_cons (d_var 0) (d_cons (d_globV (v := .ref _) T.m_BadKey rfl) d_nil)))) (d_wor1 (d_tval (d_cb (id := "isinstance") (c_isF (K := K) rfl (fun r hr => by rw [List.mem_singleton.mp hr]; exact B.mem)) T.n_isinstance (by decide +kernel) (d_cons (d_var 0) (d_cons (d_globV (v := .ref _) T.m_BadLetter rfl) d_nil))))))) (d_sone (d_ret (d_tup (d_cons d_str (d_cons (d_ix (d_var 1) d_int) (d_cons (d_fldE (K := K) rfl (fun r hr => by rw [List.mem_singleton.mp hr]; exact B.mem) (d_var 0)) (d_cons (d_fldE (K := K) rfl (fun r hr => by rw [List.mem_singleton.mp hr]; exact B.mem) (d_var 0)) d_nil))))))) d_snil)
    (d_scons (d_sif (d_tval (d_cb (id := "isinstance") (c_isF (K := K) rfl (fun r hr => by rw [List.mem_singleton.mp hr]; exact B.mem)) T.n_isinstance (by decide +kernel) (d_cons (d_var 0) (d_cons (d_globV (v := .ref _) T.m_BadKeyText rfl) d_nil)))) (d_sone (d_ret (d_tup (d_cons d_str (d_cons (d_ix (d_var 1) d_int) (d_cons (d_fldE (K := K) rfl (fun r hr => by rw [List.mem_singleton.mp hr]; exact B.mem) (d_var 0)) (d_cons (d_fldE (K := K) rfl (fun r hr => by rw [List.mem_singleton.mp hr]; exact B.mem) (d_var 0)) d_nil))))))) d_snil)
    (d_scons (d_sif (d_tval (d_cb (id := "isinstance") (c_isF (K := K) rfl (fun r hr => by rw [List.mem_singleton.mp hr]; exact B.mem)) T.n_isinstance (by decide +kernel) (d_cons (d_var 0) (d_cons (d_globV (v := .ref _) T.m_BadRecord rfl) d_nil)))) (d_sone (d_ret (d_tup (d_cons d_str (d_cons (d_ix (d_var 1) d_int) (d_cons (d_fldE (K := K) rfl (fun r hr => by rw [List.mem_singleton.mp hr]; exact B.mem) (d_var 0)) d_nil)))))) d_snil)
    (d_scons (d_sif (d_tval (d_cb (id := "isinstance") (c_isF (K := K) rfl (fun r hr => by rw [List.mem_singleton.mp hr]; exact B.mem)) T.n_isinstance (by decide +kernel) (d_cons (d_var 0) (d_cons (d_globV (v := .ref _) T.m_BadCommand rfl) d_nil)))) (d_sone (d_ret (d_tup (d_cons d_str (d_cons (d_ix (d_var 1) d_int) (d_cons (d_fldE (K := K) rfl (fun r hr => by rw [List.mem_singleton.mp hr]; exact B.mem) (d_var 0)) (d_cons (d_fldE (K := K) rfl (fun r hr => by rw [List.mem_singleton.mp hr]; exact B.mem) (d_var 0)) (d_cons (d_fldE (K := K) rfl (fun r hr => by rw [List.mem_singleton.mp hr]; exact B.mem) (d_var 0)) d_nil)))))))) d_snil)
    (d_scons (d_sif (d_tval (d_cb (id := "isinstance") (c_isF (K := K) rfl (fun r hr => by rw [List.mem_singleton.mp hr]; exact B.mem)) T.n_isinstance (by decide +kernel) (d_cons (d_var 0) (d_cons (d_globV (v := .ref _) T.m_NothingLeft rfl) d_nil)))) (d_sone (d_ret (d_tup (d_cons d_str (d_cons (d_ix (d_var 1) d_int) (d_cons (d_fldE (K := K) rfl (fun r hr => by rw [List.mem_singleton.mp hr]; exact B.mem) (d_var 0)) d_nil)))))) d_snil)
    (d_sone (d_ret (d_tup (d_cons d_str (d_cons (d_ix (d_var 1) d_int) d_nil))))))))))))))))))))) ?_
  rintro ds μ QA hl ⟨C, fs, out, hR, rfl, hQ⟩
  rcases hR with ⟨rfl, hR⟩ | ⟨rfl, hR⟩ | ⟨rfl, hR⟩
  · obtain ⟨v0, hv0, rfl, rfl⟩ := hR
    have := T.q_OutOfRange_NoiseboundError
    have := T.q_OutOfRange_OutOfRange
    have := T.q_OutOfRange_BadItem
    have := T.q_OutOfRange_BadLength
    have := T.q_OutOfRange_BadText
    have := T.q_OutOfRange_BadPadding
    have := T.q_OutOfRange_WrongPhase
    have := T.q_OutOfRange_NotInvertible
    have := T.q_OutOfRange_BadRing
    have := T.q_OutOfRange_BadParameters
    have := T.q_OutOfRange_UnknownName
    have := T.q_OutOfRange_DifferentRings
    have := T.q_OutOfRange_BadKey
    have := T.q_OutOfRange_BadLetter
    have := T.q_OutOfRange_BadKeyText
    have := T.q_OutOfRange_BadRecord
    have := T.q_OutOfRange_BadCommand
    have := T.q_OutOfRange_NoEntry
    have := T.q_OutOfRange_NothingLeft
    have := T.q_OutOfRange_ValueError
    have := T.x_OutOfRange
    have := T.f_OutOfRange
    have := T.g_OutOfRange_name
    show sSeq _ _ (pEnds QA) [some (.err T.a_OutOfRange _), none] μ
    walk_at "all"
    refine ⟨?_, hQ⟩
    simp [noErr, noErrs, hv0]
  · obtain ⟨v0, hv0, rfl, rfl⟩ := hR
    have := T.q_BadItem_NoiseboundError
    have := T.q_BadItem_OutOfRange
    have := T.q_BadItem_BadItem
    have := T.q_BadItem_BadLength
    have := T.q_BadItem_BadText
    have := T.q_BadItem_BadPadding
    have := T.q_BadItem_WrongPhase
    have := T.q_BadItem_NotInvertible
    have := T.q_BadItem_BadRing
    have := T.q_BadItem_BadParameters
    have := T.q_BadItem_UnknownName
    have := T.q_BadItem_DifferentRings
    have := T.q_BadItem_BadKey
    have := T.q_BadItem_BadLetter
    have := T.q_BadItem_BadKeyText
    have := T.q_BadItem_BadRecord
    have := T.q_BadItem_BadCommand
    have := T.q_BadItem_NoEntry
    have := T.q_BadItem_NothingLeft
    have := T.q_BadItem_ValueError
    have := T.x_BadItem
    have := T.f_BadItem
    have := T.g_BadItem_index
    show sSeq _ _ (pEnds QA) [some (.err T.a_BadItem _), none] μ
    walk_at "all"
    refine ⟨?_, hQ⟩
    simp [noErr, noErrs, hv0]
  · obtain ⟨v0, v1, hv0, hv1, rfl, rfl⟩ := hR
    have := T.q_BadLength_NoiseboundError
    have := T.q_BadLength_OutOfRange
    have := T.q_BadLength_BadItem
    have := T.q_BadLength_BadLength
    have := T.q_BadLength_BadText
    have := T.q_BadLength_BadPadding
    have := T.q_BadLength_WrongPhase
    have := T.q_BadLength_NotInvertible
    have := T.q_BadLength_BadRing
    have := T.q_BadLength_BadParameters
    have := T.q_BadLength_UnknownName
    have := T.q_BadLength_DifferentRings
    have := T.q_BadLength_BadKey
    have := T.q_BadLength_BadLetter
    have := T.q_BadLength_BadKeyText
    have := T.q_BadLength_BadRecord
    have := T.q_BadLength_BadCommand
    have := T.q_BadLength_NoEntry
    have := T.q_BadLength_NothingLeft
    have := T.q_BadLength_ValueError
    have := T.x_BadLength
    have := T.f_BadLength
    have := T.g_BadLength_expected
    have := T.g_BadLength_found
    show sSeq _ _ (pEnds QA) [some (.err T.a_BadLength _), none] μ
    walk_at "all"
    refine ⟨?_, hQ⟩
    simp [noErr, noErrs, hv0, hv1]
end
end Pf
set_option Elab.async false
set_option linter.all false
set_option maxRecDepth 100000
set_option maxHeartbeats 4000000
namespace Pf
open PySem L2 DK
theorem same_ok {n : Nat} {a e : D} {μ : Sto} {Q : QD} {X : QX} (h1 : plD (n + 1) a = true) (h2 : plD (n + 1) e = true) (h3 : sameD (n + 1) a e = true) (q : Q (.v (.bl true)) μ) : fSame (n + 1) [a, e] μ Q X := ⟨a, e, rfl, .inl ⟨h1, h2, by rw [h3]; exact q⟩⟩
theorem bet_yes {x lo hi : Int} (h1 : lo ≤ x) (h2 : x ≤ hi) : betD (.v (.int x)) lo hi = true := by
  show (decide (lo ≤ x) && decide (x ≤ hi)) = true
  rw [decide_eq_true h1, decide_eq_true h2]
  rfl
theorem bet_no {x lo hi : Int} (h : x < lo ∨ hi < x) : betD (.v (.int x)) lo hi = false := by
  show (decide (lo ≤ x) && decide (x ≤ hi)) = false
  rcases h with h | h
  · rw [decide_eq_false (by omega)]
    rfl
  · rw [decide_eq_false (by omega : ¬ x ≤ hi), Bool.and_false]
/-- a value that is none of lo to hi -/
def NoD (lo hi : Int) (d : D) : Prop := (∃ t, tyD d = some t) ∧ betD d lo hi = false
theorem NoD.int {x lo hi : Int} (h : x < lo ∨ hi < x) : NoD lo hi (.v (.int x)) := ⟨⟨_, rfl⟩, bet_no h⟩
theorem NoD.out {lo hi : Int} {d : D} (h : OutD lo hi d) : NoD lo hi d := by
  rcases h with h | ⟨r, rfl, h⟩
  · simp only [othersD, List.mem_cons, List.not_mem_nil, or_false] at h
    rcases h with rfl | rfl | rfl | rfl | rfl | rfl | rfl | rfl | rfl | rfl <;> exact ⟨⟨_, rfl⟩, rfl⟩
  · exact .int h
/-- the script's store holds no cell -/
theorem st_lb {n : Nat} {c : Cell} (h : StC c) : lbC n c = true := by
  obtain ⟨ns, i, c', t, m, k, rfl, _⟩ := h
  show (lbs n (ns.map fun z => D.v (.int z)) && true) = true
  rw [lbs_ints]
  rfl
theorem st_keeps {c c' : Cell} {μ : Sto} (h : StC c') : Keeps (c :: μ) (c' :: μ) := Keeps.head (st_lb h)
end Pf
set_option Elab.async false
set_option linter.all false
set_option maxRecDepth 100000
set_option maxHeartbeats 4000000
namespace Pf
open PySem L2 DK
local macro_rules | `(tactic| walk_at "side") => `(tactic| first
  | decide
  | ((with_reducible show (_ : Nat) ≤ _); exact Nat.le_of_ble_eq_true rfl)
  | ((with_reducible show (_ : Int) < _); omega)
  | ((with_reducible show (_ : Int) ≤ _); omega)
  | ((with_reducible show CM _ _); exact Or.inl (Or.inr (by decide)))
  | ((with_reducible show CM _ _); exact Or.inl (Or.inl (by decide)))
  | ((with_reducible show CDivW _ _); exact ⟨by first | assumption | omega, by first | assumption | decide⟩)
  | ((with_reducible show scal _ _ = true); rfl)
  | ((with_reducible show CPow _ _); exact ⟨by decide, by decide, by decide⟩)
  | ((with_reducible show _ = _); rfl)
  | ((with_reducible show (_ = _) ∧ (_ = _)); exact ⟨rfl, rfl⟩)
  | ((with_reducible show (_ : Int) ≤ _ ∧ (_ : Int) < _); omega)
  | ((with_reducible show ((_ : Int) ≤ _ ∧ (_ : Int) < _) ∧ ((_ : Int) ≤ _ ∧ (_ : Int) < _)); omega)
  | ((with_reducible show RgOk _ _); unfold RgOk; omega)
  | assumption
  | walk_at "mine"
  | fail)
local macro_rules | `(tactic| walk_at "mine") => `(tactic| fail)
local macro_rules | `(tactic| walk_at "br") => `(tactic| ((refine And.intro (fun (e : (_ : Bool) = true) => ?_) (fun (e : (_ : Bool) = false) => ?_)) <;> (try simp only [Bool.not_eq_true', Bool.not_eq_false', decide_eq_true_eq, decide_eq_false_iff_not, V.int.injEq] at e)))
local macro_rules | `(tactic| walk_at "st") => `(tactic| first
  | (refine at_slots (by (simp only [List.length_cons, List.length_nil, startD_cons, startD_none, startD_nil, List.set_cons_zero, List.set_cons_succ]; rfl)) ?_)
  | ((conv => whnf); first | (with_reducible refine And.intro (fun _ => ?_) (fun e => Bool.noConfusion e)) | (with_reducible refine And.intro (fun e => Bool.noConfusion e) (fun _ => ?_)) | ((with_reducible refine And.intro ?walk_side ?_); (case walk_side => walk_at "side")))
  | walk_at "call"
  | fail)
local macro_rules | `(tactic| walk_at "call") => `(tactic| fail)
local macro_rules | `(tactic| walk_at "go") => `(tactic| (repeat walk_at "st"))
local macro_rules | `(tactic| walk_at "all") => `(tactic| (repeat' (first
  | (refine at_slots (by (simp only [List.length_cons, List.length_nil, startD_cons, startD_none, startD_nil, List.set_cons_zero, List.set_cons_succ]; rfl)) ?_)
  | ((conv => whnf); first | (with_reducible refine And.intro (fun _ => ?_) (fun e => Bool.noConfusion e)) | (with_reducible refine And.intro (fun e => Bool.noConfusion e) (fun _ => ?_)) | ((with_reducible refine And.intro (fun (e : (_ : Bool) = true) => ?_) (fun (e : (_ : Bool) = false) => ?_)) <;> (try simp only [Bool.not_eq_true', Bool.not_eq_false', decide_eq_true_eq, decide_eq_false_iff_not, V.int.injEq] at e)) | ((with_reducible refine And.intro ?walk_side ?_); (case walk_side => walk_at "side")))
  | walk_at "call"
  | fail)))
theorem set_at {μ : Sto} {k : Nat} {es : List D} {i : Int} {d : D} {Q : Sto → Prop} (hm : μ[k]? = some (.lst es)) (h0 : 0 ≤ i) (h1 : i < es.length) (h : Q (μ.set k (.lst (es.set i.toNat d)))) : setIt (.loc k) (.v (.int i)) d μ Q := by
  unfold setIt
  have e : ixN es.length i = some i.toNat := by unfold ixN; rw [if_pos h0, if_pos h1]
  simp [hm, e, h]
/-- a flat thing, or a cell of flat things, is spoilt -/
def fSpoil : Nat → FD
  | 0 => fun _ _ _ _ => False
  | n + 1 => fun ds μ Q _ => ∃ x, ds = [x] ∧ ((flatD x = true ∧ Q (.v .non) μ) ∨ (∃ k es, x = .loc k ∧ μ[k]? = some (.lst es) ∧ es.all flatD = true ∧ es.length ≤ 40000 ∧ 1 ≤ n ∧ ∀ fs : List D, fs.all flatD = true → Q (.v .non) (μ.set k (.lst fs))) ∨ (∃ es, x = .tup es ∧ es.all flatD = true ∧ es.length ≤ 40000 ∧ 1 ≤ n ∧ Q (.v .non) μ) ∨ (∃ a k es, x = .tup [a, .loc k] ∧ flatD a = true ∧ μ[k]? = some (.lst es) ∧ es.all flatD = true ∧ es.length ≤ 40000 ∧ 2 ≤ n ∧ ∀ fs : List D, fs.all flatD = true → Q (.v .non) (μ.set k (.lst fs))))
section
variable {P : Program} {w : World} {K : PySem.W.Frag} {mg : Str → Option Value} {base : Heap}
end
end Pf
set_option Elab.async false
set_option linter.all false
set_option maxRecDepth 100000
set_option maxHeartbeats 4000000
namespace Pf
open PySem L2 DK
local macro_rules | `(tactic| walk_at "side") => `(tactic| first
  | decide
  | ((with_reducible show (_ : Nat) ≤ _); exact Nat.le_of_ble_eq_true rfl)
  | ((with_reducible show (_ : Int) < _); omega)
  | ((with_reducible show (_ : Int) ≤ _); omega)
  | ((with_reducible show CM _ _); exact Or.inl (Or.inr (by decide)))
  | ((with_reducible show CM _ _); exact Or.inl (Or.inl (by decide)))
  | ((with_reducible show CDivW _ _); exact ⟨by first | assumption | omega, by first | assumption | decide⟩)
  | ((with_reducible show scal _ _ = true); rfl)
  | ((with_reducible show CPow _ _); exact ⟨by decide, by decide, by decide⟩)
  | ((with_reducible show _ = _); rfl)
  | ((with_reducible show (_ = _) ∧ (_ = _)); exact ⟨rfl, rfl⟩)
  | ((with_reducible show (_ : Int) ≤ _ ∧ (_ : Int) < _); omega)
  | ((with_reducible show ((_ : Int) ≤ _ ∧ (_ : Int) < _) ∧ ((_ : Int) ≤ _ ∧ (_ : Int) < _)); omega)
  | ((with_reducible show RgOk _ _); unfold RgOk; omega)
  | assumption
  | walk_at "mine"
  | fail)
local macro_rules | `(tactic| walk_at "mine") => `(tactic| fail)
local macro_rules | `(tactic| walk_at "br") => `(tactic| ((refine And.intro (fun (e : (_ : Bool) = true) => ?_) (fun (e : (_ : Bool) = false) => ?_)) <;> (try simp only [Bool.not_eq_true', Bool.not_eq_false', decide_eq_true_eq, decide_eq_false_iff_not, V.int.injEq] at e)))
local macro_rules | `(tactic| walk_at "st") => `(tactic| first
  | (refine at_slots (by (simp only [List.length_cons, List.length_nil, startD_cons, startD_none, startD_nil, List.set_cons_zero, List.set_cons_succ]; rfl)) ?_)
  | ((conv => whnf); first | (with_reducible refine And.intro (fun _ => ?_) (fun e => Bool.noConfusion e)) | (with_reducible refine And.intro (fun e => Bool.noConfusion e) (fun _ => ?_)) | ((with_reducible refine And.intro ?walk_side ?_); (case walk_side => walk_at "side")))
  | walk_at "call"
  | fail)
local macro_rules | `(tactic| walk_at "call") => `(tactic| fail)
local macro_rules | `(tactic| walk_at "go") => `(tactic| (repeat walk_at "st"))
local macro_rules | `(tactic| walk_at "all") => `(tactic| (repeat' (first
  | (refine at_slots (by (simp only [List.length_cons, List.length_nil, startD_cons, startD_none, startD_nil, List.set_cons_zero, List.set_cons_succ]; rfl)) ?_)
  | ((conv => whnf); first | (with_reducible refine And.intro (fun _ => ?_) (fun e => Bool.noConfusion e)) | (with_reducible refine And.intro (fun e => Bool.noConfusion e) (fun _ => ?_)) | ((with_reducible refine And.intro (fun (e : (_ : Bool) = true) => ?_) (fun (e : (_ : Bool) = false) => ?_)) <;> (try simp only [Bool.not_eq_true', Bool.not_eq_false', decide_eq_true_eq, decide_eq_false_iff_not, V.int.injEq] at e)) | ((with_reducible refine And.intro ?walk_side ?_); (case walk_side => walk_at "side")))
  | walk_at "call"
  | fail)))
local macro_rules | `(tactic| walk_at "mine") => `(tactic| (show CShl _ _; exact cshl_small (by omega) (by omega) (by omega) (by omega)))
local macro_rules | `(tactic| walk_at "mine") => `(tactic| (show CM _ _; exact Or.inl (Or.inl (by omega))))
local macro_rules | `(tactic| walk_at "mine") => `(tactic| (show CM _ _; exact Or.inl (Or.inr (by omega))))
def TyD (d : D) : Prop := ∃ t, tyD d = some t
theorem TyD.int {i : Int} : TyD (.v (.int i)) := ⟨_, rfl⟩
def iD (xs : List Int) : List D := xs.map fun z => .v (.int z)
theorem iD_len (xs : List Int) : (iD xs).length = xs.length := List.length_map _
theorem iD_get {xs : List Int} {n : Nat} {d : D} (h : (iD xs)[n]? = some d) : ∃ k : Int, d = .v (.int k) ∧ xs[n]? = some k := by
  unfold iD at h
  rw [List.getElem?_map, Option.map_eq_some_iff] at h
  obtain ⟨k, hk, rfl⟩ := h
  exact ⟨k, rfl, hk⟩
/-- bytes -/
def ByL (bs : List Int) : Prop := ∀ b ∈ bs, 0 ≤ b ∧ b ≤ 255
theorem all_bytes : ∀ {es : List D}, (∀ e ∈ es, betD e 0 255 = true) → ∃ bs : List Int, es = iD bs ∧ ByL bs
  | [], _ => ⟨[], rfl, fun _ h => (List.not_mem_nil h).elim⟩
  | e :: es, h => by
    obtain ⟨bs, rfl, hb⟩ := all_bytes (es := es) fun x hx => h x (List.mem_cons_of_mem _ hx)
    obtain ⟨i, rfl, h0, h1⟩ := bet_inv (h e List.mem_cons_self)
    refine ⟨i :: bs, rfl, fun b hb' => ?_⟩
    rcases List.mem_cons.mp hb' with rfl | hb'
    · exact ⟨h0, h1⟩
    · exact hb b hb'
theorem bytes_all {bs : List Int} (h : ByL bs) : ∀ e ∈ iD bs, betD e 0 255 = true := by
  intro e he
  obtain ⟨z, hz, rfl⟩ := List.mem_map.mp he
  exact bet_yes (h z hz).1 (h z hz).2
theorem ty_iD {xs : List Int} : ∀ e ∈ iD xs, TyD e := by
  intro e he
  obtain ⟨z, hz, rfl⟩ := List.mem_map.mp he
  exact TyD.int
/-- the number whose bytes these are, the lowest first -/
def nO : List Int → Int
  | [] => 0
  | b :: bs => b + 256 * nO bs
/-- a number's first n bytes -/
def bO : Nat → Int → List Int
  | 0, _ => []
  | n + 1, v => v % 256 :: bO n (v / 256)
section
variable {P : Program} {w : World} {K : PySem.W.Frag} {mg : Str → Option Value} {base : Heap}
/-- items between two bounds: fine, or the first one that is not -/
def ItB (es : List D) (lo hi : Int) (bad : Int → Prop) (good : Prop) : Prop := (∀ e ∈ es, TyD e) ∧ ((∀ e ∈ es, betD e lo hi = true) → good) ∧ ∀ (n : Nat) x, es[n]? = some x → betD x lo hi = false → (∀ (m : Nat) y, m < n → es[m]? = some y → betD y lo hi = true) → bad n
def fItems (C : Addr) : FD := fun ds μ Q X => ∃ (d : D) (es : List D) (lo hi : Int), ds = [d, .v (.int lo), .v (.int hi)] ∧ staysD d es μ ∧ ItB es lo hi (fun n => X ⟨C, [("index", .v (.int n))]⟩ μ) (Q (.v .non) μ)
/-- a byte list, without a length -/
def fBytes (C : Addr) : FD := fun ds μ Q X => ∃ (d : D) (es : List D), ds = [d, .v .non] ∧ staysD d es μ ∧ ItB es 0 255 (fun n => X ⟨C, [("index", .v (.int n))]⟩ μ) (Q (.v .non) μ)
def fLen0 : FD := fun _ _ _ _ => False
def fLint (C : Addr) : FD := fun ds μ Q X => ∃ (d : D) (es : List D), ds = [d] ∧ staysD d es μ ∧ es.length ≤ 500000 ∧ ItB es 0 255 (fun n => X ⟨C, [("index", .v (.int n))]⟩ μ) (∀ bs : List Int, es = iD bs → ByL bs → Q (.v (.int (nO bs))) μ)
end
end Pf
set_option Elab.async false
set_option linter.all false
set_option maxRecDepth 100000
set_option maxHeartbeats 4000000
namespace Pf
open PySem L2 DK
local macro_rules | `(tactic| walk_at "side") => `(tactic| first
  | decide
  | ((with_reducible show (_ : Nat) ≤ _); exact Nat.le_of_ble_eq_true rfl)
  | ((with_reducible show (_ : Int) < _); omega)
  | ((with_reducible show (_ : Int) ≤ _); omega)
  | ((with_reducible show CM _ _); exact Or.inl (Or.inr (by decide)))
  | ((with_reducible show CM _ _); exact Or.inl (Or.inl (by decide)))
  | ((with_reducible show CDivW _ _); exact ⟨by first | assumption | omega, by first | assumption | decide⟩)
  | ((with_reducible show scal _ _ = true); rfl)
  | ((with_reducible show CPow _ _); exact ⟨by decide, by decide, by decide⟩)
  | ((with_reducible show _ = _); rfl)
  | ((with_reducible show (_ = _) ∧ (_ = _)); exact ⟨rfl, rfl⟩)
  | ((with_reducible show (_ : Int) ≤ _ ∧ (_ : Int) < _); omega)
  | ((with_reducible show ((_ : Int) ≤ _ ∧ (_ : Int) < _) ∧ ((_ : Int) ≤ _ ∧ (_ : Int) < _)); omega)
  | ((with_reducible show RgOk _ _); unfold RgOk; omega)
  | assumption
  | walk_at "mine"
  | fail)
local macro_rules | `(tactic| walk_at "mine") => `(tactic| fail)
local macro_rules | `(tactic| walk_at "br") => `(tactic| ((refine And.intro (fun (e : (_ : Bool) = true) => ?_) (fun (e : (_ : Bool) = false) => ?_)) <;> (try simp only [Bool.not_eq_true', Bool.not_eq_false', decide_eq_true_eq, decide_eq_false_iff_not, V.int.injEq] at e)))
local macro_rules | `(tactic| walk_at "st") => `(tactic| first
  | (refine at_slots (by (simp only [List.length_cons, List.length_nil, startD_cons, startD_none, startD_nil, List.set_cons_zero, List.set_cons_succ]; rfl)) ?_)
  | ((conv => whnf); first | (with_reducible refine And.intro (fun _ => ?_) (fun e => Bool.noConfusion e)) | (with_reducible refine And.intro (fun e => Bool.noConfusion e) (fun _ => ?_)) | ((with_reducible refine And.intro ?walk_side ?_); (case walk_side => walk_at "side")))
  | walk_at "call"
  | fail)
local macro_rules | `(tactic| walk_at "call") => `(tactic| fail)
local macro_rules | `(tactic| walk_at "go") => `(tactic| (repeat walk_at "st"))
local macro_rules | `(tactic| walk_at "all") => `(tactic| (repeat' (first
  | (refine at_slots (by (simp only [List.length_cons, List.length_nil, startD_cons, startD_none, startD_nil, List.set_cons_zero, List.set_cons_succ]; rfl)) ?_)
  | ((conv => whnf); first | (with_reducible refine And.intro (fun _ => ?_) (fun e => Bool.noConfusion e)) | (with_reducible refine And.intro (fun e => Bool.noConfusion e) (fun _ => ?_)) | ((with_reducible refine And.intro (fun (e : (_ : Bool) = true) => ?_) (fun (e : (_ : Bool) = false) => ?_)) <;> (try simp only [Bool.not_eq_true', Bool.not_eq_false', decide_eq_true_eq, decide_eq_false_iff_not, V.int.injEq] at e)) | ((with_reducible refine And.intro ?walk_side ?_); (case walk_side => walk_at "side")))
  | walk_at "call"
  | fail)))
local macro_rules | `(tactic| walk_at "call") => `(tactic| (show fTake _ _ _ _; refine ⟨_, _, _, rfl, by first | assumption | decide | exact log_small (by omega) (by omega), rfl, ‹StC _›, fun r c' hr0 hr1 hc => ?_⟩))
local macro_rules | `(tactic| walk_at "call") => `(tactic| (show fBetw _ _ _ _; refine ⟨_, _, _, _, rfl, by first | assumption | decide | omega, rfl, ‹StC _›, fun r c' hr0 hr1 hc => ?_⟩))
local macro_rules | `(tactic| walk_at "call") => `(tactic| (show fBeyond _ _ _ _; refine ⟨_, _, _, _, rfl, rfl, ‹StC _›, fun d c' hd hc => ?_⟩))
local macro_rules | `(tactic| walk_at "mine") => `(tactic| (show CM _ _; exact Or.inl (Or.inl (by omega))))
local macro_rules | `(tactic| walk_at "mine") => `(tactic| (show CM _ _; exact Or.inl (Or.inr (by omega))))
local macro_rules | `(tactic| walk_at "call") => `(tactic| (show fDraw _ _ _ _; refine ⟨_, _, _, rfl, rfl, ‹StC _›, fun r c' hr0 hr1 hc => ?_⟩))
theorem iD_snoc (xs : List Int) (x : Int) : iD (xs ++ [x]) = iD xs ++ [.v (.int x)] := by simp [iD]
theorem lbs_iD (n : Nat) : ∀ l : List Int, lbs n (iD l) = true
  | [] => rfl
  | _ :: l => lbs_iD n l
theorem ne_iD : ∀ l : List Int, noErrs (iD l) = true
  | [] => rfl
  | _ :: l => ne_iD l
theorem set_last {μ : Sto} {k : Nat} {es : List D} {d : D} {Q : Sto → Prop} (hm : μ[k]? = some (.lst es)) (h0 : 0 < es.length) (h : Q (μ.set k (.lst (es.set (es.length - 1) d)))) : setIt (.loc k) (.v (.int (-1))) d μ Q := by
  unfold setIt
  have e : ixN es.length (-1) = some (es.length - 1) := by
    unfold ixN
    rw [if_neg (by omega), if_pos (by omega)]
    congr 1
    omega
  simp [hm, e, h]
theorem out_pl {lo hi : Int} {d : D} (h : OutD lo hi d) : plD 3 d = true := by
  rcases h with h | ⟨r, rfl, _⟩
  · simp only [othersD, List.mem_cons, List.not_mem_nil, or_false] at h
    rcases h with rfl | rfl | rfl | rfl | rfl | rfl | rfl | rfl | rfl | rfl <;> rfl
  · rfl
theorem ok_iD {bs : List Int} : ∀ e ∈ iD bs, TyD e ∧ plD 3 e = true := fun e he => by
  refine ⟨ty_iD e he, ?_⟩
  obtain ⟨z, _, rfl⟩ := List.mem_map.mp he
  rfl
theorem bent_fin {N : Nat} {es0 : List D} {a : Nat} {d2 : D} (hl : es0.length ≤ N) (hall : ∀ e ∈ es0, TyD e ∧ plD 3 e = true) (hpre : ∀ (m : Nat) y, m < a → es0[m]? = some y → betD y 0 255 = true) (ha : a < es0.length) (hd : OutD 0 255 d2) :
    (es0.set a d2).length ≤ N ∧ (∀ e ∈ es0.set a d2, TyD e ∧ plD 3 e = true) ∧ (es0.set a d2)[a]? = some d2 ∧ ∀ (m : Nat) y, m < a → (es0.set a d2)[m]? = some y → betD y 0 255 = true := by
  refine ⟨by rw [List.length_set]; exact hl, fun e he => ?_, List.getElem?_set_self ha, fun m y hm hy => ?_⟩
  · rcases List.mem_or_eq_of_mem_set he with h | rfl
    · exact hall e h
    · exact ⟨(NoD.out hd).1, out_pl hd⟩
  · rw [List.getElem?_set_ne (by omega)] at hy
    exact hpre m y hm hy
theorem sub_set {ρ : Rho} {i j : Nat} {x y d : D} {μ : Sto} {K : Sto → Prop} {X1 X2 : QX} (h1 : ρ[i]? = some (some x)) (h2 : ρ[j]? = some (some y)) (h : setIt x y d μ K) : aVar i ρ μ (fun x' μ2 => aVar j ρ μ2 (fun y' μ3 => setIt x' y' d μ3 K) X1) X2 := by
  unfold aVar
  rw [h1]
  show (match ρ[j]? with | some (some d) => _ | _ => _)
  rw [h2]
  exact h
theorem same_self : ∀ (n : Nat) (d : D), plD n d = true → sameD n d d = true
  | 0, _, h => Bool.noConfusion h
  | n + 1, d, h => by
    have all : ∀ ds : List D, ds.all (plD n) = true → (ds.zip ds).all (fun p => sameD n p.1 p.2) = true := fun ds hd => zip_all rfl fun j x y hx hy => by
      cases hx.symm.trans hy
      exact same_self n x (List.all_eq_true.mp hd x (List.mem_of_getElem? hx))
    cases d with
    | v x => cases x <;> first | (cases h; done) | (simp [sameD]; done) | (simp [sameD, isV]; done) | rfl
    | lst es =>
      have h2 := (Bool.and_eq_true_iff.mp (show (decide (es.length ≤ 30000) && es.all (plD n)) = true from h)).2
      show (decide (es.length = es.length) && (es.zip es).all fun p => sameD n p.1 p.2) = true
      rw [all es h2, decide_eq_true rfl]
      rfl
    | tup es =>
      have h2 := (Bool.and_eq_true_iff.mp (show (decide (es.length ≤ 30000) && es.all (plD n)) = true from h)).2
      show (decide (es.length = es.length) && (es.zip es).all fun p => sameD n p.1 p.2) = true
      rw [all es h2, decide_eq_true rfl]
      rfl
    | _ => cases h
theorem lbs_of {k : Nat} : ∀ {ds : List D}, (∀ d ∈ ds, lb k d = true ∧ noErr d = true) → lbs k ds = true ∧ noErrs ds = true
  | [], _ => ⟨rfl, rfl⟩
  | d :: ds, h => by
    have h1 := h d List.mem_cons_self
    have h2 := lbs_of (ds := ds) fun x hx => h x (List.mem_cons_of_mem _ hx)
    refine ⟨?_, ?_⟩
    · show (lb k d && lbs k ds) = true
      rw [h1.1, h2.1]
      rfl
    · show (noErr d && noErrs ds) = true
      rw [h1.2, h2.2]
      rfl
theorem pl_lb {k : Nat} : ∀ (n : Nat) (d : D), plD n d = true → lb k d = true ∧ noErr d = true
  | 0, _, h => Bool.noConfusion h
  | n + 1, d, h => by
    cases d with
    | v x => exact ⟨rfl, rfl⟩
    | lst es =>
      have h2 := (Bool.and_eq_true_iff.mp (show (decide (es.length ≤ 30000) && es.all (plD n)) = true from h)).2
      exact lbs_of fun d hd => pl_lb n d (List.all_eq_true.mp h2 d hd)
    | tup es =>
      have h2 := (Bool.and_eq_true_iff.mp (show (decide (es.length ≤ 30000) && es.all (plD n)) = true from h)).2
      exact lbs_of fun d hd => pl_lb n d (List.all_eq_true.mp h2 d hd)
    | _ => cases h
theorem pl_lst {n : Nat} {es : List D} (h1 : es.length ≤ 30000) (h : ∀ e ∈ es, plD n e = true) : plD (n + 1) (.lst es) = true := by
  show (decide (es.length ≤ 30000) && es.all (plD n)) = true
  rw [decide_eq_true h1, List.all_eq_true.mpr h]
  rfl
theorem fzs_of {μ : Sto} {j : Nat} : ∀ {ds : List D}, (∀ d ∈ ds, fz μ j d = some d) → fzs μ j ds = some ds
  | [], _ => rfl
  | d :: ds, h => by
    rw [fzs, h d List.mem_cons_self, fzs_of (ds := ds) fun x hx => h x (List.mem_cons_of_mem _ hx)]
theorem fz_pl {μ : Sto} {j : Nat} : ∀ (n : Nat) (d : D), plD n d = true → fz μ j d = some d
  | 0, _, h => Bool.noConfusion h
  | n + 1, d, h => by
    cases d with
    | v x => rfl
    | lst es =>
      have h2 := (Bool.and_eq_true_iff.mp (show (decide (es.length ≤ 30000) && es.all (plD n)) = true from h)).2
      rw [fz, fzs_of fun d hd => fz_pl n d (List.all_eq_true.mp h2 d hd)]
    | tup es =>
      have h2 := (Bool.and_eq_true_iff.mp (show (decide (es.length ≤ 30000) && es.all (plD n)) = true from h)).2
      rw [fz, fzs_of fun d hd => fz_pl n d (List.all_eq_true.mp h2 d hd)]
    | _ => cases h
theorem fzs_pl {μ : Sto} {j n : Nat} {es : List D} (h : ∀ e ∈ es, plD n e = true) : fzs μ j es = some es := fzs_of fun d hd => fz_pl n d (h d hd)
theorem fz_pair {c' : Cell} {es : List D} {k : Int} (h : lbs 1 es = true ∧ noErrs es = true) : fz [c', .lst es] 1 (.tup [.loc 1, .v (.int k)]) = some (.tup [.lst es, .v (.int k)]) := by
  have e1 : fz [c', .lst es] 1 (.loc 1) = some (.lst es) := fz_new (μ := [c']) h.1 h.2
  have e2 : fzs [c', .lst es] 1 [.loc 1, .v (.int k)] = some [.lst es, .v (.int k)] := by
    rw [fzs.eq_def]
    simp only [e1]
    rfl
  rw [fz.eq_def]
  simp only [e2]
theorem fz_v (μ : Sto) (n : Nat) (v : V) : fz μ n (.v v) = some (.v v) := by
  unfold fz
  rfl
theorem stc_lb {n : Nat} {c : Cell} (h : StC c) : lbC n c = true := by
  obtain ⟨ns, i, c', t, m, k, rfl, _⟩ := h
  show (lbs n (ns.map fun z => D.v (.int z)) && true) = true
  rw [show lbs n (ns.map fun z => D.v (.int z)) = true from lbs_iD n ns]
  rfl
theorem one_lb {n : Nat} {c : Cell} (h : StC c) : ∀ x ∈ [c], lbC n x = true := by
  intro x hx
  rw [List.mem_singleton.mp hx]
  exact stc_lb h
theorem rep_iD (n : Nat) (b : Int) : (List.replicate n [D.v (.int b)]).flatten = iD (List.replicate n b) := by
  induction n with
  | zero => rfl
  | succ n ih =>
    rw [List.replicate_succ, List.flatten_cons, ih, List.replicate_succ]
    rfl
theorem by_rep {n : Nat} {b : Int} (h0 : 0 ≤ b) (h1 : b ≤ 255) : ByL (List.replicate n b) := fun x hx => by
  rw [List.eq_of_mem_replicate hx]
  exact ⟨h0, h1⟩
theorem by_snoc {bs : List Int} {b : Int} (h : ByL bs) (h0 : 0 ≤ b) (h1 : b ≤ 255) : ByL (bs ++ [b]) := fun x hx => by
  rcases List.mem_append.mp hx with hx | hx
  · exact h x hx
  · rw [List.mem_singleton.mp hx]
    exact ⟨h0, h1⟩
theorem few_at {r1 r2 : Int} (i : Int) (h1 : 0 ≤ r1) (h2 : r1 ≤ 255) (h3 : 0 ≤ r2) (h4 : r2 ≤ 255) : ∃ b : Int, atI [D.v (.int r1), .v (.int r2), .v (.int 0)] (i % 3) = some (.v (.int b)) ∧ 0 ≤ b ∧ b ≤ 255 := by
  have : i % 3 = 0 ∨ i % 3 = 1 ∨ i % 3 = 2 := by omega
  rcases this with h | h | h <;> rw [h]
  · exact ⟨r1, rfl, h1, h2⟩
  · exact ⟨r2, rfl, h3, h4⟩
  · exact ⟨0, rfl, by decide, by decide⟩
theorem iD_set (xs : List Int) (i : Nat) (b : Int) : (iD xs).set i (.v (.int b)) = iD (xs.set i b) := by
  unfold iD
  exact List.map_set.symm
theorem by_set {xs : List Int} {i : Nat} {b : Int} (h : ByL xs) (h0 : 0 ≤ b) (h1 : b ≤ 255) : ByL (xs.set i b) := fun x hx => by
  rcases List.mem_or_eq_of_mem_set hx with hx | rfl
  · exact h x hx
  · exact ⟨h0, h1⟩
section
variable {P : Program} {w : World} {K : PySem.W.Frag} {mg : Str → Option Value} {base : Heap}
/-- a drawn number of things -/
def fCnt : FD := fun ds μ Q _ => ∃ (m : Int) (c : Cell) (μ' : Sto), ds = [.loc 0, .v (.int m)] ∧ 0 ≤ m ∧ m ≤ 1000000 ∧ μ = c :: μ' ∧ StC c ∧ ∀ (r : Int) (c' : Cell), 0 ≤ r → r ≤ m → StC c' → Q (.v (.int r)) (c' :: μ')
theorem sc__law_count : FnScope ["store", "most", "top", "kind"] ["store", "most"] (defScope (top 38)) := ⟨rfl, rfl, rfl, by decide +kernel, rfl, by decide +kernel, by decide +kernel⟩
theorem ok__law_count (T : Tx K mg) : FnD P w K mg base 4 T.a__law_count T.fd__law_count ["store", "most"] fCnt := by
  refine fnD _ T.F__law_count sc__law_count (fun cd A outer s H E B => (d_scons (d_set 2 B.nd (d_cb (id := "max") (c_max B.calm) T.n_max (by decide +kernel) (d_cons d_int (d_cons (d_var 1) d_nil))))
    (d_scons (d_set 3 B.nd (d_call B (ok__law_take T) (by decide) T.m__law_take T.k__law_take T.b__law_take (d_cons (d_var 0) (d_cons d_int d_nil))))
    (d_scons (d_sif (d_tcmp o_eq (d_var 3) d_int) (d_sone (d_ret (d_cb (id := "min") (c_min B.calm) T.n_min (by decide +kernel) (d_cons (d_var 2) (d_cons (d_call B (ok__law_take T) (by decide) T.m__law_take T.k__law_take T.b__law_take (d_cons (d_var 0) (d_cons d_int d_nil))) d_nil))))) d_snil)
    (d_scons (d_sif (d_tcmp o_lt (d_var 3) d_int) (d_sone (d_ret (d_call B (ok__law_take T) (by decide) T.m__law_take T.k__law_take T.b__law_take (d_cons (d_var 0) (d_cons (d_bin o_addU (d_cb (id := "min") (c_min B.calm) T.n_min (by decide +kernel) (d_cons (d_var 2) (d_cons d_int d_nil))) d_int) d_nil))))) d_snil)
    (d_scons (d_sif (d_tcmp o_eq (d_var 3) d_int) (d_sone (d_ret (d_call B (ok__law_take T) (by decide) T.m__law_take T.k__law_take T.b__law_take (d_cons (d_var 0) (d_cons (d_bin o_addU (d_cb (id := "min") (c_min B.calm) T.n_min (by decide +kernel) (d_cons (d_var 2) (d_cons d_int d_nil))) d_int) d_nil))))) d_snil)
    (d_sone (d_ret (d_cb (id := "max") (c_max B.calm) T.n_max (by decide +kernel) (d_cons d_int (d_cons (d_bin o_sub (d_var 2) (d_call B (ok__law_wide T) (by decide) T.m__law_wide T.k__law_wide T.b__law_wide (d_cons (d_var 0) (d_cons (d_bin o_addU (d_var 2) d_int) d_nil)))) d_nil))))))))))) ?_
  rintro ds μ QA XA hl ⟨m, c, μ', rfl, hm0, hm1, rfl, hc, hQ⟩
  have htop : (if m > 0 then m else 0) = m := by split <;> omega
  walk_at "all"
  · exact hQ _ _ (by rw [htop]; split <;> omega) (by rw [htop]; split <;> omega) (by assumption)
  · rename_i r c2 hr0 hr1 hc2
    rw [htop] at hr1
    have h1 : (if (9 : Int) < m then 9 else m) ≤ m := by split <;> omega
    have h2 : (0 : Int) ≤ (if (9 : Int) < m then 9 else m) := by split <;> omega
    exact hQ _ _ hr0 (by omega) hc2
  · rename_i r c2 hr0 hr1 hc2
    rw [htop] at hr1
    have h1 : (if (40 : Int) < m then 40 else m) ≤ m := by split <;> omega
    have h2 : (0 : Int) ≤ (if (40 : Int) < m then 40 else m) := by split <;> omega
    exact hQ _ _ hr0 (by omega) hc2
  · rename_i r c2 hr0 hr1 hc2
    rw [htop] at hr1
    exact hQ _ _ (by rw [htop]; split <;> omega) (by rw [htop]; split <;> omega) hc2
theorem sc__law_whole : FnScope ["actual"] ["actual"] (defScope (top 42)) := ⟨rfl, rfl, rfl, by decide +kernel, rfl, by decide +kernel, by decide +kernel⟩
theorem ok__law_whole (T : Tx K mg) : FnD P w K mg base 1 T.a__law_whole T.fd__law_whole ["actual"] fNum := by
  refine fnD _ T.F__law_whole sc__law_whole (fun cd A outer s H E B => (d_sone (d_ret (d_and (d_cb (id := "isinstance") c_isi T.n_isinstance (by decide +kernel) (d_cons (d_var 0) (d_cons (d_ty (T := "int") T.n_int (by decide +kernel)) d_nil))) (d_one (d_not (d_cb (id := "isinstance") c_isi T.n_isinstance (by decide +kernel) (d_cons (d_var 0) (d_cons (d_ty (T := "bool") T.n_bool (by decide +kernel)) d_nil))))))))) ?_
  rintro ds μ QA XA hl ⟨d, t, rfl, ht, hQ⟩
  cases d with
  | v x => cases x <;> first | (cases ht; done) | (walk_at "all"; exact hQ)
  | lst es => walk_at "all"; exact hQ
  | tup es => walk_at "all"; exact hQ
  | dic es => walk_at "all"; exact hQ
  | ins _ _ _ => walk_at "all"; exact hQ
  | _ => cases ht
local macro_rules | `(tactic| walk_at "call") => `(tactic| (show fNum _ _ _ _; refine ⟨_, _, rfl, by first | assumption | rfl, ?_⟩))
theorem sc__law_within : FnScope ["actual", "low", "high"] ["actual", "low", "high"] (defScope (top 43)) := ⟨rfl, rfl, rfl, by decide +kernel, rfl, by decide +kernel, by decide +kernel⟩
theorem ok__law_within (T : Tx K mg) : FnD P w K mg base 2 T.a__law_within T.fd__law_within ["actual", "low", "high"] fBet := by
  refine fnD _ T.F__law_within sc__law_within (fun cd A outer s H E B => (d_sone (d_ret (d_and (d_call B (ok__law_whole T) (by decide) T.m__law_whole T.k__law_whole T.b__law_whole (d_cons (d_var 0) d_nil)) (d_one (d_chain o_le o_le (d_var 1) (d_var 0) (d_var 2))))))) ?_
  rintro ds μ QA XA hl ⟨d, lo, hi, t, rfl, ht, hQ⟩
  cases d with
  | v x =>
    cases x with
    | int i =>
      have hQ' : QA (.v (.bl (decide (lo ≤ i) && decide (i ≤ hi)))) μ := hQ
      walk_at "all"
      · rename_i e
        rw [decide_eq_true e, Bool.true_and] at hQ'
        exact hQ'
      · rename_i e
        rw [decide_eq_false e, Bool.false_and] at hQ'
        exact hQ'
    | _ => first | (cases ht; done) | (walk_at "all"; exact hQ)
  | lst es => walk_at "all"; exact hQ
  | tup es => walk_at "all"; exact hQ
  | dic es => walk_at "all"; exact hQ
  | ins _ _ _ => walk_at "all"; exact hQ
  | _ => cases ht
/-- a drawn byte list -/
def fByt : FD := fun ds μ Q _ => ∃ (n : Nat) (c : Cell), ds = [.loc 0, .v (.int (n : Int))] ∧ n ≤ 30000 ∧ μ = [c] ∧ StC c ∧ ∀ (bs : List Int) (c' : Cell), ByL bs → bs.length = n → StC c' → Q (.lst (iD bs)) [c'] ∧ Q (.loc 1) [c', .lst (iD bs)]
theorem sc__law_bytes : FnScope ["store", "count", "kind", "seed", "one", "few", "start", "step", "row", "at", "turn"] ["store", "count"] (defScope (top 46)) := ⟨rfl, rfl, rfl, by decide +kernel, rfl, by decide +kernel, by decide +kernel⟩
theorem ok__law_bytes (T : Tx K mg) : FnD P w K mg base 5 T.a__law_bytes T.fd__law_bytes ["store", "count"] fByt := by
  refine fnD _ T.F__law_bytes sc__law_bytes (fun cd A outer s H E B => (d_scons (d_set 2 B.nd (d_call B (ok__law_take T) (by decide) T.m__law_take T.k__law_take T.b__law_take (d_cons (d_var 0) (d_cons d_int d_nil))))
    (d_scons (d_sif (d_tcmp o_eq (d_var 2) d_int) (d_scons (d_set 4 B.nd (d_call B (ok__law_pick T) (by decide) T.m__law_pick T.k__law_pick T.b__law_pick (d_cons (d_var 0) (d_cons (d_lst (d_cons d_int (d_cons d_int (d_cons d_int (d_cons d_int (d_cons d_int d_nil)))))) d_nil))))
    (d_sone (d_ret (d_bin o_rep (d_lst (d_cons (d_var 4) d_nil)) (d_var 1))))) d_snil)
    (d_scons (d_sif (d_tcmp o_eq (d_var 2) d_int) (d_scons (d_set 5 B.nd (d_lst (d_cons (d_call B (ok__law_take T) (by decide) T.m__law_take T.k__law_take T.b__law_take (d_cons (d_var 0) (d_cons d_int d_nil))) (d_cons (d_call B (ok__law_take T) (by decide) T.m__law_take T.k__law_take T.b__law_take (d_cons (d_var 0) (d_cons d_int d_nil))) (d_cons d_int d_nil)))))
    (d_sone (d_ret (d_lcR1 9 B T.n_range (d_cons (d_var 1) d_nil) (fun _ _ _ _ _ => d_ifs0) (fun _ _ _ _ _ B => (d_ixV (d_var 5) (d_bin o_mod (d_ct c_int T.n_int (by decide +kernel) (d_cons (d_bin o_mul (d_var 9) (d_bin o_addU d_int (d_bin o_div (d_var 9) d_int))) d_nil)) d_int))) (by show blkC ["store", "count", "kind", "seed", "one", "few", "start", "step", "row", "at", "turn"] (defScope (top 46)) _ _ = true; decide +kernel) (fun _ _ _ _ _ => pg_name B.nd rfl (by first | exact Or.inl rfl | exact Or.inr rfl)))))) d_snil)
    (d_scons (d_sif (d_tcmp o_eq (d_var 2) d_int) (d_scons (d_set 6 B.nd (d_call B (ok__law_take T) (by decide) T.m__law_take T.k__law_take T.b__law_take (d_cons (d_var 0) (d_cons d_int d_nil))))
    (d_scons (d_set 7 B.nd (d_call B (ok__law_take T) (by decide) T.m__law_take T.k__law_take T.b__law_take (d_cons (d_var 0) (d_cons d_int d_nil))))
    (d_sone (d_ret (d_lcR1 9 B T.n_range (d_cons (d_var 1) d_nil) (fun _ _ _ _ _ => d_ifs0) (fun _ _ _ _ _ B => (d_bin o_mod (d_ct c_int T.n_int (by decide +kernel) (d_cons (d_bin o_addU (d_var 6) (d_bin o_mul (d_var 7) (d_var 9))) d_nil)) d_int)) (by show blkC ["store", "count", "kind", "seed", "one", "few", "start", "step", "row", "at", "turn"] (defScope (top 46)) _ _ = true; decide +kernel) (fun _ _ _ _ _ => pg_name B.nd rfl (by first | exact Or.inl rfl | exact Or.inr rfl))))))) d_snil)
    (d_scons (d_sif (d_tw (d_wand (d_tcmp o_eq (d_var 2) d_int) (d_wand1 (d_tcmp o_gt (d_var 1) d_int)))) (d_scons (d_set 8 B.nd (d_bin o_repM (d_lst (d_cons d_int d_nil)) (d_var 1)))
    (d_scons (d_setIx (d_bin o_addU d_int (d_call B (ok__law_take T) (by decide) T.m__law_take T.k__law_take T.b__law_take (d_cons (d_var 0) (d_cons d_int d_nil)))) (d_var 8) (d_call B (ok__law_between T) (by decide) T.m__law_between T.k__law_between T.b__law_between (d_cons (d_var 0) (d_cons d_int (d_cons (d_bin o_sub (d_var 1) d_int) d_nil)))))
    (d_sone (d_ret (d_var 8))))) d_snil)
    (d_scons (d_sif (d_tcmp o_le (d_var 1) d_int) (d_sone (d_ret (d_lcR1W 10 B T.n_range (d_cons (d_var 1) d_nil) (fun _ _ _ _ _ => d_ifs0) (fun _ _ _ _ _ B => (d_call B (ok__law_take T) (by decide) T.m__law_take T.k__law_take T.b__law_take (d_cons (d_var 0) (d_cons d_int d_nil)))) (by show blkC ["store", "count", "kind", "seed", "one", "few", "start", "step", "row", "at", "turn"] (defScope (top 46)) _ _ = true; decide +kernel) (fun _ _ _ _ _ => pg_name B.nd rfl (by first | exact Or.inl rfl | exact Or.inr rfl))))) d_snil)
    (d_scons (d_set 3 B.nd (d_call B (ok__law_take T) (by decide) T.m__law_take T.k__law_take T.b__law_take (d_cons (d_var 0) (d_cons (d_bin o_pow d_int d_int) d_nil))))
    (d_sone (d_ret (d_lcR1 9 B T.n_range (d_cons (d_var 1) d_nil) (fun _ _ _ _ _ => d_ifs0) (fun _ _ _ _ _ B => (d_bin o_mod (d_ct c_int T.n_int (by decide +kernel) (d_cons (d_call B (ok__law_mixed T) (by decide) T.m__law_mixed T.k__law_mixed T.b__law_mixed (d_cons (d_var 3) (d_cons (d_var 9) d_nil))) d_nil)) d_int)) (by show blkC ["store", "count", "kind", "seed", "one", "few", "start", "step", "row", "at", "turn"] (defScope (top 46)) _ _ = true; decide +kernel) (fun _ _ _ _ _ => pg_name B.nd rfl (by first | exact Or.inl rfl | exact Or.inr rfl))))))))))))) ?_
  rintro ds μ QA XA hl ⟨n, c, rfl, hn, rfl, hc, hQ⟩
  walk_at "all"
  · refine ⟨_, _, _, _, rfl, Or.inl rfl, by simp, by simp, rfl, ‹StC _›, fun d c' hd hc => ?_⟩
    simp only [List.mem_cons, List.not_mem_nil, or_false] at hd
    have : ∃ b : Int, d = .v (.int b) ∧ 0 ≤ b ∧ b ≤ 255 := by rcases hd with rfl | rfl | rfl | rfl | rfl <;> exact ⟨_, rfl, by decide, by decide⟩
    obtain ⟨b, rfl, b0, b1⟩ := this
    have hg := (hQ (List.replicate n b) c' (by_rep b0 b1) (by simp) hc).1
    rw [← rep_iD] at hg
    walk_at "all"
    refine And.intro (by show 1 * (n : Int).toNat ≤ 1000000; omega) ?_
    rw [Int.toNat_natCast]
    exact hg
  · rename_i r1 c1 h10 h11 hc1 r2 c2 h20 h21 hc2
    refine ⟨by rw [List.length_map, List.length_range]; omega, fun k acc => ∃ xs : List Int, acc = iD xs ∧ ByL xs ∧ xs.length = k, ⟨[], rfl, fun _ h => (List.not_mem_nil h).elim, rfl⟩, ?_, ?_⟩
    · rintro k acc x hx ⟨xs, rfl, hb, hl⟩
      have hk : k < (n : Int).toNat := by
        have := (List.getElem?_eq_some_iff.mp hx).1
        rw [List.length_map, List.length_range] at this
        exact this
      rw [List.getElem?_map, List.getElem?_range hk] at hx
      cases hx
      obtain ⟨b, e1, e2, e3⟩ := few_at (r1 := r1) (r2 := r2) ((k : Int) * (1 + (k : Int) / 3)) (by omega) (by omega) (by omega) (by omega)
      walk_at "all"
      refine Exists.intro _ (And.intro e1 ?_)
      walk_at "all"
      exact ⟨xs ++ [b], by simp [iD], by_snoc hb e2 e3, by simp [hl]⟩
    · rintro acc ⟨xs, rfl, hb, hl⟩
      rw [List.length_map, List.length_range] at hl
      exact (hQ xs _ hb (by omega) (by assumption)).1
  · refine ⟨by rw [List.length_map, List.length_range]; omega, fun k acc => ∃ xs : List Int, acc = iD xs ∧ ByL xs ∧ xs.length = k, ⟨[], rfl, fun _ h => (List.not_mem_nil h).elim, rfl⟩, ?_, ?_⟩
    · rintro k acc x hx ⟨xs, rfl, hb, hl⟩
      have hk : k < (n : Int).toNat := by
        have := (List.getElem?_eq_some_iff.mp hx).1
        rw [List.length_map, List.length_range] at this
        exact this
      rw [List.getElem?_map, List.getElem?_range hk] at hx
      cases hx
      walk_at "all"
      refine ⟨xs ++ [_], by simp only [iD, List.map_append, List.map_cons, List.map_nil]; rfl, by_snoc hb (by omega) (by omega), by simp [hl]⟩
    · rintro acc ⟨xs, rfl, hb, hl⟩
      rw [List.length_map, List.length_range] at hl
      exact (hQ xs _ hb (by omega) (by assumption)).1
  · refine And.intro (by show 1 * (n : Int).toNat ≤ 1000000; omega) ?_
    walk_at "all"
    rename_i v c3 hv0 hv1 hc3 r c4 hr0 hr1 hc4
    show setIt (.loc 1) (.v (.int r)) (.v (.int (1 + v))) _ _
    refine set_at (es := iD (List.replicate n 0)) (by rw [← rep_iD]; rfl) hr0 (by rw [iD_len, List.length_replicate]; omega) ?_
    rw [iD_set]
    exact (hQ _ c4 (by_set (by_rep (by decide) (by decide)) (by omega) (by omega)) (by simp) hc4).2
  · refine ⟨⟨by rw [List.length_map, List.length_range]; omega, one_lb (by assumption)⟩, fun k acc m => ∃ (xs : List Int) (c : Cell), StC c ∧ m = [c] ∧ acc = iD xs ∧ ByL xs ∧ xs.length = k, ⟨[], _, by assumption, rfl, rfl, fun _ h => (List.not_mem_nil h).elim, rfl⟩, ?_, ?_⟩
    · rintro k acc x m hx hm' ⟨xs, c2, hc2, rfl, rfl, hb, hl⟩
      refine And.intro rfl (And.intro (fun _ => ?_) (fun e => Bool.noConfusion e))
      walk_at "all"
      rename_i r c3 h0 h1 hc3
      exact ⟨[c3], ⟨rfl, rfl⟩, one_lb hc3, ⟨rfl, rfl⟩, xs ++ [r], c3, hc3, rfl, by simp [iD], by_snoc hb h0 (by omega), by simp [hl]⟩
    · rintro acc _ ⟨xs, c2, hc2, rfl, rfl, hb, hl⟩
      rw [List.length_map, List.length_range] at hl
      exact (hQ xs c2 hb (by omega) hc2).1
  · refine ⟨by rw [List.length_map, List.length_range]; omega, fun k acc => ∃ xs : List Int, acc = iD xs ∧ ByL xs ∧ xs.length = k, ⟨[], rfl, fun _ h => (List.not_mem_nil h).elim, rfl⟩, ?_, ?_⟩
    · rintro k acc x hx ⟨xs, rfl, hb, hl⟩
      have hk : k < (n : Int).toNat := by
        have := (List.getElem?_eq_some_iff.mp hx).1
        rw [List.length_map, List.length_range] at this
        exact this
      rw [List.getElem?_map, List.getElem?_range hk] at hx
      cases hx
      walk_at "all"
      refine ⟨_, _, rfl, fun z => ?_⟩
      walk_at "all"
      refine ⟨xs ++ [z % 256], by simp only [iD, List.map_append, List.map_cons, List.map_nil], by_snoc hb (by omega) (by omega), by simp [hl]⟩
    · rintro acc ⟨xs, rfl, hb, hl⟩
      rw [List.length_map, List.length_range] at hl
      exact (hQ xs _ hb (by omega) (by assumption)).1
  · refine ⟨⟨by rw [List.length_map, List.length_range]; omega, one_lb (by assumption)⟩, fun k acc m => ∃ (xs : List Int) (c : Cell), StC c ∧ m = [c] ∧ acc = iD xs ∧ ByL xs ∧ xs.length = k, ⟨[], _, by assumption, rfl, rfl, fun _ h => (List.not_mem_nil h).elim, rfl⟩, ?_, ?_⟩
    · rintro k acc x m hx hm' ⟨xs, c2, hc2, rfl, rfl, hb, hl⟩
      refine And.intro rfl (And.intro (fun _ => ?_) (fun e => Bool.noConfusion e))
      walk_at "all"
      rename_i r c3 h0 h1 hc3
      exact ⟨[c3], ⟨rfl, rfl⟩, one_lb hc3, ⟨rfl, rfl⟩, xs ++ [r], c3, hc3, rfl, by simp [iD], by_snoc hb h0 (by omega), by simp [hl]⟩
    · rintro acc _ ⟨xs, c2, hc2, rfl, rfl, hb, hl⟩
      rw [List.length_map, List.length_range] at hl
      exact (hQ xs c2 hb (by omega) hc2).1
  · refine ⟨by rw [List.length_map, List.length_range]; omega, fun k acc => ∃ xs : List Int, acc = iD xs ∧ ByL xs ∧ xs.length = k, ⟨[], rfl, fun _ h => (List.not_mem_nil h).elim, rfl⟩, ?_, ?_⟩
    · rintro k acc x hx ⟨xs, rfl, hb, hl⟩
      have hk : k < (n : Int).toNat := by
        have := (List.getElem?_eq_some_iff.mp hx).1
        rw [List.length_map, List.length_range] at this
        exact this
      rw [List.getElem?_map, List.getElem?_range hk] at hx
      cases hx
      walk_at "all"
      refine ⟨_, _, rfl, fun z => ?_⟩
      walk_at "all"
      refine ⟨xs ++ [z % 256], by simp only [iD, List.map_append, List.map_cons, List.map_nil], by_snoc hb (by omega) (by omega), by simp [hl]⟩
    · rintro acc ⟨xs, rfl, hb, hl⟩
      rw [List.length_map, List.length_range] at hl
      exact (hQ xs _ hb (by omega) (by assumption)).1
def fBent : FD := fun ds μ Q _ => ∃ (bs : List Int) (c : Cell), ds = [.loc 0, .lst (iD bs), .v (.int 0), .v (.int 255)] ∧ ByL bs ∧ bs.length ≤ 30000 ∧ μ = [c] ∧ StC c ∧ ∀ (es : List D) (n : Nat) (c' : Cell) (x : D), es.length ≤ bs.length + 1 → (∀ e ∈ es, TyD e ∧ plD 3 e = true) → es[n]? = some x → betD x 0 255 = false → (∀ (m : Nat) y, m < n → es[m]? = some y → betD y 0 255 = true) → StC c' → Q (.tup [.lst es, .v (.int (n : Int))]) [c', .lst (iD bs)] ∧ Q (.tup [.loc 1, .v (.int (n : Int))]) [c', .lst es]
theorem sc__law_bent_row : FnScope ["store", "row", "low", "high", "bad", "at"] ["store", "row", "low", "high"] (defScope (top 49)) := ⟨rfl, rfl, rfl, by decide +kernel, rfl, by decide +kernel, by decide +kernel⟩
theorem ok__law_bent_row (T : Tx K mg) : FnD P w K mg base 5 T.a__law_bent_row T.fd__law_bent_row ["store", "row", "low", "high"] fBent := by
  refine fnD _ T.F__law_bent_row sc__law_bent_row (fun cd A outer s H E B => (d_scons (d_set 4 B.nd (d_ct c_listM T.n_list (by decide +kernel) (d_cons (d_var 1) d_nil)))
    (d_scons (d_sif (d_tcmp o_eq (d_cb (id := "len") c_len T.n_len (by decide +kernel) (d_cons (d_var 4) d_nil)) d_int) (d_sone (d_ret (d_tup (d_cons (d_lst (d_cons (d_call B (ok__law_beyond T) (by decide) T.m__law_beyond T.k__law_beyond T.b__law_beyond (d_cons (d_var 0) (d_cons (d_var 2) (d_cons (d_var 3) d_nil)))) d_nil)) (d_cons d_int d_nil))))) d_snil)
    (d_scons (d_set 5 B.nd (d_call B (ok__law_between T) (by decide) T.m__law_between T.k__law_between T.b__law_between (d_cons (d_var 0) (d_cons d_int (d_cons (d_bin o_sub (d_cb (id := "len") c_len T.n_len (by decide +kernel) (d_cons (d_var 4) d_nil)) d_int) d_nil)))))
    (d_scons (d_sif (d_tcmp o_eq (d_call B (ok__law_take T) (by decide) T.m__law_take T.k__law_take T.b__law_take (d_cons (d_var 0) (d_cons d_int d_nil))) d_int) (d_sone (d_setIx (d_call B (ok__law_beyond T) (by decide) T.m__law_beyond T.k__law_beyond T.b__law_beyond (d_cons (d_var 0) (d_cons (d_var 2) (d_cons (d_var 3) d_nil)))) (d_var 4) (d_call B (ok__law_between T) (by decide) T.m__law_between T.k__law_between T.b__law_between (d_cons (d_var 0) (d_cons (d_var 5) (d_cons (d_bin o_sub (d_cb (id := "len") c_len T.n_len (by decide +kernel) (d_cons (d_var 4) d_nil)) d_int) d_nil)))))) d_snil)
    (d_scons (d_setIx (d_call B (ok__law_beyond T) (by decide) T.m__law_beyond T.k__law_beyond T.b__law_beyond (d_cons (d_var 0) (d_cons (d_var 2) (d_cons (d_var 3) d_nil)))) (d_var 4) (d_var 5))
    (d_sone (d_ret (d_tup (d_cons (d_var 4) (d_cons (d_var 5) d_nil))))))))))) ?_
  rintro ds μ QA XA hl ⟨bs, c, rfl, hb, hn, rfl, hc, hQ⟩
  walk_at "all"
  · rename_i e d c1 hd hc1
    rw [iD_len] at e
    have hg := (hQ [d] 0 c1 d (by simp) (fun e' he' => by rw [List.mem_singleton.mp he']; exact ⟨(NoD.out hd).1, out_pl hd⟩) rfl (NoD.out hd).2 (fun m y hm => absurd hm (Nat.not_lt_zero _)) hc1).1
    exact hg
  · rename_i e at' c1 ha0 ha1 hc1 r0 c2 _ _ hc2 e2 d c3 hd hc3 r c4 hr0 hr1 hc4
    rw [iD_len] at ha1 hr1
    show setIt (.loc 1) (.v (.int r)) d _ _
    refine set_at (es := iD bs) rfl (by omega) (by rw [iD_len]; omega) ?_
    walk_at "all"
    rename_i d2 c5 hd2 hc5
    refine sub_set (x := .loc 1) (y := .v (.int at')) ?_ ?_ ?_
    · rfl
    · rfl
    refine set_at (es := (iD bs).set r.toNat d) rfl ha0 (by rw [List.length_set, iD_len]; omega) ?_
    have k := bent_fin (N := bs.length + 1) (es0 := (iD bs).set r.toNat d) (a := at'.toNat) (d2 := d2) (by rw [List.length_set, iD_len]; omega) (fun e' he' => ?_) (fun m y hm hy => ?_) (by rw [List.length_set, iD_len]; omega) hd2
    · have hg := (hQ _ at'.toNat c5 d2 k.1 k.2.1 k.2.2.1 (NoD.out hd2).2 k.2.2.2 hc5).2
      rw [show ((at'.toNat : Nat) : Int) = at' by omega] at hg
      walk_at "all"
      exact hg
    · rcases List.mem_or_eq_of_mem_set he' with h | rfl
      · exact ok_iD e' h
      · exact ⟨(NoD.out hd).1, out_pl hd⟩
    · rw [List.getElem?_set_ne (by omega)] at hy
      exact bytes_all hb y (List.mem_of_getElem? hy)
  · rename_i e at' c1 ha0 ha1 hc1 r0 c2 _ _ hc2 e2 d2 c5 hd2 hc5
    rw [iD_len] at ha1
    refine sub_set (x := .loc 1) (y := .v (.int at')) ?_ ?_ ?_
    · rfl
    · rfl
    refine set_at (es := iD bs) rfl ha0 (by rw [iD_len]; omega) ?_
    have k := bent_fin (N := bs.length + 1) (es0 := iD bs) (a := at'.toNat) (d2 := d2) (by rw [iD_len]; omega) ok_iD (fun m y hm hy => bytes_all hb y (List.mem_of_getElem? hy)) (by rw [iD_len]; omega) hd2
    have hg := (hQ _ at'.toNat c5 d2 k.1 k.2.1 k.2.2.1 (NoD.out hd2).2 k.2.2.2 hc5).2
    rw [show ((at'.toNat : Nat) : Int) = at' by omega] at hg
    walk_at "all"
    exact hg
/-- a copy -/
def fCopy : Nat → FD
  | 0 => fun _ _ _ _ => False
  | n + 1 => fun ds μ Q _ => ∃ d, ds = [d] ∧ plD (n + 1) d = true ∧ Q d μ
end
end Pf
set_option Elab.async false
set_option linter.all false
set_option maxRecDepth 100000
set_option maxHeartbeats 4000000
namespace Pf
open PySem L2 DK
local macro_rules | `(tactic| walk_at "side") => `(tactic| first
  | decide
  | ((with_reducible show (_ : Nat) ≤ _); exact Nat.le_of_ble_eq_true rfl)
  | ((with_reducible show (_ : Int) < _); omega)
  | ((with_reducible show (_ : Int) ≤ _); omega)
  | ((with_reducible show CM _ _); exact Or.inl (Or.inr (by decide)))
  | ((with_reducible show CM _ _); exact Or.inl (Or.inl (by decide)))
  | ((with_reducible show CDivW _ _); exact ⟨by first | assumption | omega, by first | assumption | decide⟩)
  | ((with_reducible show scal _ _ = true); rfl)
  | ((with_reducible show CPow _ _); exact ⟨by decide, by decide, by decide⟩)
  | ((with_reducible show _ = _); rfl)
  | ((with_reducible show (_ = _) ∧ (_ = _)); exact ⟨rfl, rfl⟩)
  | ((with_reducible show (_ : Int) ≤ _ ∧ (_ : Int) < _); omega)
  | ((with_reducible show ((_ : Int) ≤ _ ∧ (_ : Int) < _) ∧ ((_ : Int) ≤ _ ∧ (_ : Int) < _)); omega)
  | ((with_reducible show RgOk _ _); unfold RgOk; omega)
  | assumption
  | walk_at "mine"
  | fail)
local macro_rules | `(tactic| walk_at "mine") => `(tactic| fail)
local macro_rules | `(tactic| walk_at "br") => `(tactic| ((refine And.intro (fun (e : (_ : Bool) = true) => ?_) (fun (e : (_ : Bool) = false) => ?_)) <;> (try simp only [Bool.not_eq_true', Bool.not_eq_false', decide_eq_true_eq, decide_eq_false_iff_not, V.int.injEq] at e)))
local macro_rules | `(tactic| walk_at "st") => `(tactic| first
  | (refine at_slots (by (simp only [List.length_cons, List.length_nil, startD_cons, startD_none, startD_nil, List.set_cons_zero, List.set_cons_succ]; rfl)) ?_)
  | ((conv => whnf); first | (with_reducible refine And.intro (fun _ => ?_) (fun e => Bool.noConfusion e)) | (with_reducible refine And.intro (fun e => Bool.noConfusion e) (fun _ => ?_)) | ((with_reducible refine And.intro ?walk_side ?_); (case walk_side => walk_at "side")))
  | walk_at "call"
  | fail)
local macro_rules | `(tactic| walk_at "call") => `(tactic| fail)
local macro_rules | `(tactic| walk_at "go") => `(tactic| (repeat walk_at "st"))
local macro_rules | `(tactic| walk_at "all") => `(tactic| (repeat' (first
  | (refine at_slots (by (simp only [List.length_cons, List.length_nil, startD_cons, startD_none, startD_nil, List.set_cons_zero, List.set_cons_succ]; rfl)) ?_)
  | ((conv => whnf); first | (with_reducible refine And.intro (fun _ => ?_) (fun e => Bool.noConfusion e)) | (with_reducible refine And.intro (fun e => Bool.noConfusion e) (fun _ => ?_)) | ((with_reducible refine And.intro (fun (e : (_ : Bool) = true) => ?_) (fun (e : (_ : Bool) = false) => ?_)) <;> (try simp only [Bool.not_eq_true', Bool.not_eq_false', decide_eq_true_eq, decide_eq_false_iff_not, V.int.injEq] at e)) | ((with_reducible refine And.intro ?walk_side ?_); (case walk_side => walk_at "side")))
  | walk_at "call"
  | fail)))
/-- a bit -/
def bt (a : Int) (b : Nat) : Bool := decide (a / 2 ^ b % 2 = 1)
/-- the sum of bits -/
def bS (f : Nat → Bool) : Nat → Int
  | 0 => 0
  | k + 1 => bS f k + (if f k then 1 else 0) * 2 ^ k
/-- a lane turned by c -/
def turn (a : Int) (c : Nat) : Int := Builtin.bitAnd (Builtin.bitOr (a * 2 ^ c) (a / 2 ^ (64 - c))) 18446744073709551615
/-- lanes -/
def LnL (ls : List Int) : Prop := ∀ a ∈ ls, 0 ≤ a ∧ a < 2 ^ 64
/-- a row by its places -/
def Rw (n : Nat) (f : Nat → Int) : List Int := (List.range n).map f
theorem Rw_len (n : Nat) (f : Nat → Int) : (Rw n f).length = n := by unfold Rw; rw [List.length_map, List.length_range]
theorem Rw_get {n : Nat} {f : Nat → Int} {i : Nat} (h : i < n) : (Rw n f)[i]? = some (f i) := by
  unfold Rw
  rw [List.getElem?_map, List.getElem?_range h]
  rfl
theorem Rw_snoc {n : Nat} {f : Nat → Int} {i : Nat} (h : i < n) : (Rw n f).take (i + 1) = (Rw n f).take i ++ [f i] := by
  rw [List.take_succ, Rw_get h]
  rfl
theorem get_of {ls : List Int} {i : Nat} (h : i < ls.length) : ls[i]? = some (ls.getD i 0) := by
  rw [List.getD_eq_getElem?_getD, List.getElem?_eq_getElem h]
  rfl
abbrev Ln (a : Int) : Prop := 0 ≤ a ∧ a < 2 ^ 64
end Pf
set_option Elab.async false
set_option linter.all false
set_option maxRecDepth 100000
set_option maxHeartbeats 4000000
namespace Pf
open PySem L2 DK
local macro_rules | `(tactic| walk_at "side") => `(tactic| first
  | decide
  | ((with_reducible show (_ : Nat) ≤ _); exact Nat.le_of_ble_eq_true rfl)
  | ((with_reducible show (_ : Int) < _); omega)
  | ((with_reducible show (_ : Int) ≤ _); omega)
  | ((with_reducible show CM _ _); exact Or.inl (Or.inr (by decide)))
  | ((with_reducible show CM _ _); exact Or.inl (Or.inl (by decide)))
  | ((with_reducible show CDivW _ _); exact ⟨by first | assumption | omega, by first | assumption | decide⟩)
  | ((with_reducible show scal _ _ = true); rfl)
  | ((with_reducible show CPow _ _); exact ⟨by decide, by decide, by decide⟩)
  | ((with_reducible show _ = _); rfl)
  | ((with_reducible show (_ = _) ∧ (_ = _)); exact ⟨rfl, rfl⟩)
  | ((with_reducible show (_ : Int) ≤ _ ∧ (_ : Int) < _); omega)
  | ((with_reducible show ((_ : Int) ≤ _ ∧ (_ : Int) < _) ∧ ((_ : Int) ≤ _ ∧ (_ : Int) < _)); omega)
  | ((with_reducible show RgOk _ _); unfold RgOk; omega)
  | assumption
  | walk_at "mine"
  | fail)
local macro_rules | `(tactic| walk_at "mine") => `(tactic| fail)
local macro_rules | `(tactic| walk_at "br") => `(tactic| ((refine And.intro (fun (e : (_ : Bool) = true) => ?_) (fun (e : (_ : Bool) = false) => ?_)) <;> (try simp only [Bool.not_eq_true', Bool.not_eq_false', decide_eq_true_eq, decide_eq_false_iff_not, V.int.injEq] at e)))
local macro_rules | `(tactic| walk_at "st") => `(tactic| first
  | (refine at_slots (by (simp only [List.length_cons, List.length_nil, startD_cons, startD_none, startD_nil, List.set_cons_zero, List.set_cons_succ]; rfl)) ?_)
  | ((conv => whnf); first | (with_reducible refine And.intro (fun _ => ?_) (fun e => Bool.noConfusion e)) | (with_reducible refine And.intro (fun e => Bool.noConfusion e) (fun _ => ?_)) | ((with_reducible refine And.intro ?walk_side ?_); (case walk_side => walk_at "side")))
  | walk_at "call"
  | fail)
local macro_rules | `(tactic| walk_at "call") => `(tactic| fail)
local macro_rules | `(tactic| walk_at "go") => `(tactic| (repeat walk_at "st"))
local macro_rules | `(tactic| walk_at "all") => `(tactic| (repeat' (first
  | (refine at_slots (by (simp only [List.length_cons, List.length_nil, startD_cons, startD_none, startD_nil, List.set_cons_zero, List.set_cons_succ]; rfl)) ?_)
  | ((conv => whnf); first | (with_reducible refine And.intro (fun _ => ?_) (fun e => Bool.noConfusion e)) | (with_reducible refine And.intro (fun e => Bool.noConfusion e) (fun _ => ?_)) | ((with_reducible refine And.intro (fun (e : (_ : Bool) = true) => ?_) (fun (e : (_ : Bool) = false) => ?_)) <;> (try simp only [Bool.not_eq_true', Bool.not_eq_false', decide_eq_true_eq, decide_eq_false_iff_not, V.int.injEq] at e)) | ((with_reducible refine And.intro ?walk_side ?_); (case walk_side => walk_at "side")))
  | walk_at "call"
  | fail)))
local macro_rules | `(tactic| walk_at "mine") => `(tactic| (show CM _ _; exact Or.inl (Or.inl (by omega))))
local macro_rules | `(tactic| walk_at "mine") => `(tactic| (show CM _ _; exact Or.inl (Or.inr (by omega))))
/-- the first item that is no byte -/
def badI (es : List D) : Option Nat := es.findIdx? fun e => !betD e 0 255
theorem badI_none {es : List D} : badI es = none ↔ ∀ e ∈ es, betD e 0 255 = true := by
  unfold badI
  rw [List.findIdx?_eq_none_iff]
  constructor
  · intro h e he
    simpa using h e he
  · intro h e he
    simp [h e he]
theorem badI_some {es : List D} {n : Nat} {x : D} (hx : es[n]? = some x) (hb : betD x 0 255 = false) (hp : ∀ (m : Nat) y, m < n → es[m]? = some y → betD y 0 255 = true) : badI es = some n := by
  unfold badI
  rw [List.findIdx?_eq_some_iff_getElem]
  obtain ⟨hl, rfl⟩ := List.getElem?_eq_some_iff.mp hx
  refine ⟨hl, by simp [hb], fun j hj => ?_⟩
  simp [hp j _ hj (List.getElem?_eq_getElem (by omega))]
theorem it_bi {es : List D} {bad : Int → Prop} {good : Prop} (ht : ∀ e ∈ es, TyD e) (hb : ∀ n, badI es = some n → bad n) (hg : badI es = none → good) : ItB es 0 255 bad good :=
  ⟨ht, fun h => hg (badI_none.mpr h), fun n x hx hbx hp => hb n (badI_some hx hbx hp)⟩
theorem badI_iD {bs : List Int} (h : ByL bs) : badI (iD bs) = none := badI_none.mpr (bytes_all h)
abbrev refItem (n : Int) : D := .tup [.v (.str "refused"), .v (.str "BadItem"), .v (.int n)]
abbrev refLen (n m : Int) : D := .tup [.v (.str "refused"), .v (.str "BadLength"), .v (.int n), .v (.int m)]
abbrev refOut (s : Str) : D := .tup [.v (.str "refused"), .v (.str "OutOfRange"), .v (.str s)]
abbrev toldD (d : D) : D := .tup [.v (.str "told"), d]
/-- the first fault of rows -/
def fbR (rows : List (List D)) : Option Nat := rows.findSome? badI
theorem fb_bad {rows : List (List D)} {n k : Nat} {r : List D} (hr : rows[n]? = some r) (hp : fbR (rows.take n) = none) (hb : badI r = some k) : fbR rows = some k := by
  have e : rows = rows.take n ++ r :: rows.drop (n + 1) := by
    obtain ⟨hl, rfl⟩ := List.getElem?_eq_some_iff.mp hr
    rw [← List.drop_eq_getElem_cons hl, List.take_append_drop]
  rw [e]
  unfold fbR at *
  rw [List.findSome?_append, hp, List.findSome?_cons, hb]
  rfl
theorem fb_ok {rows : List (List D)} {n : Nat} {r : List D} (hr : rows[n]? = some r) (hp : fbR (rows.take n) = none) (hb : badI r = none) : fbR (rows.take (n + 1)) = none := by
  rw [List.take_succ, hr]
  unfold fbR at *
  rw [List.findSome?_append, hp]
  show ([r].findSome? badI) = none
  rw [List.findSome?_cons, hb]
  rfl
theorem fb_all {rows : List (List D)} (h : fbR rows = none) : ∀ r ∈ rows, badI r = none := by
  unfold fbR at h
  rw [List.findSome?_eq_none_iff] at h
  exact h
/-- what stands in a number's place -/
def uD (es : List D) : List Int := es.map fun d => match d with | .v (.int i) => i | _ => 0
theorem uD_len (es : List D) : (uD es).length = es.length := List.length_map _
theorem iD_uD {es : List D} (h : badI es = none) : es = iD (uD es) ∧ ByL (uD es) := by
  obtain ⟨bs, rfl, hb⟩ := all_bytes (badI_none.mp h)
  have e : uD (iD bs) = bs := by
    unfold uD iD
    rw [List.map_map]
    exact List.map_id' bs
  rw [e]
  exact ⟨rfl, hb⟩
def xorL (as bs : List Int) : List Int := Rw as.length fun i => Builtin.bitXor (as.getD i 0) (bs.getD i 0)
theorem xor_len (as bs : List Int) : (xorL as bs).length = as.length := Rw_len _ _
theorem iD_take1 {n : Nat} {f : Nat → Int} {i : Nat} (h : i < n) : iD ((Rw n f).take i) ++ [.v (.int (f i))] = iD ((Rw n f).take (i + 1)) := by
  rw [Rw_snoc h, iD_snoc]
theorem getD_of {ls : List Int} {n : Nat} {a : Int} (h : ls[n]? = some a) : ls.getD n 0 = a := by
  rw [List.getD_eq_getElem?_getD, h]
  rfl
/-- a list that may be walked over: plain, or a cell -/
def srcW (d : D) (es : List D) (μ : Sto) : Prop := staysD d es μ ∨ ∃ k, d = .loc k ∧ noErrs es = true ∧ μ[k]? = some (.lst es)
theorem srcW_it {d : D} {es : List D} {μ : Sto} (h : srcW d es μ) : itemsOf d μ = some es := by
  rcases h with h | ⟨k, rfl, _, h⟩
  · unfold staysD at h
    split at h
    · rw [h]; rfl
    · rw [h]; rfl
    · show (match μ[_]? with | some (Cell.lst ds) => some ds | _ => none) = _
      rw [h.2]
    · exact h.elim
  · show (match μ[_]? with | some (Cell.lst ds) => some ds | _ => none) = _
    rw [h]
/-- what a check of a row and a length asks -/
def chkP (es : List D) (w : D) (out : Prop) (len : Int → Int → Prop) (item : Int → Prop) (good : Prop) : Prop := match w with
  | .v .non => ItB es 0 255 item good
  | .v (.int n) => (¬ (0 ≤ n ∧ n ≤ 20000) → out) ∧ (0 ≤ n ∧ n ≤ 20000 → ((es.length : Int) ≠ n → len n es.length) ∧ ((es.length : Int) = n → ItB es 0 255 item good))
  | _ => out
def itV (es : List D) : D := match badI es with | some n => refItem n | none => toldD (.v .non)
def chkV (es : List D) (w : D) : D := match w with
  | .v .non => itV es
  | .v (.int n) => if 0 ≤ n ∧ n ≤ 20000 then (if (es.length : Int) = n then itV es else refLen n es.length) else refOut "length"
  | _ => refOut "length"
theorem it_V {es : List D} {Q : D → Prop} (ht : ∀ e ∈ es, TyD e) (q : Q (itV es)) : ItB es 0 255 (fun n => Q (refItem n)) (Q (toldD (.v .non))) := by
  unfold itV at q
  refine it_bi ht (fun n h => ?_) fun h => ?_
  · rw [h] at q
    exact q
  · rw [h] at q
    exact q
theorem it_map {es : List D} {a a' : Int → Prop} {b b' : Prop} (h : ItB es 0 255 a b) (h1 : ∀ n, a n → a' n) (h2 : b → b') : ItB es 0 255 a' b' :=
  ⟨h.1, fun z => h2 (h.2.1 z), fun n x hx hb hp => h1 _ (h.2.2 n x hx hb hp)⟩
theorem chk_V {es : List D} {w : D} {Q : D → Prop} (ht : ∀ e ∈ es, TyD e) (q : Q (chkV es w)) : chkP es w (Q (refOut "length")) (fun n m => Q (refLen n m)) (fun n => Q (refItem n)) (Q (toldD (.v .non))) := by
  unfold chkV at q
  unfold chkP
  split at q
  · exact it_V ht q
  · rename_i n
    refine ⟨fun h => ?_, fun h => ⟨fun h2 => ?_, fun h2 => ?_⟩⟩
    · rw [if_neg h] at q
      exact q
    · rw [if_pos h, if_neg h2] at q
      exact q
    · rw [if_pos h, if_pos h2] at q
      exact it_V ht q
  · rename_i h1 h2
    exact q
theorem chk_non {es : List D} {a d : Prop} {b : Int → Int → Prop} {c : Int → Prop} (h : ItB es 0 255 c d) : chkP es (.v .non) a b c d := h
theorem chk_map {es : List D} {w : D} {a a' : Prop} {b b' : Int → Int → Prop} {c c' : Int → Prop} {d d' : Prop} (h : chkP es w a b c d) (h1 : a → a') (h2 : ∀ n m, b n m → b' n m) (h3 : ∀ n, c n → c' n) (h4 : d → d') : chkP es w a' b' c' d' := by
  unfold chkP at *
  split at h
  · exact it_map h h3 h4
  · exact ⟨fun z => h1 (h.1 z), fun z => ⟨fun y => h2 _ _ ((h.2 z).1 y), fun y => it_map ((h.2 z).2 y) h3 h4⟩⟩
  · exact h1 h
section
variable {P : Program} {w : World} {K : PySem.W.Frag} {mg : Str → Option Value} {base : Heap}
def fLenW (C : Addr) : FD := fun ds μ Q X => ∃ (d : D) (es : List D) (n : Int), ds = [d, .v (.int n)] ∧ itemsOf d μ = some es ∧ ((es.length : Int) = n → Q (.v .non) μ) ∧ ((es.length : Int) ≠ n → X ⟨C, [("found", .v (.int es.length)), ("expected", .v (.int n))]⟩ μ)
theorem sc_check_length : FnScope ["items", "expected"] ["items", "expected"] (defScope (top 24)) := ⟨rfl, rfl, rfl, by decide +kernel, rfl, by decide +kernel, by decide +kernel⟩
theorem ok_check_length (T : Tx K mg) : FnD P w K mg base 3 T.a_check_length T.fd_check_length ["items", "expected"] (fLenW T.a_BadLength) := by
  refine fnD _ T.F_check_length sc_check_length (fun cd A outer s H E B => (d_sone (d_sif (d_tcmp o_ne (d_cb (id := "len") c_len T.n_len (by decide +kernel) (d_cons (d_var 0) d_nil)) (d_var 1)) (d_sone (d_raise B T.e_BadLength (oki_BadLength T) (by decide) T.bi_BadLength (d_cons (d_var 1) (d_cons (d_cb (id := "len") c_len T.n_len (by decide +kernel) (d_cons (d_var 0) d_nil)) d_nil)))) d_snil))) ?_
  rintro ds μ QA XA hl ⟨d, es, n, rfl, hi, h1, h2⟩
  (conv => whnf)
  rw [hi]
  walk_at "all"
  · (conv => whnf)
    rw [hi]
    walk_at "all"
    rename_i e
    exact h2 e
  · rename_i e
    exact h1 e
def fItemsW (C : Addr) : FD := fun ds μ Q X => ∃ (d : D) (es : List D) (lo hi : Int), ds = [d, .v (.int lo), .v (.int hi)] ∧ srcW d es μ ∧ ItB es lo hi (fun n => X ⟨C, [("index", .v (.int n))]⟩ μ) (Q (.v .non) μ)
theorem sc_check_items : FnScope ["items", "low", "high", "index", "item"] ["items", "low", "high"] (defScope (top 25)) := ⟨rfl, rfl, rfl, by decide +kernel, rfl, by decide +kernel, by decide +kernel⟩
theorem ok_check_items (T : Tx K mg) : FnD P w K mg base 3 T.a_check_items T.fd_check_items ["items", "low", "high"] (fItemsW T.a_BadItem) := by
  refine fnD _ T.F_check_items sc_check_items (fun cd A outer s H E B => (d_sone (d_forEV 3 4 B T.n_enumerate (d_cons (d_var 0) d_nil) (d_sone (d_sif (d_tnot (d_tval (d_call B (ok_is_between T) (by decide) T.m_is_between T.k_is_between T.b_is_between (d_cons (d_var 4) (d_cons (d_var 1) (d_cons (d_var 2) d_nil)))))) (d_sone (d_raise B T.e_BadItem (oki_BadItem T) (by decide) T.bi_BadItem (d_cons (d_var 3) d_nil))) d_snil))))) ?_
  rintro ds μ QA XA hl ⟨d, es, lo, hi, rfl, hst, hty, h1, h2⟩
  rcases hst with hst | ⟨k, rfl, hne, hk⟩
  · refine Or.inr ?_
    refine ⟨es, hst, fun n ρ m => ∃ (t1 t2 : Option D), m = μ ∧ (∀ (m : Nat) y, m < n → es[m]? = some y → betD y lo hi = true) ∧ ρ = [some d, some (.v (.int lo)), some (.v (.int hi)), t1, t2], ⟨none, none, rfl, fun _ _ h => absurd h (Nat.not_lt_zero _), rfl⟩, ?_, ?_, ?_⟩
    · rintro n ρ' _ ⟨t1, t2, rfl, _⟩
      exact hst
    · rintro n ρ' _ x hx ⟨t1, t2, rfl, hall, rfl⟩
      obtain ⟨t, ht⟩ := hty x (List.mem_of_getElem? hx)
      refine And.intro rfl ⟨_, _, _, _, rfl, ht, ?_⟩
      walk_at "all"
      · rename_i e
        exact h2 n x hx e hall
      · rename_i e
        refine ⟨_, _, rfl, fun m y hm hy => ?_, rfl⟩
        by_cases z : m = n
        · subst z
          cases hx.symm.trans hy
          exact e
        · exact hall m y (by omega) hy
    · rintro ρ' _ ⟨t1, t2, rfl, hall, rfl⟩
      walk_at "all"
      refine h1 fun e he => ?_
      obtain ⟨i, hi, rfl⟩ := List.mem_iff_getElem.mp he
      exact hall i _ hi (List.getElem?_eq_getElem hi)
  · refine Or.inl ?_
    refine ⟨es, hne, fun n ρ m => ∃ (t1 t2 : Option D), m = μ ∧ (∀ (m : Nat) y, m < n → es[m]? = some y → betD y lo hi = true) ∧ ρ = [some (.loc k), some (.v (.int lo)), some (.v (.int hi)), t1, t2], ⟨none, none, rfl, fun _ _ h => absurd h (Nat.not_lt_zero _), rfl⟩, ?_, ?_, ?_⟩
    · rintro n ρ' _ ⟨t1, t2, rfl, _⟩
      exact hk
    · rintro n ρ' _ x hx ⟨t1, t2, rfl, hall, rfl⟩
      obtain ⟨t, ht⟩ := hty x (List.mem_of_getElem? hx)
      refine And.intro rfl ⟨_, _, _, _, rfl, ht, ?_⟩
      walk_at "all"
      · rename_i e
        exact h2 n x hx e hall
      · rename_i e
        refine ⟨_, _, rfl, fun m y hm hy => ?_, rfl⟩
        by_cases z : m = n
        · subst z
          cases hx.symm.trans hy
          exact e
        · exact hall m y (by omega) hy
    · rintro ρ' _ ⟨t1, t2, rfl, hall, rfl⟩
      walk_at "all"
      refine h1 fun e he => ?_
      obtain ⟨i, hi, rfl⟩ := List.mem_iff_getElem.mp he
      exact hall i _ hi (List.getElem?_eq_getElem hi)
def fChkW (C1 C2 C3 : Addr) : FD := fun ds μ Q X => ∃ (d : D) (es : List D) (w : D), ds = [d, w] ∧ srcW d es μ ∧ TyD w ∧ chkP es w (X ⟨C3, [("name", .v (.str "length"))]⟩ μ) (fun n m => X ⟨C2, [("found", .v (.int m)), ("expected", .v (.int n))]⟩ μ) (fun n => X ⟨C1, [("index", .v (.int n))]⟩ μ) (Q (.v .non) μ)
theorem sc_check_bytes : FnScope ["data", "length"] ["data", "length"] (defScope (top 28)) := ⟨rfl, rfl, rfl, by decide +kernel, rfl, by decide +kernel, by decide +kernel⟩
theorem ok_check_bytes (T : Tx K mg) : FnD P w K mg base 4 T.a_check_bytes T.fd_check_bytes ["data", "length"] (fChkW T.a_BadItem T.a_BadLength T.a_OutOfRange) := by
  refine fnD _ T.F_check_bytes sc_check_bytes (fun cd A outer s H E B => (d_scons (d_sif (d_tcmp o_isn (d_var 1) d_non) (d_scons (d_expr (d_call B (ok_check_between T) (by decide) T.m_check_between T.k_check_between T.b_check_between (d_cons d_str (d_cons (d_var 1) (d_cons d_int (d_cons (d_globV (v := .int 20000) T.m_LONGEST ⟨_, rfl⟩) d_nil))))))
    (d_sone (d_expr (d_call B (ok_check_length T) (by decide) T.m_check_length T.k_check_length T.b_check_length (d_cons (d_var 0) (d_cons (d_var 1) d_nil)))))) d_snil)
    (d_sone (d_expr (d_call B (ok_check_items T) (by decide) T.m_check_items T.k_check_items T.b_check_items (d_cons (d_var 0) (d_cons d_int (d_cons d_int d_nil)))))))) ?_
  rintro ds μ QA XA hl ⟨d, es, w, rfl, hst, ⟨t, ht⟩, h⟩
  cases w with
  | v x =>
    cases x with
    | non =>
      walk_at "all"
      exact ⟨_, _, _, _, rfl, hst, h⟩
    | int n =>
      walk_at "all"
      refine ⟨_, _, _, _, _, rfl, ht, fun hb => ?_, fun hb => ?_⟩
      · have hn : 0 ≤ n ∧ n ≤ 20000 := by
          obtain ⟨i, e, a, b⟩ := bet_inv hb
          cases e
          exact ⟨a, b⟩
        obtain ⟨h1, h2⟩ := h.2 hn
        walk_at "all"
        refine ⟨_, es, n, rfl, srcW_it hst, fun e => ?_, fun e => h1 e⟩
        walk_at "all"
        exact ⟨_, _, _, _, rfl, hst, h2 e⟩
      · refine h.1 fun hn => ?_
        rw [bet_yes hn.1 hn.2] at hb
        cases hb
    | _ => first | (cases ht; done) | (walk_at "all"; exact ⟨_, _, _, _, _, rfl, ht, fun hb => Bool.noConfusion (hb : false = true), fun _ => h⟩)
  | _ => first | (cases ht; done) | (walk_at "all"; exact ⟨_, _, _, _, _, rfl, ht, fun hb => Bool.noConfusion (hb : false = true), fun _ => h⟩)
end
end Pf
set_option Elab.async false
set_option linter.all false
set_option maxRecDepth 100000
set_option maxHeartbeats 4000000
namespace Pf
open PySem L2 DK
local macro_rules | `(tactic| walk_at "side") => `(tactic| first
  | decide
  | ((with_reducible show (_ : Nat) ≤ _); exact Nat.le_of_ble_eq_true rfl)
  | ((with_reducible show (_ : Int) < _); omega)
  | ((with_reducible show (_ : Int) ≤ _); omega)
  | ((with_reducible show CM _ _); exact Or.inl (Or.inr (by decide)))
  | ((with_reducible show CM _ _); exact Or.inl (Or.inl (by decide)))
  | ((with_reducible show CDivW _ _); exact ⟨by first | assumption | omega, by first | assumption | decide⟩)
  | ((with_reducible show scal _ _ = true); rfl)
  | ((with_reducible show CPow _ _); exact ⟨by decide, by decide, by decide⟩)
  | ((with_reducible show _ = _); rfl)
  | ((with_reducible show (_ = _) ∧ (_ = _)); exact ⟨rfl, rfl⟩)
  | ((with_reducible show (_ : Int) ≤ _ ∧ (_ : Int) < _); omega)
  | ((with_reducible show ((_ : Int) ≤ _ ∧ (_ : Int) < _) ∧ ((_ : Int) ≤ _ ∧ (_ : Int) < _)); omega)
  | ((with_reducible show RgOk _ _); unfold RgOk; omega)
  | assumption
  | walk_at "mine"
  | fail)
local macro_rules | `(tactic| walk_at "mine") => `(tactic| fail)
local macro_rules | `(tactic| walk_at "br") => `(tactic| ((refine And.intro (fun (e : (_ : Bool) = true) => ?_) (fun (e : (_ : Bool) = false) => ?_)) <;> (try simp only [Bool.not_eq_true', Bool.not_eq_false', decide_eq_true_eq, decide_eq_false_iff_not, V.int.injEq] at e)))
local macro_rules | `(tactic| walk_at "st") => `(tactic| first
  | (refine at_slots (by (simp only [List.length_cons, List.length_nil, startD_cons, startD_none, startD_nil, List.set_cons_zero, List.set_cons_succ]; rfl)) ?_)
  | ((conv => whnf); first | (with_reducible refine And.intro (fun _ => ?_) (fun e => Bool.noConfusion e)) | (with_reducible refine And.intro (fun e => Bool.noConfusion e) (fun _ => ?_)) | ((with_reducible refine And.intro ?walk_side ?_); (case walk_side => walk_at "side")))
  | walk_at "call"
  | fail)
local macro_rules | `(tactic| walk_at "call") => `(tactic| fail)
local macro_rules | `(tactic| walk_at "go") => `(tactic| (repeat walk_at "st"))
local macro_rules | `(tactic| walk_at "all") => `(tactic| (repeat' (first
  | (refine at_slots (by (simp only [List.length_cons, List.length_nil, startD_cons, startD_none, startD_nil, List.set_cons_zero, List.set_cons_succ]; rfl)) ?_)
  | ((conv => whnf); first | (with_reducible refine And.intro (fun _ => ?_) (fun e => Bool.noConfusion e)) | (with_reducible refine And.intro (fun e => Bool.noConfusion e) (fun _ => ?_)) | ((with_reducible refine And.intro (fun (e : (_ : Bool) = true) => ?_) (fun (e : (_ : Bool) = false) => ?_)) <;> (try simp only [Bool.not_eq_true', Bool.not_eq_false', decide_eq_true_eq, decide_eq_false_iff_not, V.int.injEq] at e)) | ((with_reducible refine And.intro ?walk_side ?_); (case walk_side => walk_at "side")))
  | walk_at "call"
  | fail)))
local macro_rules | `(tactic| walk_at "mine") => `(tactic| (show CM _ _; exact Or.inl (Or.inl (by omega))))
local macro_rules | `(tactic| walk_at "mine") => `(tactic| (show CM _ _; exact Or.inl (Or.inr (by omega))))
theorem fb_two {a b : List D} {A : Nat → Prop} {B : Prop} (h1 : ∀ n, fbR [a, b] = some n → A n) (h2 : fbR [a, b] = none → B) : (∀ n, badI a = some n → A n) ∧ (badI a = none → (∀ n, badI b = some n → A n) ∧ (badI b = none → B)) := by
  have e : fbR [a, b] = (match badI a with | some n => some n | none => badI b) := by
    unfold fbR
    rw [List.findSome?_cons]
    cases badI a with
    | some n => rfl
    | none =>
      show List.findSome? badI [b] = badI b
      rw [List.findSome?_cons]
      cases badI b <;> rfl
  refine ⟨fun n h => h1 n (by rw [e, h]), fun h => ⟨fun n h3 => h1 n (by rw [e, h]; exact h3), fun h3 => h2 (by rw [e, h]; exact h3)⟩⟩
theorem len_flat (rows : List (List D)) {m : Nat} (h : ∀ r ∈ rows, r.length ≤ m) : rows.flatten.length ≤ rows.length * m := by
  induction rows with
  | nil => simp
  | cons r rs ih =>
    rw [List.flatten_cons, List.length_append, List.length_cons, Nat.succ_mul]
    have h1 := h r List.mem_cons_self
    have h2 := ih fun x hx => h x (List.mem_cons_of_mem _ hx)
    omega
theorem flat_take {rows : List (List D)} {n : Nat} {r : List D} (h : rows[n]? = some r) : (rows.take (n + 1)).flatten = (rows.take n).flatten ++ r := by
  rw [List.take_succ, h, List.flatten_append]
  show _ ++ [r].flatten = _
  rw [List.flatten_cons, List.flatten_nil, List.append_nil]
theorem len_take {rows : List (List D)} {n : Nat} {m k : Nat} (h : ∀ r ∈ rows, r.length ≤ m) (hk : rows.length ≤ k) : ((rows.take n).flatten).length ≤ k * m := by
  have := len_flat (rows.take n) (m := m) fun r hr => h r (List.mem_of_mem_take hr)
  rw [List.length_take] at this
  exact Nat.le_trans this (Nat.mul_le_mul_right _ (by omega))
section
variable {P : Program} {w : World} {K : PySem.W.Frag} {mg : Str → Option Value} {base : Heap}
def fXor (C1 C2 : Addr) : FD := fun ds μ Q X => ∃ (es1 es2 : List D), ds = [.lst es1, .lst es2] ∧ es1.length ≤ 30000 ∧ es2.length ≤ 30000 ∧ (∀ e ∈ es1, TyD e) ∧ (∀ e ∈ es2, TyD e) ∧
  (∀ n, fbR [es1, es2] = some n → X ⟨C1, [("index", .v (.int n))]⟩ μ) ∧ (fbR [es1, es2] = none → (es1.length ≠ es2.length → X ⟨C2, [("found", .v (.int es2.length)), ("expected", .v (.int es1.length))]⟩ μ) ∧ (es1.length = es2.length → Q (.lst (iD (xorL (uD es1) (uD es2)))) μ))
theorem sc_xor_bytes : FnScope ["first", "second", "one", "other"] ["first", "second"] (defScope (top 30)) := ⟨rfl, rfl, rfl, by decide +kernel, rfl, by decide +kernel, by decide +kernel⟩
theorem ok_xor_bytes (T : Tx K mg) : FnD P w K mg base 5 T.a_xor_bytes T.fd_xor_bytes ["first", "second"] (fXor T.a_BadItem T.a_BadLength) := by
  refine fnD _ T.F_xor_bytes sc_xor_bytes (fun cd A outer s H E B => (d_scons (d_expr (d_callD B (ok_check_bytes T) (by decide) T.m_check_bytes T.k_check_bytes T.bd_check_bytes (d_cons (d_var 0) d_nil)))
    (d_scons (d_expr (d_callD B (ok_check_bytes T) (by decide) T.m_check_bytes T.k_check_bytes T.bd_check_bytes (d_cons (d_var 1) d_nil)))
    (d_scons (d_expr (d_call B (ok_check_length T) (by decide) T.m_check_length T.k_check_length T.b_check_length (d_cons (d_var 1) (d_cons (d_cb (id := "len") c_len T.n_len (by decide +kernel) (d_cons (d_var 0) d_nil)) d_nil))))
    (d_sone (d_ret (d_lcZ 2 3 B T.n_zip (d_cons (d_var 0) (d_cons (d_var 1) d_nil)) (fun _ _ _ _ _ => d_ifs0) (fun _ _ _ _ _ B => (d_bin o_xor (d_var 2) (d_var 3))) (by show blkC ["first", "second", "one", "other"] (defScope (top 30)) _ _ = true; decide +kernel) (fun _ _ _ _ _ => pg_name B.nd rfl (by first | exact Or.inl rfl | exact Or.inr rfl)) (fun _ _ _ _ _ => pg_name B.nd rfl (by first | exact Or.inl rfl | exact Or.inr rfl))))))))) ?_
  rintro ds μ QA XA hl ⟨es1, es2, rfl, hl1, hl2, ht1, ht2, h1, h2⟩
  obtain ⟨g1, g2⟩ := fb_two h1 h2
  walk_at "all"
  refine ⟨_, es1, _, rfl, Or.inl rfl, ⟨_, rfl⟩, ?_⟩
  refine chk_non (it_bi ht1 g1 fun z1 => ?_)
  obtain ⟨g3, g4⟩ := g2 z1
  walk_at "all"
  refine ⟨_, es2, _, rfl, Or.inl rfl, ⟨_, rfl⟩, ?_⟩
  refine chk_non (it_bi ht2 g3 fun z2 => ?_)
  obtain ⟨q1, q2⟩ := g4 z2
  obtain ⟨e1, b1⟩ := iD_uD z1
  obtain ⟨e2, b2⟩ := iD_uD z2
  have l1 := uD_len es1
  have l2 := uD_len es2
  clear h1 h2 g1 g2 g3 g4 z1 z2
  walk_at "all"
  refine ⟨_, es2, _, rfl, rfl, fun e => ?_, fun e => q1 (by omega)⟩
  have hQ := q2 (by omega)
  clear q1 q2
  generalize uD es1 = as at *
  generalize uD es2 = bs at *
  subst e1 e2
  walk_at "all"
  rw [iD_len] at l1 l2 e hl1 hl2
  refine ⟨iD as, iD bs, rfl, rfl, by rw [iD_len]; omega, fun n acc => acc = iD ((xorL as bs).take n), rfl, ?_, ?_⟩
  · rintro n acc x y hx hy rfl
    obtain ⟨a, rfl, ha'⟩ := iD_get hx
    obtain ⟨b, rfl, hb'⟩ := iD_get hy
    have hn := (List.getElem?_eq_some_iff.mp ha').1
    walk_at "all"
    show _ = _
    unfold xorL
    rw [← iD_take1 hn, getD_of ha', getD_of hb']
  · rintro acc rfl
    rw [iD_len] at e
    rw [iD_len, iD_len, show min as.length bs.length = (xorL as bs).length by rw [xor_len]; omega, List.take_length]
    exact hQ
def fConc (C : Addr) : FD := fun ds μ Q X => ∃ rows : List (List D), ds = [.tup (rows.map D.lst)] ∧ rows.length ≤ 100 ∧ (∀ r ∈ rows, r.length ≤ 5000 ∧ ∀ e ∈ r, TyD e) ∧ (∀ n, fbR rows = some n → X ⟨C, [("index", .v (.int n))]⟩ μ) ∧ (fbR rows = none → Q (.lst rows.flatten) μ)
theorem sc_concatenate : FnScope ["pieces", "piece", "byte"] ["pieces"] (defScope (top 29)) := ⟨rfl, rfl, rfl, by decide +kernel, rfl, by decide +kernel, by decide +kernel⟩
theorem ok_concatenate (T : Tx K mg) : FnS P w K mg base 5 T.a_concatenate (fConc T.a_BadItem) := by
  refine fnD_star _ T.F_concatenate sc_concatenate (fun _ _ _ _ _ _ us => by cases us <;> rfl) (fun cd A outer s H E B => (d_scons (d_forT 1 B (d_var 0) (d_sone (d_expr (d_callD B (ok_check_bytes T) (by decide) T.m_check_bytes T.k_check_bytes T.bd_check_bytes (d_cons (d_var 1) d_nil)))))
    (d_sone (d_ret (d_lc2tS 1 2 B (d_var 0) (fun _ _ _ _ _ B => (d_var 1)) (fun _ _ _ _ _ B => (d_var 2)) (by show blkC ["pieces", "piece", "byte"] (defScope (top 29)) _ _ = true; decide +kernel) (fun _ _ _ _ _ => pg_name B.nd rfl (by first | exact Or.inl rfl | exact Or.inr rfl)) (fun _ _ _ _ _ => pg_name B.nd rfl (by first | exact Or.inl rfl | exact Or.inr rfl))))))) ?_
  rintro ds μ QA XA hl ⟨rows, rfl, hn, hr, h1, h2⟩
  walk_at "all"
  refine ⟨_, rfl, fun n ρ m => m = μ ∧ fbR (rows.take n) = none ∧ ∃ t1 : Option D, ρ = [some (.tup (rows.map D.lst)), t1, none], ⟨rfl, rfl, _, rfl⟩, ?_, ?_⟩
  · rintro n ρ' _ d hd ⟨rfl, hp, t1, rfl⟩
    rw [List.getElem?_map, Option.map_eq_some_iff] at hd
    obtain ⟨r, hrn, rfl⟩ := hd
    have hr' := hr r (List.mem_of_getElem? hrn)
    walk_at "all"
    refine ⟨_, r, _, rfl, Or.inl rfl, ⟨_, rfl⟩, ?_⟩
    refine chk_non (it_bi hr'.2 (fun k hk => h1 k (fb_bad hrn hp hk)) fun z => ?_)
    exact ⟨rfl, fb_ok hrn hp z, _, rfl⟩
  · rintro ρ' _ ⟨rfl, hp, t1, rfl⟩
    rw [List.length_map, List.take_length] at hp
    have hQ := h2 hp
    have hall := fb_all hp
    refine ⟨fun n acc => acc = (rows.take n).flatten, rfl, ?_, ?_⟩
    · rintro n acc d hd rfl
      rw [List.getElem?_map, Option.map_eq_some_iff] at hd
      obtain ⟨r, hrn, rfl⟩ := hd
      have hb := badI_none.mp (hall r (List.mem_of_getElem? hrn))
      refine ⟨r, rfl, rfl, fun k ac => ac = (rows.take n).flatten ++ r.take k, by simp, ?_, ?_⟩
      · rintro k ac y hy rfl
        have hk := (List.getElem?_eq_some_iff.mp hy).1
        have h5 := len_take (n := n) (m := 5000) (k := 100) (fun r hr' => (hr r hr').1) hn
        have h6 := (hr r (List.mem_of_getElem? hrn)).1
        have hy2 := hb y (List.mem_of_getElem? hy)
        obtain ⟨i, rfl, _⟩ := bet_inv hy2
        refine ⟨by rw [List.length_append, List.length_take]; omega, ?_⟩
        walk_at "all"
        show _ = _
        rw [List.take_succ, hy, List.append_assoc]
        rfl
      · rintro ac rfl
        rw [List.take_length, flat_take hrn]
    · rintro acc rfl
      rw [List.length_map, List.take_length]
      exact hQ
end
end Pf
set_option Elab.async false
set_option linter.all false
set_option maxRecDepth 100000
set_option maxHeartbeats 4000000
namespace Pf
open PySem L2 DK
local macro_rules | `(tactic| walk_at "side") => `(tactic| first
  | decide
  | ((with_reducible show (_ : Nat) ≤ _); exact Nat.le_of_ble_eq_true rfl)
  | ((with_reducible show (_ : Int) < _); omega)
  | ((with_reducible show (_ : Int) ≤ _); omega)
  | ((with_reducible show CM _ _); exact Or.inl (Or.inr (by decide)))
  | ((with_reducible show CM _ _); exact Or.inl (Or.inl (by decide)))
  | ((with_reducible show CDivW _ _); exact ⟨by first | assumption | omega, by first | assumption | decide⟩)
  | ((with_reducible show scal _ _ = true); rfl)
  | ((with_reducible show CPow _ _); exact ⟨by decide, by decide, by decide⟩)
  | ((with_reducible show _ = _); rfl)
  | ((with_reducible show (_ = _) ∧ (_ = _)); exact ⟨rfl, rfl⟩)
  | ((with_reducible show (_ : Int) ≤ _ ∧ (_ : Int) < _); omega)
  | ((with_reducible show ((_ : Int) ≤ _ ∧ (_ : Int) < _) ∧ ((_ : Int) ≤ _ ∧ (_ : Int) < _)); omega)
  | ((with_reducible show RgOk _ _); unfold RgOk; omega)
  | assumption
  | walk_at "mine"
  | fail)
local macro_rules | `(tactic| walk_at "mine") => `(tactic| fail)
local macro_rules | `(tactic| walk_at "br") => `(tactic| ((refine And.intro (fun (e : (_ : Bool) = true) => ?_) (fun (e : (_ : Bool) = false) => ?_)) <;> (try simp only [Bool.not_eq_true', Bool.not_eq_false', decide_eq_true_eq, decide_eq_false_iff_not, V.int.injEq] at e)))
local macro_rules | `(tactic| walk_at "st") => `(tactic| first
  | (refine at_slots (by (simp only [List.length_cons, List.length_nil, startD_cons, startD_none, startD_nil, List.set_cons_zero, List.set_cons_succ]; rfl)) ?_)
  | ((conv => whnf); first | (with_reducible refine And.intro (fun _ => ?_) (fun e => Bool.noConfusion e)) | (with_reducible refine And.intro (fun e => Bool.noConfusion e) (fun _ => ?_)) | ((with_reducible refine And.intro ?walk_side ?_); (case walk_side => walk_at "side")))
  | walk_at "call"
  | fail)
local macro_rules | `(tactic| walk_at "call") => `(tactic| fail)
local macro_rules | `(tactic| walk_at "go") => `(tactic| (repeat walk_at "st"))
local macro_rules | `(tactic| walk_at "all") => `(tactic| (repeat' (first
  | (refine at_slots (by (simp only [List.length_cons, List.length_nil, startD_cons, startD_none, startD_nil, List.set_cons_zero, List.set_cons_succ]; rfl)) ?_)
  | ((conv => whnf); first | (with_reducible refine And.intro (fun _ => ?_) (fun e => Bool.noConfusion e)) | (with_reducible refine And.intro (fun e => Bool.noConfusion e) (fun _ => ?_)) | ((with_reducible refine And.intro (fun (e : (_ : Bool) = true) => ?_) (fun (e : (_ : Bool) = false) => ?_)) <;> (try simp only [Bool.not_eq_true', Bool.not_eq_false', decide_eq_true_eq, decide_eq_false_iff_not, V.int.injEq] at e)) | ((with_reducible refine And.intro ?walk_side ?_); (case walk_side => walk_at "side")))
  | walk_at "call"
  | fail)))
local macro_rules | `(tactic| walk_at "mine") => `(tactic| (show CM _ _; exact Or.inl (Or.inl (by omega))))
local macro_rules | `(tactic| walk_at "mine") => `(tactic| (show CM _ _; exact Or.inl (Or.inr (by omega))))
local macro_rules | `(tactic| walk_at "st") => `(tactic| (refine And.intro ⟨rfl, rfl, rfl⟩ ?_))
theorem iD_at {bs : List Int} {i : Nat} {x : Int} (h : bs[i]? = some x) {j : Int} (hj : j = i) : atI (iD bs) j = some (.v (.int x)) := by
  have hl := (List.getElem?_eq_some_iff.mp h).1
  rw [hj]
  refine atI_nat (by omega) ?_
  unfold iD
  rw [show ((i : Nat) : Int).toNat = i by omega, List.getElem?_map, h]
  rfl
theorem ixI {ls : List Int} {i : Int} (h0 : 0 ≤ i) (h1 : i < ls.length) : atI (iD ls) i = some (.v (.int (ls.getD i.toNat 0))) := iD_at (i := i.toNat) (get_of (by omega)) (by omega)
theorem rg_get {n j : Nat} {x : D} (h : ((List.range n).map fun (k : Nat) => D.v (.int (k : Int)))[j]? = some x) : j < n ∧ x = .v (.int (j : Int)) := by
  have hl := (List.getElem?_eq_some_iff.mp h).1
  rw [List.length_map, List.length_range] at hl
  rw [List.getElem?_map, List.getElem?_range hl] at h
  cases h
  exact ⟨hl, rfl⟩
local macro_rules | `(tactic| walk_at "call") => `(tactic| (refine Exists.intro _ (And.intro (ixI (by omega) (by omega)) ?_)))
def xorV (es1 es2 : List D) : D := match fbR [es1, es2] with
  | some n => refItem n
  | none => if es1.length = es2.length then toldD (.lst (iD (xorL (uD es1) (uD es2)))) else refLen es1.length es2.length
def joinV (rows : List (List D)) : D := match fbR rows with
  | some n => refItem n
  | none => toldD (.lst rows.flatten)
theorem xor_V {es1 es2 : List D} {Q : D → Prop} (q : Q (xorV es1 es2)) : (∀ n, fbR [es1, es2] = some n → Q (refItem n)) ∧ (fbR [es1, es2] = none → (es1.length ≠ es2.length → Q (refLen es1.length es2.length)) ∧ (es1.length = es2.length → Q (toldD (.lst (iD (xorL (uD es1) (uD es2))))))) := by
  unfold xorV at q
  refine ⟨fun n h => ?_, fun h => ⟨fun h2 => ?_, fun h2 => ?_⟩⟩
  · rw [h] at q
    exact q
  · simp only [h, if_neg h2] at q
    exact q
  · simp only [h, if_pos h2] at q
    exact q
theorem join_V {rows : List (List D)} {Q : D → Prop} (q : Q (joinV rows)) : (∀ n, fbR rows = some n → Q (refItem n)) ∧ (fbR rows = none → Q (toldD (.lst rows.flatten))) := by
  unfold joinV at q
  refine ⟨fun n h => ?_, fun h => ?_⟩
  · rw [h] at q
    exact q
  · rw [h] at q
    exact q
section
variable {P : Program} {w : World} {K : PySem.W.Frag} {mg : Str → Option Value} {base : Heap}
def fRdue : FD := fun ds μ Q _ => ∃ es : List D, ds = [.lst es, .v (.int (-1)), .v (.int 0), .v (.int 255)] ∧ es.length ≤ 30000 ∧ ItB es 0 255 (fun n => Q (refItem n) μ) (Q (.v .non) μ)
theorem sc__law_row_due : FnScope ["row", "count", "low", "high", "at"] ["row", "count", "low", "high"] (defScope (top 50)) := ⟨rfl, rfl, rfl, by decide +kernel, rfl, by decide +kernel, by decide +kernel⟩
theorem ok__law_row_due (T : Tx K mg) : FnD P w K mg base 3 T.a__law_row_due T.fd__law_row_due ["row", "count", "low", "high"] fRdue := by
  refine fnD _ T.F__law_row_due sc__law_row_due (fun cd A outer s H E B => (d_scons (d_sif (d_tw (d_wand (d_tcmp o_ge (d_var 1) d_int) (d_wand1 (d_tcmp o_ne (d_cb (id := "len") c_len T.n_len (by decide +kernel) (d_cons (d_var 0) d_nil)) (d_var 1))))) (d_sone (d_ret (d_tup (d_cons d_str (d_cons d_str (d_cons (d_var 1) (d_cons (d_cb (id := "len") c_len T.n_len (by decide +kernel) (d_cons (d_var 0) d_nil)) d_nil))))))) d_snil)
    (d_scons (d_forR1 4 B T.n_range (d_cons (d_cb (id := "len") c_len T.n_len (by decide +kernel) (d_cons (d_var 0) d_nil)) d_nil) (d_sone (d_sif (d_tnot (d_tval (d_call B (ok__law_within T) (by decide) T.m__law_within T.k__law_within T.b__law_within (d_cons (d_ixV (d_var 0) (d_var 4)) (d_cons (d_var 2) (d_cons (d_var 3) d_nil)))))) (d_sone (d_ret (d_tup (d_cons d_str (d_cons d_str (d_cons (d_var 4) d_nil)))))) d_snil)))
    (d_sone (d_ret d_non))))) ?_
  rintro ds μ QA XA hl ⟨es, rfl, hlen, hty, h1, h2⟩
  walk_at "all"
  refine ⟨fun n ρ m => ∃ t4 : Option D, n ≤ es.length ∧ m = μ ∧ (∀ (m : Nat) y, m < n → es[m]? = some y → betD y 0 255 = true) ∧ ρ = [some (.lst es), some (.v (.int (-1))), some (.v (.int 0)), some (.v (.int 255)), t4], ⟨none, Nat.zero_le _, rfl, fun _ _ h => absurd h (Nat.not_lt_zero _), rfl⟩, ?_, ?_⟩
  · rintro n ρ' _ hn ⟨t4, _, rfl, hall, rfl⟩
    have hn2 : n < es.length := by omega
    have hx : es[n]? = some es[n] := List.getElem?_eq_getElem hn2
    have hax : atI es (0 + (n : Int)) = some es[n] := by
      rw [Int.zero_add]
      exact atI_nat (by omega) (by rw [show ((n : Nat) : Int).toNat = n by omega]; exact hx)
    obtain ⟨t, ht⟩ := hty _ (List.mem_of_getElem? hx)
    refine Exists.intro _ (And.intro hax ?_)
    refine And.intro rfl ⟨_, _, _, t, rfl, ht, ?_⟩
    walk_at "all"
    · rename_i e
      rw [show (0 : Int) + (n : Int) = (n : Int) by omega]
      exact h2 n _ hx (by simpa using e) hall
    · rename_i e
      refine ⟨_, by omega, rfl, fun m y hm hy => ?_, rfl⟩
      by_cases z : m = n
      · subst z
        cases hx.symm.trans hy
        simpa using e
      · exact hall m y (by omega) hy
  · rintro ρ' _ ⟨t4, _, rfl, hall, rfl⟩
    walk_at "all"
    refine h1 fun e he => ?_
    obtain ⟨i, hi, rfl⟩ := List.mem_iff_getElem.mp he
    exact hall i _ (by omega) (List.getElem?_eq_getElem hi)
def fTck : FD := fun ds μ Q _ => ∃ (d : D) (es : List D) (w : D), ds = [d, w] ∧ srcW d es μ ∧ (∀ e ∈ es, TyD e) ∧ TyD w ∧ Q (chkV es w) μ
theorem sc__law_told_check : FnScope ["row", "wanted", "error"] ["row", "wanted"] (defScope (top 51)) := ⟨rfl, rfl, rfl, by decide +kernel, rfl, by decide +kernel, by decide +kernel⟩
theorem ok__law_told_check (T : Tx K mg) : FnD P w K mg base 6 T.a__law_told_check T.fd__law_told_check ["row", "wanted"] fTck := by
  refine fnD _ T.F__law_told_check sc__law_told_check (fun cd A outer s H E B => (d_sone (d_tryRet 2 B (fun C => PySem.W.exmOne _ (.ref C) (.ref T.a_NoiseboundError)) ⟨rfl, by decide, Or.inl T.m_NoiseboundError⟩ (fun _ _ h => h) (fun _ _ _ B => (d_sone (d_ret (d_tup (d_cons d_str (d_cons (d_callN B (ok_check_bytes T) (by decide) T.m_check_bytes T.k_check_bytes T.kn_check_bytes permN_cat (d_cons (d_var 0) d_nil) (dk_cons (d_var 1) dk_nil)) d_nil)))))) (fun _ _ _ _ _ z hf => (fun B => (d_sone (d_ret (d_callH B (ok__law_refusal T) (by decide) T.m__law_refusal T.k__law_refusal T.b__law_refusal (d_cons (d_var 2) d_nil))))) (bd_suite B z hf))))) ?_
  rintro ds μ QA XA hl ⟨d, es, w, rfl, hst, hty, tw, hQ⟩
  walk_at "all"
  refine And.intro ⟨rfl, rfl, rfl⟩ ⟨d, es, w, rfl, hst, tw, chk_map (chk_V (Q := fun z => QA z μ) hty hQ) (fun q => ?_) (fun n m q => ?_) (fun n q => ?_) (fun q => ?_)⟩
  · conv => whnf
    simp only [T.exm_OutOfRange]
    refine And.intro rfl ⟨_, _, _, .inl ⟨rfl, _, rfl, rfl, rfl⟩, rfl, ?_⟩
    exact ⟨rfl, q⟩
  · conv => whnf
    simp only [T.exm_BadLength]
    refine And.intro rfl ⟨_, _, _, .inr (.inr ⟨rfl, _, _, rfl, rfl, rfl, rfl⟩), rfl, ?_⟩
    exact ⟨rfl, q⟩
  · conv => whnf
    simp only [T.exm_BadItem]
    refine And.intro rfl ⟨_, _, _, .inr (.inl ⟨rfl, _, rfl, rfl, rfl⟩), rfl, ?_⟩
    exact ⟨rfl, q⟩
  · walk_at "all"
    exact q
def fTpl : FD := fun ds μ Q _ => ∃ (d : D) (es : List D), ds = [d] ∧ srcW d es μ ∧ (∀ e ∈ es, TyD e) ∧ Q (chkV es (.v .non)) μ
theorem sc__law_told_plain : FnScope ["row", "error"] ["row"] (defScope (top 52)) := ⟨rfl, rfl, rfl, by decide +kernel, rfl, by decide +kernel, by decide +kernel⟩
theorem ok__law_told_plain (T : Tx K mg) : FnD P w K mg base 6 T.a__law_told_plain T.fd__law_told_plain ["row"] fTpl := by
  refine fnD _ T.F__law_told_plain sc__law_told_plain (fun cd A outer s H E B => (d_sone (d_tryRet 1 B (fun C => PySem.W.exmOne _ (.ref C) (.ref T.a_NoiseboundError)) ⟨rfl, by decide, Or.inl T.m_NoiseboundError⟩ (fun _ _ h => h) (fun _ _ _ B => (d_sone (d_ret (d_tup (d_cons d_str (d_cons (d_callKX B (ok_check_bytes T) (by decide) T.m_check_bytes T.k_check_bytes T.kx_check_bytes_data (dk_cons (d_var 0) dk_nil)) d_nil)))))) (fun _ _ _ _ _ z hf => (fun B => (d_sone (d_ret (d_callH B (ok__law_refusal T) (by decide) T.m__law_refusal T.k__law_refusal T.b__law_refusal (d_cons (d_var 1) d_nil))))) (bd_suite B z hf))))) ?_
  rintro ds μ QA XA hl ⟨d, es, rfl, hst, hty, hQ⟩
  walk_at "all"
  refine ⟨d, es, _, rfl, hst, ⟨_, rfl⟩, chk_map (chk_V (Q := fun z => QA z μ) hty hQ) (fun q => ?_) (fun n m q => ?_) (fun n q => ?_) (fun q => ?_)⟩
  · conv => whnf
    simp only [T.exm_OutOfRange]
    refine And.intro rfl ⟨_, _, _, .inl ⟨rfl, _, rfl, rfl, rfl⟩, rfl, ?_⟩
    exact ⟨rfl, q⟩
  · conv => whnf
    simp only [T.exm_BadLength]
    refine And.intro rfl ⟨_, _, _, .inr (.inr ⟨rfl, _, _, rfl, rfl, rfl, rfl⟩), rfl, ?_⟩
    exact ⟨rfl, q⟩
  · conv => whnf
    simp only [T.exm_BadItem]
    refine And.intro rfl ⟨_, _, _, .inr (.inl ⟨rfl, _, rfl, rfl, rfl⟩), rfl, ?_⟩
    exact ⟨rfl, q⟩
  · walk_at "all"
    exact q
def fTxo : FD := fun ds μ Q _ => ∃ (es1 es2 : List D), ds = [.lst es1, .lst es2] ∧ es1.length ≤ 30000 ∧ es2.length ≤ 30000 ∧ (∀ e ∈ es1, TyD e) ∧ (∀ e ∈ es2, TyD e) ∧ Q (xorV es1 es2) μ
theorem sc__law_told_xor : FnScope ["first", "second", "error"] ["first", "second"] (defScope (top 53)) := ⟨rfl, rfl, rfl, by decide +kernel, rfl, by decide +kernel, by decide +kernel⟩
theorem ok__law_told_xor (T : Tx K mg) : FnD P w K mg base 6 T.a__law_told_xor T.fd__law_told_xor ["first", "second"] fTxo := by
  refine fnD _ T.F__law_told_xor sc__law_told_xor (fun cd A outer s H E B => (d_sone (d_tryRet 2 B (fun C => PySem.W.exmOne _ (.ref C) (.ref T.a_NoiseboundError)) ⟨rfl, by decide, Or.inl T.m_NoiseboundError⟩ (fun _ _ h => h) (fun _ _ _ B => (d_sone (d_ret (d_tup (d_cons d_str (d_cons (d_call B (ok_xor_bytes T) (by decide) T.m_xor_bytes T.k_xor_bytes T.b_xor_bytes (d_cons (d_var 0) (d_cons (d_var 1) d_nil))) d_nil)))))) (fun _ _ _ _ _ z hf => (fun B => (d_sone (d_ret (d_callH B (ok__law_refusal T) (by decide) T.m__law_refusal T.k__law_refusal T.b__law_refusal (d_cons (d_var 2) d_nil))))) (bd_suite B z hf))))) ?_
  rintro ds μ QA XA hl ⟨es1, es2, rfl, hl1, hl2, ht1, ht2, hQ⟩
  obtain ⟨q1, q2⟩ := xor_V (Q := fun z => QA z μ) hQ
  walk_at "all"
  refine ⟨es1, es2, rfl, hl1, hl2, ht1, ht2, fun n h => ?_, fun h => ⟨fun h2 => ?_, fun h2 => ?_⟩⟩
  · conv => whnf
    simp only [T.exm_BadItem]
    refine And.intro rfl ⟨_, _, _, .inr (.inl ⟨rfl, _, rfl, rfl, rfl⟩), rfl, ?_⟩
    exact ⟨rfl, q1 n h⟩
  · conv => whnf
    simp only [T.exm_BadLength]
    refine And.intro rfl ⟨_, _, _, .inr (.inr ⟨rfl, _, _, rfl, rfl, rfl, rfl⟩), rfl, ?_⟩
    exact ⟨rfl, (q2 h).1 h2⟩
  · walk_at "all"
    exact (q2 h).2 h2
def fTjo : FD := fun ds μ Q _ => ∃ rows : List (List D), ds = [.lst (rows.map D.lst)] ∧ 1 ≤ rows.length ∧ rows.length ≤ 5 ∧ (∀ r ∈ rows, r.length ≤ 5000 ∧ ∀ e ∈ r, TyD e) ∧ Q (joinV rows) μ
theorem sc__law_told_join : FnScope ["rows", "error"] ["rows"] (defScope (top 54)) := ⟨rfl, rfl, rfl, by decide +kernel, rfl, by decide +kernel, by decide +kernel⟩
theorem ok__law_told_join (T : Tx K mg) : FnD P w K mg base 6 T.a__law_told_join T.fd__law_told_join ["rows"] fTjo := by
  refine fnD _ T.F__law_told_join sc__law_told_join (fun cd A outer s H E B => (d_sone (d_tryRet 1 B (fun C => PySem.W.exmOne _ (.ref C) (.ref T.a_NoiseboundError)) ⟨rfl, by decide, Or.inl T.m_NoiseboundError⟩ (fun _ _ h => h) (fun _ _ _ B => (d_scons (d_sif (d_tcmp o_eq (d_cb (id := "len") c_len T.n_len (by decide +kernel) (d_cons (d_var 0) d_nil)) d_int) (d_sone (d_ret (d_tup (d_cons d_str (d_cons (d_callSt B (ok_concatenate T) (by decide) T.m_concatenate T.k_concatenate (d_cons (d_ix (d_var 0) d_int) d_nil)) d_nil))))) d_snil)
    (d_scons (d_sif (d_tcmp o_eq (d_cb (id := "len") c_len T.n_len (by decide +kernel) (d_cons (d_var 0) d_nil)) d_int) (d_sone (d_ret (d_tup (d_cons d_str (d_cons (d_callSt B (ok_concatenate T) (by decide) T.m_concatenate T.k_concatenate (d_cons (d_ix (d_var 0) d_int) (d_cons (d_ix (d_var 0) d_int) d_nil))) d_nil))))) d_snil)
    (d_scons (d_sif (d_tcmp o_eq (d_cb (id := "len") c_len T.n_len (by decide +kernel) (d_cons (d_var 0) d_nil)) d_int) (d_sone (d_ret (d_tup (d_cons d_str (d_cons (d_callSt B (ok_concatenate T) (by decide) T.m_concatenate T.k_concatenate (d_cons (d_ix (d_var 0) d_int) (d_cons (d_ix (d_var 0) d_int) (d_cons (d_ix (d_var 0) d_int) d_nil)))) d_nil))))) d_snil)
    (d_scons (d_sif (d_tcmp o_eq (d_cb (id := "len") c_len T.n_len (by decide +kernel) (d_cons (d_var 0) d_nil)) d_int) (d_sone (d_ret (d_tup (d_cons d_str (d_cons (d_callSt B (ok_concatenate T) (by decide) T.m_concatenate T.k_concatenate (d_cons (d_ix (d_var 0) d_int) (d_cons (d_ix (d_var 0) d_int) (d_cons (d_ix (d_var 0) d_int) (d_cons (d_ix (d_var 0) d_int) d_nil))))) d_nil))))) d_snil)
    (d_sone (d_ret (d_tup (d_cons d_str (d_cons (d_callSt B (ok_concatenate T) (by decide) T.m_concatenate T.k_concatenate (d_cons (d_ix (d_var 0) d_int) (d_cons (d_ix (d_var 0) d_int) (d_cons (d_ix (d_var 0) d_int) (d_cons (d_ix (d_var 0) d_int) (d_cons (d_ix (d_var 0) d_int) d_nil)))))) d_nil)))))))))) (fun _ _ _ _ _ z hf => (fun B => (d_sone (d_ret (d_callH B (ok__law_refusal T) (by decide) T.m__law_refusal T.k__law_refusal T.b__law_refusal (d_cons (d_var 1) d_nil))))) (bd_suite B z hf))))) ?_
  rintro ds μ QA XA hl ⟨rows, rfl, hn1, hn2, hr, hQ⟩
  obtain ⟨q1, q2⟩ := join_V (Q := fun z => QA z μ) hQ
  match rows, hn1, hn2 with
  | [a], _, _ =>
    walk_at "all"
    refine ⟨[a], rfl, Nat.le_of_ble_eq_true rfl, hr, fun n h => ?_, fun h => ?_⟩
    · conv => whnf
      simp only [T.exm_BadItem]
      refine And.intro rfl ⟨_, _, _, .inr (.inl ⟨rfl, _, rfl, rfl, rfl⟩), rfl, ?_⟩
      exact ⟨rfl, q1 n h⟩
    · walk_at "all"
      exact q2 h
  | [a, b], _, _ =>
    walk_at "all"
    refine ⟨[a, b], rfl, Nat.le_of_ble_eq_true rfl, hr, fun n h => ?_, fun h => ?_⟩
    · conv => whnf
      simp only [T.exm_BadItem]
      refine And.intro rfl ⟨_, _, _, .inr (.inl ⟨rfl, _, rfl, rfl, rfl⟩), rfl, ?_⟩
      exact ⟨rfl, q1 n h⟩
    · walk_at "all"
      exact q2 h
  | [a, b, c], _, _ =>
    walk_at "all"
    refine ⟨[a, b, c], rfl, Nat.le_of_ble_eq_true rfl, hr, fun n h => ?_, fun h => ?_⟩
    · conv => whnf
      simp only [T.exm_BadItem]
      refine And.intro rfl ⟨_, _, _, .inr (.inl ⟨rfl, _, rfl, rfl, rfl⟩), rfl, ?_⟩
      exact ⟨rfl, q1 n h⟩
    · walk_at "all"
      exact q2 h
  | [a, b, c, d], _, _ =>
    walk_at "all"
    refine ⟨[a, b, c, d], rfl, Nat.le_of_ble_eq_true rfl, hr, fun n h => ?_, fun h => ?_⟩
    · conv => whnf
      simp only [T.exm_BadItem]
      refine And.intro rfl ⟨_, _, _, .inr (.inl ⟨rfl, _, rfl, rfl, rfl⟩), rfl, ?_⟩
      exact ⟨rfl, q1 n h⟩
    · walk_at "all"
      exact q2 h
  | [a, b, c, d, e], _, _ =>
    walk_at "all"
    refine ⟨[a, b, c, d, e], rfl, Nat.le_of_ble_eq_true rfl, hr, fun n h => ?_, fun h => ?_⟩
    · conv => whnf
      simp only [T.exm_BadItem]
      refine And.intro rfl ⟨_, _, _, .inr (.inl ⟨rfl, _, rfl, rfl, rfl⟩), rfl, ?_⟩
      exact ⟨rfl, q1 n h⟩
    · walk_at "all"
      exact q2 h
  | _ :: _ :: _ :: _ :: _ :: _ :: _, _, h => simp at h
end
end Pf
set_option Elab.async false
set_option linter.all false
set_option maxRecDepth 100000
set_option maxHeartbeats 4000000
namespace Pf
open PySem L2 DK
local macro_rules | `(tactic| walk_at "side") => `(tactic| first
  | decide
  | ((with_reducible show (_ : Nat) ≤ _); exact Nat.le_of_ble_eq_true rfl)
  | ((with_reducible show (_ : Int) < _); omega)
  | ((with_reducible show (_ : Int) ≤ _); omega)
  | ((with_reducible show CM _ _); exact Or.inl (Or.inr (by decide)))
  | ((with_reducible show CM _ _); exact Or.inl (Or.inl (by decide)))
  | ((with_reducible show CDivW _ _); exact ⟨by first | assumption | omega, by first | assumption | decide⟩)
  | ((with_reducible show scal _ _ = true); rfl)
  | ((with_reducible show CPow _ _); exact ⟨by decide, by decide, by decide⟩)
  | ((with_reducible show _ = _); rfl)
  | ((with_reducible show (_ = _) ∧ (_ = _)); exact ⟨rfl, rfl⟩)
  | ((with_reducible show (_ : Int) ≤ _ ∧ (_ : Int) < _); omega)
  | ((with_reducible show ((_ : Int) ≤ _ ∧ (_ : Int) < _) ∧ ((_ : Int) ≤ _ ∧ (_ : Int) < _)); omega)
  | ((with_reducible show RgOk _ _); unfold RgOk; omega)
  | assumption
  | walk_at "mine"
  | fail)
local macro_rules | `(tactic| walk_at "mine") => `(tactic| fail)
local macro_rules | `(tactic| walk_at "br") => `(tactic| ((refine And.intro (fun (e : (_ : Bool) = true) => ?_) (fun (e : (_ : Bool) = false) => ?_)) <;> (try simp only [Bool.not_eq_true', Bool.not_eq_false', decide_eq_true_eq, decide_eq_false_iff_not, V.int.injEq] at e)))
local macro_rules | `(tactic| walk_at "st") => `(tactic| first
  | (refine at_slots (by (simp only [List.length_cons, List.length_nil, startD_cons, startD_none, startD_nil, List.set_cons_zero, List.set_cons_succ]; rfl)) ?_)
  | ((conv => whnf); first | (with_reducible refine And.intro (fun _ => ?_) (fun e => Bool.noConfusion e)) | (with_reducible refine And.intro (fun e => Bool.noConfusion e) (fun _ => ?_)) | ((with_reducible refine And.intro ?walk_side ?_); (case walk_side => walk_at "side")))
  | walk_at "call"
  | fail)
local macro_rules | `(tactic| walk_at "call") => `(tactic| fail)
local macro_rules | `(tactic| walk_at "go") => `(tactic| (repeat walk_at "st"))
local macro_rules | `(tactic| walk_at "all") => `(tactic| (repeat' (first
  | (refine at_slots (by (simp only [List.length_cons, List.length_nil, startD_cons, startD_none, startD_nil, List.set_cons_zero, List.set_cons_succ]; rfl)) ?_)
  | ((conv => whnf); first | (with_reducible refine And.intro (fun _ => ?_) (fun e => Bool.noConfusion e)) | (with_reducible refine And.intro (fun e => Bool.noConfusion e) (fun _ => ?_)) | ((with_reducible refine And.intro (fun (e : (_ : Bool) = true) => ?_) (fun (e : (_ : Bool) = false) => ?_)) <;> (try simp only [Bool.not_eq_true', Bool.not_eq_false', decide_eq_true_eq, decide_eq_false_iff_not, V.int.injEq] at e)) | ((with_reducible refine And.intro ?walk_side ?_); (case walk_side => walk_at "side")))
  | walk_at "call"
  | fail)))
local macro_rules | `(tactic| walk_at "mine") => `(tactic| (show CM _ _; exact Or.inl (Or.inl (by omega))))
local macro_rules | `(tactic| walk_at "mine") => `(tactic| (show CM _ _; exact Or.inl (Or.inr (by omega))))
local macro_rules | `(tactic| walk_at "call") => `(tactic| (refine Exists.intro _ (And.intro (ixI (by omega) (by omega)) ?_)))
theorem chkV_int {es : List D} {n : Int} (h : betD (.v (.int n)) 0 20000 = false) : chkV es (.v (.int n)) = refOut "length" := by
  show (if 0 ≤ n ∧ n ≤ 20000 then _ else _) = _
  rw [if_neg]
  intro z
  rw [bet_yes z.1 z.2] at h
  cases h
theorem chkV_ne {es : List D} {n : Int} (h : betD (.v (.int n)) 0 20000 = true) (h2 : ¬ n = (es.length : Int)) : chkV es (.v (.int n)) = refLen n es.length := by
  obtain ⟨i, e, a, b⟩ := bet_inv h
  cases e
  show (if 0 ≤ n ∧ n ≤ 20000 then _ else _) = _
  rw [if_pos ⟨a, b⟩, if_neg fun z => h2 z.symm]
theorem chkV_eq {es : List D} {n : Int} (h : betD (.v (.int n)) 0 20000 = true) (h2 : n = (es.length : Int)) : chkV es (.v (.int n)) = itV es := by
  obtain ⟨i, e, a, b⟩ := bet_inv h
  cases e
  show (if 0 ≤ n ∧ n ≤ 20000 then _ else _) = _
  rw [if_pos ⟨a, b⟩, if_pos h2.symm]
section
variable {P : Program} {w : World} {K : PySem.W.Frag} {mg : Str → Option Value} {base : Heap}
def fCkd : FD := fun ds μ Q _ => ∃ (es : List D) (w : D), ds = [.lst es, w] ∧ es.length ≤ 30000 ∧ (∀ e ∈ es, TyD e) ∧ TyD w ∧ Q (chkV es w) μ
theorem sc__law_check_due : FnScope ["row", "wanted", "fault"] ["row", "wanted"] (defScope (top 55)) := ⟨rfl, rfl, rfl, by decide +kernel, rfl, by decide +kernel, by decide +kernel⟩
theorem ok__law_check_due (T : Tx K mg) : FnD P w K mg base 5 T.a__law_check_due T.fd__law_check_due ["row", "wanted"] fCkd := by
  refine fnD _ T.F__law_check_due sc__law_check_due (fun cd A outer s H E B => (d_scons (d_sif (d_tcmp o_isn (d_var 1) d_non) (d_scons (d_sif (d_tnot (d_tval (d_call B (ok__law_within T) (by decide) T.m__law_within T.k__law_within T.b__law_within (d_cons (d_var 1) (d_cons d_int (d_cons d_int d_nil)))))) (d_sone (d_ret (d_tup (d_cons d_str (d_cons d_str (d_cons d_str d_nil)))))) d_snil)
    (d_sone (d_sif (d_tcmp o_ne (d_var 1) (d_cb (id := "len") c_len T.n_len (by decide +kernel) (d_cons (d_var 0) d_nil))) (d_sone (d_ret (d_tup (d_cons d_str (d_cons d_str (d_cons (d_var 1) (d_cons (d_cb (id := "len") c_len T.n_len (by decide +kernel) (d_cons (d_var 0) d_nil)) d_nil))))))) d_snil))) d_snil)
    (d_scons (d_set 2 B.nd (d_call B (ok__law_row_due T) (by decide) T.m__law_row_due T.k__law_row_due T.b__law_row_due (d_cons (d_var 0) (d_cons (d_un o_neg d_int) (d_cons d_int (d_cons d_int d_nil))))))
    (d_scons (d_sif (d_tcmp o_isn (d_var 2) d_non) (d_sone (d_ret (d_var 2))) d_snil)
    (d_sone (d_ret (d_tup (d_cons d_str (d_cons d_non d_nil))))))))) ?_
  rintro ds μ QA XA hl ⟨es, w, rfl, hlen, hty, ⟨t, ht⟩, hQ⟩
  cases w with
  | v x =>
    cases x with
    | non =>
      walk_at "all"
      refine ⟨es, rfl, hlen, ?_⟩
      refine it_map (it_V (Q := fun z => QA z μ) hty hQ) (fun n q => ?_) (fun q => ?_)
      · walk_at "all"
        exact q
      · walk_at "all"
        exact q
    | int n =>
      walk_at "all"
      refine ⟨_, _, _, t, rfl, ht, ?_⟩
      cases hb : betD (.v (.int n)) 0 20000 with
      | false =>
        rw [chkV_int hb] at hQ
        walk_at "all"
        exact hQ
      | true =>
        walk_at "all"
        · rename_i e
          rw [chkV_ne hb e] at hQ
          exact hQ
        · rename_i e
          rw [chkV_eq hb e] at hQ
          refine ⟨es, rfl, hlen, ?_⟩
          refine it_map (it_V (Q := fun z => QA z μ) hty hQ) (fun n q => ?_) (fun q => ?_)
          · walk_at "all"
            exact q
          · walk_at "all"
            exact q
    | _ => first | (cases ht; done) | (walk_at "all"; refine ⟨_, _, _, _, rfl, ht, ?_⟩; walk_at "all"; exact hQ)
  | _ => first | (cases ht; done) | (walk_at "all"; refine ⟨_, _, _, _, rfl, ht, ?_⟩; walk_at "all"; exact hQ)
def fXdu : FD := fun ds μ Q _ => ∃ (es1 es2 : List D), ds = [.lst es1, .lst es2] ∧ es1.length ≤ 30000 ∧ es2.length ≤ 30000 ∧ (∀ e ∈ es1, TyD e) ∧ (∀ e ∈ es2, TyD e) ∧ Q (xorV es1 es2) μ
theorem sc__law_xor_due : FnScope ["first", "second", "row", "fault", "at"] ["first", "second"] (defScope (top 56)) := ⟨rfl, rfl, rfl, by decide +kernel, rfl, by decide +kernel, by decide +kernel⟩
theorem ok__law_xor_due (T : Tx K mg) : FnD P w K mg base 5 T.a__law_xor_due T.fd__law_xor_due ["first", "second"] fXdu := by
  refine fnD _ T.F__law_xor_due sc__law_xor_due (fun cd A outer s H E B => (d_scons (d_forL 2 B (d_lst (d_cons (d_var 0) (d_cons (d_var 1) d_nil))) (d_scons (d_set 3 B.nd (d_call B (ok__law_row_due T) (by decide) T.m__law_row_due T.k__law_row_due T.b__law_row_due (d_cons (d_var 2) (d_cons (d_un o_neg d_int) (d_cons d_int (d_cons d_int d_nil))))))
    (d_sone (d_sif (d_tcmp o_isn (d_var 3) d_non) (d_sone (d_ret (d_var 3))) d_snil))))
    (d_scons (d_sif (d_tcmp o_ne (d_cb (id := "len") c_len T.n_len (by decide +kernel) (d_cons (d_var 0) d_nil)) (d_cb (id := "len") c_len T.n_len (by decide +kernel) (d_cons (d_var 1) d_nil))) (d_sone (d_ret (d_tup (d_cons d_str (d_cons d_str (d_cons (d_cb (id := "len") c_len T.n_len (by decide +kernel) (d_cons (d_var 0) d_nil)) (d_cons (d_cb (id := "len") c_len T.n_len (by decide +kernel) (d_cons (d_var 1) d_nil)) d_nil))))))) d_snil)
    (d_sone (d_ret (d_tup (d_cons d_str (d_cons (d_lcR1 4 B T.n_range (d_cons (d_cb (id := "len") c_len T.n_len (by decide +kernel) (d_cons (d_var 0) d_nil)) d_nil) (fun _ _ _ _ _ => d_ifs0) (fun _ _ _ _ _ B => (d_bin o_sub (d_bin o_or (d_ixV (d_var 0) (d_var 4)) (d_ixV (d_var 1) (d_var 4))) (d_bin o_and (d_ixV (d_var 0) (d_var 4)) (d_ixV (d_var 1) (d_var 4))))) (by show blkC ["first", "second", "row", "fault", "at"] (defScope (top 56)) _ _ = true; decide +kernel) (fun _ _ _ _ _ => pg_name B.nd rfl (by first | exact Or.inl rfl | exact Or.inr rfl))) d_nil)))))))) ?_
  rintro ds μ QA XA hl ⟨es1, es2, rfl, hl1, hl2, ht1, ht2, hQ⟩
  obtain ⟨q1, q2⟩ := xor_V (Q := fun z => QA z μ) hQ
  walk_at "all"
  have hrr : ∀ r ∈ [es1, es2], r.length ≤ 30000 ∧ ∀ e ∈ r, TyD e := by
    intro r hr
    simp only [List.mem_cons, List.not_mem_nil, or_false] at hr
    rcases hr with rfl | rfl
    · exact ⟨hl1, ht1⟩
    · exact ⟨hl2, ht2⟩
  refine ⟨_, Or.inl rfl, fun n ρ m => m = μ ∧ fbR ([es1, es2].take n) = none ∧ ∃ t2 t3 : Option D, ρ = [some (.lst es1), some (.lst es2), t2, t3, none], ⟨rfl, rfl, _, _, rfl⟩, ?_, ?_⟩
  · rintro n ρ' _ d hd ⟨rfl, hp, t2, t3, rfl⟩
    rw [show [D.lst es1, D.lst es2] = [es1, es2].map D.lst from rfl, List.getElem?_map, Option.map_eq_some_iff] at hd
    obtain ⟨r, hrn, rfl⟩ := hd
    obtain ⟨g1, g2⟩ := hrr r (List.mem_of_getElem? hrn)
    walk_at "all"
    refine ⟨r, rfl, g1, it_bi g2 (fun k hk => ?_) fun z => ?_⟩
    · have hq := q1 k (fb_bad hrn hp hk)
      walk_at "all"
      exact hq
    · have hp2 := fb_ok hrn hp z
      walk_at "all"
      exact ⟨_, _, rfl⟩
  · rintro ρ' _ ⟨rfl, hp, t2, t3, rfl⟩
    have hp : fbR [es1, es2] = none := hp
    obtain ⟨h1, h2⟩ := q2 hp
    obtain ⟨e1, b1⟩ := iD_uD (fb_all hp es1 (by simp))
    obtain ⟨e2, b2⟩ := iD_uD (fb_all hp es2 (by simp))
    have l1 := uD_len es1
    have l2 := uD_len es2
    clear q1 q2 hQ hrr hp
    generalize uD es1 = as at *
    generalize uD es2 = bs at *
    subst e1 e2
    walk_at "all"
    · rename_i e
      exact h1 (by omega)
    · rename_i e
      have hQ := h2 (by omega)
      rw [iD_len] at hl1 hl2 e
      rw [iD_len] at e
      refine ⟨by rw [List.length_map, List.length_range, iD_len]; omega, fun j acc => acc = iD ((xorL as bs).take j), rfl, ?_, ?_⟩
      · rintro j acc x hx rfl
        obtain ⟨hj, rfl⟩ := rg_get hx
        have hj3 : j < as.length := by rw [iD_len] at hj; omega
        have hj4 : j < bs.length := by omega
        walk_at "all"
        show iD _ ++ [D.v (.int (Builtin.bitXor (as.getD ((j : Nat) : Int).toNat 0) (bs.getD ((j : Nat) : Int).toNat 0)))] = _
        rw [show ((j : Nat) : Int).toNat = j by omega]
        unfold xorL
        exact iD_take1 hj3
      · rintro acc rfl
        refine And.intro (show 2 ≤ 10000 by decide) ?_
        rw [List.length_map, List.length_range, List.take_of_length_le (by rw [xor_len, iD_len]; omega)]
        exact hQ
def fJdu : FD := fun ds μ Q _ => ∃ rows : List (List D), ds = [.lst (rows.map D.lst)] ∧ rows.length ≤ 5 ∧ (∀ r ∈ rows, r.length ≤ 5000 ∧ ∀ e ∈ r, TyD e) ∧ Q (joinV rows) μ
theorem sc__law_join_due : FnScope ["rows", "joined", "row", "fault"] ["rows"] (defScope (top 57)) := ⟨rfl, rfl, rfl, by decide +kernel, rfl, by decide +kernel, by decide +kernel⟩
theorem ok__law_join_due (T : Tx K mg) : FnD P w K mg base 5 T.a__law_join_due T.fd__law_join_due ["rows"] fJdu := by
  refine fnD _ T.F__law_join_due sc__law_join_due (fun cd A outer s H E B => (d_scons (d_set 1 B.nd (d_lst d_nil))
    (d_scons (d_forL 2 B (d_var 0) (d_scons (d_set 3 B.nd (d_call B (ok__law_row_due T) (by decide) T.m__law_row_due T.k__law_row_due T.b__law_row_due (d_cons (d_var 2) (d_cons (d_un o_neg d_int) (d_cons d_int (d_cons d_int d_nil))))))
    (d_scons (d_sif (d_tcmp o_isn (d_var 3) d_non) (d_sone (d_ret (d_var 3))) d_snil)
    (d_sone (d_set 1 B.nd (d_bin o_addU (d_var 1) (d_var 2)))))))
    (d_sone (d_ret (d_tup (d_cons d_str (d_cons (d_var 1) d_nil)))))))) ?_
  rintro ds μ QA XA hl ⟨rows, rfl, hn, hr, hQ⟩
  obtain ⟨q1, q2⟩ := join_V (Q := fun z => QA z μ) hQ
  walk_at "all"
  refine ⟨_, Or.inl rfl, fun n ρ m => m = μ ∧ fbR (rows.take n) = none ∧ ∃ t2 t3 : Option D, ρ = [some (.lst (rows.map D.lst)), some (.lst (rows.take n).flatten), t2, t3], ⟨rfl, rfl, _, _, rfl⟩, ?_, ?_⟩
  · rintro n ρ' _ d hd ⟨rfl, hp, t2, t3, rfl⟩
    rw [List.getElem?_map, Option.map_eq_some_iff] at hd
    obtain ⟨r, hrn, rfl⟩ := hd
    obtain ⟨g1, g2⟩ := hr r (List.mem_of_getElem? hrn)
    have h5 := len_take (n := n) (m := 5000) (k := 5) (fun r hr' => (hr r hr').1) hn
    walk_at "all"
    refine ⟨r, rfl, by omega, it_bi g2 (fun k hk => ?_) fun z => ?_⟩
    · have hq := q1 k (fb_bad hrn hp hk)
      walk_at "all"
      exact hq
    · have hp2 := fb_ok hrn hp z
      walk_at "all"
      refine And.intro (show (rows.take n).flatten.length + r.length ≤ 1000000 by omega) ?_
      exact ⟨rfl, hp2, _, _, by rw [flat_take hrn]; rfl⟩
  · rintro ρ' _ ⟨rfl, hp, t2, t3, rfl⟩
    rw [List.length_map, List.take_length] at hp
    have hQ := q2 hp
    rw [List.length_map, List.take_length]
    walk_at "all"
    exact hQ
end
end Pf
set_option Elab.async false
set_option linter.all false
set_option maxRecDepth 100000
set_option maxHeartbeats 4000000
namespace Pf
open PySem L2 DK
local macro_rules | `(tactic| walk_at "side") => `(tactic| first
  | decide
  | ((with_reducible show (_ : Nat) ≤ _); exact Nat.le_of_ble_eq_true rfl)
  | ((with_reducible show (_ : Int) < _); omega)
  | ((with_reducible show (_ : Int) ≤ _); omega)
  | ((with_reducible show CM _ _); exact Or.inl (Or.inr (by decide)))
  | ((with_reducible show CM _ _); exact Or.inl (Or.inl (by decide)))
  | ((with_reducible show CDivW _ _); exact ⟨by first | assumption | omega, by first | assumption | decide⟩)
  | ((with_reducible show scal _ _ = true); rfl)
  | ((with_reducible show CPow _ _); exact ⟨by decide, by decide, by decide⟩)
  | ((with_reducible show _ = _); rfl)
  | ((with_reducible show (_ = _) ∧ (_ = _)); exact ⟨rfl, rfl⟩)
  | ((with_reducible show (_ : Int) ≤ _ ∧ (_ : Int) < _); omega)
  | ((with_reducible show ((_ : Int) ≤ _ ∧ (_ : Int) < _) ∧ ((_ : Int) ≤ _ ∧ (_ : Int) < _)); omega)
  | ((with_reducible show RgOk _ _); unfold RgOk; omega)
  | assumption
  | walk_at "mine"
  | fail)
local macro_rules | `(tactic| walk_at "mine") => `(tactic| fail)
local macro_rules | `(tactic| walk_at "br") => `(tactic| ((refine And.intro (fun (e : (_ : Bool) = true) => ?_) (fun (e : (_ : Bool) = false) => ?_)) <;> (try simp only [Bool.not_eq_true', Bool.not_eq_false', decide_eq_true_eq, decide_eq_false_iff_not, V.int.injEq] at e)))
local macro_rules | `(tactic| walk_at "st") => `(tactic| first
  | (refine at_slots (by (simp only [List.length_cons, List.length_nil, startD_cons, startD_none, startD_nil, List.set_cons_zero, List.set_cons_succ]; rfl)) ?_)
  | ((conv => whnf); first | (with_reducible refine And.intro (fun _ => ?_) (fun e => Bool.noConfusion e)) | (with_reducible refine And.intro (fun e => Bool.noConfusion e) (fun _ => ?_)) | ((with_reducible refine And.intro ?walk_side ?_); (case walk_side => walk_at "side")))
  | walk_at "call"
  | fail)
local macro_rules | `(tactic| walk_at "call") => `(tactic| fail)
local macro_rules | `(tactic| walk_at "go") => `(tactic| (repeat walk_at "st"))
local macro_rules | `(tactic| walk_at "all") => `(tactic| (repeat' (first
  | (refine at_slots (by (simp only [List.length_cons, List.length_nil, startD_cons, startD_none, startD_nil, List.set_cons_zero, List.set_cons_succ]; rfl)) ?_)
  | ((conv => whnf); first | (with_reducible refine And.intro (fun _ => ?_) (fun e => Bool.noConfusion e)) | (with_reducible refine And.intro (fun e => Bool.noConfusion e) (fun _ => ?_)) | ((with_reducible refine And.intro (fun (e : (_ : Bool) = true) => ?_) (fun (e : (_ : Bool) = false) => ?_)) <;> (try simp only [Bool.not_eq_true', Bool.not_eq_false', decide_eq_true_eq, decide_eq_false_iff_not, V.int.injEq] at e)) | ((with_reducible refine And.intro ?walk_side ?_); (case walk_side => walk_at "side")))
  | walk_at "call"
  | fail)))
local macro_rules | `(tactic| walk_at "call") => `(tactic| ((with_reducible show fTake _ _ _ _); refine ⟨_, _, _, rfl, by first | assumption | decide | exact log_small (by omega) (by omega), rfl, ‹StC _›, fun r c' hr0 hr1 hc => ?_⟩))
local macro_rules | `(tactic| walk_at "call") => `(tactic| ((with_reducible show fBetw _ _ _ _); refine ⟨_, _, _, _, rfl, by first | assumption | decide | omega, rfl, ‹StC _›, fun r c' hr0 hr1 hc => ?_⟩))
local macro_rules | `(tactic| walk_at "call") => `(tactic| ((with_reducible show fBeyond _ _ _ _); refine ⟨_, _, _, _, rfl, rfl, ‹StC _›, fun d c' hd hc => ?_⟩))
local macro_rules | `(tactic| walk_at "call") => `(tactic| ((with_reducible show fOther _ _ _ _); refine ⟨_, _, rfl, rfl, ‹StC _›, fun d c' hd hc => ?_⟩))
local macro_rules | `(tactic| walk_at "mine") => `(tactic| ((with_reducible show CM _ _); exact Or.inl (Or.inl (by omega))))
local macro_rules | `(tactic| walk_at "mine") => `(tactic| ((with_reducible show CM _ _); exact Or.inl (Or.inr (by omega))))
local macro_rules | `(tactic| walk_at "mine") => `(tactic| ((with_reducible show CDivW _ _); exact ⟨by omega, by first | decide | exact log_small (by omega) (by omega)⟩))
local macro_rules | `(tactic| walk_at "mine") => `(tactic| ((with_reducible show CShl _ _); exact cshl_small (by omega) (by omega) (by omega) (by omega)))
local macro_rules | `(tactic| walk_at "call") => `(tactic| ((conv => whnf); rw [‹tyM _ (D.loc _) = some _›]))
local macro_rules | `(tactic| walk_at "call") => `(tactic| ((conv => whnf); rw [‹itemsOf (D.loc _) _ = some _›]))
theorem pick_int {d : D} {es : List D} (h : d ∈ es) (ha : es.all numD = true) : ∃ r : Int, d = .v (.int r) := by
  have := List.all_eq_true.mp ha d h
  unfold numD at this
  split at this
  · exact ⟨_, rfl⟩
  · cases this
local macro_rules | `(tactic| walk_at "call") => `(tactic| ((with_reducible show fPick _ _ _ _); refine ⟨_, _, _, _, rfl, Or.inl rfl, by simp, by simp, rfl, ‹StC _›, fun d c' hd hc => ?_⟩; obtain ⟨r, er⟩ := pick_int hd rfl; subst er; (have hp := hd); (simp only [List.mem_cons, D.v.injEq, V.int.injEq, List.not_mem_nil, or_false] at hp)))
local macro_rules | `(tactic| walk_at "call") => `(tactic| ((with_reducible show fDraw _ _ _ _); refine ⟨_, _, _, rfl, rfl, ‹StC _›, fun r c' hr0 hr1 hc => ?_⟩))
theorem rep_ints {k : Nat} {v : Int} : (List.replicate k [D.v (.int v)]).flatten = iD (List.replicate k v) := by
  induction k with
  | zero => rfl
  | succ m ih => rw [List.replicate_succ, List.replicate_succ, List.flatten_cons, ih]; rfl
theorem set_newC {c : Cell} {μ : Sto} {xs : List Int} {i v : Int} {Q : Sto → Prop} (h0 : 0 ≤ i) (h1 : i < xs.length) (h : Q (c :: (μ ++ [.lst (iD (xs.set i.toNat v))]))) : setIt (.loc (c :: μ).length) (.v (.int i)) (.v (.int v)) (c :: (μ ++ [.lst (iD xs)])) Q := by
  have e : (c :: (μ ++ [Cell.lst (iD xs)]))[(c :: μ).length]? = some (.lst (iD xs)) := by
    show ((c :: μ) ++ [Cell.lst (iD xs)])[(c :: μ).length]? = _
    rw [List.getElem?_append_right (Nat.le_refl _), Nat.sub_self]
    rfl
  have e2 : ixN (iD xs).length i = some i.toNat := by unfold ixN; rw [if_pos h0, iD_len, if_pos h1]
  unfold setIt
  simp only [e, e2]
  rw [iD_set]
  have e3 : (c :: (μ ++ [Cell.lst (iD xs)])).set (c :: μ).length (.lst (iD (xs.set i.toNat v))) = c :: (μ ++ [.lst (iD (xs.set i.toNat v))]) := by
    show ((c :: μ) ++ [Cell.lst (iD xs)]).set (c :: μ).length _ = _
    rw [List.set_append_right _ _ (Nat.le_refl _), Nat.sub_self]
    rfl
  rw [e3]
  exact h
theorem w_ints {xs : List Int} {c c' : Cell} {μ' : Sto} {QA : QD} (hc : StC c') (h : QA (.lst (iD xs)) (c' :: μ')) : wQ (c :: μ') QA (.lst (iD xs)) (c' :: μ') := w_d0 (st_keeps hc) (lbs_ints (n := (c :: μ').length) (l := xs)) (noErrs_ints (l := xs)) h
theorem w_intsC {xs : List Int} {c c' : Cell} {μ' : Sto} {QA : QD} (hc : StC c') (h : QA (.lst (iD xs)) (c' :: μ')) : wQ (c :: μ') QA (.loc (c' :: μ').length) (c' :: (μ' ++ [.lst (iD xs)])) := w_new (μ := c :: μ') (ex := []) (st_keeps hc) (lbs_ints (l := xs)) (noErrs_ints (l := xs)) h
theorem out_pl2 {lo hi : Int} {d : D} (h : OutD lo hi d) : plD 2 d = true := by
  rcases h with h | ⟨r, rfl, _⟩
  · simp only [othersD, List.mem_cons, List.not_mem_nil, or_false] at h
    rcases h with rfl | rfl | rfl | rfl | rfl | rfl | rfl | rfl | rfl | rfl <;> rfl
  · rfl
/-- items of a row: of any kind -/
def OkI (e : D) : Prop := TyD e ∧ plD 2 e = true
theorem OkI.int {i : Int} : OkI (.v (.int i)) := ⟨TyD.int, rfl⟩
theorem OkI.out {lo hi : Int} {d : D} (h : OutD lo hi d) : OkI d := ⟨(NoD.out h).1, out_pl2 h⟩
theorem okI_iD {xs : List Int} : ∀ e ∈ iD xs, OkI e := fun e he => by
  obtain ⟨z, _, rfl⟩ := List.mem_map.mp he
  exact OkI.int
theorem okI_lb {k : Nat} {es : List D} (h : ∀ e ∈ es, OkI e) : lbs k es = true ∧ noErrs es = true := lbs_of fun d hd => pl_lb 2 d (h d hd).2
theorem w_tup1 {μ μc ex : Sto} {QA : QD} {es : List D} {d2 : D} (k : Keeps μ μc) (h1 : lbs μ.length es = true) (h2 : noErrs es = true) (h3 : lb μ.length d2 = true) (h4 : noErr d2 = true) (h : QA (.tup [.lst es, d2]) μc) : wQ μ QA (.tup [.loc μ.length, d2]) (μc ++ .lst es :: ex) := by
  refine ⟨.tup [.lst es, d2], μc, .lst es :: ex, ?_, rfl, k, h⟩
  have e1 : fz (μc ++ Cell.lst es :: ex) μ.length (.loc μ.length) = some (.lst es) := by
    unfold fz
    rw [if_neg (by omega), List.getElem?_append_right (by rw [k.len]; exact Nat.le_refl _), k.len, Nat.sub_self]
    show (if (lbs μ.length es && noErrs es) = true then _ else _) = _
    rw [h1, h2]
    rfl
  have e2 : fz (μc ++ Cell.lst es :: ex) μ.length d2 = some d2 := fz_same h3 h4
  unfold fz fzs
  rw [e1]
  unfold fzs
  rw [e2]
  rfl
theorem w_tup0 {c c7 : Cell} {μ' ex : Sto} {QA : QD} {es : List D} {d2 : D} (hc : StC c7) (h1 : lbs (c :: μ').length es = true ∧ noErrs es = true) (h3 : lb (c :: μ').length d2 = true) (h4 : noErr d2 = true) (h : QA (.tup [.lst es, d2]) (c7 :: μ')) : wQ (c :: μ') QA (.tup [.lst es, d2]) (c7 :: (μ' ++ ex)) := by
  refine w_d (μ := c :: μ') (μc := c7 :: μ') (ex := ex) (st_keeps hc) ?_ ?_ h
  · show (lbs (c :: μ').length es && (lb (c :: μ').length d2 && true)) = true
    rw [h1.1, h3]
    rfl
  · show (noErrs es && (noErr d2 && true)) = true
    rw [h1.2, h4]
    rfl
section
variable {P : Program} {w : World} {K : PySem.W.Frag} {mg : Str → Option Value} {base : Heap}
/-- a byte list drawn -/
def fBytG : FD := fun ds μ Q _ => ∃ (n : Nat) (c : Cell) (μ' : Sto), ds = [.loc 0, .v (.int (n : Int))] ∧ n ≤ 30000 ∧ μ = c :: μ' ∧ StC c ∧ ∀ (bs : List Int) (c' : Cell), ByL bs → bs.length = n → StC c' → Q (.lst (iD bs)) (c' :: μ')
theorem okB__law_bytes (T : Tx K mg) : FnD P w K mg base 5 T.a__law_bytes T.fd__law_bytes ["store", "count"] fBytG := by
  refine fnD_frz _ T.F__law_bytes sc__law_bytes (fun cd A outer s H E B => (d_scons (d_set 2 B.nd (d_call B (ok__law_take T) (by decide) T.m__law_take T.k__law_take T.b__law_take (d_cons (d_var 0) (d_cons d_int d_nil))))
    (d_scons (d_sif (d_tcmp o_eq (d_var 2) d_int) (d_scons (d_set 4 B.nd (d_call B (ok__law_pick T) (by decide) T.m__law_pick T.k__law_pick T.b__law_pick (d_cons (d_var 0) (d_cons (d_lst (d_cons d_int (d_cons d_int (d_cons d_int (d_cons d_int (d_cons d_int d_nil)))))) d_nil))))
    (d_sone (d_ret (d_bin o_rep (d_lst (d_cons (d_var 4) d_nil)) (d_var 1))))) d_snil)
    (d_scons (d_sif (d_tcmp o_eq (d_var 2) d_int) (d_scons (d_set 5 B.nd (d_lst (d_cons (d_call B (ok__law_take T) (by decide) T.m__law_take T.k__law_take T.b__law_take (d_cons (d_var 0) (d_cons d_int d_nil))) (d_cons (d_call B (ok__law_take T) (by decide) T.m__law_take T.k__law_take T.b__law_take (d_cons (d_var 0) (d_cons d_int d_nil))) (d_cons d_int d_nil)))))
    (d_sone (d_ret (d_lcR1 9 B T.n_range (d_cons (d_var 1) d_nil) (fun _ _ _ _ _ => d_ifs0) (fun _ _ _ _ _ B => (d_ixV (d_var 5) (d_bin o_mod (d_ct c_int T.n_int (by decide +kernel) (d_cons (d_bin o_mul (d_var 9) (d_bin o_addU d_int (d_bin o_div (d_var 9) d_int))) d_nil)) d_int))) (by show blkC ["store", "count", "kind", "seed", "one", "few", "start", "step", "row", "at", "turn"] (defScope (top 46)) _ _ = true; decide +kernel) (fun _ _ _ _ _ => pg_name B.nd rfl (by first | exact Or.inl rfl | exact Or.inr rfl)))))) d_snil)
    (d_scons (d_sif (d_tcmp o_eq (d_var 2) d_int) (d_scons (d_set 6 B.nd (d_call B (ok__law_take T) (by decide) T.m__law_take T.k__law_take T.b__law_take (d_cons (d_var 0) (d_cons d_int d_nil))))
    (d_scons (d_set 7 B.nd (d_call B (ok__law_take T) (by decide) T.m__law_take T.k__law_take T.b__law_take (d_cons (d_var 0) (d_cons d_int d_nil))))
    (d_sone (d_ret (d_lcR1 9 B T.n_range (d_cons (d_var 1) d_nil) (fun _ _ _ _ _ => d_ifs0) (fun _ _ _ _ _ B => (d_bin o_mod (d_ct c_int T.n_int (by decide +kernel) (d_cons (d_bin o_addU (d_var 6) (d_bin o_mul (d_var 7) (d_var 9))) d_nil)) d_int)) (by show blkC ["store", "count", "kind", "seed", "one", "few", "start", "step", "row", "at", "turn"] (defScope (top 46)) _ _ = true; decide +kernel) (fun _ _ _ _ _ => pg_name B.nd rfl (by first | exact Or.inl rfl | exact Or.inr rfl))))))) d_snil)
    (d_scons (d_sif (d_tw (d_wand (d_tcmp o_eq (d_var 2) d_int) (d_wand1 (d_tcmp o_gt (d_var 1) d_int)))) (d_scons (d_set 8 B.nd (d_bin o_repM (d_lst (d_cons d_int d_nil)) (d_var 1)))
    (d_scons (d_setIx (d_bin o_addU d_int (d_call B (ok__law_take T) (by decide) T.m__law_take T.k__law_take T.b__law_take (d_cons (d_var 0) (d_cons d_int d_nil)))) (d_var 8) (d_call B (ok__law_between T) (by decide) T.m__law_between T.k__law_between T.b__law_between (d_cons (d_var 0) (d_cons d_int (d_cons (d_bin o_sub (d_var 1) d_int) d_nil)))))
    (d_sone (d_ret (d_var 8))))) d_snil)
    (d_scons (d_sif (d_tcmp o_le (d_var 1) d_int) (d_sone (d_ret (d_lcR1K 10 B T.n_range (d_cons (d_var 1) d_nil) (fun _ _ _ _ _ => d_ifs0) (fun _ _ _ _ _ B => (d_call B (ok__law_take T) (by decide) T.m__law_take T.k__law_take T.b__law_take (d_cons (d_var 0) (d_cons d_int d_nil)))) (by show blkC ["store", "count", "kind", "seed", "one", "few", "start", "step", "row", "at", "turn"] (defScope (top 46)) _ _ = true; decide +kernel) (fun _ _ _ _ _ => pg_name B.nd rfl (by first | exact Or.inl rfl | exact Or.inr rfl))))) d_snil)
    (d_scons (d_set 3 B.nd (d_call B (ok__law_take T) (by decide) T.m__law_take T.k__law_take T.b__law_take (d_cons (d_var 0) (d_cons (d_bin o_pow d_int d_int) d_nil))))
    (d_sone (d_ret (d_lcR1 9 B T.n_range (d_cons (d_var 1) d_nil) (fun _ _ _ _ _ => d_ifs0) (fun _ _ _ _ _ B => (d_bin o_mod (d_ct c_int T.n_int (by decide +kernel) (d_cons (d_call B (ok__law_mixed T) (by decide) T.m__law_mixed T.k__law_mixed T.b__law_mixed (d_cons (d_var 3) (d_cons (d_var 9) d_nil))) d_nil)) d_int)) (by show blkC ["store", "count", "kind", "seed", "one", "few", "start", "step", "row", "at", "turn"] (defScope (top 46)) _ _ = true; decide +kernel) (fun _ _ _ _ _ => pg_name B.nd rfl (by first | exact Or.inl rfl | exact Or.inr rfl))))))))))))) ?_
  rintro ds μ QA XA hl ⟨n, c, μ', rfl, hn, rfl, hc, hQ⟩
  walk_at "all"
  · refine And.intro (by show 1 * _ ≤ _; omega) ?_
    show wQ _ _ (.lst (List.flatten (List.replicate _ [D.v (.int _)]))) _
    rw [rep_ints]
    exact w_ints (by assumption) (hQ _ _ (by_rep (by omega) (by omega)) (by rw [List.length_replicate]; omega) (by assumption))
  · rename_i r0 c0 _ _ hc0 _ _ r1 c1 h10 h11 hc1 r2 c2 h20 h21 hc2
    conv => whnf
    refine And.intro (by rw [List.length_map, List.length_range]; omega) ⟨fun k acc => ∃ xs : List Int, acc = iD xs ∧ ByL xs ∧ xs.length = k, ⟨[], rfl, fun _ h => (List.not_mem_nil h).elim, rfl⟩, ?_, ?_⟩
    · rintro k acc x hx ⟨xs, rfl, hb, hl⟩
      have hk : k < (n : Int).toNat := by
        have := (List.getElem?_eq_some_iff.mp hx).1
        rw [List.length_map, List.length_range] at this
        exact this
      rw [List.getElem?_map, List.getElem?_range hk] at hx
      cases hx
      obtain ⟨b, e1, e2, e3⟩ := few_at (r1 := r1) (r2 := r2) ((k : Int) * (1 + (k : Int) / 3)) (by omega) (by omega) (by omega) (by omega)
      walk_at "all"
      refine Exists.intro _ (And.intro e1 ?_)
      walk_at "all"
      exact ⟨xs ++ [b], by simp [iD], by_snoc hb e2 e3, by simp [hl]⟩
    · rintro acc ⟨xs, rfl, hb, hl⟩
      rw [List.length_map, List.length_range] at hl
      exact w_ints (by assumption) (hQ xs _ hb (by omega) (by assumption))
  · rename_i r0 c0 _ _ hc0 _ _ _ r1 c1 h10 h11 hc1 r2 c2 h20 h21 hc2
    conv => whnf
    refine And.intro (by rw [List.length_map, List.length_range]; omega) ⟨fun k acc => ∃ xs : List Int, acc = iD xs ∧ ByL xs ∧ xs.length = k, ⟨[], rfl, fun _ h => (List.not_mem_nil h).elim, rfl⟩, ?_, ?_⟩
    · rintro k acc x hx ⟨xs, rfl, hb, hl⟩
      have hk : k < (n : Int).toNat := by
        have := (List.getElem?_eq_some_iff.mp hx).1
        rw [List.length_map, List.length_range] at this
        exact this
      rw [List.getElem?_map, List.getElem?_range hk] at hx
      cases hx
      walk_at "all"
      refine ⟨xs ++ [_], by simp only [iD, List.map_append, List.map_cons, List.map_nil]; rfl, by_snoc hb (by omega) (by omega), by simp [hl]⟩
    · rintro acc ⟨xs, rfl, hb, hl⟩
      rw [List.length_map, List.length_range] at hl
      exact w_ints (by assumption) (hQ xs _ hb (by omega) (by assumption))
  · refine And.intro (by show 1 * _ ≤ _; omega) ?_
    walk_at "all"
    rename_i v c1 hv0 hv1 hc1 i c2 hi0 hi1 hc2
    show setIt (.loc (c2 :: μ').length) _ _ (c2 :: (μ' ++ [.lst (List.flatten (List.replicate _ [D.v (.int 0)]))])) _
    rw [rep_ints]
    refine set_newC hi0 (by rw [List.length_replicate]; omega) ?_
    exact w_intsC hc2 (hQ _ _ (by_set (by_rep (by decide) (by decide)) (by omega) (by omega)) (by rw [List.length_set, List.length_replicate]; omega) hc2)
  ·
    conv => whnf
    refine And.intro (by rw [List.length_map, List.length_range]; omega) ⟨fun k acc m => ∃ (xs : List Int) (c2 : Cell), acc = iD xs ∧ m = c2 :: μ' ∧ StC c2 ∧ xs.length = k ∧ ByL xs, ⟨[], _, rfl, rfl, by assumption, rfl, fun _ h => (List.not_mem_nil h).elim⟩, ?_, ?_⟩
    · rintro k acc x m hx _ ⟨xs, c2, rfl, rfl, hc2, hk, hb⟩
      refine And.intro rfl (And.intro (fun _ => ?_) (fun e => Bool.noConfusion e))
      walk_at "all"
      rename_i v c3 hv0 hv1 hc3
      exact ⟨c3 :: μ', rfl, st_keeps hc3, ⟨rfl, rfl⟩, xs ++ [v], c3, by unfold iD; rw [List.map_append]; rfl, rfl, hc3, by rw [List.length_append, hk]; rfl, by_snoc hb hv0 (by omega)⟩
    · rintro acc m ⟨xs, c2, rfl, rfl, hc2, hk, hb⟩
      rw [List.length_map, List.length_range] at hk
      exact w_ints hc2 (hQ _ _ hb (by omega) hc2)
  ·
    conv => whnf
    refine And.intro (by rw [List.length_map, List.length_range]; omega) ⟨fun k acc => ∃ xs : List Int, acc = iD xs ∧ ByL xs ∧ xs.length = k, ⟨[], rfl, fun _ h => (List.not_mem_nil h).elim, rfl⟩, ?_, ?_⟩
    · rintro k acc x hx ⟨xs, rfl, hb, hl⟩
      have hk : k < (n : Int).toNat := by
        have := (List.getElem?_eq_some_iff.mp hx).1
        rw [List.length_map, List.length_range] at this
        exact this
      rw [List.getElem?_map, List.getElem?_range hk] at hx
      cases hx
      walk_at "all"
      refine ⟨_, _, rfl, fun z => ?_⟩
      walk_at "all"
      refine ⟨xs ++ [z % 256], by simp only [iD, List.map_append, List.map_cons, List.map_nil], by_snoc hb (by omega) (by omega), by simp [hl]⟩
    · rintro acc ⟨xs, rfl, hb, hl⟩
      rw [List.length_map, List.length_range] at hl
      exact w_ints (by assumption) (hQ xs _ hb (by omega) (by assumption))
  ·
    conv => whnf
    refine And.intro (by rw [List.length_map, List.length_range]; omega) ⟨fun k acc m => ∃ (xs : List Int) (c2 : Cell), acc = iD xs ∧ m = c2 :: μ' ∧ StC c2 ∧ xs.length = k ∧ ByL xs, ⟨[], _, rfl, rfl, by assumption, rfl, fun _ h => (List.not_mem_nil h).elim⟩, ?_, ?_⟩
    · rintro k acc x m hx _ ⟨xs, c2, rfl, rfl, hc2, hk, hb⟩
      refine And.intro rfl (And.intro (fun _ => ?_) (fun e => Bool.noConfusion e))
      walk_at "all"
      rename_i v c3 hv0 hv1 hc3
      exact ⟨c3 :: μ', rfl, st_keeps hc3, ⟨rfl, rfl⟩, xs ++ [v], c3, by unfold iD; rw [List.map_append]; rfl, rfl, hc3, by rw [List.length_append, hk]; rfl, by_snoc hb hv0 (by omega)⟩
    · rintro acc m ⟨xs, c2, rfl, rfl, hc2, hk, hb⟩
      rw [List.length_map, List.length_range] at hk
      exact w_ints hc2 (hQ _ _ hb (by omega) hc2)
  ·
    conv => whnf
    refine And.intro (by rw [List.length_map, List.length_range]; omega) ⟨fun k acc => ∃ xs : List Int, acc = iD xs ∧ ByL xs ∧ xs.length = k, ⟨[], rfl, fun _ h => (List.not_mem_nil h).elim, rfl⟩, ?_, ?_⟩
    · rintro k acc x hx ⟨xs, rfl, hb, hl⟩
      have hk : k < (n : Int).toNat := by
        have := (List.getElem?_eq_some_iff.mp hx).1
        rw [List.length_map, List.length_range] at this
        exact this
      rw [List.getElem?_map, List.getElem?_range hk] at hx
      cases hx
      walk_at "all"
      refine ⟨_, _, rfl, fun z => ?_⟩
      walk_at "all"
      refine ⟨xs ++ [z % 256], by simp only [iD, List.map_append, List.map_cons, List.map_nil], by_snoc hb (by omega) (by omega), by simp [hl]⟩
    · rintro acc ⟨xs, rfl, hb, hl⟩
      rw [List.length_map, List.length_range] at hl
      exact w_ints (by assumption) (hQ xs _ hb (by omega) (by assumption))
end
theorem get_topB {c : Cell} {μ : Sto} {es : List D} : (c :: (μ ++ [Cell.lst es]))[μ.length + 1]? = some (.lst es) := by
  show ((c :: μ) ++ [Cell.lst es])[(c :: μ).length]? = _
  rw [List.getElem?_append_right (Nat.le_refl _), Nat.sub_self]
  rfl
theorem get_topC {c : Cell} {μ : Sto} {es : List D} : (c :: List.append μ [Cell.lst es])[μ.length + 1]? = some (.lst es) := get_topB
theorem it_topB {c : Cell} {μ : Sto} {es : List D} : itemsOf (.loc (μ.length + 1)) (c :: (μ ++ [.lst es])) = some es := by simp only [itemsOf, get_topB]
theorem it_topC {c : Cell} {μ : Sto} {es : List D} : itemsOf (.loc (μ.length + 1)) (c :: List.append μ [.lst es]) = some es := it_topB
theorem it_topA {c0 c : Cell} {μ : Sto} {es : List D} : itemsOf (.loc (c0 :: μ).length) (c :: μ ++ [.lst es]) = some es := it_topB
theorem set_topB {c : Cell} {μ : Sto} {es : List D} {i : Int} {d : D} {Q : Sto → Prop} (h0 : 0 ≤ i) (h1 : i < es.length) (h : Q (c :: (μ ++ [.lst (es.set i.toNat d)]))) : setIt (.loc (μ.length + 1)) (.v (.int i)) d (c :: (μ ++ [.lst es])) Q := by
  have e2 : ixN es.length i = some i.toNat := by unfold ixN; rw [if_pos h0, if_pos h1]
  unfold setIt
  simp only [get_topB, e2]
  have e3 : (c :: (μ ++ [Cell.lst es])).set (μ.length + 1) (.lst (es.set i.toNat d)) = c :: (μ ++ [.lst (es.set i.toNat d)]) := by
    show ((c :: μ) ++ [Cell.lst es]).set (c :: μ).length _ = _
    rw [List.set_append_right _ _ (Nat.le_refl _), Nat.sub_self]
    rfl
  rw [e3]
  exact h
local macro_rules | `(tactic| walk_at "call") => `(tactic| ((conv => whnf); first | rw [it_topA] | rw [it_topB] | rw [it_topC] | rw [ls_topB] | rw [ls_topC] | rw [get_topB] | rw [get_topC]))
local macro_rules | `(tactic| walk_at "call") => `(tactic| ((with_reducible refine sub_set (x := ?xa) (y := ?ya) ?seta ?setb ?_); (case seta => exact rfl); (case setb => exact rfl); refine set_topB (by first | omega | (simp only [List.length_set, iD_len]; omega)) (by first | omega | (simp only [List.length_set, iD_len]; omega)) ?_))
theorem it_topD {c : Cell} {μ : Sto} {es : List D} : itemsOf (.loc (μ.length + 1)) (c :: μ ++ [.lst es]) = some es := it_topB
local macro_rules | `(tactic| walk_at "call") => `(tactic| ((conv => whnf); rw [it_topD]))
/-- a row with a first bad item -/
def Bnt (lo hi : Int) (N : Nat) (es : List D) (k : Int) : Prop := (∀ e ∈ es, OkI e) ∧ es.length = N ∧ 0 ≤ k ∧ ∃ x : D, es[k.toNat]? = some x ∧ betD x lo hi = false ∧ ∀ (m : Nat) y, m < k.toNat → es[m]? = some y → betD y lo hi = true
theorem in_all {lo hi : Int} {xs : List Int} (h : ∀ x ∈ xs, lo ≤ x ∧ x ≤ hi) : ∀ e ∈ iD xs, betD e lo hi = true := by
  intro e he
  obtain ⟨z, hz, rfl⟩ := List.mem_map.mp he
  exact bet_yes (h z hz).1 (h z hz).2
section
variable {P : Program} {w : World} {K : PySem.W.Frag} {mg : Str → Option Value} {base : Heap}
def fBnt : FD := fun ds μ Q _ => ∃ (xs : List Int) (lo hi : Int) (c : Cell) (μ' : Sto), ds = [.loc 0, .lst (iD xs), .v (.int lo), .v (.int hi)] ∧ (∀ x ∈ xs, lo ≤ x ∧ x ≤ hi) ∧ xs.length ≤ 2000 ∧ μ = c :: μ' ∧ StC c ∧ ∀ (es : List D) (k : Int) (c' : Cell), Bnt lo hi (max 1 xs.length) es k → StC c' → Q (.tup [.lst es, .v (.int k)]) (c' :: μ')
theorem okB__law_bent_row (T : Tx K mg) : FnD P w K mg base 5 T.a__law_bent_row T.fd__law_bent_row ["store", "row", "low", "high"] fBnt := by
  refine fnD_frz _ T.F__law_bent_row sc__law_bent_row (fun cd A outer s H E B => (d_scons (d_set 4 B.nd (d_ct c_listM T.n_list (by decide +kernel) (d_cons (d_var 1) d_nil)))
    (d_scons (d_sif (d_tcmp o_eq (d_cb (id := "len") c_len T.n_len (by decide +kernel) (d_cons (d_var 4) d_nil)) d_int) (d_sone (d_ret (d_tup (d_cons (d_lst (d_cons (d_call B (ok__law_beyond T) (by decide) T.m__law_beyond T.k__law_beyond T.b__law_beyond (d_cons (d_var 0) (d_cons (d_var 2) (d_cons (d_var 3) d_nil)))) d_nil)) (d_cons d_int d_nil))))) d_snil)
    (d_scons (d_set 5 B.nd (d_call B (ok__law_between T) (by decide) T.m__law_between T.k__law_between T.b__law_between (d_cons (d_var 0) (d_cons d_int (d_cons (d_bin o_sub (d_cb (id := "len") c_len T.n_len (by decide +kernel) (d_cons (d_var 4) d_nil)) d_int) d_nil)))))
    (d_scons (d_sif (d_tcmp o_eq (d_call B (ok__law_take T) (by decide) T.m__law_take T.k__law_take T.b__law_take (d_cons (d_var 0) (d_cons d_int d_nil))) d_int) (d_sone (d_setIx (d_call B (ok__law_beyond T) (by decide) T.m__law_beyond T.k__law_beyond T.b__law_beyond (d_cons (d_var 0) (d_cons (d_var 2) (d_cons (d_var 3) d_nil)))) (d_var 4) (d_call B (ok__law_between T) (by decide) T.m__law_between T.k__law_between T.b__law_between (d_cons (d_var 0) (d_cons (d_var 5) (d_cons (d_bin o_sub (d_cb (id := "len") c_len T.n_len (by decide +kernel) (d_cons (d_var 4) d_nil)) d_int) d_nil)))))) d_snil)
    (d_scons (d_setIx (d_call B (ok__law_beyond T) (by decide) T.m__law_beyond T.k__law_beyond T.b__law_beyond (d_cons (d_var 0) (d_cons (d_var 2) (d_cons (d_var 3) d_nil)))) (d_var 4) (d_var 5))
    (d_sone (d_ret (d_tup (d_cons (d_var 4) (d_cons (d_var 5) d_nil))))))))))) ?_
  rintro ds μ QA XA hl ⟨xs, lo, hi, c, μ', rfl, hb, hx, rfl, hc, hQ⟩
  have hl0 : (iD xs).length = xs.length := iD_len xs
  walk_at "all"
  · rename_i e0 d c1 hd hc1
    have k1 : ∀ e ∈ [d], OkI e := fun e he => by
      rw [List.mem_singleton.mp he]
      exact OkI.out hd
    exact w_tup0 (c := c) (μ' := μ') hc1 (okI_lb k1) rfl rfl (hQ [d] 0 c1 ⟨k1, by show 1 = max 1 xs.length; omega, by decide, d, rfl, (NoD.out hd).2, fun m y hm => absurd hm (Nat.not_lt_zero m)⟩ hc1)
  · rename_i e0 at' c1 ha0 ha1 hc1 r c2 hr0 hr1 hc2 e d1 c3 hd1 hc3 j c4 hj0 hj1 hc4
    have e2 : ixN (iD xs).length j = some j.toNat := by unfold ixN; rw [if_pos (by omega), if_pos (by omega)]
    conv => whnf
    rw [e2]
    have e5 : ∀ b : Cell, (c4 :: List.append μ' [Cell.lst (iD xs)]).set (μ'.length + 1) b = c4 :: (μ' ++ [b]) := fun b => by
      show (c4 :: (μ' ++ [Cell.lst (iD xs)])).set (μ'.length + 1) b = _
      rw [List.set_cons_succ, List.set_append_right _ _ (Nat.le_refl _), Nat.sub_self]
      rfl
    conv => whnf
    rw [e5]
    walk_at "all"
    rename_i d2 c5 hd2 hc5
    have k1 : ∀ e ∈ ((iD xs).set j.toNat d1).set at'.toNat d2, OkI e := fun e he => by
      rcases List.mem_or_eq_of_mem_set he with h | rfl
      · rcases List.mem_or_eq_of_mem_set h with h | rfl
        · exact okI_iD e h
        · exact OkI.out hd1
      · exact OkI.out hd2
    have k2 : (((iD xs).set j.toNat d1).set at'.toNat d2).length = xs.length := by rw [List.length_set, List.length_set, iD_len]
    have k3 : Bnt lo hi (max 1 xs.length) (((iD xs).set j.toNat d1).set at'.toNat d2) at' := by
      refine ⟨k1, by omega, ha0, d2, List.getElem?_set_self (by rw [List.length_set, iD_len]; omega), (NoD.out hd2).2, fun m y hm hy => ?_⟩
      rw [List.getElem?_set_ne (by omega), List.getElem?_set_ne (by omega)] at hy
      exact in_all hb y (List.mem_of_getElem? hy)
    have k4 := okI_lb (k := (c :: μ').length) k1
    exact w_tup1 (μ := c :: μ') (μc := c5 :: μ') (ex := []) (st_keeps hc5) k4.1 k4.2 rfl rfl (hQ _ _ _ k3 hc5)
  · rename_i e0 at' c1 ha0 ha1 hc1 r c2 hr0 hr1 hc2 e d2 c5 hd2 hc5
    walk_at "all"
    have k1 : ∀ e ∈ (iD xs).set at'.toNat d2, OkI e := fun e he => by
      rcases List.mem_or_eq_of_mem_set he with h | rfl
      · exact okI_iD e h
      · exact OkI.out hd2
    have k2 : ((iD xs).set at'.toNat d2).length = xs.length := by rw [List.length_set, iD_len]
    have k3 : Bnt lo hi (max 1 xs.length) ((iD xs).set at'.toNat d2) at' := by
      refine ⟨k1, by omega, ha0, d2, List.getElem?_set_self (by rw [iD_len]; omega), (NoD.out hd2).2, fun m y hm hy => ?_⟩
      rw [List.getElem?_set_ne (by omega)] at hy
      exact in_all hb y (List.mem_of_getElem? hy)
    have k4 := okI_lb (k := (c :: μ').length) k1
    exact w_tup1 (μ := c :: μ') (μc := c5 :: μ') (ex := []) (st_keeps hc5) k4.1 k4.2 rfl rfl (hQ _ _ _ k3 hc5)
def fMisG : FD := fun ds μ Q _ => ∃ (es : List D) (c : Cell) (μ' : Sto), ds = [.loc 0, .lst es] ∧ 1 ≤ es.length ∧ es.length ≤ 300 ∧ (∀ e ∈ es, OkI e) ∧ μ = c :: μ' ∧ StC c ∧ ∀ (fs : List D) (c' : Cell), fs.length ≠ es.length → fs.length ≤ 600 → (∀ e ∈ fs, OkI e) → StC c' → Q (.lst fs) (c' :: μ')
end
end Pf
set_option Elab.async false
set_option linter.all false
set_option maxRecDepth 100000
set_option maxHeartbeats 4000000
namespace Pf
open PySem L2 DK
local macro_rules | `(tactic| walk_at "side") => `(tactic| first
  | decide
  | ((with_reducible show (_ : Nat) ≤ _); exact Nat.le_of_ble_eq_true rfl)
  | ((with_reducible show (_ : Int) < _); omega)
  | ((with_reducible show (_ : Int) ≤ _); omega)
  | ((with_reducible show CM _ _); exact Or.inl (Or.inr (by decide)))
  | ((with_reducible show CM _ _); exact Or.inl (Or.inl (by decide)))
  | ((with_reducible show CDivW _ _); exact ⟨by first | assumption | omega, by first | assumption | decide⟩)
  | ((with_reducible show scal _ _ = true); rfl)
  | ((with_reducible show CPow _ _); exact ⟨by decide, by decide, by decide⟩)
  | ((with_reducible show _ = _); rfl)
  | ((with_reducible show (_ = _) ∧ (_ = _)); exact ⟨rfl, rfl⟩)
  | ((with_reducible show (_ : Int) ≤ _ ∧ (_ : Int) < _); omega)
  | ((with_reducible show ((_ : Int) ≤ _ ∧ (_ : Int) < _) ∧ ((_ : Int) ≤ _ ∧ (_ : Int) < _)); omega)
  | ((with_reducible show RgOk _ _); unfold RgOk; omega)
  | assumption
  | walk_at "mine"
  | fail)
local macro_rules | `(tactic| walk_at "mine") => `(tactic| fail)
local macro_rules | `(tactic| walk_at "br") => `(tactic| ((refine And.intro (fun (e : (_ : Bool) = true) => ?_) (fun (e : (_ : Bool) = false) => ?_)) <;> (try simp only [Bool.not_eq_true', Bool.not_eq_false', decide_eq_true_eq, decide_eq_false_iff_not, V.int.injEq] at e)))
local macro_rules | `(tactic| walk_at "st") => `(tactic| first
  | (refine at_slots (by (simp only [List.length_cons, List.length_nil, startD_cons, startD_none, startD_nil, List.set_cons_zero, List.set_cons_succ]; rfl)) ?_)
  | ((conv => whnf); first | (with_reducible refine And.intro (fun _ => ?_) (fun e => Bool.noConfusion e)) | (with_reducible refine And.intro (fun e => Bool.noConfusion e) (fun _ => ?_)) | ((with_reducible refine And.intro ?walk_side ?_); (case walk_side => walk_at "side")))
  | walk_at "call"
  | fail)
local macro_rules | `(tactic| walk_at "call") => `(tactic| fail)
local macro_rules | `(tactic| walk_at "go") => `(tactic| (repeat walk_at "st"))
local macro_rules | `(tactic| walk_at "all") => `(tactic| (repeat' (first
  | (refine at_slots (by (simp only [List.length_cons, List.length_nil, startD_cons, startD_none, startD_nil, List.set_cons_zero, List.set_cons_succ]; rfl)) ?_)
  | ((conv => whnf); first | (with_reducible refine And.intro (fun _ => ?_) (fun e => Bool.noConfusion e)) | (with_reducible refine And.intro (fun e => Bool.noConfusion e) (fun _ => ?_)) | ((with_reducible refine And.intro (fun (e : (_ : Bool) = true) => ?_) (fun (e : (_ : Bool) = false) => ?_)) <;> (try simp only [Bool.not_eq_true', Bool.not_eq_false', decide_eq_true_eq, decide_eq_false_iff_not, V.int.injEq] at e)) | ((with_reducible refine And.intro ?walk_side ?_); (case walk_side => walk_at "side")))
  | walk_at "call"
  | fail)))
local macro_rules | `(tactic| walk_at "mine") => `(tactic| (show CM _ _; exact Or.inl (Or.inl (by omega))))
local macro_rules | `(tactic| walk_at "mine") => `(tactic| (show CM _ _; exact Or.inl (Or.inr (by omega))))
local macro_rules | `(tactic| walk_at "call") => `(tactic| (show fTake _ _ _ _; refine ⟨_, _, _, rfl, by first | assumption | decide | exact log_small (by omega) (by omega), rfl, ‹StC _›, fun r c' hr0 hr1 hc => ?_⟩))
local macro_rules | `(tactic| walk_at "call") => `(tactic| (show fBetw _ _ _ _; refine ⟨_, _, _, _, rfl, by first | assumption | decide | omega, rfl, ‹StC _›, fun r c' hr0 hr1 hc => ?_⟩))
local macro_rules | `(tactic| walk_at "call") => `(tactic| (show fBeyond _ _ _ _; refine ⟨_, _, _, _, rfl, rfl, ‹StC _›, fun d c' hd hc => ?_⟩))
local macro_rules | `(tactic| walk_at "call") => `(tactic| (show fCnt _ _ _ _; refine ⟨_, _, _, rfl, by omega, by omega, rfl, ‹StC _›, fun r c' hr0 hr1 hc => ?_⟩))
theorem cut_mem {es : List D} {lo hi : Option Int} {e : D} (h : e ∈ cutD es lo hi) : e ∈ es := by
  unfold cutD at h
  exact List.mem_of_mem_drop (List.mem_of_mem_take h)
theorem cut_len {es : List D} {lo hi : Option Int} : (cutD es lo hi).length ≤ es.length := by
  unfold cutD
  rw [List.length_take, List.length_drop]
  omega
theorem pl_chk (es : List D) (w : D) : plD 5 (chkV es w) = true := by
  have h : plD 5 (itV es) = true := by
    unfold itV
    split <;> rfl
  unfold chkV
  split
  · exact h
  · split
    · split
      · exact h
      · rfl
    · rfl
  · rfl
theorem long_ok : ∀ n < 14, CM (10 ^ (59 + 60 * n)) (10 ^ 60) := fun n h => Or.inr (by
  have := (by unfold CMulX; decide +kernel : ∀ n < 14, CMulX (10 ^ (59 + 60 * n)) (10 ^ 60))
  exact this n h)
theorem pl_up {n : Nat} {d : D} (h : plD n d = true) : plD (n + 1) d = true := by
  induction n generalizing d with
  | zero => cases h
  | succ n ih =>
    cases d with
    | v x => cases x <;> first | exact h | rfl
    | lst es =>
      obtain ⟨a, b⟩ := Bool.and_eq_true_iff.mp (show (decide (es.length ≤ 30000) && es.all (plD n)) = true from h)
      exact pl_lst (of_decide_eq_true a) fun e he => ih (List.all_eq_true.mp b e he)
    | tup es =>
      obtain ⟨a, b⟩ := Bool.and_eq_true_iff.mp (show (decide (es.length ≤ 30000) && es.all (plD n)) = true from h)
      exact Bool.and_eq_true_iff.mpr ⟨a, List.all_eq_true.mpr fun e he => ih (List.all_eq_true.mp b e he)⟩
    | _ => cases h
def lng (n : Nat) : Int := 10 ^ (59 + 60 * n)
theorem lng_e (n : Nat) : lng n = 10 ^ (59 + 60 * n) := rfl
theorem lng_0 : lng 0 = 10 ^ Int.toNat 59 := rfl
theorem lng_s (n : Nat) : lng n * 10 ^ Int.toNat 60 = lng (n + 1) := by
  rw [lng_e, lng_e, show 59 + 60 * (n + 1) = 59 + 60 * n + 60 by omega, Int.pow_add 10 (59 + 60 * n) 60]
  have e : (10 : Int) ^ Int.toNat 60 = 10 ^ 60 := by rw [show Int.toNat 60 = 60 from rfl]
  rw [e]
theorem bad_last {L : List D} {d : D} {n : Nat} (hl : L.length = n + 1) (hL : badI L = none) (hd : betD d 0 255 = false) : badI (L.set n d) = some n := by
  refine badI_some (x := d) (List.getElem?_set_self (by omega)) hd fun m y hm hy => ?_
  rw [List.getElem?_set_ne (by omega)] at hy
  exact badI_none.mp hL y (List.mem_of_getElem? hy)
def RowOk (es : List D) : Prop := ∀ e ∈ es, TyD e ∧ plD 3 e = true
theorem row_ty {es : List D} (h : RowOk es) : ∀ e ∈ es, TyD e := fun e he => (h e he).1
theorem row_ne {es : List D} (h : RowOk es) : noErrs es = true := (lbs_of fun e he => pl_lb (k := 1) 3 e (h e he).2).2
theorem row_set {es : List D} {n : Nat} {d : D} (h : RowOk es) (hd : TyD d ∧ plD 3 d = true) : RowOk (es.set n d) := fun e he => by
  rcases List.mem_or_eq_of_mem_set he with h2 | rfl
  · exact h e h2
  · exact hd
section
variable {P : Program} {w : World} {K : PySem.W.Frag} {mg : Str → Option Value} {base : Heap}
def fBrw : FD := fun ds μ Q _ => ∃ (m : Int) (c : Cell) (μ' : Sto), ds = [.loc 0, .v (.int m)] ∧ 0 ≤ m ∧ m ≤ 30000 ∧ μ = c :: μ' ∧ StC c ∧ ∀ (bs : List Int) (c' : Cell), ByL bs → (bs.length : Int) ≤ m → StC c' → Q (.lst (iD bs)) (c' :: μ')
theorem sc__law_byte_row : FnScope ["store", "most"] ["store", "most"] (defScope (top 47)) := ⟨rfl, rfl, rfl, by decide +kernel, rfl, by decide +kernel, by decide +kernel⟩
theorem ok__law_byte_row (T : Tx K mg) : FnD P w K mg base 6 T.a__law_byte_row T.fd__law_byte_row ["store", "most"] fBrw := by
  refine fnD _ T.F__law_byte_row sc__law_byte_row (fun cd A outer s H E B => (d_sone (d_ret (d_call B (okB__law_bytes T) (by decide) T.m__law_bytes T.k__law_bytes T.b__law_bytes (d_cons (d_var 0) (d_cons (d_call B (ok__law_count T) (by decide) T.m__law_count T.k__law_count T.b__law_count (d_cons (d_var 0) (d_cons (d_var 1) d_nil))) d_nil)))))) ?_
  rintro ds μ QA XA hl ⟨m, c, μ', rfl, h0, h1, rfl, hc, hQ⟩
  walk_at "all"
  rename_i r c1 hr0 hr1 hc1
  obtain ⟨n, rfl⟩ := Int.eq_ofNat_of_zero_le hr0
  refine ⟨n, _, _, rfl, by omega, rfl, hc1, fun bs c' hb hbl hc' => ?_⟩
  exact hQ bs c' hb (by omega) hc'
def fMis : FD := fun ds μ Q _ => ∃ (es : List D) (c : Cell), ds = [.loc 0, .lst es] ∧ es.length ≤ 10000 ∧ (∀ e ∈ es, betD e 0 255 = true) ∧ μ = [c] ∧ StC c ∧ ∀ (fs : List D) (c' : Cell), fs.length ≤ 2 * es.length + 1 → (∀ e ∈ fs, betD e 0 255 = true) → StC c' → Q (.lst fs) [c']
theorem sc__law_misfit : FnScope ["store", "row", "kind"] ["store", "row"] (defScope (top 48)) := ⟨rfl, rfl, rfl, by decide +kernel, rfl, by decide +kernel, by decide +kernel⟩
theorem ok__law_misfit (T : Tx K mg) : FnD P w K mg base 3 T.a__law_misfit T.fd__law_misfit ["store", "row"] fMis := by
  refine fnD _ T.F__law_misfit sc__law_misfit (fun cd A outer s H E B => (d_scons (d_set 2 B.nd (d_call B (ok__law_take T) (by decide) T.m__law_take T.k__law_take T.b__law_take (d_cons (d_var 0) (d_cons d_int d_nil))))
    (d_scons (d_sif (d_tw (d_wand (d_tcmp o_eq (d_var 2) d_int) (d_wand1 (d_tcmp o_gt (d_cb (id := "len") c_len T.n_len (by decide +kernel) (d_cons (d_var 1) d_nil)) d_int)))) (d_sone (d_ret (d_slice (d_var 1) (d_part d_int) d_no))) d_snil)
    (d_scons (d_sif (d_tw (d_wand (d_tcmp o_eq (d_var 2) d_int) (d_wand1 (d_tcmp o_gt (d_cb (id := "len") c_len T.n_len (by decide +kernel) (d_cons (d_var 1) d_nil)) d_int)))) (d_sone (d_ret (d_slice (d_var 1) d_no (d_part (d_un o_neg d_int))))) d_snil)
    (d_scons (d_sif (d_tw (d_wand (d_tcmp o_eq (d_var 2) d_int) (d_wand1 (d_tcmp o_gt (d_cb (id := "len") c_len T.n_len (by decide +kernel) (d_cons (d_var 1) d_nil)) d_int)))) (d_sone (d_ret (d_lst d_nil))) d_snil)
    (d_scons (d_sif (d_tw (d_wand (d_tcmp o_eq (d_var 2) d_int) (d_wand1 (d_tcmp o_gt (d_cb (id := "len") c_len T.n_len (by decide +kernel) (d_cons (d_var 1) d_nil)) d_int)))) (d_sone (d_ret (d_bin o_addU (d_var 1) (d_var 1)))) d_snil)
    (d_sone (d_ret (d_bin o_addU (d_var 1) (d_if (d_tcmp o_gt (d_cb (id := "len") c_len T.n_len (by decide +kernel) (d_cons (d_var 1) d_nil)) d_int) (d_slice (d_var 1) (d_part (d_un o_neg d_int)) d_no) (d_lst (d_cons d_int d_nil)))))))))))) ?_
  rintro ds μ QA XA hl ⟨es, c, rfl, h2, hok, rfl, hc, hQ⟩
  have l1 : (cutD es (some 1) none).length ≤ es.length := cut_len
  have l2 : (cutD es none (some (-1))).length ≤ es.length := cut_len
  have l3 : (cutD es (some (-1)) none).length ≤ es.length := cut_len
  walk_at "all"
  all_goals first
    | exact hQ (cutD es (some 1) none) _ (by omega) (fun e he => hok e (cut_mem he)) (by assumption)
    | exact hQ (cutD es none (some (-1))) _ (by omega) (fun e he => hok e (cut_mem he)) (by assumption)
    | exact hQ [] _ (by show 0 ≤ _; omega) (fun e he => (List.not_mem_nil he).elim) (by assumption)
    | exact ⟨by omega, hQ (es ++ es) _ (by rw [List.length_append]; omega) (fun e he => (List.mem_append.mp he).elim (hok e) (hok e)) (by assumption)⟩
    | exact And.intro (show es.length + (cutD es (some (-1)) none).length ≤ 1000000 by omega) (hQ (es ++ cutD es (some (-1)) none) _ (by rw [List.length_append]; omega) (fun e he => (List.mem_append.mp he).elim (hok e) (fun g => hok e (cut_mem g))) (by assumption))
    | exact And.intro (show es.length + 1 ≤ 1000000 by omega) (hQ (es ++ [D.v (V.int 0)]) _ (by rw [List.length_append]; show es.length + 1 ≤ _; omega) (fun e he => (List.mem_append.mp he).elim (hok e) (fun g => by rw [List.mem_singleton.mp g]; rfl)) (by assumption))
def fPb : FD := fun ds μ Q _ => ∃ (bs : List Int) (c : Cell) (μ' : Sto), ds = [.loc 0, .lst (iD bs)] ∧ ByL bs ∧ bs.length ≤ 2000 ∧ μ = c :: μ' ∧ StC c ∧ ∀ (es : List D) (c' : Cell), es.length ≤ bs.length + 1 → RowOk es → StC c' → Q (.lst es) (c' :: μ')
theorem sc__law_perhaps_bent : FnScope ["store", "row"] ["store", "row"] (defScope (top 58)) := ⟨rfl, rfl, rfl, by decide +kernel, rfl, by decide +kernel, by decide +kernel⟩
theorem ok__law_perhaps_bent (T : Tx K mg) : FnD P w K mg base 6 T.a__law_perhaps_bent T.fd__law_perhaps_bent ["store", "row"] fPb := by
  refine fnD _ T.F__law_perhaps_bent sc__law_perhaps_bent (fun cd A outer s H E B => (d_scons (d_sif (d_tcmp o_eq (d_call B (ok__law_take T) (by decide) T.m__law_take T.k__law_take T.b__law_take (d_cons (d_var 0) (d_cons d_int d_nil))) d_int) (d_sone (d_ret (d_ct c_list T.n_list (by decide +kernel) (d_cons (d_var 1) d_nil)))) d_snil)
    (d_sone (d_ret (d_ix (d_call B (okB__law_bent_row T) (by decide) T.m__law_bent_row T.k__law_bent_row T.b__law_bent_row (d_cons (d_var 0) (d_cons (d_var 1) (d_cons d_int (d_cons d_int d_nil))))) d_int))))) ?_
  rintro ds μ QA XA hl ⟨bs, c, μ', rfl, hb, hn, rfl, hc, hQ⟩
  walk_at "all"
  · exact hQ (iD bs) _ (by rw [iD_len]; omega) ok_iD (by assumption)
  · refine ⟨bs, _, _, _, μ', rfl, hb, by omega, rfl, by assumption, fun es k c' hB hc' => ?_⟩
    exact hQ es c' (by rw [hB.2.1]; omega) (fun e he => ⟨(hB.1 e he).1, pl_up (hB.1 e he).2⟩) hc'
def fChs : FD := fun ds μ Q _ => ∃ (es : List D) (w : D), ds = [.lst es, w] ∧ es.length ≤ 30000 ∧ RowOk es ∧ TyD w ∧ Q (.v (.bl true)) μ
theorem sc__law_checks : FnScope ["row", "wanted", "passed", "due"] ["row", "wanted"] (defScope (top 59)) := ⟨rfl, rfl, rfl, by decide +kernel, rfl, by decide +kernel, by decide +kernel⟩
theorem ok__law_checks (T : Tx K mg) : FnD P w K mg base 7 T.a__law_checks T.fd__law_checks ["row", "wanted"] fChs := by
  refine fnD _ T.F__law_checks sc__law_checks (fun cd A outer s H E B => (d_scons (d_set 2 B.nd (d_ct c_list T.n_list (by decide +kernel) (d_cons (d_var 0) d_nil)))
    (d_scons (d_set 3 B.nd (d_call B (ok__law_check_due T) (by decide) T.m__law_check_due T.k__law_check_due T.b__law_check_due (d_cons (d_var 0) (d_cons (d_var 1) d_nil))))
    (d_sone (d_ret (d_and (d_call B (ok__law_same T 5) (by decide) T.m__law_same T.k__law_same T.b__law_same (d_cons (d_call B (ok__law_told_check T) (by decide) T.m__law_told_check T.k__law_told_check T.b__law_told_check (d_cons (d_var 2) (d_cons (d_var 1) d_nil))) (d_cons (d_var 3) d_nil))) (d_one (d_call B (ok__law_same T 5) (by decide) T.m__law_same T.k__law_same T.b__law_same (d_cons (d_var 2) (d_cons (d_var 0) d_nil)))))))))) ?_
  rintro ds μ QA XA hl ⟨es, w, rfl, hlen, hok, tw, hQ⟩
  have hty : ∀ e ∈ es, TyD e := fun e he => (hok e he).1
  walk_at "all"
  refine ⟨es, w, rfl, hlen, hty, tw, ?_⟩
  walk_at "all"
  refine ⟨_, es, w, rfl, Or.inl rfl, hty, tw, ?_⟩
  walk_at "all"
  refine same_ok (n := 4) (pl_chk _ _) (pl_chk _ _) (same_self _ _ (pl_chk _ _)) ?_
  walk_at "all"
  have hp : plD 5 (.lst es) = true := pl_lst (n := 4) hlen fun e he => pl_up (hok e he).2
  refine same_ok (n := 4) hp hp (same_self _ _ hp) ?_
  walk_at "all"
  exact hQ
def fGrt : FD := fun ds μ Q _ => ∃ (c : Cell), ds = [.loc 0] ∧ μ = [c] ∧ StC c ∧ ∀ (c' : Cell) (ex : Sto), StC c' → Q (.v (.bl true)) (c' :: ex)
theorem sc__law_great : FnScope ["store", "row"] ["store"] (defScope (top 60)) := ⟨rfl, rfl, rfl, by decide +kernel, rfl, by decide +kernel, by decide +kernel⟩
theorem ok__law_great (T : Tx K mg) : FnD P w K mg base 7 T.a__law_great T.fd__law_great ["store"] fGrt := by
  refine fnD _ T.F__law_great sc__law_great (fun cd A outer s H E B => (d_scons (d_set 1 B.nd (d_bin o_repM (d_lst (d_cons (d_call B (ok__law_take T) (by decide) T.m__law_take T.k__law_take T.b__law_take (d_cons (d_var 0) (d_cons d_int d_nil))) d_nil)) d_int))
    (d_scons (d_sif (d_tnot (d_tval (d_call B (ok__law_same T 5) (by decide) T.m__law_same T.k__law_same T.b__law_same (d_cons (d_call B (ok__law_told_check T) (by decide) T.m__law_told_check T.k__law_told_check T.b__law_told_check (d_cons (d_var 1) (d_cons d_int d_nil))) (d_cons (d_tup (d_cons d_str (d_cons d_non d_nil))) d_nil))))) (d_sone (d_ret d_bl)) d_snil)
    (d_scons (d_sif (d_tnot (d_tval (d_call B (ok__law_same T 5) (by decide) T.m__law_same T.k__law_same T.b__law_same (d_cons (d_call B (ok__law_told_check T) (by decide) T.m__law_told_check T.k__law_told_check T.b__law_told_check (d_cons (d_var 1) (d_cons d_int d_nil))) (d_cons (d_tup (d_cons d_str (d_cons d_str (d_cons d_int (d_cons d_int d_nil))))) d_nil))))) (d_sone (d_ret d_bl)) d_snil)
    (d_scons (d_setIx (d_call B (ok__law_beyond T) (by decide) T.m__law_beyond T.k__law_beyond T.b__law_beyond (d_cons (d_var 0) (d_cons d_int (d_cons d_int d_nil)))) (d_var 1) (d_un o_neg d_int))
    (d_sone (d_ret (d_call B (ok__law_same T 5) (by decide) T.m__law_same T.k__law_same T.b__law_same (d_cons (d_call B (ok__law_told_check T) (by decide) T.m__law_told_check T.k__law_told_check T.b__law_told_check (d_cons (d_var 1) (d_cons d_int d_nil))) (d_cons (d_tup (d_cons d_str (d_cons d_str (d_cons d_int d_nil)))) d_nil)))))))))) ?_
  rintro ds μ QA XA hl ⟨c, rfl, rfl, hc, hQ⟩
  walk_at "all"
  rename_i r c1 hr0 hr1 hc1
  have hrep : (List.replicate (Int.toNat 20000) [D.v (V.int r)]).flatten = iD (List.replicate 20000 r) := rep_iD _ _
  rw [hrep]
  have hbL : badI (iD (List.replicate 20000 r)) = none := badI_iD (by_rep hr0 (by omega))
  have hlL : (iD (List.replicate 20000 r)).length = 20000 := by rw [iD_len, List.length_replicate]
  have hoL : RowOk (iD (List.replicate 20000 r)) := ok_iD
  generalize iD (List.replicate 20000 r) = L at *
  clear hrep
  refine ⟨_, L, _, rfl, Or.inr ⟨1, rfl, row_ne hoL, rfl⟩, row_ty hoL, ⟨_, rfl⟩, ?_⟩
  rw [show chkV L (.v (.int 20000)) = toldD (.v .non) by rw [chkV_eq rfl (by omega)]; unfold itV; rw [hbL]]
  walk_at "all"
  refine same_ok (n := 4) rfl rfl rfl ?_
  walk_at "all"
  refine ⟨_, L, _, rfl, Or.inr ⟨1, rfl, row_ne hoL, rfl⟩, row_ty hoL, ⟨_, rfl⟩, ?_⟩
  rw [show chkV L (.v (.int 19999)) = refLen 19999 20000 by rw [chkV_ne rfl (by omega), hlL]; rfl]
  walk_at "all"
  refine same_ok (n := 4) rfl rfl rfl ?_
  walk_at "all"
  rename_i d c2 hd hc2
  show setIt (.loc 1) (.v (.int (-1))) d [c2, Cell.lst L] _
  refine set_last (es := L) rfl (by omega) ?_
  have hL2 : ([c2, Cell.lst L] : Sto).set 1 (.lst (L.set (L.length - 1) d)) = [c2, .lst (L.set 19999 d)] := by rw [hlL]; rfl
  rw [hL2]
  have hb2 := bad_last hlL hbL (NoD.out hd).2
  have ho2 := row_set (n := 19999) hoL ⟨(NoD.out hd).1, out_pl hd⟩
  have hl2 : (L.set 19999 d).length = 20000 := by rw [List.length_set]; exact hlL
  generalize L.set 19999 d = L2 at *
  walk_at "all"
  refine ⟨_, L2, _, rfl, Or.inr ⟨1, rfl, row_ne ho2, rfl⟩, row_ty ho2, ⟨_, rfl⟩, ?_⟩
  rw [show chkV L2 (.v (.int 20000)) = refItem 19999 by rw [chkV_eq rfl (by omega)]; unfold itV; rw [hb2]; rfl]
  walk_at "all"
  refine same_ok (n := 4) rfl rfl rfl ?_
  exact hQ _ _ hc2
def fLng : FD := fun ds μ Q _ => ∃ _ : True, ds = [] ∧ ∀ n : Int, Q (.v (.int n)) μ
theorem sc__law_longest : FnScope ["number", "turn"] [] (defScope (top 61)) := ⟨rfl, rfl, rfl, by decide +kernel, rfl, by decide +kernel, by decide +kernel⟩
theorem ok__law_longest (T : Tx K mg) : FnD P w K mg base 1 T.a__law_longest T.fd__law_longest [] fLng := by
  refine fnD _ T.F__law_longest sc__law_longest (fun cd A outer s H E B => (d_scons (d_set 0 B.nd (d_bin o_pow d_int d_int))
    (d_scons (d_forR1 1 B T.n_range (d_cons d_int d_nil) (d_sone (d_set 0 B.nd (d_bin o_mul (d_var 0) (d_bin o_pow d_int d_int)))))
    (d_sone (d_ret (d_var 0)))))) ?_
  rintro ds μ QA XA hl ⟨_, rfl, hQ⟩
  walk_at "all"
  rw [← lng_0]
  refine ⟨fun n ρ m => m = μ ∧ ∃ t1 : Option D, ρ = [some (.v (.int (lng n))), t1], ⟨rfl, _, rfl⟩, ?_, ?_⟩
  · rintro n ρ' _ hn ⟨rfl, t1, rfl⟩
    have hc : CM (lng n) (10 ^ Int.toNat 60) := by
      rw [lng_e]
      exact long_ok n (by omega)
    have hm := lng_s n
    generalize lng n = x at *
    walk_at "all"
    generalize (10 : Int) ^ Int.toNat 60 = y at *
    exact ⟨some (.v (.int (0 + (n : Int)))), by rw [hm]⟩
  · rintro ρ' _ ⟨rfl, t1, rfl⟩
    walk_at "all"
    exact hQ _
end
end Pf
set_option Elab.async false
set_option linter.all false
set_option maxRecDepth 100000
set_option maxHeartbeats 4000000
namespace Pf
open PySem L2 DK
local macro_rules | `(tactic| walk_at "side") => `(tactic| first
  | decide
  | ((with_reducible show (_ : Nat) ≤ _); exact Nat.le_of_ble_eq_true rfl)
  | ((with_reducible show (_ : Int) < _); omega)
  | ((with_reducible show (_ : Int) ≤ _); omega)
  | ((with_reducible show CM _ _); exact Or.inl (Or.inr (by decide)))
  | ((with_reducible show CM _ _); exact Or.inl (Or.inl (by decide)))
  | ((with_reducible show CDivW _ _); exact ⟨by first | assumption | omega, by first | assumption | decide⟩)
  | ((with_reducible show scal _ _ = true); rfl)
  | ((with_reducible show CPow _ _); exact ⟨by decide, by decide, by decide⟩)
  | ((with_reducible show _ = _); rfl)
  | ((with_reducible show (_ = _) ∧ (_ = _)); exact ⟨rfl, rfl⟩)
  | ((with_reducible show (_ : Int) ≤ _ ∧ (_ : Int) < _); omega)
  | ((with_reducible show ((_ : Int) ≤ _ ∧ (_ : Int) < _) ∧ ((_ : Int) ≤ _ ∧ (_ : Int) < _)); omega)
  | ((with_reducible show RgOk _ _); unfold RgOk; omega)
  | assumption
  | walk_at "mine"
  | fail)
local macro_rules | `(tactic| walk_at "mine") => `(tactic| fail)
local macro_rules | `(tactic| walk_at "br") => `(tactic| ((refine And.intro (fun (e : (_ : Bool) = true) => ?_) (fun (e : (_ : Bool) = false) => ?_)) <;> (try simp only [Bool.not_eq_true', Bool.not_eq_false', decide_eq_true_eq, decide_eq_false_iff_not, V.int.injEq] at e)))
local macro_rules | `(tactic| walk_at "st") => `(tactic| first
  | (refine at_slots (by (simp only [List.length_cons, List.length_nil, startD_cons, startD_none, startD_nil, List.set_cons_zero, List.set_cons_succ]; rfl)) ?_)
  | ((conv => whnf); first | (with_reducible refine And.intro (fun _ => ?_) (fun e => Bool.noConfusion e)) | (with_reducible refine And.intro (fun e => Bool.noConfusion e) (fun _ => ?_)) | ((with_reducible refine And.intro ?walk_side ?_); (case walk_side => walk_at "side")))
  | walk_at "call"
  | fail)
local macro_rules | `(tactic| walk_at "call") => `(tactic| fail)
local macro_rules | `(tactic| walk_at "go") => `(tactic| (repeat walk_at "st"))
local macro_rules | `(tactic| walk_at "all") => `(tactic| (repeat' (first
  | (refine at_slots (by (simp only [List.length_cons, List.length_nil, startD_cons, startD_none, startD_nil, List.set_cons_zero, List.set_cons_succ]; rfl)) ?_)
  | ((conv => whnf); first | (with_reducible refine And.intro (fun _ => ?_) (fun e => Bool.noConfusion e)) | (with_reducible refine And.intro (fun e => Bool.noConfusion e) (fun _ => ?_)) | ((with_reducible refine And.intro (fun (e : (_ : Bool) = true) => ?_) (fun (e : (_ : Bool) = false) => ?_)) <;> (try simp only [Bool.not_eq_true', Bool.not_eq_false', decide_eq_true_eq, decide_eq_false_iff_not, V.int.injEq] at e)) | ((with_reducible refine And.intro ?walk_side ?_); (case walk_side => walk_at "side")))
  | walk_at "call"
  | fail)))
local macro_rules | `(tactic| walk_at "mine") => `(tactic| (show CM _ _; exact Or.inl (Or.inl (by omega))))
local macro_rules | `(tactic| walk_at "mine") => `(tactic| (show CM _ _; exact Or.inl (Or.inr (by omega))))
local macro_rules | `(tactic| walk_at "call") => `(tactic| (show fTake _ _ _ _; refine ⟨_, _, _, rfl, by first | assumption | decide | exact log_small (by omega) (by omega), rfl, ‹StC _›, fun r c' hr0 hr1 hc => ?_⟩))
local macro_rules | `(tactic| walk_at "call") => `(tactic| (show fBetw _ _ _ _; refine ⟨_, _, _, _, rfl, by first | assumption | decide | omega, rfl, ‹StC _›, fun r c' hr0 hr1 hc => ?_⟩))
local macro_rules | `(tactic| walk_at "call") => `(tactic| (show fBeyond _ _ _ _; refine ⟨_, _, _, _, rfl, rfl, ‹StC _›, fun d c' hd hc => ?_⟩))
theorem row_dic {gs : List Int} (h : ByL gs) : (∀ e ∈ iD gs ++ [D.dic []], TyD e) ∧ badI (iD gs ++ [D.dic []]) = some gs.length := by
  refine ⟨fun e he => (List.mem_append.mp he).elim (ty_iD e) fun g => ?_, badI_some (x := D.dic []) ?_ rfl fun m y hm hy => ?_⟩
  · rw [List.mem_singleton.mp g]
    exact ⟨_, rfl⟩
  · rw [List.getElem?_append_right (by rw [iD_len]; exact Nat.le_refl _), iD_len, Nat.sub_self]
    rfl
  · rw [List.getElem?_append_left (by rw [iD_len]; exact hm)] at hy
    exact bytes_all h y (List.mem_of_getElem? hy)
theorem by_at {bs : List Int} (h : ByL bs) (i : Nat) : 0 ≤ bs.getD i 0 ∧ bs.getD i 0 ≤ 255 := by
  rw [List.getD_eq_getElem?_getD]
  cases e : bs[i]? with
  | none => exact ⟨by decide, by decide⟩
  | some b => exact h b (List.mem_of_getElem? e)
def FzK (t : Option D) : Prop := ∀ (μ : Sto) (j : Nat), fzO μ j t = some t
theorem fzk_none : FzK none := fun _ _ => rfl
theorem fzk_pl {n : Nat} {d : D} (h : plD n d = true) : FzK (some d) := fun μ j => by
  show (match fz μ j d with | some x => some (some x) | none => none) = _
  rw [fz_pl n d h]
theorem fzk_dic : FzK (some (.dic [])) := fun μ j => by
  show (match fz μ j (.dic []) with | some x => some (some x) | none => none) = _
  simp only [fz]
theorem fzk_row {es : List D} (h : RowOk es) (hl : es.length ≤ 30000) : FzK (some (.lst es)) := fzk_pl (n := 4) (pl_lst hl fun e he => (h e he).2)
theorem fzR_cons {μ : Sto} {j : Nat} {o o' : Option D} {ρ ρ' : Rho} (h : fzO μ j o = some o') (h2 : fzR μ j ρ = some ρ') : fzR μ j (o :: ρ) = some (o' :: ρ') := by
  unfold fzR
  rw [h, h2]
theorem fzO_loc {μ : Sto} {j k : Nat} (h : k < j) : fzO μ j (some (.loc k)) = some (some (.loc k)) := by
  have e : fz μ j (.loc k) = some (.loc k) := by
    unfold fz
    rw [if_pos h]
  show (match fz μ j (.loc k) with | some x => some (some x) | none => none) = _
  rw [e]
theorem fzO_new {c : Cell} {es : List D} (h : lbs 1 es = true ∧ noErrs es = true) : fzO [c, .lst es] 1 (some (.loc 1)) = some (some (.lst es)) := by
  show (match fz [c, .lst es] 1 (.loc 1) with | some x => some (some x) | none => none) = _
  rw [show fz [c, .lst es] 1 (.loc 1) = some (.lst es) from fz_new (μ := [c]) h.1 h.2]
theorem fzk_rl {ns : List Int} : FzK (some (.rl (ns.map fun z => .v (.int z)))) := fun μ j => by
  have e : fzs μ j (ns.map fun z => D.v (.int z)) = some (ns.map fun z => D.v (.int z)) := fzs_pl fun e he => (ok_iD (bs := ns) e he).2
  show (match fz μ j (.rl (ns.map fun z => D.v (.int z))) with | some x => some (some x) | none => none) = _
  simp only [fz, e]
theorem fzk_gs {gs : List Int} : FzK (some (.lst (iD gs))) := fun μ j => by
  have e : fzs μ j (iD gs) = some (iD gs) := fzs_pl fun e he => (ok_iD (bs := gs) e he).2
  show (match fz μ j (.lst (iD gs)) with | some x => some (some x) | none => none) = _
  simp only [fz, e]
theorem pl_xor (f1 f2 : List D) (h : f1.length ≤ 30000) : plD 5 (xorV f1 f2) = true := by
  unfold xorV
  split
  · rfl
  · split
    · have p : plD 4 (.lst (iD (xorL (uD f1) (uD f2)))) = true := pl_lst (n := 3) (by rw [iD_len, xor_len, uD_len]; exact h) fun e he => (ok_iD e he).2
      show (true && (true && (plD 4 (.lst (iD (xorL (uD f1) (uD f2)))) && true))) = true
      rw [p]
      rfl
    · rfl
theorem pl_rows {R : List (List D)} (hl : R.length ≤ 5) (h : ∀ r ∈ R, r.length ≤ 5000 ∧ RowOk r) : plD 5 (.lst (R.map D.lst)) = true := pl_lst (n := 4) (by rw [List.length_map]; omega) fun e he => by
  obtain ⟨r, hr, rfl⟩ := List.mem_map.mp he
  exact pl_lst (n := 3) (by have := (h r hr).1; omega) fun e he => ((h r hr).2 e he).2
theorem pl_join {R : List (List D)} (hl : R.length ≤ 5) (h : ∀ r ∈ R, r.length ≤ 5000 ∧ RowOk r) : plD 5 (joinV R) = true := by
  unfold joinV
  split
  · rfl
  · have h2 := len_take (n := R.length) (m := 5000) (k := 5) (fun r hr => (h r hr).1) hl
    rw [List.take_length] at h2
    have p : plD 4 (.lst R.flatten) = true := pl_lst (n := 3) (by omega) fun e he => by
      obtain ⟨r, hr, her⟩ := List.mem_flatten.mp he
      exact ((h r hr).2 e her).2
    show (true && (true && (plD 4 (.lst R.flatten) && true))) = true
    rw [p]
    rfl
abbrev R4 (ns gs : List Int) (t3 t4 t5 t6 t7 t8 t9 t10 t11 t12 t13 t14 t15 t16 t17 t18 : Option D) : Rho := [some (.rl (ns.map fun z => .v (.int z))), some (.loc 0), some (.lst (iD gs)), t3, t4, t5, t6, t7, t8, t9, t10, t11, t12, t13, t14, t15, t16, t17, t18]
section
variable {P : Program} {w : World} {K : PySem.W.Frag} {mg : Str → Option Value} {base : Heap}
def fLaw : FD := fun ds μ Q _ => ∃ ns : List Int, ds = [.rl (ns.map fun z => .v (.int z))] ∧ ns.length ≤ 63 ∧ μ = [] ∧ ∀ μ', Q (.v (.bl true)) μ'
theorem sc_law : FnScope ["script", "store", "good", "bent", "near", "strange", "wanted_lengths", "wanted", "mended", "at", "other", "bad", "pair", "rows", "kept", "first", "second", "turn", "row"] ["script"] (defScope (top 62)) := ⟨rfl, rfl, rfl, by decide +kernel, rfl, by decide +kernel, by decide +kernel⟩
theorem ok_law (T : Tx K mg) : FnD P w K mg base 9 T.a_law T.fd_law ["script"] fLaw := by
  refine fnD _ T.F_law sc_law (fun cd A outer s H E B => (d_scons (d_set 1 B.nd (d_call B (ok__law_begin T) (by decide) T.m__law_begin T.k__law_begin T.b__law_begin (d_cons (d_var 0) d_nil)))
    (d_scons (d_set 2 B.nd (d_call B (ok__law_byte_row T) (by decide) T.m__law_byte_row T.k__law_byte_row T.b__law_byte_row (d_cons (d_var 1) (d_cons d_int d_nil))))
    (d_mid (d_sif (d_tw (d_wand (d_tcmp o_eq (d_call B (ok__law_take T) (by decide) T.m__law_take T.k__law_take T.b__law_take (d_cons (d_var 1) (d_cons d_int d_nil))) d_int) (d_wand1 (d_tnot (d_tval (d_fz (d_call B (ok__law_great T) (by decide) T.m__law_great T.k__law_great T.b__law_great (d_cons (d_var 1) d_nil)))))))) (d_sone (d_ret d_bl)) d_snil)
    (d_scons (d_set 3 B.nd (d_ix (d_fz (d_call B (ok__law_bent_row T) (by decide) T.m__law_bent_row T.k__law_bent_row T.b__law_bent_row (d_cons (d_var 1) (d_cons (d_var 2) (d_cons d_int (d_cons d_int d_nil)))))) d_int))
    (d_scons (d_set 4 B.nd (d_cb (id := "max") (c_max B.calm) T.n_max (by decide +kernel) (d_cons d_int (d_cons (d_bin o_sub (d_bin o_addU (d_cb (id := "len") c_len T.n_len (by decide +kernel) (d_cons (d_var 2) d_nil)) d_int) (d_bin o_mul d_int (d_call B (ok__law_take T) (by decide) T.m__law_take T.k__law_take T.b__law_take (d_cons (d_var 1) (d_cons d_int d_nil))))) d_nil))))
    (d_scons (d_set 5 B.nd (d_call B (ok__law_beyond T) (by decide) T.m__law_beyond T.k__law_beyond T.b__law_beyond (d_cons (d_var 1) (d_cons d_int (d_cons d_int d_nil)))))
    (d_scons (d_set 6 B.nd (d_lst (d_cons d_non (d_cons (d_cb (id := "len") c_len T.n_len (by decide +kernel) (d_cons (d_var 2) d_nil)) (d_cons (d_cb (id := "len") c_len T.n_len (by decide +kernel) (d_cons (d_var 3) d_nil)) (d_cons (d_var 4) (d_cons (d_call B (ok__law_between T) (by decide) T.m__law_between T.k__law_between T.b__law_between (d_cons (d_var 1) (d_cons d_int (d_cons d_int d_nil)))) (d_cons (d_var 5) (d_cons d_bl (d_cons (d_un o_neg d_int) (d_cons d_int d_nil)))))))))))
    (d_scons (d_forL 7 B (d_bin o_addU (d_var 6) (d_lst (d_cons d_dict0 (d_cons (d_call0 B (ok__law_longest T) (by decide) T.m__law_longest T.k__law_longest T.b__law_longest) (d_cons (d_bin o_sub d_int (d_call0 B (ok__law_longest T) (by decide) T.m__law_longest T.k__law_longest T.b__law_longest)) d_nil))))) (d_sone (d_sif (d_tw (d_wor (d_tnot (d_tval (d_call B (ok__law_checks T) (by decide) T.m__law_checks T.k__law_checks T.b__law_checks (d_cons (d_var 2) (d_cons (d_var 7) d_nil))))) (d_wor1 (d_tnot (d_tval (d_call B (ok__law_checks T) (by decide) T.m__law_checks T.k__law_checks T.b__law_checks (d_cons (d_var 3) (d_cons (d_var 7) d_nil)))))))) (d_sone (d_ret d_bl)) d_snil)))
    (d_scons (d_sif (d_tnot (d_tval (d_call B (ok__law_same T 5) (by decide) T.m__law_same T.k__law_same T.b__law_same (d_cons (d_call B (ok__law_told_plain T) (by decide) T.m__law_told_plain T.k__law_told_plain T.b__law_told_plain (d_cons (d_bin o_addU (d_var 2) (d_lst (d_cons d_dict0 d_nil))) d_nil)) (d_cons (d_tup (d_cons d_str (d_cons d_str (d_cons (d_cb (id := "len") c_len T.n_len (by decide +kernel) (d_cons (d_var 2) d_nil)) d_nil)))) d_nil))))) (d_sone (d_ret d_bl)) d_snil)
    (d_grp4 (d_set 8 B.nd (d_ct c_listM T.n_list (by decide +kernel) (d_cons (d_var 3) d_nil))) (d_sif (d_tnot (d_tval (d_call B (ok__law_same T 5) (by decide) T.m__law_same T.k__law_same T.b__law_same (d_cons (d_call B (ok__law_told_plain T) (by decide) T.m__law_told_plain T.k__law_told_plain T.b__law_told_plain (d_cons (d_var 8) d_nil)) (d_cons (d_call B (ok__law_check_due T) (by decide) T.m__law_check_due T.k__law_check_due T.b__law_check_due (d_cons (d_var 3) (d_cons d_non d_nil))) d_nil))))) (d_sone (d_ret d_bl)) d_snil) (d_forR1 9 B T.n_range (d_cons (d_cb (id := "len") c_len T.n_len (by decide +kernel) (d_cons (d_var 8) d_nil)) d_nil) (d_sone (d_setIx (d_if (d_tcmp o_lt (d_var 9) (d_cb (id := "len") c_len T.n_len (by decide +kernel) (d_cons (d_var 2) d_nil))) (d_ixV (d_var 2) (d_var 9)) d_int) (d_var 8) (d_var 9)))) (d_sif (d_tw (d_wor (d_tnot (d_tval (d_call B (ok__law_same T 5) (by decide) T.m__law_same T.k__law_same T.b__law_same (d_cons (d_call B (ok__law_told_plain T) (by decide) T.m__law_told_plain T.k__law_told_plain T.b__law_told_plain (d_cons (d_var 8) d_nil)) (d_cons (d_tup (d_cons d_str (d_cons d_non d_nil))) d_nil))))) (d_wor1 (d_tnot (d_tval (d_call B (ok__law_same T 5) (by decide) T.m__law_same T.k__law_same T.b__law_same (d_cons (d_call B (ok__law_told_plain T) (by decide) T.m__law_told_plain T.k__law_told_plain T.b__law_told_plain (d_cons (d_var 2) d_nil)) (d_cons (d_tup (d_cons d_str (d_cons d_non d_nil))) d_nil)))))))) (d_sone (d_ret d_bl)) d_snil)
    (d_scons (d_set 10 B.nd (d_fz (d_call B (ok__law_bytes T) (by decide) T.m__law_bytes T.k__law_bytes T.b__law_bytes (d_cons (d_var 1) (d_cons (d_cb (id := "len") c_len T.n_len (by decide +kernel) (d_cons (d_var 2) d_nil)) d_nil)))))
    (d_mid (d_sif (d_tcmp o_eq (d_call B (ok__law_take T) (by decide) T.m__law_take T.k__law_take T.b__law_take (d_cons (d_var 1) (d_cons d_int d_nil))) d_int) (d_sone (d_set 10 B.nd (d_call B (ok__law_misfit T) (by decide) T.m__law_misfit T.k__law_misfit T.b__law_misfit (d_cons (d_var 1) (d_cons (d_var 10) d_nil))))) d_snil)
    (d_scons (d_set 11 B.nd (d_ix (d_fz (d_call B (ok__law_bent_row T) (by decide) T.m__law_bent_row T.k__law_bent_row T.b__law_bent_row (d_cons (d_var 1) (d_cons (d_var 10) (d_cons d_int (d_cons d_int d_nil)))))) d_int))
    (d_scons (d_forL 12 B (d_lst (d_cons (d_tup (d_cons (d_var 2) (d_cons (d_var 10) d_nil))) (d_cons (d_tup (d_cons (d_var 3) (d_cons (d_var 10) d_nil))) (d_cons (d_tup (d_cons (d_var 2) (d_cons (d_var 11) d_nil))) (d_cons (d_tup (d_cons (d_var 3) (d_cons (d_var 11) d_nil))) d_nil))))) (d_scons (d_set 15 B.nd (d_ct c_list T.n_list (by decide +kernel) (d_cons (d_ix (d_var 12) d_int) d_nil)))
    (d_scons (d_set 16 B.nd (d_ct c_list T.n_list (by decide +kernel) (d_cons (d_ix (d_var 12) d_int) d_nil)))
    (d_scons (d_sif (d_tnot (d_tval (d_call B (ok__law_same T 5) (by decide) T.m__law_same T.k__law_same T.b__law_same (d_cons (d_call B (ok__law_told_xor T) (by decide) T.m__law_told_xor T.k__law_told_xor T.b__law_told_xor (d_cons (d_var 15) (d_cons (d_var 16) d_nil))) (d_cons (d_call B (ok__law_xor_due T) (by decide) T.m__law_xor_due T.k__law_xor_due T.b__law_xor_due (d_cons (d_ix (d_var 12) d_int) (d_cons (d_ix (d_var 12) d_int) d_nil))) d_nil))))) (d_sone (d_ret d_bl)) d_snil)
    (d_sone (d_sif (d_tw (d_wor (d_tnot (d_tval (d_call B (ok__law_same T 5) (by decide) T.m__law_same T.k__law_same T.b__law_same (d_cons (d_var 15) (d_cons (d_ix (d_var 12) d_int) d_nil))))) (d_wor1 (d_tnot (d_tval (d_call B (ok__law_same T 5) (by decide) T.m__law_same T.k__law_same T.b__law_same (d_cons (d_var 16) (d_cons (d_ix (d_var 12) d_int) d_nil)))))))) (d_sone (d_ret d_bl)) d_snil))))))
    (d_scons (d_slcR1W 13 17 B T.n_range (d_cons (d_bin o_addU d_int (d_call B (ok__law_take T) (by decide) T.m__law_take T.k__law_take T.b__law_take (d_cons (d_var 1) (d_cons d_int d_nil)))) d_nil) (fun _ _ _ _ _ => d_ifs0) (fun _ _ _ _ _ B => (d_call B (ok__law_perhaps_bent T) (by decide) T.m__law_perhaps_bent T.k__law_perhaps_bent T.b__law_perhaps_bent (d_cons (d_var 1) (d_cons (d_call B (ok__law_byte_row T) (by decide) T.m__law_byte_row T.k__law_byte_row T.b__law_byte_row (d_cons (d_var 1) (d_cons d_int d_nil))) d_nil)))) (by show blkC ["script", "store", "good", "bent", "near", "strange", "wanted_lengths", "wanted", "mended", "at", "other", "bad", "pair", "rows", "kept", "first", "second", "turn", "row"] (defScope (top 62)) _ _ = true; decide +kernel) (fun _ _ _ _ _ => pg_name B.nd rfl (by first | exact Or.inl rfl | exact Or.inr rfl)))
    (d_scons (d_set 13 B.nd (d_bin o_addU (d_var 13) (d_lst (d_cons (d_call B (ok__law_perhaps_bent T) (by decide) T.m__law_perhaps_bent T.k__law_perhaps_bent T.b__law_perhaps_bent (d_cons (d_var 1) (d_cons (d_var 2) d_nil))) (d_cons (d_call B (ok__law_pick T) (by decide) T.m__law_pick T.k__law_pick T.b__law_pick (d_cons (d_var 1) (d_cons (d_lst (d_cons (d_var 10) (d_cons (d_var 11) d_nil))) d_nil))) d_nil)))))
    (d_scons (d_slcL 14 18 B (d_var 13) (fun _ _ _ _ _ => d_ifs0) (fun _ _ _ _ _ B => (d_ct c_list T.n_list (by decide +kernel) (d_cons (d_var 18) d_nil))) (by show blkC ["script", "store", "good", "bent", "near", "strange", "wanted_lengths", "wanted", "mended", "at", "other", "bad", "pair", "rows", "kept", "first", "second", "turn", "row"] (defScope (top 62)) _ _ = true; decide +kernel) (fun _ _ _ _ _ => pg_name B.nd rfl (by first | exact Or.inl rfl | exact Or.inr rfl)))
    (d_scons (d_sif (d_tw (d_wor (d_tnot (d_tval (d_call B (ok__law_same T 5) (by decide) T.m__law_same T.k__law_same T.b__law_same (d_cons (d_call B (ok__law_told_join T) (by decide) T.m__law_told_join T.k__law_told_join T.b__law_told_join (d_cons (d_var 13) d_nil)) (d_cons (d_call B (ok__law_join_due T) (by decide) T.m__law_join_due T.k__law_join_due T.b__law_join_due (d_cons (d_var 14) d_nil)) d_nil))))) (d_wor1 (d_tnot (d_tval (d_call B (ok__law_same T 5) (by decide) T.m__law_same T.k__law_same T.b__law_same (d_cons (d_var 13) (d_cons (d_var 14) d_nil)))))))) (d_sone (d_ret d_bl)) d_snil)
    (d_sone (d_ret (d_and (d_call B (ok__law_same T 5) (by decide) T.m__law_same T.k__law_same T.b__law_same (d_cons (d_call B (ok__law_told_join T) (by decide) T.m__law_told_join T.k__law_told_join T.b__law_told_join (d_cons (d_lst (d_cons (d_var 2) (d_cons (d_var 10) d_nil))) d_nil)) (d_cons (d_tup (d_cons d_str (d_cons (d_bin o_addU (d_var 2) (d_var 10)) d_nil))) d_nil))) (d_one (d_call B (ok__law_checks T) (by decide) T.m__law_checks T.k__law_checks T.b__law_checks (d_cons (d_var 2) (d_cons (d_cb (id := "len") c_len T.n_len (by decide +kernel) (d_cons (d_var 2) d_nil)) d_nil)))))))))))))))))))))))))) ?_
  rintro ds μ QA XA hl ⟨ns, rfl, hn, rfl, hQ⟩
  refine And.intro rfl ⟨ns, rfl, hn, fun c0 hc0 => ?_⟩
  walk_at "all"
  refine ⟨_, _, _, rfl, by decide, by decide, rfl, hc0, fun gs c1 hg hgl hc1 => ?_⟩
  walk_at "all"
  refine ⟨fun ρ m => ∃ c, StC c ∧ m = [c] ∧ ρ = R4 ns gs none none none none none none none none none none none none none none none none, ?_, ?_⟩
  · walk_at "all"
    · refine ⟨_, rfl, rfl, by assumption, fun c2 ex hc2 => Or.inr ⟨.v (.bl true), [c2], ex, fz_v _ _ _, rfl, rfl, one_lb hc2, ?_⟩⟩
      walk_at "all"
      exact ⟨c2, hc2, rfl, rfl⟩
    · exact ⟨_, by assumption, rfl, rfl⟩
  rintro ρ' _ ⟨c2, hc2, rfl, rfl⟩
  have lg : (iD gs).length = gs.length := iD_len gs
  walk_at "all"
  refine ⟨gs, c2, rfl, hg, by omega, rfl, hc2, fun e1 k1 c3 x1 hel1 hpl1 hx1 hxb1 hall1 hc3 => ?_⟩
  have hne1 := lbs_of fun e he => pl_lb (k := 1) 3 e (hpl1 e he).2
  have hfz1 : ∀ μ j, fzs μ j e1 = some e1 := fun μ j => fzs_pl fun e he => (hpl1 e he).2
  refine (fun h => ⟨Or.inr ⟨.tup [.lst e1, .v (.int (k1 : Int))], [c3], [.lst (iD gs)], by simp only [fz, fzs, hfz1], rfl, rfl, one_lb hc3, h⟩, Or.inr ⟨.tup [.lst e1, .v (.int (k1 : Int))], [c3], [.lst e1], fz_pair hne1, rfl, rfl, one_lb hc3, h⟩⟩) ?_
  walk_at "all"
  rename_i rn cn _ _ _ st cs hst _ rb c4 hrb0 hrb1 hc4
  refine ⟨trivial, rfl, fun n1 => ?_⟩
  refine ⟨trivial, rfl, fun n2 => ?_⟩
  walk_at "all"
  have tst : TyD st ∧ plD 3 st = true := ⟨(NoD.out hst).1, out_pl hst⟩
  refine ⟨_, Or.inl rfl, fun n ρ m => ∃ t4 t5 t6 t7 : Option D, FzK t4 ∧ FzK t5 ∧ FzK t6 ∧ FzK t7 ∧ m = [c4] ∧ ρ = R4 ns gs (some (.lst e1)) t4 t5 t6 t7 none none none none none none none none none none none, ⟨_, _, _, _, ?_, ?_, ?_, ?_, rfl, rfl⟩, ?_, ?_⟩
  · exact fzk_pl (n := 1) rfl
  · exact fzk_pl tst.2
  · exact fzk_pl (n := 4) (pl_lst (Nat.le_of_ble_eq_true rfl) fun e he => by
      simp only [List.mem_cons, List.not_mem_nil, or_false] at he
      rcases he with rfl | rfl | rfl | rfl | rfl | rfl | rfl | rfl | rfl
      all_goals first | rfl | exact tst.2)
  · exact fzk_none
  · rintro n ρ' _ d hx ⟨t4, t5, t6, t7, g4, g5, g6, g7, rfl, rfl⟩
    have hd := List.mem_of_getElem? hx
    have td : TyD d ∧ FzK (some d) := by
      simp only [List.mem_append, List.mem_cons, List.not_mem_nil, or_false] at hd
      rcases hd with (rfl | rfl | rfl | rfl | rfl | rfl | rfl | rfl | rfl) | (rfl | rfl | rfl)
      all_goals first | exact ⟨⟨_, rfl⟩, fzk_pl (n := 1) rfl⟩ | exact ⟨tst.1, fzk_pl tst.2⟩ | exact ⟨⟨_, rfl⟩, fzk_dic⟩
    clear hx hd
    walk_at "all"
    refine ⟨iD gs, d, rfl, by omega, ok_iD, td.1, ?_⟩
    walk_at "all"
    refine ⟨e1, d, rfl, by omega, hpl1, td.1, ?_⟩
    walk_at "all"
    exact ⟨_, _, _, _, g4, g5, g6, td.2, rfl, rfl⟩
  rintro ρ' _ ⟨t4, t5, t6, t7, g4, g5, g6, g7, rfl, rfl⟩
  clear tst hst hrb0 hrb1
  walk_at "all"
  refine And.intro (show (iD gs).length + 1 ≤ 1000000 by omega) ?_
  walk_at "all"
  refine ⟨_, iD gs ++ [D.dic []], rfl, Or.inl rfl, (row_dic hg).1, ?_⟩
  rw [show chkV (iD gs ++ [D.dic []]) (.v .non) = refItem gs.length by show itV _ = _; unfold itV; rw [(row_dic hg).2]]
  walk_at "all"
  refine same_ok (n := 4) rfl rfl (by rw [lg]; exact same_self _ _ rfl) ?_
  walk_at "all"
  have hrow1 : RowOk e1 := hpl1
  refine ⟨_, e1, rfl, Or.inr ⟨1, rfl, hne1.2, rfl⟩, row_ty hrow1, ?_⟩
  walk_at "all"
  refine ⟨e1, _, rfl, by omega, row_ty hrow1, ⟨_, rfl⟩, ?_⟩
  walk_at "all"
  refine same_ok (n := 4) (pl_chk _ _) (pl_chk _ _) (same_self _ _ (pl_chk _ _)) ?_
  walk_at "all"
  refine ⟨fun n ρ m => ∃ (es : List D) (t9 : Option D), es.length = e1.length ∧ RowOk es ∧ (∀ (i : Nat) y, i < n → es[i]? = some y → betD y 0 255 = true) ∧ FzK t9 ∧ m = [c4, .lst es] ∧ ρ = R4 ns gs (some (.lst e1)) t4 t5 t6 t7 (some (.loc 1)) t9 none none none none none none none none none, ⟨e1, none, rfl, hrow1, fun i y hi => absurd hi (Nat.not_lt_zero _), fzk_none, rfl, rfl⟩, ?_, ?_⟩
  · rintro n ρ' _ hn2 ⟨es, t9, hes, hro, hby, g9, rfl, rfl⟩
    have step : ∀ z : Int, 0 ≤ z → z ≤ 255 → (es.set n (.v (.int z))).length = e1.length ∧ RowOk (es.set n (.v (.int z))) ∧ (∀ (i : Nat) y, i < n + 1 → (es.set n (.v (.int z)))[i]? = some y → betD y 0 255 = true) := fun z z0 z1 => by
      refine ⟨by rw [List.length_set]; exact hes, row_set hro ⟨⟨_, rfl⟩, rfl⟩, fun i y hi hy => ?_⟩
      by_cases e : i = n
      · subst e
        rw [List.getElem?_set_self (by omega)] at hy
        cases hy
        exact bet_yes z0 z1
      · rw [List.getElem?_set_ne (by omega)] at hy
        exact hby i y (by omega) hy
    have hgt : ∀ i : Nat, 0 ≤ gs.getD i 0 ∧ gs.getD i 0 ≤ 255 := by_at hg
    have en : (0 + (n : Int)).toNat = n := by omega
    walk_at "all"
    · refine Exists.intro _ (And.intro (ixI (by omega) (by omega)) ?_)
      show setIt (.loc 1) (.v (.int (0 + (n : Int)))) (.v (.int (gs.getD (0 + (n : Int)).toNat 0))) [c4, Cell.lst es] _
      refine set_at (es := es) rfl (by omega) (by omega) ?_
      rw [en]
      obtain ⟨s1, s2, s3⟩ := step _ (hgt n).1 (hgt n).2
      exact ⟨_, _, s1, s2, s3, fzk_pl (n := 1) rfl, rfl, rfl⟩
    · show setIt (.loc 1) (.v (.int (0 + (n : Int)))) (.v (.int 7)) [c4, Cell.lst es] _
      refine set_at (es := es) rfl (by omega) (by omega) ?_
      rw [en]
      obtain ⟨s1, s2, s3⟩ := step 7 (by decide) (by decide)
      exact ⟨_, _, s1, s2, s3, fzk_pl (n := 1) rfl, rfl, rfl⟩
  rintro ρ' _ ⟨es, t9, hes, hro, hby, g9, rfl, rfl⟩
  have hb0 : badI es = none := badI_none.mpr fun e he => by
    obtain ⟨i, hi, rfl⟩ := List.mem_iff_getElem.mp he
    exact hby i _ (by omega) (List.getElem?_eq_getElem hi)
  have hne := lbs_of fun e he => pl_lb (k := 1) 3 e (hro e he).2
  have t0 : chkV es (.v .non) = toldD (.v .non) := by show itV _ = _; unfold itV; rw [hb0]
  have t1 : chkV (iD gs) (.v .non) = toldD (.v .non) := by show itV _ = _; unfold itV; rw [badI_iD hg]
  walk_at "all"
  refine ⟨_, es, rfl, Or.inr ⟨1, rfl, hne.2, rfl⟩, row_ty hro, ?_⟩
  rw [t0]
  walk_at "all"
  refine same_ok (n := 4) rfl rfl rfl ?_
  walk_at "all"
  refine ⟨_, iD gs, rfl, Or.inl rfl, ty_iD, ?_⟩
  rw [t1]
  walk_at "all"
  refine same_ok (n := 4) rfl rfl rfl ?_
  walk_at "all"
  refine ⟨R4 ns gs (some (.lst e1)) t4 t5 t6 t7 (some (.lst es)) t9 none none none none none none none none none, [c4], [.lst es], ?_, rfl, rfl, one_lb hc4, ?_⟩
  · exact fzR_cons (fzk_rl _ _) (fzR_cons (fzO_loc Nat.zero_lt_one) (fzR_cons (fzk_gs _ _) (fzR_cons (fzk_row hrow1 (by omega) _ _) (fzR_cons (g4 _ _) (fzR_cons (g5 _ _) (fzR_cons (g6 _ _) (fzR_cons (g7 _ _) (fzR_cons (fzO_new hne) (fzR_cons (g9 _ _) (by
      simp only [fzR, fzO]))))))))))
  clear t0 t1 hne hb0 hby
  walk_at "all"
  refine ⟨gs.length, c4, by rw [lg], by omega, rfl, hc4, fun os c5 hos hol hc5 => ?_⟩
  refine (fun h => ⟨Or.inl h, Or.inr ⟨.lst (iD os), [c5], [.lst (iD os)], fz_new (μ := [c5]) (lbs_iD _ _) (ne_iD _), rfl, rfl, one_lb hc5, h⟩⟩) ?_
  walk_at "all"
  refine ⟨fun ρ m => ∃ (os : List Int) (c : Cell), ByL os ∧ os.length ≤ 1201 ∧ StC c ∧ m = [c] ∧ ρ = R4 ns gs (some (.lst e1)) t4 t5 t6 t7 (some (.lst es)) t9 (some (.lst (iD os))) none none none none none none none none, ?_, ?_⟩
  · have lo : (iD os).length = os.length := iD_len os
    walk_at "all"
    · rename_i r c6 _ _ hc6 _
      refine ⟨iD os, c6, rfl, by omega, bytes_all hos, rfl, hc6, fun fs c7 hfl hfb hc7 => ?_⟩
      obtain ⟨bs, rfl, hb⟩ := all_bytes hfb
      rw [iD_len] at hfl
      exact ⟨bs, c7, hb, by omega, hc7, rfl, rfl⟩
    · exact ⟨os, _, hos, by omega, by assumption, rfl, rfl⟩
  clear hos hol hc5
  rintro ρ' _ ⟨os, c6, hos, hol, hc6, rfl, rfl⟩
  have lo : (iD os).length = os.length := iD_len os
  walk_at "all"
  refine ⟨os, c6, rfl, hos, by omega, rfl, hc6, fun e2 k2 c7 x2 hel2 hpl2 hx2 hxb2 hall2 hc7 => ?_⟩
  have hne2 := lbs_of fun e he => pl_lb (k := 1) 3 e (hpl2 e he).2
  have hfz2 : ∀ μ j, fzs μ j e2 = some e2 := fun μ j => fzs_pl fun e he => (hpl2 e he).2
  refine (fun h => ⟨Or.inr ⟨.tup [.lst e2, .v (.int (k2 : Int))], [c7], [.lst (iD os)], by simp only [fz, fzs, hfz2], rfl, rfl, one_lb hc7, h⟩, Or.inr ⟨.tup [.lst e2, .v (.int (k2 : Int))], [c7], [.lst e2], fz_pair hne2, rfl, rfl, one_lb hc7, h⟩⟩) ?_
  walk_at "all"
  have hrow2 : RowOk e2 := hpl2
  have org : RowOk (iD gs) := ok_iD
  have oro : RowOk (iD os) := ok_iD
  clear hpl1 hpl2 hne1 hne2 hfz1 hfz2 hx1 hx2 hxb1 hxb2 hall1 hall2 hc4
  refine ⟨_, Or.inl rfl, fun n ρ m => ∃ t12 t15 t16 : Option D, m = [c7] ∧ ρ = R4 ns gs (some (.lst e1)) t4 t5 t6 t7 (some (.lst es)) t9 (some (.lst (iD os))) (some (.lst e2)) t12 none none t15 t16 none none, ⟨_, _, _, rfl, rfl⟩, ?_, ?_⟩
  · rintro n ρ' _ d hx ⟨t12, t15, t16, rfl, rfl⟩
    have hd := List.mem_of_getElem? hx
    have key : ∃ f1 f2 : List D, d = .tup [.lst f1, .lst f2] ∧ RowOk f1 ∧ RowOk f2 ∧ f1.length ≤ 30000 ∧ f2.length ≤ 30000 := by
      simp only [List.mem_cons, List.not_mem_nil, or_false] at hd
      rcases hd with rfl | rfl | rfl | rfl
      · exact ⟨_, _, rfl, org, oro, by omega, by omega⟩
      · exact ⟨_, _, rfl, hrow1, oro, by omega, by omega⟩
      · exact ⟨_, _, rfl, org, hrow2, by omega, by omega⟩
      · exact ⟨_, _, rfl, hrow1, hrow2, by omega, by omega⟩
    obtain ⟨f1, f2, rfl, o1, o2, l1, l2⟩ := key
    clear hx hd
    have p1 : plD 5 (.lst f1) = true := pl_lst (n := 4) l1 fun e he => pl_up (o1 e he).2
    have p2 : plD 5 (.lst f2) = true := pl_lst (n := 4) l2 fun e he => pl_up (o2 e he).2
    walk_at "all"
    refine ⟨f1, f2, rfl, l1, l2, row_ty o1, row_ty o2, ?_⟩
    walk_at "all"
    refine ⟨f1, f2, rfl, l1, l2, row_ty o1, row_ty o2, ?_⟩
    have px := pl_xor f1 f2 l1
    walk_at "all"
    refine same_ok (n := 4) px px (same_self _ _ px) ?_
    walk_at "all"
    refine same_ok (n := 4) p1 p1 (same_self _ _ p1) ?_
    walk_at "all"
    refine same_ok (n := 4) p2 p2 (same_self _ _ p2) ?_
    walk_at "all"
    exact ⟨_, _, _, rfl, rfl⟩
  rintro ρ' _ ⟨t12, t15, t16, rfl, rfl⟩
  walk_at "all"
  rename_i q c8 hq0 hq1 hc8
  have hxl : ((List.range (1 + q).toNat).map fun (k : Nat) => D.v (.int (k : Int))).length = (1 + q).toNat := by rw [List.length_map, List.length_range]
  refine ⟨⟨by rw [hxl]; omega, one_lb hc8⟩, fun n acc m => ∃ (rows : List (List D)) (c : Cell), acc = rows.map D.lst ∧ rows.length = n ∧ (∀ r ∈ rows, r.length ≤ 31 ∧ RowOk r) ∧ StC c ∧ m = [c], ⟨[], c8, rfl, rfl, fun _ h => (List.not_mem_nil h).elim, hc8, rfl⟩, ?_, ?_⟩
  · rintro n acc x m hx hm' ⟨rows, c9, rfl, hrl, hrr, hc9, rfl⟩
    refine And.intro rfl (And.intro (fun _ => ?_) (fun e => Bool.noConfusion e))
    walk_at "all"
    refine ⟨_, _, _, rfl, by decide, by decide, rfl, hc9, fun bs c10 hb hbl hc10 => ?_⟩
    walk_at "all"
    refine ⟨bs, c10, _, rfl, hb, by omega, rfl, hc10, fun fs c11 hfl hfo hc11 => ?_⟩
    have hl := lbs_of fun e he => pl_lb (k := 1) 3 e (hfo e he).2
    refine ⟨[c11], ⟨rfl, rfl⟩, one_lb hc11, ⟨hl.2, hl.1⟩, rows ++ [fs], c11, by rw [List.map_append]; rfl, by simp [hrl], fun r hr => ?_, hc11, rfl⟩
    rcases List.mem_append.mp hr with hr | hr
    · exact hrr r hr
    · rw [List.mem_singleton.mp hr]
      exact ⟨by omega, hfo⟩
  rintro acc _ ⟨rows, c9, rfl, hrl, hrr, hc9, rfl⟩
  rw [hxl] at hrl
  clear hxl
  walk_at "all"
  refine ⟨gs, c9, _, rfl, hg, by omega, rfl, hc9, fun f1 c10 hf1 ho1 hc10 => ?_⟩
  walk_at "all"
  refine ⟨_, _, _, _, rfl, Or.inl rfl, by simp, by simp, rfl, hc10, fun d c11 hd hc11 => ?_⟩
  have hd2 : ∃ f2, d = .lst f2 ∧ RowOk f2 ∧ f2.length ≤ 1202 := by
    simp only [List.mem_cons, List.not_mem_nil, or_false] at hd
    rcases hd with rfl | rfl
    · exact ⟨_, rfl, oro, by omega⟩
    · exact ⟨_, rfl, hrow2, by omega⟩
  obtain ⟨f2, rfl, ho2, hf2⟩ := hd2
  clear hd
  walk_at "all"
  refine And.intro (show (rows.map D.lst).length + 2 ≤ 1000000 by rw [List.length_map]; omega) ?_
  have eR : rows.map D.lst ++ [D.lst f1, D.lst f2] = (rows ++ [f1, f2]).map D.lst := by rw [List.map_append]; rfl
  rw [eR]
  have hR1 : 3 ≤ (rows ++ [f1, f2]).length := by rw [List.length_append]; show 3 ≤ rows.length + 2; omega
  have hR2 : (rows ++ [f1, f2]).length ≤ 5 := by rw [List.length_append]; show rows.length + 2 ≤ 5; omega
  have hR3 : ∀ r ∈ rows ++ [f1, f2], r.length ≤ 5000 ∧ RowOk r := fun r hr => by
    rcases List.mem_append.mp hr with hr | hr
    · exact ⟨by have := (hrr r hr).1; omega, (hrr r hr).2⟩
    · simp only [List.mem_cons, List.not_mem_nil, or_false] at hr
      rcases hr with rfl | rfl
      · exact ⟨by omega, ho1⟩
      · exact ⟨by omega, ho2⟩
  clear eR hrr hrl
  generalize rows ++ [f1, f2] = R at *
  clear hf1 ho1 hf2 ho2
  have hR4 : ∀ r ∈ R, r.length ≤ 5000 ∧ ∀ e ∈ r, TyD e := fun r hr => ⟨(hR3 r hr).1, row_ty (hR3 r hr).2⟩
  have pR : plD 5 (.lst (R.map D.lst)) = true := pl_rows (by omega) hR3
  have pJ := pl_join hR2 hR3
  conv => whnf
  refine And.intro (show (R.map D.lst).length ≤ 500000 by rw [List.length_map]; omega) ⟨fun n acc => acc = (R.take n).map D.lst, rfl, ?_, ?_⟩
  · rintro n acc d hx rfl
    rw [List.getElem?_map, Option.map_eq_some_iff] at hx
    obtain ⟨r, hrn, rfl⟩ := hx
    have hl := lbs_of fun e he => pl_lb (k := 1) 3 e ((hR3 r (List.mem_of_getElem? hrn)).2 e he).2
    walk_at "all"
    refine ⟨⟨hl.2, hl.1⟩, ?_⟩
    show _ = _
    rw [List.take_succ, hrn, List.map_append]
    rfl
  rintro acc rfl
  rw [List.length_map, List.take_length]
  walk_at "all"
  refine ⟨R, rfl, by omega, hR2, hR4, ?_⟩
  walk_at "all"
  refine ⟨R, rfl, hR2, hR4, ?_⟩
  walk_at "all"
  refine same_ok (n := 4) pJ pJ (same_self _ _ pJ) ?_
  walk_at "all"
  refine same_ok (n := 4) pR pR (same_self _ _ pR) ?_
  walk_at "all"
  have hj : joinV [iD gs, iD os] = toldD (.lst (iD gs ++ iD os)) := by
    have e : fbR [iD gs, iD os] = none := by
      unfold fbR
      rw [List.findSome?_eq_none_iff]
      intro r hr
      simp only [List.mem_cons, List.not_mem_nil, or_false] at hr
      rcases hr with rfl | rfl
      · exact badI_iD hg
      · exact badI_iD hos
    unfold joinV
    rw [e]
    show toldD (.lst [iD gs, iD os].flatten) = _
    rw [List.flatten_cons, List.flatten_cons, List.flatten_nil, List.append_nil]
  have h2 : ∀ r ∈ [iD gs, iD os], r.length ≤ 5000 ∧ RowOk r := fun r hr => by
    simp only [List.mem_cons, List.not_mem_nil, or_false] at hr
    rcases hr with rfl | rfl
    · exact ⟨by omega, org⟩
    · exact ⟨by omega, oro⟩
  have pK := pl_join (R := [iD gs, iD os]) (by show 2 ≤ 5; decide) h2
  rw [hj] at pK
  refine ⟨[iD gs, iD os], rfl, by show 1 ≤ 2; decide, by show 2 ≤ 5; decide, fun r hr => ⟨(h2 r hr).1, row_ty (h2 r hr).2⟩, ?_⟩
  rw [hj]
  refine And.intro (show (iD gs).length + (iD os).length ≤ 1000000 by omega) ?_
  walk_at "all"
  refine same_ok (n := 4) pK pK (same_self _ _ pK) ?_
  walk_at "all"
  refine ⟨iD gs, _, rfl, by omega, org, ⟨_, rfl⟩, ?_⟩
  exact hQ _
end
end Pf
set_option Elab.async false
set_option linter.all false
set_option maxRecDepth 100000
set_option maxHeartbeats 4000000
namespace Pf
open PySem L2 DK PyProof.Rows
theorem all_mk {P : Program} {w : World} {K : PySem.W.Frag} {h : Heap} {mg : Str → Option Value} {fa : Addr} (X : K.In h) (G : h.Ns mainGlobals mg) (hfa : mg "law" = some (.ref fa))
    {t_LONGEST : Tok}
    {a_NoiseboundError : Addr}
    {a_OutOfRange : Addr}
    {a_BadItem : Addr}
    {a_BadLength : Addr}
    {a_BadText : Addr}
    {a_BadPadding : Addr}
    {a_WrongPhase : Addr}
    {a_NotInvertible : Addr}
    {a_BadRing : Addr}
    {a_BadParameters : Addr}
    {a_UnknownName : Addr}
    {a_DifferentRings : Addr}
    {a_BadKey : Addr}
    {a_BadLetter : Addr}
    {a_BadKeyText : Addr}
    {a_BadRecord : Addr}
    {a_BadCommand : Addr}
    {a_NoEntry : Addr}
    {a_NothingLeft : Addr}
    {a_is_number : Addr} {od_is_number an_is_number : Option Addr} {sl_is_number : Array (Option Value)} {oc_is_number kV_is_number dc_is_number pm_is_number cd_is_number ct_is_number : Value}
    {a_is_between : Addr} {od_is_between an_is_between : Option Addr} {sl_is_between : Array (Option Value)} {oc_is_between kV_is_between dc_is_between pm_is_between cd_is_between ct_is_between : Value}
    {a_check_between : Addr} {od_check_between an_check_between : Option Addr} {sl_check_between : Array (Option Value)} {oc_check_between kV_check_between dc_check_between pm_check_between cd_check_between ct_check_between : Value}
    {a_check_length : Addr} {od_check_length an_check_length : Option Addr} {sl_check_length : Array (Option Value)} {oc_check_length kV_check_length dc_check_length pm_check_length cd_check_length ct_check_length : Value}
    {a_check_items : Addr} {od_check_items an_check_items : Option Addr} {sl_check_items : Array (Option Value)} {oc_check_items kV_check_items dc_check_items pm_check_items cd_check_items ct_check_items : Value}
    {a_check_bytes kd_check_bytes : Addr} {od_check_bytes an_check_bytes : Option Addr} {sl_check_bytes : Array (Option Value)} {oc_check_bytes dc_check_bytes pm_check_bytes cd_check_bytes ct_check_bytes : Value}
    {a_concatenate : Addr} {od_concatenate an_concatenate : Option Addr} {sl_concatenate : Array (Option Value)} {oc_concatenate kV_concatenate dc_concatenate pm_concatenate cd_concatenate ct_concatenate : Value}
    {a_xor_bytes : Addr} {od_xor_bytes an_xor_bytes : Option Addr} {sl_xor_bytes : Array (Option Value)} {oc_xor_bytes kV_xor_bytes dc_xor_bytes pm_xor_bytes cd_xor_bytes ct_xor_bytes : Value}
    {a__law_begin : Addr} {od__law_begin an__law_begin : Option Addr} {sl__law_begin : Array (Option Value)} {oc__law_begin kV__law_begin dc__law_begin pm__law_begin cd__law_begin ct__law_begin : Value}
    {a__law_mixed : Addr} {od__law_mixed an__law_mixed : Option Addr} {sl__law_mixed : Array (Option Value)} {oc__law_mixed kV__law_mixed dc__law_mixed pm__law_mixed cd__law_mixed ct__law_mixed : Value}
    {a__law_take : Addr} {od__law_take an__law_take : Option Addr} {sl__law_take : Array (Option Value)} {oc__law_take kV__law_take dc__law_take pm__law_take cd__law_take ct__law_take : Value}
    {a__law_wide : Addr} {od__law_wide an__law_wide : Option Addr} {sl__law_wide : Array (Option Value)} {oc__law_wide kV__law_wide dc__law_wide pm__law_wide cd__law_wide ct__law_wide : Value}
    {a__law_pick : Addr} {od__law_pick an__law_pick : Option Addr} {sl__law_pick : Array (Option Value)} {oc__law_pick kV__law_pick dc__law_pick pm__law_pick cd__law_pick ct__law_pick : Value}
    {a__law_between : Addr} {od__law_between an__law_between : Option Addr} {sl__law_between : Array (Option Value)} {oc__law_between kV__law_between dc__law_between pm__law_between cd__law_between ct__law_between : Value}
    {a__law_count : Addr} {od__law_count an__law_count : Option Addr} {sl__law_count : Array (Option Value)} {oc__law_count kV__law_count dc__law_count pm__law_count cd__law_count ct__law_count : Value}
    {a__law_other : Addr} {od__law_other an__law_other : Option Addr} {sl__law_other : Array (Option Value)} {oc__law_other kV__law_other dc__law_other pm__law_other cd__law_other ct__law_other : Value}
    {a__law_beyond : Addr} {od__law_beyond an__law_beyond : Option Addr} {sl__law_beyond : Array (Option Value)} {oc__law_beyond kV__law_beyond dc__law_beyond pm__law_beyond cd__law_beyond ct__law_beyond : Value}
    {a__law_same : Addr} {od__law_same an__law_same : Option Addr} {sl__law_same : Array (Option Value)} {oc__law_same kV__law_same dc__law_same pm__law_same cd__law_same ct__law_same : Value}
    {a__law_whole : Addr} {od__law_whole an__law_whole : Option Addr} {sl__law_whole : Array (Option Value)} {oc__law_whole kV__law_whole dc__law_whole pm__law_whole cd__law_whole ct__law_whole : Value}
    {a__law_within : Addr} {od__law_within an__law_within : Option Addr} {sl__law_within : Array (Option Value)} {oc__law_within kV__law_within dc__law_within pm__law_within cd__law_within ct__law_within : Value}
    {a__law_kin : Addr} {od__law_kin an__law_kin : Option Addr} {sl__law_kin : Array (Option Value)} {oc__law_kin kV__law_kin dc__law_kin pm__law_kin cd__law_kin ct__law_kin : Value}
    {a__law_refusal : Addr} {od__law_refusal an__law_refusal : Option Addr} {sl__law_refusal : Array (Option Value)} {oc__law_refusal kV__law_refusal dc__law_refusal pm__law_refusal cd__law_refusal ct__law_refusal : Value}
    {a__law_bytes : Addr} {od__law_bytes an__law_bytes : Option Addr} {sl__law_bytes : Array (Option Value)} {oc__law_bytes kV__law_bytes dc__law_bytes pm__law_bytes cd__law_bytes ct__law_bytes : Value}
    {a__law_byte_row : Addr} {od__law_byte_row an__law_byte_row : Option Addr} {sl__law_byte_row : Array (Option Value)} {oc__law_byte_row kV__law_byte_row dc__law_byte_row pm__law_byte_row cd__law_byte_row ct__law_byte_row : Value}
    {a__law_misfit : Addr} {od__law_misfit an__law_misfit : Option Addr} {sl__law_misfit : Array (Option Value)} {oc__law_misfit kV__law_misfit dc__law_misfit pm__law_misfit cd__law_misfit ct__law_misfit : Value}
    {a__law_bent_row : Addr} {od__law_bent_row an__law_bent_row : Option Addr} {sl__law_bent_row : Array (Option Value)} {oc__law_bent_row kV__law_bent_row dc__law_bent_row pm__law_bent_row cd__law_bent_row ct__law_bent_row : Value}
    {a__law_row_due : Addr} {od__law_row_due an__law_row_due : Option Addr} {sl__law_row_due : Array (Option Value)} {oc__law_row_due kV__law_row_due dc__law_row_due pm__law_row_due cd__law_row_due ct__law_row_due : Value}
    {a__law_told_check : Addr} {od__law_told_check an__law_told_check : Option Addr} {sl__law_told_check : Array (Option Value)} {oc__law_told_check kV__law_told_check dc__law_told_check pm__law_told_check cd__law_told_check ct__law_told_check : Value}
    {a__law_told_plain : Addr} {od__law_told_plain an__law_told_plain : Option Addr} {sl__law_told_plain : Array (Option Value)} {oc__law_told_plain kV__law_told_plain dc__law_told_plain pm__law_told_plain cd__law_told_plain ct__law_told_plain : Value}
    {a__law_told_xor : Addr} {od__law_told_xor an__law_told_xor : Option Addr} {sl__law_told_xor : Array (Option Value)} {oc__law_told_xor kV__law_told_xor dc__law_told_xor pm__law_told_xor cd__law_told_xor ct__law_told_xor : Value}
    {a__law_told_join : Addr} {od__law_told_join an__law_told_join : Option Addr} {sl__law_told_join : Array (Option Value)} {oc__law_told_join kV__law_told_join dc__law_told_join pm__law_told_join cd__law_told_join ct__law_told_join : Value}
    {a__law_check_due : Addr} {od__law_check_due an__law_check_due : Option Addr} {sl__law_check_due : Array (Option Value)} {oc__law_check_due kV__law_check_due dc__law_check_due pm__law_check_due cd__law_check_due ct__law_check_due : Value}
    {a__law_xor_due : Addr} {od__law_xor_due an__law_xor_due : Option Addr} {sl__law_xor_due : Array (Option Value)} {oc__law_xor_due kV__law_xor_due dc__law_xor_due pm__law_xor_due cd__law_xor_due ct__law_xor_due : Value}
    {a__law_join_due : Addr} {od__law_join_due an__law_join_due : Option Addr} {sl__law_join_due : Array (Option Value)} {oc__law_join_due kV__law_join_due dc__law_join_due pm__law_join_due cd__law_join_due ct__law_join_due : Value}
    {a__law_perhaps_bent : Addr} {od__law_perhaps_bent an__law_perhaps_bent : Option Addr} {sl__law_perhaps_bent : Array (Option Value)} {oc__law_perhaps_bent kV__law_perhaps_bent dc__law_perhaps_bent pm__law_perhaps_bent cd__law_perhaps_bent ct__law_perhaps_bent : Value}
    {a__law_checks : Addr} {od__law_checks an__law_checks : Option Addr} {sl__law_checks : Array (Option Value)} {oc__law_checks kV__law_checks dc__law_checks pm__law_checks cd__law_checks ct__law_checks : Value}
    {a__law_great : Addr} {od__law_great an__law_great : Option Addr} {sl__law_great : Array (Option Value)} {oc__law_great kV__law_great dc__law_great pm__law_great cd__law_great ct__law_great : Value}
    {a__law_longest : Addr} {od__law_longest an__law_longest : Option Addr} {sl__law_longest : Array (Option Value)} {oc__law_longest kV__law_longest dc__law_longest pm__law_longest cd__law_longest ct__law_longest : Value}
    {a_law : Addr} {od_law an_law : Option Addr} {sl_law : Array (Option Value)} {oc_law kV_law dc_law pm_law cd_law ct_law : Value}
    {nm_OutOfRange q_OutOfRange : Str} {N_OutOfRange : Addr} {bs_OutOfRange : List Value} {sn_OutOfRange : List Str} {sub_OutOfRange : List Value} {ab_OutOfRange : Bool} {col_OutOfRange : Option Bool} {dd_OutOfRange : Option Addr} {m0_OutOfRange m1_OutOfRange m2_OutOfRange m3_OutOfRange m5_OutOfRange : Option Value}
    {fi_OutOfRange : Addr} {od_IOutOfRange an_IOutOfRange : Option Addr} {sl_IOutOfRange : Array (Option Value)} {oc_IOutOfRange kV_IOutOfRange dc_IOutOfRange pm_IOutOfRange cd_IOutOfRange ct_IOutOfRange : Value}
    {nm_BadItem q_BadItem : Str} {N_BadItem : Addr} {bs_BadItem : List Value} {sn_BadItem : List Str} {sub_BadItem : List Value} {ab_BadItem : Bool} {col_BadItem : Option Bool} {dd_BadItem : Option Addr} {m0_BadItem m1_BadItem m2_BadItem m3_BadItem m5_BadItem : Option Value}
    {fi_BadItem : Addr} {od_IBadItem an_IBadItem : Option Addr} {sl_IBadItem : Array (Option Value)} {oc_IBadItem kV_IBadItem dc_IBadItem pm_IBadItem cd_IBadItem ct_IBadItem : Value}
    {nm_BadLength q_BadLength : Str} {N_BadLength : Addr} {bs_BadLength : List Value} {sn_BadLength : List Str} {sub_BadLength : List Value} {ab_BadLength : Bool} {col_BadLength : Option Bool} {dd_BadLength : Option Addr} {m0_BadLength m1_BadLength m2_BadLength m3_BadLength m5_BadLength : Option Value}
    {fi_BadLength : Addr} {od_IBadLength an_IBadLength : Option Addr} {sl_IBadLength : Array (Option Value)} {oc_IBadLength kV_IBadLength dc_IBadLength pm_IBadLength cd_IBadLength ct_IBadLength : Value}
    (z_ValueError : PySem.W.nsIn K mainGlobals "ValueError" = some none)
    (z_enumerate : PySem.W.nsIn K mainGlobals "enumerate" = some none)
    (z_max : PySem.W.nsIn K mainGlobals "max" = some none)
    (z_range : PySem.W.nsIn K mainGlobals "range" = some none)
    (z_isinstance : PySem.W.nsIn K mainGlobals "isinstance" = some none)
    (z_int : PySem.W.nsIn K mainGlobals "int" = some none)
    (z_str : PySem.W.nsIn K mainGlobals "str" = some none)
    (z_list : PySem.W.nsIn K mainGlobals "list" = some none)
    (z_len : PySem.W.nsIn K mainGlobals "len" = some none)
    (z_min : PySem.W.nsIn K mainGlobals "min" = some none)
    (z_tuple : PySem.W.nsIn K mainGlobals "tuple" = some none)
    (z_bool : PySem.W.nsIn K mainGlobals "bool" = some none)
    (z_zip : PySem.W.nsIn K mainGlobals "zip" = some none)
    (ac_LONGEST : PySem.W.nsIn K mainGlobals "LONGEST" = some (some (.int 20000 t_LONGEST)))
    (x_NoiseboundError : PySem.W.nsIn K mainGlobals "NoiseboundError" = some (some (.ref a_NoiseboundError)))
    (x_OutOfRange : PySem.W.nsIn K mainGlobals "OutOfRange" = some (some (.ref a_OutOfRange)))
    (x_BadItem : PySem.W.nsIn K mainGlobals "BadItem" = some (some (.ref a_BadItem)))
    (x_BadLength : PySem.W.nsIn K mainGlobals "BadLength" = some (some (.ref a_BadLength)))
    (x_BadText : PySem.W.nsIn K mainGlobals "BadText" = some (some (.ref a_BadText)))
    (x_BadPadding : PySem.W.nsIn K mainGlobals "BadPadding" = some (some (.ref a_BadPadding)))
    (x_WrongPhase : PySem.W.nsIn K mainGlobals "WrongPhase" = some (some (.ref a_WrongPhase)))
    (x_NotInvertible : PySem.W.nsIn K mainGlobals "NotInvertible" = some (some (.ref a_NotInvertible)))
    (x_BadRing : PySem.W.nsIn K mainGlobals "BadRing" = some (some (.ref a_BadRing)))
    (x_BadParameters : PySem.W.nsIn K mainGlobals "BadParameters" = some (some (.ref a_BadParameters)))
    (x_UnknownName : PySem.W.nsIn K mainGlobals "UnknownName" = some (some (.ref a_UnknownName)))
    (x_DifferentRings : PySem.W.nsIn K mainGlobals "DifferentRings" = some (some (.ref a_DifferentRings)))
    (x_BadKey : PySem.W.nsIn K mainGlobals "BadKey" = some (some (.ref a_BadKey)))
    (x_BadLetter : PySem.W.nsIn K mainGlobals "BadLetter" = some (some (.ref a_BadLetter)))
    (x_BadKeyText : PySem.W.nsIn K mainGlobals "BadKeyText" = some (some (.ref a_BadKeyText)))
    (x_BadRecord : PySem.W.nsIn K mainGlobals "BadRecord" = some (some (.ref a_BadRecord)))
    (x_BadCommand : PySem.W.nsIn K mainGlobals "BadCommand" = some (some (.ref a_BadCommand)))
    (x_NoEntry : PySem.W.nsIn K mainGlobals "NoEntry" = some (some (.ref a_NoEntry)))
    (x_NothingLeft : PySem.W.nsIn K mainGlobals "NothingLeft" = some (some (.ref a_NothingLeft)))
    (exN : PySem.W.subIn K (.ref a_NoiseboundError) (.type "BaseException") = some true)
    (ic_NoiseboundError : PySem.W.isClsIn K a_NoiseboundError = true)
    (tyc_NoiseboundError : PySem.W.typeIn K (.ref a_NoiseboundError) = some (.type "type"))
    (ic_OutOfRange : PySem.W.isClsIn K a_OutOfRange = true)
    (tyc_OutOfRange : PySem.W.typeIn K (.ref a_OutOfRange) = some (.type "type"))
    (ic_BadItem : PySem.W.isClsIn K a_BadItem = true)
    (tyc_BadItem : PySem.W.typeIn K (.ref a_BadItem) = some (.type "type"))
    (ic_BadLength : PySem.W.isClsIn K a_BadLength = true)
    (tyc_BadLength : PySem.W.typeIn K (.ref a_BadLength) = some (.type "type"))
    (ic_BadText : PySem.W.isClsIn K a_BadText = true)
    (tyc_BadText : PySem.W.typeIn K (.ref a_BadText) = some (.type "type"))
    (ic_BadPadding : PySem.W.isClsIn K a_BadPadding = true)
    (tyc_BadPadding : PySem.W.typeIn K (.ref a_BadPadding) = some (.type "type"))
    (ic_WrongPhase : PySem.W.isClsIn K a_WrongPhase = true)
    (tyc_WrongPhase : PySem.W.typeIn K (.ref a_WrongPhase) = some (.type "type"))
    (ic_NotInvertible : PySem.W.isClsIn K a_NotInvertible = true)
    (tyc_NotInvertible : PySem.W.typeIn K (.ref a_NotInvertible) = some (.type "type"))
    (ic_BadRing : PySem.W.isClsIn K a_BadRing = true)
    (tyc_BadRing : PySem.W.typeIn K (.ref a_BadRing) = some (.type "type"))
    (ic_BadParameters : PySem.W.isClsIn K a_BadParameters = true)
    (tyc_BadParameters : PySem.W.typeIn K (.ref a_BadParameters) = some (.type "type"))
    (ic_UnknownName : PySem.W.isClsIn K a_UnknownName = true)
    (tyc_UnknownName : PySem.W.typeIn K (.ref a_UnknownName) = some (.type "type"))
    (ic_DifferentRings : PySem.W.isClsIn K a_DifferentRings = true)
    (tyc_DifferentRings : PySem.W.typeIn K (.ref a_DifferentRings) = some (.type "type"))
    (ic_BadKey : PySem.W.isClsIn K a_BadKey = true)
    (tyc_BadKey : PySem.W.typeIn K (.ref a_BadKey) = some (.type "type"))
    (ic_BadLetter : PySem.W.isClsIn K a_BadLetter = true)
    (tyc_BadLetter : PySem.W.typeIn K (.ref a_BadLetter) = some (.type "type"))
    (ic_BadKeyText : PySem.W.isClsIn K a_BadKeyText = true)
    (tyc_BadKeyText : PySem.W.typeIn K (.ref a_BadKeyText) = some (.type "type"))
    (ic_BadRecord : PySem.W.isClsIn K a_BadRecord = true)
    (tyc_BadRecord : PySem.W.typeIn K (.ref a_BadRecord) = some (.type "type"))
    (ic_BadCommand : PySem.W.isClsIn K a_BadCommand = true)
    (tyc_BadCommand : PySem.W.typeIn K (.ref a_BadCommand) = some (.type "type"))
    (ic_NoEntry : PySem.W.isClsIn K a_NoEntry = true)
    (tyc_NoEntry : PySem.W.typeIn K (.ref a_NoEntry) = some (.type "type"))
    (ic_NothingLeft : PySem.W.isClsIn K a_NothingLeft = true)
    (tyc_NothingLeft : PySem.W.typeIn K (.ref a_NothingLeft) = some (.type "type"))
    (a_is_number' : PySem.W.nsIn K mainGlobals "is_number" = some (some (.ref a_is_number)))
    (l_is_number : K.lookup a_is_number = some ⟨oc_is_number, od_is_number, .func (PySem.W.fnOf "is_number" "is_number" (defArgs (top 21)) (defBody (top 21)) (defScope (top 21)) .none kV_is_number dc_is_number pm_is_number an_is_number cd_is_number ct_is_number), sl_is_number⟩)
    (c_is_number : PySem.W.codeIn K cd_is_number "is_number" = true)
    (k_is_number : PySem.W.keepIn K (.ref a_is_number) = true)
    (a_is_between' : PySem.W.nsIn K mainGlobals "is_between" = some (some (.ref a_is_between)))
    (l_is_between : K.lookup a_is_between = some ⟨oc_is_between, od_is_between, .func (PySem.W.fnOf "is_between" "is_between" (defArgs (top 22)) (defBody (top 22)) (defScope (top 22)) .none kV_is_between dc_is_between pm_is_between an_is_between cd_is_between ct_is_between), sl_is_between⟩)
    (c_is_between : PySem.W.codeIn K cd_is_between "is_between" = true)
    (k_is_between : PySem.W.keepIn K (.ref a_is_between) = true)
    (a_check_between' : PySem.W.nsIn K mainGlobals "check_between" = some (some (.ref a_check_between)))
    (l_check_between : K.lookup a_check_between = some ⟨oc_check_between, od_check_between, .func (PySem.W.fnOf "check_between" "check_between" (defArgs (top 23)) (defBody (top 23)) (defScope (top 23)) .none kV_check_between dc_check_between pm_check_between an_check_between cd_check_between ct_check_between), sl_check_between⟩)
    (c_check_between : PySem.W.codeIn K cd_check_between "check_between" = true)
    (k_check_between : PySem.W.keepIn K (.ref a_check_between) = true)
    (a_check_length' : PySem.W.nsIn K mainGlobals "check_length" = some (some (.ref a_check_length)))
    (l_check_length : K.lookup a_check_length = some ⟨oc_check_length, od_check_length, .func (PySem.W.fnOf "check_length" "check_length" (defArgs (top 24)) (defBody (top 24)) (defScope (top 24)) .none kV_check_length dc_check_length pm_check_length an_check_length cd_check_length ct_check_length), sl_check_length⟩)
    (c_check_length : PySem.W.codeIn K cd_check_length "check_length" = true)
    (k_check_length : PySem.W.keepIn K (.ref a_check_length) = true)
    (a_check_items' : PySem.W.nsIn K mainGlobals "check_items" = some (some (.ref a_check_items)))
    (l_check_items : K.lookup a_check_items = some ⟨oc_check_items, od_check_items, .func (PySem.W.fnOf "check_items" "check_items" (defArgs (top 25)) (defBody (top 25)) (defScope (top 25)) .none kV_check_items dc_check_items pm_check_items an_check_items cd_check_items ct_check_items), sl_check_items⟩)
    (c_check_items : PySem.W.codeIn K cd_check_items "check_items" = true)
    (k_check_items : PySem.W.keepIn K (.ref a_check_items) = true)
    (a_check_bytes' : PySem.W.nsIn K mainGlobals "check_bytes" = some (some (.ref a_check_bytes)))
    (l_check_bytes : K.lookup a_check_bytes = some ⟨oc_check_bytes, od_check_bytes, .func (PySem.W.fnOf "check_bytes" "check_bytes" (defArgs (top 28)) (defBody (top 28)) (defScope (top 28)) .none (.ref kd_check_bytes) dc_check_bytes pm_check_bytes an_check_bytes cd_check_bytes ct_check_bytes), sl_check_bytes⟩)
    (c_check_bytes : PySem.W.codeIn K cd_check_bytes "check_bytes" = true)
    (k_check_bytes : PySem.W.keepIn K (.ref a_check_bytes) = true)
    (kw0_check_bytes : PySem.W.nsIn K kd_check_bytes "length" = some (some .none))
    (a_concatenate' : PySem.W.nsIn K mainGlobals "concatenate" = some (some (.ref a_concatenate)))
    (l_concatenate : K.lookup a_concatenate = some ⟨oc_concatenate, od_concatenate, .func (PySem.W.fnOf "concatenate" "concatenate" (defArgs (top 29)) (defBody (top 29)) (defScope (top 29)) .none kV_concatenate dc_concatenate pm_concatenate an_concatenate cd_concatenate ct_concatenate), sl_concatenate⟩)
    (c_concatenate : PySem.W.codeIn K cd_concatenate "concatenate" = true)
    (k_concatenate : PySem.W.keepIn K (.ref a_concatenate) = true)
    (a_xor_bytes' : PySem.W.nsIn K mainGlobals "xor_bytes" = some (some (.ref a_xor_bytes)))
    (l_xor_bytes : K.lookup a_xor_bytes = some ⟨oc_xor_bytes, od_xor_bytes, .func (PySem.W.fnOf "xor_bytes" "xor_bytes" (defArgs (top 30)) (defBody (top 30)) (defScope (top 30)) .none kV_xor_bytes dc_xor_bytes pm_xor_bytes an_xor_bytes cd_xor_bytes ct_xor_bytes), sl_xor_bytes⟩)
    (c_xor_bytes : PySem.W.codeIn K cd_xor_bytes "xor_bytes" = true)
    (k_xor_bytes : PySem.W.keepIn K (.ref a_xor_bytes) = true)
    (a__law_begin' : PySem.W.nsIn K mainGlobals "_law_begin" = some (some (.ref a__law_begin)))
    (l__law_begin : K.lookup a__law_begin = some ⟨oc__law_begin, od__law_begin, .func (PySem.W.fnOf "_law_begin" "_law_begin" (defArgs (top 32)) (defBody (top 32)) (defScope (top 32)) .none kV__law_begin dc__law_begin pm__law_begin an__law_begin cd__law_begin ct__law_begin), sl__law_begin⟩)
    (c__law_begin : PySem.W.codeIn K cd__law_begin "_law_begin" = true)
    (k__law_begin : PySem.W.keepIn K (.ref a__law_begin) = true)
    (a__law_mixed' : PySem.W.nsIn K mainGlobals "_law_mixed" = some (some (.ref a__law_mixed)))
    (l__law_mixed : K.lookup a__law_mixed = some ⟨oc__law_mixed, od__law_mixed, .func (PySem.W.fnOf "_law_mixed" "_law_mixed" (defArgs (top 33)) (defBody (top 33)) (defScope (top 33)) .none kV__law_mixed dc__law_mixed pm__law_mixed an__law_mixed cd__law_mixed ct__law_mixed), sl__law_mixed⟩)
    (c__law_mixed : PySem.W.codeIn K cd__law_mixed "_law_mixed" = true)
    (k__law_mixed : PySem.W.keepIn K (.ref a__law_mixed) = true)
    (a__law_take' : PySem.W.nsIn K mainGlobals "_law_take" = some (some (.ref a__law_take)))
    (l__law_take : K.lookup a__law_take = some ⟨oc__law_take, od__law_take, .func (PySem.W.fnOf "_law_take" "_law_take" (defArgs (top 34)) (defBody (top 34)) (defScope (top 34)) .none kV__law_take dc__law_take pm__law_take an__law_take cd__law_take ct__law_take), sl__law_take⟩)
    (c__law_take : PySem.W.codeIn K cd__law_take "_law_take" = true)
    (k__law_take : PySem.W.keepIn K (.ref a__law_take) = true)
    (a__law_wide' : PySem.W.nsIn K mainGlobals "_law_wide" = some (some (.ref a__law_wide)))
    (l__law_wide : K.lookup a__law_wide = some ⟨oc__law_wide, od__law_wide, .func (PySem.W.fnOf "_law_wide" "_law_wide" (defArgs (top 35)) (defBody (top 35)) (defScope (top 35)) .none kV__law_wide dc__law_wide pm__law_wide an__law_wide cd__law_wide ct__law_wide), sl__law_wide⟩)
    (c__law_wide : PySem.W.codeIn K cd__law_wide "_law_wide" = true)
    (k__law_wide : PySem.W.keepIn K (.ref a__law_wide) = true)
    (a__law_pick' : PySem.W.nsIn K mainGlobals "_law_pick" = some (some (.ref a__law_pick)))
    (l__law_pick : K.lookup a__law_pick = some ⟨oc__law_pick, od__law_pick, .func (PySem.W.fnOf "_law_pick" "_law_pick" (defArgs (top 36)) (defBody (top 36)) (defScope (top 36)) .none kV__law_pick dc__law_pick pm__law_pick an__law_pick cd__law_pick ct__law_pick), sl__law_pick⟩)
    (c__law_pick : PySem.W.codeIn K cd__law_pick "_law_pick" = true)
    (k__law_pick : PySem.W.keepIn K (.ref a__law_pick) = true)
    (a__law_between' : PySem.W.nsIn K mainGlobals "_law_between" = some (some (.ref a__law_between)))
    (l__law_between : K.lookup a__law_between = some ⟨oc__law_between, od__law_between, .func (PySem.W.fnOf "_law_between" "_law_between" (defArgs (top 37)) (defBody (top 37)) (defScope (top 37)) .none kV__law_between dc__law_between pm__law_between an__law_between cd__law_between ct__law_between), sl__law_between⟩)
    (c__law_between : PySem.W.codeIn K cd__law_between "_law_between" = true)
    (k__law_between : PySem.W.keepIn K (.ref a__law_between) = true)
    (a__law_count' : PySem.W.nsIn K mainGlobals "_law_count" = some (some (.ref a__law_count)))
    (l__law_count : K.lookup a__law_count = some ⟨oc__law_count, od__law_count, .func (PySem.W.fnOf "_law_count" "_law_count" (defArgs (top 38)) (defBody (top 38)) (defScope (top 38)) .none kV__law_count dc__law_count pm__law_count an__law_count cd__law_count ct__law_count), sl__law_count⟩)
    (c__law_count : PySem.W.codeIn K cd__law_count "_law_count" = true)
    (k__law_count : PySem.W.keepIn K (.ref a__law_count) = true)
    (a__law_other' : PySem.W.nsIn K mainGlobals "_law_other" = some (some (.ref a__law_other)))
    (l__law_other : K.lookup a__law_other = some ⟨oc__law_other, od__law_other, .func (PySem.W.fnOf "_law_other" "_law_other" (defArgs (top 39)) (defBody (top 39)) (defScope (top 39)) .none kV__law_other dc__law_other pm__law_other an__law_other cd__law_other ct__law_other), sl__law_other⟩)
    (c__law_other : PySem.W.codeIn K cd__law_other "_law_other" = true)
    (k__law_other : PySem.W.keepIn K (.ref a__law_other) = true)
    (a__law_beyond' : PySem.W.nsIn K mainGlobals "_law_beyond" = some (some (.ref a__law_beyond)))
    (l__law_beyond : K.lookup a__law_beyond = some ⟨oc__law_beyond, od__law_beyond, .func (PySem.W.fnOf "_law_beyond" "_law_beyond" (defArgs (top 40)) (defBody (top 40)) (defScope (top 40)) .none kV__law_beyond dc__law_beyond pm__law_beyond an__law_beyond cd__law_beyond ct__law_beyond), sl__law_beyond⟩)
    (c__law_beyond : PySem.W.codeIn K cd__law_beyond "_law_beyond" = true)
    (k__law_beyond : PySem.W.keepIn K (.ref a__law_beyond) = true)
    (a__law_same' : PySem.W.nsIn K mainGlobals "_law_same" = some (some (.ref a__law_same)))
    (l__law_same : K.lookup a__law_same = some ⟨oc__law_same, od__law_same, .func (PySem.W.fnOf "_law_same" "_law_same" (defArgs (top 41)) (defBody (top 41)) (defScope (top 41)) .none kV__law_same dc__law_same pm__law_same an__law_same cd__law_same ct__law_same), sl__law_same⟩)
    (c__law_same : PySem.W.codeIn K cd__law_same "_law_same" = true)
    (k__law_same : PySem.W.keepIn K (.ref a__law_same) = true)
    (a__law_whole' : PySem.W.nsIn K mainGlobals "_law_whole" = some (some (.ref a__law_whole)))
    (l__law_whole : K.lookup a__law_whole = some ⟨oc__law_whole, od__law_whole, .func (PySem.W.fnOf "_law_whole" "_law_whole" (defArgs (top 42)) (defBody (top 42)) (defScope (top 42)) .none kV__law_whole dc__law_whole pm__law_whole an__law_whole cd__law_whole ct__law_whole), sl__law_whole⟩)
    (c__law_whole : PySem.W.codeIn K cd__law_whole "_law_whole" = true)
    (k__law_whole : PySem.W.keepIn K (.ref a__law_whole) = true)
    (a__law_within' : PySem.W.nsIn K mainGlobals "_law_within" = some (some (.ref a__law_within)))
    (l__law_within : K.lookup a__law_within = some ⟨oc__law_within, od__law_within, .func (PySem.W.fnOf "_law_within" "_law_within" (defArgs (top 43)) (defBody (top 43)) (defScope (top 43)) .none kV__law_within dc__law_within pm__law_within an__law_within cd__law_within ct__law_within), sl__law_within⟩)
    (c__law_within : PySem.W.codeIn K cd__law_within "_law_within" = true)
    (k__law_within : PySem.W.keepIn K (.ref a__law_within) = true)
    (a__law_kin' : PySem.W.nsIn K mainGlobals "_law_kin" = some (some (.ref a__law_kin)))
    (l__law_kin : K.lookup a__law_kin = some ⟨oc__law_kin, od__law_kin, .func (PySem.W.fnOf "_law_kin" "_law_kin" (defArgs (top 44)) (defBody (top 44)) (defScope (top 44)) .none kV__law_kin dc__law_kin pm__law_kin an__law_kin cd__law_kin ct__law_kin), sl__law_kin⟩)
    (c__law_kin : PySem.W.codeIn K cd__law_kin "_law_kin" = true)
    (k__law_kin : PySem.W.keepIn K (.ref a__law_kin) = true)
    (a__law_refusal' : PySem.W.nsIn K mainGlobals "_law_refusal" = some (some (.ref a__law_refusal)))
    (l__law_refusal : K.lookup a__law_refusal = some ⟨oc__law_refusal, od__law_refusal, .func (PySem.W.fnOf "_law_refusal" "_law_refusal" (defArgs (top 45)) (defBody (top 45)) (defScope (top 45)) .none kV__law_refusal dc__law_refusal pm__law_refusal an__law_refusal cd__law_refusal ct__law_refusal), sl__law_refusal⟩)
    (c__law_refusal : PySem.W.codeIn K cd__law_refusal "_law_refusal" = true)
    (k__law_refusal : PySem.W.keepIn K (.ref a__law_refusal) = true)
    (a__law_bytes' : PySem.W.nsIn K mainGlobals "_law_bytes" = some (some (.ref a__law_bytes)))
    (l__law_bytes : K.lookup a__law_bytes = some ⟨oc__law_bytes, od__law_bytes, .func (PySem.W.fnOf "_law_bytes" "_law_bytes" (defArgs (top 46)) (defBody (top 46)) (defScope (top 46)) .none kV__law_bytes dc__law_bytes pm__law_bytes an__law_bytes cd__law_bytes ct__law_bytes), sl__law_bytes⟩)
    (c__law_bytes : PySem.W.codeIn K cd__law_bytes "_law_bytes" = true)
    (k__law_bytes : PySem.W.keepIn K (.ref a__law_bytes) = true)
    (a__law_byte_row' : PySem.W.nsIn K mainGlobals "_law_byte_row" = some (some (.ref a__law_byte_row)))
    (l__law_byte_row : K.lookup a__law_byte_row = some ⟨oc__law_byte_row, od__law_byte_row, .func (PySem.W.fnOf "_law_byte_row" "_law_byte_row" (defArgs (top 47)) (defBody (top 47)) (defScope (top 47)) .none kV__law_byte_row dc__law_byte_row pm__law_byte_row an__law_byte_row cd__law_byte_row ct__law_byte_row), sl__law_byte_row⟩)
    (c__law_byte_row : PySem.W.codeIn K cd__law_byte_row "_law_byte_row" = true)
    (k__law_byte_row : PySem.W.keepIn K (.ref a__law_byte_row) = true)
    (a__law_misfit' : PySem.W.nsIn K mainGlobals "_law_misfit" = some (some (.ref a__law_misfit)))
    (l__law_misfit : K.lookup a__law_misfit = some ⟨oc__law_misfit, od__law_misfit, .func (PySem.W.fnOf "_law_misfit" "_law_misfit" (defArgs (top 48)) (defBody (top 48)) (defScope (top 48)) .none kV__law_misfit dc__law_misfit pm__law_misfit an__law_misfit cd__law_misfit ct__law_misfit), sl__law_misfit⟩)
    (c__law_misfit : PySem.W.codeIn K cd__law_misfit "_law_misfit" = true)
    (k__law_misfit : PySem.W.keepIn K (.ref a__law_misfit) = true)
    (a__law_bent_row' : PySem.W.nsIn K mainGlobals "_law_bent_row" = some (some (.ref a__law_bent_row)))
    (l__law_bent_row : K.lookup a__law_bent_row = some ⟨oc__law_bent_row, od__law_bent_row, .func (PySem.W.fnOf "_law_bent_row" "_law_bent_row" (defArgs (top 49)) (defBody (top 49)) (defScope (top 49)) .none kV__law_bent_row dc__law_bent_row pm__law_bent_row an__law_bent_row cd__law_bent_row ct__law_bent_row), sl__law_bent_row⟩)
    (c__law_bent_row : PySem.W.codeIn K cd__law_bent_row "_law_bent_row" = true)
    (k__law_bent_row : PySem.W.keepIn K (.ref a__law_bent_row) = true)
    (a__law_row_due' : PySem.W.nsIn K mainGlobals "_law_row_due" = some (some (.ref a__law_row_due)))
    (l__law_row_due : K.lookup a__law_row_due = some ⟨oc__law_row_due, od__law_row_due, .func (PySem.W.fnOf "_law_row_due" "_law_row_due" (defArgs (top 50)) (defBody (top 50)) (defScope (top 50)) .none kV__law_row_due dc__law_row_due pm__law_row_due an__law_row_due cd__law_row_due ct__law_row_due), sl__law_row_due⟩)
    (c__law_row_due : PySem.W.codeIn K cd__law_row_due "_law_row_due" = true)
    (k__law_row_due : PySem.W.keepIn K (.ref a__law_row_due) = true)
    (a__law_told_check' : PySem.W.nsIn K mainGlobals "_law_told_check" = some (some (.ref a__law_told_check)))
    (l__law_told_check : K.lookup a__law_told_check = some ⟨oc__law_told_check, od__law_told_check, .func (PySem.W.fnOf "_law_told_check" "_law_told_check" (defArgs (top 51)) (defBody (top 51)) (defScope (top 51)) .none kV__law_told_check dc__law_told_check pm__law_told_check an__law_told_check cd__law_told_check ct__law_told_check), sl__law_told_check⟩)
    (c__law_told_check : PySem.W.codeIn K cd__law_told_check "_law_told_check" = true)
    (k__law_told_check : PySem.W.keepIn K (.ref a__law_told_check) = true)
    (a__law_told_plain' : PySem.W.nsIn K mainGlobals "_law_told_plain" = some (some (.ref a__law_told_plain)))
    (l__law_told_plain : K.lookup a__law_told_plain = some ⟨oc__law_told_plain, od__law_told_plain, .func (PySem.W.fnOf "_law_told_plain" "_law_told_plain" (defArgs (top 52)) (defBody (top 52)) (defScope (top 52)) .none kV__law_told_plain dc__law_told_plain pm__law_told_plain an__law_told_plain cd__law_told_plain ct__law_told_plain), sl__law_told_plain⟩)
    (c__law_told_plain : PySem.W.codeIn K cd__law_told_plain "_law_told_plain" = true)
    (k__law_told_plain : PySem.W.keepIn K (.ref a__law_told_plain) = true)
    (a__law_told_xor' : PySem.W.nsIn K mainGlobals "_law_told_xor" = some (some (.ref a__law_told_xor)))
    (l__law_told_xor : K.lookup a__law_told_xor = some ⟨oc__law_told_xor, od__law_told_xor, .func (PySem.W.fnOf "_law_told_xor" "_law_told_xor" (defArgs (top 53)) (defBody (top 53)) (defScope (top 53)) .none kV__law_told_xor dc__law_told_xor pm__law_told_xor an__law_told_xor cd__law_told_xor ct__law_told_xor), sl__law_told_xor⟩)
    (c__law_told_xor : PySem.W.codeIn K cd__law_told_xor "_law_told_xor" = true)
    (k__law_told_xor : PySem.W.keepIn K (.ref a__law_told_xor) = true)
    (a__law_told_join' : PySem.W.nsIn K mainGlobals "_law_told_join" = some (some (.ref a__law_told_join)))
    (l__law_told_join : K.lookup a__law_told_join = some ⟨oc__law_told_join, od__law_told_join, .func (PySem.W.fnOf "_law_told_join" "_law_told_join" (defArgs (top 54)) (defBody (top 54)) (defScope (top 54)) .none kV__law_told_join dc__law_told_join pm__law_told_join an__law_told_join cd__law_told_join ct__law_told_join), sl__law_told_join⟩)
    (c__law_told_join : PySem.W.codeIn K cd__law_told_join "_law_told_join" = true)
    (k__law_told_join : PySem.W.keepIn K (.ref a__law_told_join) = true)
    (a__law_check_due' : PySem.W.nsIn K mainGlobals "_law_check_due" = some (some (.ref a__law_check_due)))
    (l__law_check_due : K.lookup a__law_check_due = some ⟨oc__law_check_due, od__law_check_due, .func (PySem.W.fnOf "_law_check_due" "_law_check_due" (defArgs (top 55)) (defBody (top 55)) (defScope (top 55)) .none kV__law_check_due dc__law_check_due pm__law_check_due an__law_check_due cd__law_check_due ct__law_check_due), sl__law_check_due⟩)
    (c__law_check_due : PySem.W.codeIn K cd__law_check_due "_law_check_due" = true)
    (k__law_check_due : PySem.W.keepIn K (.ref a__law_check_due) = true)
    (a__law_xor_due' : PySem.W.nsIn K mainGlobals "_law_xor_due" = some (some (.ref a__law_xor_due)))
    (l__law_xor_due : K.lookup a__law_xor_due = some ⟨oc__law_xor_due, od__law_xor_due, .func (PySem.W.fnOf "_law_xor_due" "_law_xor_due" (defArgs (top 56)) (defBody (top 56)) (defScope (top 56)) .none kV__law_xor_due dc__law_xor_due pm__law_xor_due an__law_xor_due cd__law_xor_due ct__law_xor_due), sl__law_xor_due⟩)
    (c__law_xor_due : PySem.W.codeIn K cd__law_xor_due "_law_xor_due" = true)
    (k__law_xor_due : PySem.W.keepIn K (.ref a__law_xor_due) = true)
    (a__law_join_due' : PySem.W.nsIn K mainGlobals "_law_join_due" = some (some (.ref a__law_join_due)))
    (l__law_join_due : K.lookup a__law_join_due = some ⟨oc__law_join_due, od__law_join_due, .func (PySem.W.fnOf "_law_join_due" "_law_join_due" (defArgs (top 57)) (defBody (top 57)) (defScope (top 57)) .none kV__law_join_due dc__law_join_due pm__law_join_due an__law_join_due cd__law_join_due ct__law_join_due), sl__law_join_due⟩)
    (c__law_join_due : PySem.W.codeIn K cd__law_join_due "_law_join_due" = true)
    (k__law_join_due : PySem.W.keepIn K (.ref a__law_join_due) = true)
    (a__law_perhaps_bent' : PySem.W.nsIn K mainGlobals "_law_perhaps_bent" = some (some (.ref a__law_perhaps_bent)))
    (l__law_perhaps_bent : K.lookup a__law_perhaps_bent = some ⟨oc__law_perhaps_bent, od__law_perhaps_bent, .func (PySem.W.fnOf "_law_perhaps_bent" "_law_perhaps_bent" (defArgs (top 58)) (defBody (top 58)) (defScope (top 58)) .none kV__law_perhaps_bent dc__law_perhaps_bent pm__law_perhaps_bent an__law_perhaps_bent cd__law_perhaps_bent ct__law_perhaps_bent), sl__law_perhaps_bent⟩)
    (c__law_perhaps_bent : PySem.W.codeIn K cd__law_perhaps_bent "_law_perhaps_bent" = true)
    (k__law_perhaps_bent : PySem.W.keepIn K (.ref a__law_perhaps_bent) = true)
    (a__law_checks' : PySem.W.nsIn K mainGlobals "_law_checks" = some (some (.ref a__law_checks)))
    (l__law_checks : K.lookup a__law_checks = some ⟨oc__law_checks, od__law_checks, .func (PySem.W.fnOf "_law_checks" "_law_checks" (defArgs (top 59)) (defBody (top 59)) (defScope (top 59)) .none kV__law_checks dc__law_checks pm__law_checks an__law_checks cd__law_checks ct__law_checks), sl__law_checks⟩)
    (c__law_checks : PySem.W.codeIn K cd__law_checks "_law_checks" = true)
    (k__law_checks : PySem.W.keepIn K (.ref a__law_checks) = true)
    (a__law_great' : PySem.W.nsIn K mainGlobals "_law_great" = some (some (.ref a__law_great)))
    (l__law_great : K.lookup a__law_great = some ⟨oc__law_great, od__law_great, .func (PySem.W.fnOf "_law_great" "_law_great" (defArgs (top 60)) (defBody (top 60)) (defScope (top 60)) .none kV__law_great dc__law_great pm__law_great an__law_great cd__law_great ct__law_great), sl__law_great⟩)
    (c__law_great : PySem.W.codeIn K cd__law_great "_law_great" = true)
    (k__law_great : PySem.W.keepIn K (.ref a__law_great) = true)
    (a__law_longest' : PySem.W.nsIn K mainGlobals "_law_longest" = some (some (.ref a__law_longest)))
    (l__law_longest : K.lookup a__law_longest = some ⟨oc__law_longest, od__law_longest, .func (PySem.W.fnOf "_law_longest" "_law_longest" (defArgs (top 61)) (defBody (top 61)) (defScope (top 61)) .none kV__law_longest dc__law_longest pm__law_longest an__law_longest cd__law_longest ct__law_longest), sl__law_longest⟩)
    (c__law_longest : PySem.W.codeIn K cd__law_longest "_law_longest" = true)
    (k__law_longest : PySem.W.keepIn K (.ref a__law_longest) = true)
    (a_law' : PySem.W.nsIn K mainGlobals "law" = some (some (.ref a_law)))
    (l_law : K.lookup a_law = some ⟨oc_law, od_law, .func (PySem.W.fnOf "law" "law" (defArgs (top 62)) (defBody (top 62)) (defScope (top 62)) .none kV_law dc_law pm_law an_law cd_law ct_law), sl_law⟩)
    (c_law : PySem.W.codeIn K cd_law "law" = true)
    (k_law : PySem.W.keepIn K (.ref a_law) = true)
    (xL_OutOfRange : K.lookup a_OutOfRange = some (excClassObj nm_OutOfRange q_OutOfRange a_OutOfRange N_OutOfRange bs_OutOfRange [.ref a_NoiseboundError, .type "ValueError", .type "Exception", .type "BaseException", .type "object"] true sn_OutOfRange sub_OutOfRange ab_OutOfRange col_OutOfRange dd_OutOfRange m0_OutOfRange m1_OutOfRange m2_OutOfRange m3_OutOfRange m5_OutOfRange "ValueError.__new__"))
    (sa_OutOfRange : PySem.W.findIn K (.ref a_OutOfRange) "__setattr__" = some (some (.builtin "object.__setattr__")))
    (ga_OutOfRange : PySem.W.findIn K (.ref a_OutOfRange) "__getattribute__" = some (some (.builtin "BaseException.__getattribute__")))
    (gg_OutOfRange : PySem.W.findIn K (.ref a_OutOfRange) "__getattr__" = some none)
    (ex_OutOfRange : PySem.W.subIn K (.ref a_OutOfRange) (.type "BaseException") = some true)
    (ty_OutOfRange : PySem.W.typeIn K (.ref a_OutOfRange) = some (.type "type"))
    (kc_OutOfRange : PySem.W.keepIn K (.ref a_OutOfRange) = true)
    (cl_OutOfRange : PySem.W.findIn K (.ref a_OutOfRange) "__class__" = some (some (.builtin "object.__class__")))
    (hd_OutOfRange : PySem.W.hasDictIn K a_OutOfRange = true)
    (sg_OutOfRange : PySem.W.specialIn K (.builtin "object.__class__") "__get__" = some (some (.builtin "getset_descriptor.__get__")))
    (tk_OutOfRange : PySem.W.takesIn K (.builtin "object.__class__") = some true)
    (ob_OutOfRange : PySem.W.mroIn K a_OutOfRange (.type "object") = some true)
    (g_OutOfRange_name : PySem.W.findIn K (.ref a_OutOfRange) "name" = some none)
    (iC_OutOfRange : PySem.W.findIn K (.ref a_OutOfRange) "__init__" = some (some (.ref fi_OutOfRange)))
    (tI_OutOfRange : PySem.W.typeIn K (.ref fi_OutOfRange) = some (.type "function"))
    (l_IOutOfRange : K.lookup fi_OutOfRange = some ⟨oc_IOutOfRange, od_IOutOfRange, .func (PySem.W.fnOf "__init__" "OutOfRange.__init__" (defArgs (meth (top 2) 0)) (defBody (meth (top 2) 0)) (defScope (meth (top 2) 0)) .none kV_IOutOfRange dc_IOutOfRange pm_IOutOfRange an_IOutOfRange cd_IOutOfRange ct_IOutOfRange), sl_IOutOfRange⟩)
    (c_IOutOfRange : PySem.W.codeIn K cd_IOutOfRange "OutOfRange.__init__" = true)
    (k_IOutOfRange : PySem.W.keepIn K (.ref fi_OutOfRange) = true)
    (s_OutOfRange_ValueError : PySem.W.subIn K (.ref a_OutOfRange) (.type "ValueError") = some true)
    (s_OutOfRange_NoiseboundError : PySem.W.subIn K (.ref a_OutOfRange) (.ref a_NoiseboundError) = some true)
    (s_OutOfRange_OutOfRange : PySem.W.subIn K (.ref a_OutOfRange) (.ref a_OutOfRange) = some true)
    (s_OutOfRange_BadItem : PySem.W.subIn K (.ref a_OutOfRange) (.ref a_BadItem) = some false)
    (s_OutOfRange_BadLength : PySem.W.subIn K (.ref a_OutOfRange) (.ref a_BadLength) = some false)
    (s_OutOfRange_BadText : PySem.W.subIn K (.ref a_OutOfRange) (.ref a_BadText) = some false)
    (s_OutOfRange_BadPadding : PySem.W.subIn K (.ref a_OutOfRange) (.ref a_BadPadding) = some false)
    (s_OutOfRange_WrongPhase : PySem.W.subIn K (.ref a_OutOfRange) (.ref a_WrongPhase) = some false)
    (s_OutOfRange_NotInvertible : PySem.W.subIn K (.ref a_OutOfRange) (.ref a_NotInvertible) = some false)
    (s_OutOfRange_BadRing : PySem.W.subIn K (.ref a_OutOfRange) (.ref a_BadRing) = some false)
    (s_OutOfRange_BadParameters : PySem.W.subIn K (.ref a_OutOfRange) (.ref a_BadParameters) = some false)
    (s_OutOfRange_UnknownName : PySem.W.subIn K (.ref a_OutOfRange) (.ref a_UnknownName) = some false)
    (s_OutOfRange_DifferentRings : PySem.W.subIn K (.ref a_OutOfRange) (.ref a_DifferentRings) = some false)
    (s_OutOfRange_BadKey : PySem.W.subIn K (.ref a_OutOfRange) (.ref a_BadKey) = some false)
    (s_OutOfRange_BadLetter : PySem.W.subIn K (.ref a_OutOfRange) (.ref a_BadLetter) = some false)
    (s_OutOfRange_BadKeyText : PySem.W.subIn K (.ref a_OutOfRange) (.ref a_BadKeyText) = some false)
    (s_OutOfRange_BadRecord : PySem.W.subIn K (.ref a_OutOfRange) (.ref a_BadRecord) = some false)
    (s_OutOfRange_BadCommand : PySem.W.subIn K (.ref a_OutOfRange) (.ref a_BadCommand) = some false)
    (s_OutOfRange_NoEntry : PySem.W.subIn K (.ref a_OutOfRange) (.ref a_NoEntry) = some false)
    (s_OutOfRange_NothingLeft : PySem.W.subIn K (.ref a_OutOfRange) (.ref a_NothingLeft) = some false)
    (xL_BadItem : K.lookup a_BadItem = some (excClassObj nm_BadItem q_BadItem a_BadItem N_BadItem bs_BadItem [.ref a_NoiseboundError, .type "ValueError", .type "Exception", .type "BaseException", .type "object"] true sn_BadItem sub_BadItem ab_BadItem col_BadItem dd_BadItem m0_BadItem m1_BadItem m2_BadItem m3_BadItem m5_BadItem "ValueError.__new__"))
    (sa_BadItem : PySem.W.findIn K (.ref a_BadItem) "__setattr__" = some (some (.builtin "object.__setattr__")))
    (ga_BadItem : PySem.W.findIn K (.ref a_BadItem) "__getattribute__" = some (some (.builtin "BaseException.__getattribute__")))
    (gg_BadItem : PySem.W.findIn K (.ref a_BadItem) "__getattr__" = some none)
    (ex_BadItem : PySem.W.subIn K (.ref a_BadItem) (.type "BaseException") = some true)
    (ty_BadItem : PySem.W.typeIn K (.ref a_BadItem) = some (.type "type"))
    (kc_BadItem : PySem.W.keepIn K (.ref a_BadItem) = true)
    (cl_BadItem : PySem.W.findIn K (.ref a_BadItem) "__class__" = some (some (.builtin "object.__class__")))
    (hd_BadItem : PySem.W.hasDictIn K a_BadItem = true)
    (sg_BadItem : PySem.W.specialIn K (.builtin "object.__class__") "__get__" = some (some (.builtin "getset_descriptor.__get__")))
    (tk_BadItem : PySem.W.takesIn K (.builtin "object.__class__") = some true)
    (ob_BadItem : PySem.W.mroIn K a_BadItem (.type "object") = some true)
    (g_BadItem_index : PySem.W.findIn K (.ref a_BadItem) "index" = some none)
    (iC_BadItem : PySem.W.findIn K (.ref a_BadItem) "__init__" = some (some (.ref fi_BadItem)))
    (tI_BadItem : PySem.W.typeIn K (.ref fi_BadItem) = some (.type "function"))
    (l_IBadItem : K.lookup fi_BadItem = some ⟨oc_IBadItem, od_IBadItem, .func (PySem.W.fnOf "__init__" "BadItem.__init__" (defArgs (meth (top 3) 0)) (defBody (meth (top 3) 0)) (defScope (meth (top 3) 0)) .none kV_IBadItem dc_IBadItem pm_IBadItem an_IBadItem cd_IBadItem ct_IBadItem), sl_IBadItem⟩)
    (c_IBadItem : PySem.W.codeIn K cd_IBadItem "BadItem.__init__" = true)
    (k_IBadItem : PySem.W.keepIn K (.ref fi_BadItem) = true)
    (s_BadItem_ValueError : PySem.W.subIn K (.ref a_BadItem) (.type "ValueError") = some true)
    (s_BadItem_NoiseboundError : PySem.W.subIn K (.ref a_BadItem) (.ref a_NoiseboundError) = some true)
    (s_BadItem_OutOfRange : PySem.W.subIn K (.ref a_BadItem) (.ref a_OutOfRange) = some false)
    (s_BadItem_BadItem : PySem.W.subIn K (.ref a_BadItem) (.ref a_BadItem) = some true)
    (s_BadItem_BadLength : PySem.W.subIn K (.ref a_BadItem) (.ref a_BadLength) = some false)
    (s_BadItem_BadText : PySem.W.subIn K (.ref a_BadItem) (.ref a_BadText) = some false)
    (s_BadItem_BadPadding : PySem.W.subIn K (.ref a_BadItem) (.ref a_BadPadding) = some false)
    (s_BadItem_WrongPhase : PySem.W.subIn K (.ref a_BadItem) (.ref a_WrongPhase) = some false)
    (s_BadItem_NotInvertible : PySem.W.subIn K (.ref a_BadItem) (.ref a_NotInvertible) = some false)
    (s_BadItem_BadRing : PySem.W.subIn K (.ref a_BadItem) (.ref a_BadRing) = some false)
    (s_BadItem_BadParameters : PySem.W.subIn K (.ref a_BadItem) (.ref a_BadParameters) = some false)
    (s_BadItem_UnknownName : PySem.W.subIn K (.ref a_BadItem) (.ref a_UnknownName) = some false)
    (s_BadItem_DifferentRings : PySem.W.subIn K (.ref a_BadItem) (.ref a_DifferentRings) = some false)
    (s_BadItem_BadKey : PySem.W.subIn K (.ref a_BadItem) (.ref a_BadKey) = some false)
    (s_BadItem_BadLetter : PySem.W.subIn K (.ref a_BadItem) (.ref a_BadLetter) = some false)
    (s_BadItem_BadKeyText : PySem.W.subIn K (.ref a_BadItem) (.ref a_BadKeyText) = some false)
    (s_BadItem_BadRecord : PySem.W.subIn K (.ref a_BadItem) (.ref a_BadRecord) = some false)
    (s_BadItem_BadCommand : PySem.W.subIn K (.ref a_BadItem) (.ref a_BadCommand) = some false)
    (s_BadItem_NoEntry : PySem.W.subIn K (.ref a_BadItem) (.ref a_NoEntry) = some false)
    (s_BadItem_NothingLeft : PySem.W.subIn K (.ref a_BadItem) (.ref a_NothingLeft) = some false)
    (xL_BadLength : K.lookup a_BadLength = some (excClassObj nm_BadLength q_BadLength a_BadLength N_BadLength bs_BadLength [.ref a_NoiseboundError, .type "ValueError", .type "Exception", .type "BaseException", .type "object"] true sn_BadLength sub_BadLength ab_BadLength col_BadLength dd_BadLength m0_BadLength m1_BadLength m2_BadLength m3_BadLength m5_BadLength "ValueError.__new__"))
    (sa_BadLength : PySem.W.findIn K (.ref a_BadLength) "__setattr__" = some (some (.builtin "object.__setattr__")))
    (ga_BadLength : PySem.W.findIn K (.ref a_BadLength) "__getattribute__" = some (some (.builtin "BaseException.__getattribute__")))
    (gg_BadLength : PySem.W.findIn K (.ref a_BadLength) "__getattr__" = some none)
    (ex_BadLength : PySem.W.subIn K (.ref a_BadLength) (.type "BaseException") = some true)
    (ty_BadLength : PySem.W.typeIn K (.ref a_BadLength) = some (.type "type"))
    (kc_BadLength : PySem.W.keepIn K (.ref a_BadLength) = true)
    (cl_BadLength : PySem.W.findIn K (.ref a_BadLength) "__class__" = some (some (.builtin "object.__class__")))
    (hd_BadLength : PySem.W.hasDictIn K a_BadLength = true)
    (sg_BadLength : PySem.W.specialIn K (.builtin "object.__class__") "__get__" = some (some (.builtin "getset_descriptor.__get__")))
    (tk_BadLength : PySem.W.takesIn K (.builtin "object.__class__") = some true)
    (ob_BadLength : PySem.W.mroIn K a_BadLength (.type "object") = some true)
    (g_BadLength_expected : PySem.W.findIn K (.ref a_BadLength) "expected" = some none)
    (g_BadLength_found : PySem.W.findIn K (.ref a_BadLength) "found" = some none)
    (iC_BadLength : PySem.W.findIn K (.ref a_BadLength) "__init__" = some (some (.ref fi_BadLength)))
    (tI_BadLength : PySem.W.typeIn K (.ref fi_BadLength) = some (.type "function"))
    (l_IBadLength : K.lookup fi_BadLength = some ⟨oc_IBadLength, od_IBadLength, .func (PySem.W.fnOf "__init__" "BadLength.__init__" (defArgs (meth (top 4) 0)) (defBody (meth (top 4) 0)) (defScope (meth (top 4) 0)) .none kV_IBadLength dc_IBadLength pm_IBadLength an_IBadLength cd_IBadLength ct_IBadLength), sl_IBadLength⟩)
    (c_IBadLength : PySem.W.codeIn K cd_IBadLength "BadLength.__init__" = true)
    (k_IBadLength : PySem.W.keepIn K (.ref fi_BadLength) = true)
    (s_BadLength_ValueError : PySem.W.subIn K (.ref a_BadLength) (.type "ValueError") = some true)
    (s_BadLength_NoiseboundError : PySem.W.subIn K (.ref a_BadLength) (.ref a_NoiseboundError) = some true)
    (s_BadLength_OutOfRange : PySem.W.subIn K (.ref a_BadLength) (.ref a_OutOfRange) = some false)
    (s_BadLength_BadItem : PySem.W.subIn K (.ref a_BadLength) (.ref a_BadItem) = some false)
    (s_BadLength_BadLength : PySem.W.subIn K (.ref a_BadLength) (.ref a_BadLength) = some true)
    (s_BadLength_BadText : PySem.W.subIn K (.ref a_BadLength) (.ref a_BadText) = some false)
    (s_BadLength_BadPadding : PySem.W.subIn K (.ref a_BadLength) (.ref a_BadPadding) = some false)
    (s_BadLength_WrongPhase : PySem.W.subIn K (.ref a_BadLength) (.ref a_WrongPhase) = some false)
    (s_BadLength_NotInvertible : PySem.W.subIn K (.ref a_BadLength) (.ref a_NotInvertible) = some false)
    (s_BadLength_BadRing : PySem.W.subIn K (.ref a_BadLength) (.ref a_BadRing) = some false)
    (s_BadLength_BadParameters : PySem.W.subIn K (.ref a_BadLength) (.ref a_BadParameters) = some false)
    (s_BadLength_UnknownName : PySem.W.subIn K (.ref a_BadLength) (.ref a_UnknownName) = some false)
    (s_BadLength_DifferentRings : PySem.W.subIn K (.ref a_BadLength) (.ref a_DifferentRings) = some false)
    (s_BadLength_BadKey : PySem.W.subIn K (.ref a_BadLength) (.ref a_BadKey) = some false)
    (s_BadLength_BadLetter : PySem.W.subIn K (.ref a_BadLength) (.ref a_BadLetter) = some false)
    (s_BadLength_BadKeyText : PySem.W.subIn K (.ref a_BadLength) (.ref a_BadKeyText) = some false)
    (s_BadLength_BadRecord : PySem.W.subIn K (.ref a_BadLength) (.ref a_BadRecord) = some false)
    (s_BadLength_BadCommand : PySem.W.subIn K (.ref a_BadLength) (.ref a_BadCommand) = some false)
    (s_BadLength_NoEntry : PySem.W.subIn K (.ref a_BadLength) (.ref a_NoEntry) = some false)
    (s_BadLength_NothingLeft : PySem.W.subIn K (.ref a_BadLength) (.ref a_NothingLeft) = some false) :
    ∃ fd : FuncData, (∀ (s : Shared) (v : Value), BindsTo s fd ⟨[v], []⟩ [("script", v)]) ∧ ∀ base : Heap, K.In base → base.Ns mainGlobals mg → FnOk P w K mg base (L2N.CX P w) 9 fa fd ["script"] (spD K 1 fLaw) := by
  have e := hfa.symm.trans (PySem.W.mg_of X G a_law')
  obtain e : a_law = fa := by cases e; rfl
  subst e
  have F_is_number := fun_mk (st := (top 21)) l_is_number c_is_number k_is_number
  have b_is_number := F_is_number.binds (ps := ["value"]) fun _ _ _ _ _ _ us hl => match us, hl with | [_], _ => rfl
  have F_is_between := fun_mk (st := (top 22)) l_is_between c_is_between k_is_between
  have b_is_between := F_is_between.binds (ps := ["value", "low", "high"]) fun _ _ _ _ _ _ us hl => match us, hl with | [_, _, _], _ => rfl
  have F_check_between := fun_mk (st := (top 23)) l_check_between c_check_between k_check_between
  have b_check_between := F_check_between.binds (ps := ["name", "value", "low", "high"]) fun _ _ _ _ _ _ us hl => match us, hl with | [_, _, _, _], _ => rfl
  have F_check_length := fun_mk (st := (top 24)) l_check_length c_check_length k_check_length
  have b_check_length := F_check_length.binds (ps := ["items", "expected"]) fun _ _ _ _ _ _ us hl => match us, hl with | [_, _], _ => rfl
  have F_check_items := fun_mk (st := (top 25)) l_check_items c_check_items k_check_items
  have b_check_items := F_check_items.binds (ps := ["items", "low", "high"]) fun _ _ _ _ _ _ us hl => match us, hl with | [_, _, _], _ => rfl
  have F_check_bytes := fun_mk (st := (top 28)) l_check_bytes c_check_bytes k_check_bytes
  have bd_check_bytes := bd_kw (st := (top 28)) (kws := [("length", .non)]) (ps := ["data", "length"]) 1 l_check_bytes c_check_bytes k_check_bytes (fun q hq => by simp only [List.mem_cons, List.not_mem_nil, or_false] at hq; rcases hq with rfl <;> exact ⟨_, by assumption, by first | rfl | exact ⟨_, rfl⟩⟩) (by simp) rfl fun _ _ _ _ _ _ us ks h1 h2 => match us, ks, h1, h2 with | [_], [_], _, _ => ⟨_, _, _, _, _, _, rfl, rfl, rfl⟩
  have F_concatenate := fun_mk (st := (top 29)) l_concatenate c_concatenate k_concatenate
  have F_xor_bytes := fun_mk (st := (top 30)) l_xor_bytes c_xor_bytes k_xor_bytes
  have b_xor_bytes := F_xor_bytes.binds (ps := ["first", "second"]) fun _ _ _ _ _ _ us hl => match us, hl with | [_, _], _ => rfl
  have F__law_begin := fun_mk (st := (top 32)) l__law_begin c__law_begin k__law_begin
  have b__law_begin := F__law_begin.binds (ps := ["script"]) fun _ _ _ _ _ _ us hl => match us, hl with | [_], _ => rfl
  have F__law_mixed := fun_mk (st := (top 33)) l__law_mixed c__law_mixed k__law_mixed
  have b__law_mixed := F__law_mixed.binds (ps := ["seed", "turn"]) fun _ _ _ _ _ _ us hl => match us, hl with | [_, _], _ => rfl
  have F__law_take := fun_mk (st := (top 34)) l__law_take c__law_take k__law_take
  have b__law_take := F__law_take.binds (ps := ["store", "many"]) fun _ _ _ _ _ _ us hl => match us, hl with | [_, _], _ => rfl
  have F__law_wide := fun_mk (st := (top 35)) l__law_wide c__law_wide k__law_wide
  have b__law_wide := F__law_wide.binds (ps := ["store", "many"]) fun _ _ _ _ _ _ us hl => match us, hl with | [_, _], _ => rfl
  have F__law_pick := fun_mk (st := (top 36)) l__law_pick c__law_pick k__law_pick
  have b__law_pick := F__law_pick.binds (ps := ["store", "row"]) fun _ _ _ _ _ _ us hl => match us, hl with | [_, _], _ => rfl
  have F__law_between := fun_mk (st := (top 37)) l__law_between c__law_between k__law_between
  have b__law_between := F__law_between.binds (ps := ["store", "low", "high"]) fun _ _ _ _ _ _ us hl => match us, hl with | [_, _, _], _ => rfl
  have F__law_count := fun_mk (st := (top 38)) l__law_count c__law_count k__law_count
  have b__law_count := F__law_count.binds (ps := ["store", "most"]) fun _ _ _ _ _ _ us hl => match us, hl with | [_, _], _ => rfl
  have F__law_other := fun_mk (st := (top 39)) l__law_other c__law_other k__law_other
  have b__law_other := F__law_other.binds (ps := ["store"]) fun _ _ _ _ _ _ us hl => match us, hl with | [_], _ => rfl
  have F__law_beyond := fun_mk (st := (top 40)) l__law_beyond c__law_beyond k__law_beyond
  have b__law_beyond := F__law_beyond.binds (ps := ["store", "low", "high"]) fun _ _ _ _ _ _ us hl => match us, hl with | [_, _, _], _ => rfl
  have F__law_same := fun_mk (st := (top 41)) l__law_same c__law_same k__law_same
  have b__law_same := F__law_same.binds (ps := ["actual", "expected"]) fun _ _ _ _ _ _ us hl => match us, hl with | [_, _], _ => rfl
  have F__law_whole := fun_mk (st := (top 42)) l__law_whole c__law_whole k__law_whole
  have b__law_whole := F__law_whole.binds (ps := ["actual"]) fun _ _ _ _ _ _ us hl => match us, hl with | [_], _ => rfl
  have F__law_within := fun_mk (st := (top 43)) l__law_within c__law_within k__law_within
  have b__law_within := F__law_within.binds (ps := ["actual", "low", "high"]) fun _ _ _ _ _ _ us hl => match us, hl with | [_, _, _], _ => rfl
  have F__law_kin := fun_mk (st := (top 44)) l__law_kin c__law_kin k__law_kin
  have b__law_kin := F__law_kin.binds (ps := ["error"]) fun _ _ _ _ _ _ us hl => match us, hl with | [_], _ => rfl
  have F__law_refusal := fun_mk (st := (top 45)) l__law_refusal c__law_refusal k__law_refusal
  have b__law_refusal := F__law_refusal.binds (ps := ["error"]) fun _ _ _ _ _ _ us hl => match us, hl with | [_], _ => rfl
  have F__law_bytes := fun_mk (st := (top 46)) l__law_bytes c__law_bytes k__law_bytes
  have b__law_bytes := F__law_bytes.binds (ps := ["store", "count"]) fun _ _ _ _ _ _ us hl => match us, hl with | [_, _], _ => rfl
  have F__law_byte_row := fun_mk (st := (top 47)) l__law_byte_row c__law_byte_row k__law_byte_row
  have b__law_byte_row := F__law_byte_row.binds (ps := ["store", "most"]) fun _ _ _ _ _ _ us hl => match us, hl with | [_, _], _ => rfl
  have F__law_misfit := fun_mk (st := (top 48)) l__law_misfit c__law_misfit k__law_misfit
  have b__law_misfit := F__law_misfit.binds (ps := ["store", "row"]) fun _ _ _ _ _ _ us hl => match us, hl with | [_, _], _ => rfl
  have F__law_bent_row := fun_mk (st := (top 49)) l__law_bent_row c__law_bent_row k__law_bent_row
  have b__law_bent_row := F__law_bent_row.binds (ps := ["store", "row", "low", "high"]) fun _ _ _ _ _ _ us hl => match us, hl with | [_, _, _, _], _ => rfl
  have F__law_row_due := fun_mk (st := (top 50)) l__law_row_due c__law_row_due k__law_row_due
  have b__law_row_due := F__law_row_due.binds (ps := ["row", "count", "low", "high"]) fun _ _ _ _ _ _ us hl => match us, hl with | [_, _, _, _], _ => rfl
  have F__law_told_check := fun_mk (st := (top 51)) l__law_told_check c__law_told_check k__law_told_check
  have b__law_told_check := F__law_told_check.binds (ps := ["row", "wanted"]) fun _ _ _ _ _ _ us hl => match us, hl with | [_, _], _ => rfl
  have F__law_told_plain := fun_mk (st := (top 52)) l__law_told_plain c__law_told_plain k__law_told_plain
  have b__law_told_plain := F__law_told_plain.binds (ps := ["row"]) fun _ _ _ _ _ _ us hl => match us, hl with | [_], _ => rfl
  have F__law_told_xor := fun_mk (st := (top 53)) l__law_told_xor c__law_told_xor k__law_told_xor
  have b__law_told_xor := F__law_told_xor.binds (ps := ["first", "second"]) fun _ _ _ _ _ _ us hl => match us, hl with | [_, _], _ => rfl
  have F__law_told_join := fun_mk (st := (top 54)) l__law_told_join c__law_told_join k__law_told_join
  have b__law_told_join := F__law_told_join.binds (ps := ["rows"]) fun _ _ _ _ _ _ us hl => match us, hl with | [_], _ => rfl
  have F__law_check_due := fun_mk (st := (top 55)) l__law_check_due c__law_check_due k__law_check_due
  have b__law_check_due := F__law_check_due.binds (ps := ["row", "wanted"]) fun _ _ _ _ _ _ us hl => match us, hl with | [_, _], _ => rfl
  have F__law_xor_due := fun_mk (st := (top 56)) l__law_xor_due c__law_xor_due k__law_xor_due
  have b__law_xor_due := F__law_xor_due.binds (ps := ["first", "second"]) fun _ _ _ _ _ _ us hl => match us, hl with | [_, _], _ => rfl
  have F__law_join_due := fun_mk (st := (top 57)) l__law_join_due c__law_join_due k__law_join_due
  have b__law_join_due := F__law_join_due.binds (ps := ["rows"]) fun _ _ _ _ _ _ us hl => match us, hl with | [_], _ => rfl
  have F__law_perhaps_bent := fun_mk (st := (top 58)) l__law_perhaps_bent c__law_perhaps_bent k__law_perhaps_bent
  have b__law_perhaps_bent := F__law_perhaps_bent.binds (ps := ["store", "row"]) fun _ _ _ _ _ _ us hl => match us, hl with | [_, _], _ => rfl
  have F__law_checks := fun_mk (st := (top 59)) l__law_checks c__law_checks k__law_checks
  have b__law_checks := F__law_checks.binds (ps := ["row", "wanted"]) fun _ _ _ _ _ _ us hl => match us, hl with | [_, _], _ => rfl
  have F__law_great := fun_mk (st := (top 60)) l__law_great c__law_great k__law_great
  have b__law_great := F__law_great.binds (ps := ["store"]) fun _ _ _ _ _ _ us hl => match us, hl with | [_], _ => rfl
  have F__law_longest := fun_mk (st := (top 61)) l__law_longest c__law_longest k__law_longest
  have b__law_longest := F__law_longest.binds (ps := []) fun _ _ _ _ _ _ us hl => match us, hl with | [], _ => rfl
  have F_law := fun_mk (st := (top 62)) l_law c_law k_law
  have b_law := F_law.binds (ps := ["script"]) fun _ _ _ _ _ _ us hl => match us, hl with | [_], _ => rfl
  have F_IOutOfRange := fun_mk (st := (meth (top 2) 0)) l_IOutOfRange c_IOutOfRange k_IOutOfRange
  have b_IOutOfRange := F_IOutOfRange.binds (ps := ["self", "name"]) fun _ _ _ _ _ _ us hl => match us, hl with | [_, _], _ => rfl
  have O_OutOfRange : OexC K a_OutOfRange := ⟨⟨nm_OutOfRange, q_OutOfRange, N_OutOfRange, bs_OutOfRange, _, sn_OutOfRange, sub_OutOfRange, ab_OutOfRange, col_OutOfRange, dd_OutOfRange, m0_OutOfRange, m1_OutOfRange, m2_OutOfRange, m3_OutOfRange, m5_OutOfRange, xL_OutOfRange, rfl⟩, sa_OutOfRange, ex_OutOfRange, ty_OutOfRange, kc_OutOfRange⟩
  have F_IBadItem := fun_mk (st := (meth (top 3) 0)) l_IBadItem c_IBadItem k_IBadItem
  have b_IBadItem := F_IBadItem.binds (ps := ["self", "index"]) fun _ _ _ _ _ _ us hl => match us, hl with | [_, _], _ => rfl
  have O_BadItem : OexC K a_BadItem := ⟨⟨nm_BadItem, q_BadItem, N_BadItem, bs_BadItem, _, sn_BadItem, sub_BadItem, ab_BadItem, col_BadItem, dd_BadItem, m0_BadItem, m1_BadItem, m2_BadItem, m3_BadItem, m5_BadItem, xL_BadItem, rfl⟩, sa_BadItem, ex_BadItem, ty_BadItem, kc_BadItem⟩
  have F_IBadLength := fun_mk (st := (meth (top 4) 0)) l_IBadLength c_IBadLength k_IBadLength
  have b_IBadLength := F_IBadLength.binds (ps := ["self", "expected", "found"]) fun _ _ _ _ _ _ us hl => match us, hl with | [_, _, _], _ => rfl
  have O_BadLength : OexC K a_BadLength := ⟨⟨nm_BadLength, q_BadLength, N_BadLength, bs_BadLength, _, sn_BadLength, sub_BadLength, ab_BadLength, col_BadLength, dd_BadLength, m0_BadLength, m1_BadLength, m2_BadLength, m3_BadLength, m5_BadLength, xL_BadLength, rfl⟩, sa_BadLength, ex_BadLength, ty_BadLength, kc_BadLength⟩
  refine ⟨PySem.W.fnOf "law" "law" (defArgs (top 62)) (defBody (top 62)) (defScope (top 62)) .none kV_law dc_law pm_law an_law cd_law ct_law, fun s v => .of_eq rfl, fun base _ _ => ok_law {
    n_ValueError := PySem.W.mg_none_of X G z_ValueError,
    n_enumerate := PySem.W.mg_none_of X G z_enumerate,
    n_max := PySem.W.mg_none_of X G z_max,
    n_range := PySem.W.mg_none_of X G z_range,
    n_isinstance := PySem.W.mg_none_of X G z_isinstance,
    n_int := PySem.W.mg_none_of X G z_int,
    n_str := PySem.W.mg_none_of X G z_str,
    n_list := PySem.W.mg_none_of X G z_list,
    n_len := PySem.W.mg_none_of X G z_len,
    n_min := PySem.W.mg_none_of X G z_min,
    n_tuple := PySem.W.mg_none_of X G z_tuple,
    n_bool := PySem.W.mg_none_of X G z_bool,
    n_zip := PySem.W.mg_none_of X G z_zip,
    t_LONGEST := t_LONGEST,
    m_LONGEST := PySem.W.mg_of X G ac_LONGEST,
    a_NoiseboundError := a_NoiseboundError,
    m_NoiseboundError := PySem.W.mg_of X G x_NoiseboundError,
    a_OutOfRange := a_OutOfRange,
    m_OutOfRange := PySem.W.mg_of X G x_OutOfRange,
    a_BadItem := a_BadItem,
    m_BadItem := PySem.W.mg_of X G x_BadItem,
    a_BadLength := a_BadLength,
    m_BadLength := PySem.W.mg_of X G x_BadLength,
    a_BadText := a_BadText,
    m_BadText := PySem.W.mg_of X G x_BadText,
    a_BadPadding := a_BadPadding,
    m_BadPadding := PySem.W.mg_of X G x_BadPadding,
    a_WrongPhase := a_WrongPhase,
    m_WrongPhase := PySem.W.mg_of X G x_WrongPhase,
    a_NotInvertible := a_NotInvertible,
    m_NotInvertible := PySem.W.mg_of X G x_NotInvertible,
    a_BadRing := a_BadRing,
    m_BadRing := PySem.W.mg_of X G x_BadRing,
    a_BadParameters := a_BadParameters,
    m_BadParameters := PySem.W.mg_of X G x_BadParameters,
    a_UnknownName := a_UnknownName,
    m_UnknownName := PySem.W.mg_of X G x_UnknownName,
    a_DifferentRings := a_DifferentRings,
    m_DifferentRings := PySem.W.mg_of X G x_DifferentRings,
    a_BadKey := a_BadKey,
    m_BadKey := PySem.W.mg_of X G x_BadKey,
    a_BadLetter := a_BadLetter,
    m_BadLetter := PySem.W.mg_of X G x_BadLetter,
    a_BadKeyText := a_BadKeyText,
    m_BadKeyText := PySem.W.mg_of X G x_BadKeyText,
    a_BadRecord := a_BadRecord,
    m_BadRecord := PySem.W.mg_of X G x_BadRecord,
    a_BadCommand := a_BadCommand,
    m_BadCommand := PySem.W.mg_of X G x_BadCommand,
    a_NoEntry := a_NoEntry,
    m_NoEntry := PySem.W.mg_of X G x_NoEntry,
    a_NothingLeft := a_NothingLeft,
    m_NothingLeft := PySem.W.mg_of X G x_NothingLeft,
    a_is_number := a_is_number,
    fd_is_number := _,
    F_is_number := F_is_number,
    m_is_number := PySem.W.mg_of X G a_is_number',
    k_is_number := k_is_number,
    b_is_number := b_is_number,
    a_is_between := a_is_between,
    fd_is_between := _,
    F_is_between := F_is_between,
    m_is_between := PySem.W.mg_of X G a_is_between',
    k_is_between := k_is_between,
    b_is_between := b_is_between,
    a_check_between := a_check_between,
    fd_check_between := _,
    F_check_between := F_check_between,
    m_check_between := PySem.W.mg_of X G a_check_between',
    k_check_between := k_check_between,
    b_check_between := b_check_between,
    a_check_length := a_check_length,
    fd_check_length := _,
    F_check_length := F_check_length,
    m_check_length := PySem.W.mg_of X G a_check_length',
    k_check_length := k_check_length,
    b_check_length := b_check_length,
    a_check_items := a_check_items,
    fd_check_items := _,
    F_check_items := F_check_items,
    m_check_items := PySem.W.mg_of X G a_check_items',
    k_check_items := k_check_items,
    b_check_items := b_check_items,
    a_check_bytes := a_check_bytes,
    fd_check_bytes := _,
    F_check_bytes := F_check_bytes,
    m_check_bytes := PySem.W.mg_of X G a_check_bytes',
    k_check_bytes := k_check_bytes,
    bd_check_bytes := bd_check_bytes,
    a_concatenate := a_concatenate,
    fd_concatenate := _,
    F_concatenate := F_concatenate,
    m_concatenate := PySem.W.mg_of X G a_concatenate',
    k_concatenate := k_concatenate,
    a_xor_bytes := a_xor_bytes,
    fd_xor_bytes := _,
    F_xor_bytes := F_xor_bytes,
    m_xor_bytes := PySem.W.mg_of X G a_xor_bytes',
    k_xor_bytes := k_xor_bytes,
    b_xor_bytes := b_xor_bytes,
    a__law_begin := a__law_begin,
    fd__law_begin := _,
    F__law_begin := F__law_begin,
    m__law_begin := PySem.W.mg_of X G a__law_begin',
    k__law_begin := k__law_begin,
    b__law_begin := b__law_begin,
    a__law_mixed := a__law_mixed,
    fd__law_mixed := _,
    F__law_mixed := F__law_mixed,
    m__law_mixed := PySem.W.mg_of X G a__law_mixed',
    k__law_mixed := k__law_mixed,
    b__law_mixed := b__law_mixed,
    a__law_take := a__law_take,
    fd__law_take := _,
    F__law_take := F__law_take,
    m__law_take := PySem.W.mg_of X G a__law_take',
    k__law_take := k__law_take,
    b__law_take := b__law_take,
    a__law_wide := a__law_wide,
    fd__law_wide := _,
    F__law_wide := F__law_wide,
    m__law_wide := PySem.W.mg_of X G a__law_wide',
    k__law_wide := k__law_wide,
    b__law_wide := b__law_wide,
    a__law_pick := a__law_pick,
    fd__law_pick := _,
    F__law_pick := F__law_pick,
    m__law_pick := PySem.W.mg_of X G a__law_pick',
    k__law_pick := k__law_pick,
    b__law_pick := b__law_pick,
    a__law_between := a__law_between,
    fd__law_between := _,
    F__law_between := F__law_between,
    m__law_between := PySem.W.mg_of X G a__law_between',
    k__law_between := k__law_between,
    b__law_between := b__law_between,
    a__law_count := a__law_count,
    fd__law_count := _,
    F__law_count := F__law_count,
    m__law_count := PySem.W.mg_of X G a__law_count',
    k__law_count := k__law_count,
    b__law_count := b__law_count,
    a__law_other := a__law_other,
    fd__law_other := _,
    F__law_other := F__law_other,
    m__law_other := PySem.W.mg_of X G a__law_other',
    k__law_other := k__law_other,
    b__law_other := b__law_other,
    a__law_beyond := a__law_beyond,
    fd__law_beyond := _,
    F__law_beyond := F__law_beyond,
    m__law_beyond := PySem.W.mg_of X G a__law_beyond',
    k__law_beyond := k__law_beyond,
    b__law_beyond := b__law_beyond,
    a__law_same := a__law_same,
    fd__law_same := _,
    F__law_same := F__law_same,
    m__law_same := PySem.W.mg_of X G a__law_same',
    k__law_same := k__law_same,
    b__law_same := b__law_same,
    a__law_whole := a__law_whole,
    fd__law_whole := _,
    F__law_whole := F__law_whole,
    m__law_whole := PySem.W.mg_of X G a__law_whole',
    k__law_whole := k__law_whole,
    b__law_whole := b__law_whole,
    a__law_within := a__law_within,
    fd__law_within := _,
    F__law_within := F__law_within,
    m__law_within := PySem.W.mg_of X G a__law_within',
    k__law_within := k__law_within,
    b__law_within := b__law_within,
    a__law_kin := a__law_kin,
    fd__law_kin := _,
    F__law_kin := F__law_kin,
    m__law_kin := PySem.W.mg_of X G a__law_kin',
    k__law_kin := k__law_kin,
    b__law_kin := b__law_kin,
    a__law_refusal := a__law_refusal,
    fd__law_refusal := _,
    F__law_refusal := F__law_refusal,
    m__law_refusal := PySem.W.mg_of X G a__law_refusal',
    k__law_refusal := k__law_refusal,
    b__law_refusal := b__law_refusal,
    a__law_bytes := a__law_bytes,
    fd__law_bytes := _,
    F__law_bytes := F__law_bytes,
    m__law_bytes := PySem.W.mg_of X G a__law_bytes',
    k__law_bytes := k__law_bytes,
    b__law_bytes := b__law_bytes,
    a__law_byte_row := a__law_byte_row,
    fd__law_byte_row := _,
    F__law_byte_row := F__law_byte_row,
    m__law_byte_row := PySem.W.mg_of X G a__law_byte_row',
    k__law_byte_row := k__law_byte_row,
    b__law_byte_row := b__law_byte_row,
    a__law_misfit := a__law_misfit,
    fd__law_misfit := _,
    F__law_misfit := F__law_misfit,
    m__law_misfit := PySem.W.mg_of X G a__law_misfit',
    k__law_misfit := k__law_misfit,
    b__law_misfit := b__law_misfit,
    a__law_bent_row := a__law_bent_row,
    fd__law_bent_row := _,
    F__law_bent_row := F__law_bent_row,
    m__law_bent_row := PySem.W.mg_of X G a__law_bent_row',
    k__law_bent_row := k__law_bent_row,
    b__law_bent_row := b__law_bent_row,
    a__law_row_due := a__law_row_due,
    fd__law_row_due := _,
    F__law_row_due := F__law_row_due,
    m__law_row_due := PySem.W.mg_of X G a__law_row_due',
    k__law_row_due := k__law_row_due,
    b__law_row_due := b__law_row_due,
    a__law_told_check := a__law_told_check,
    fd__law_told_check := _,
    F__law_told_check := F__law_told_check,
    m__law_told_check := PySem.W.mg_of X G a__law_told_check',
    k__law_told_check := k__law_told_check,
    b__law_told_check := b__law_told_check,
    a__law_told_plain := a__law_told_plain,
    fd__law_told_plain := _,
    F__law_told_plain := F__law_told_plain,
    m__law_told_plain := PySem.W.mg_of X G a__law_told_plain',
    k__law_told_plain := k__law_told_plain,
    b__law_told_plain := b__law_told_plain,
    a__law_told_xor := a__law_told_xor,
    fd__law_told_xor := _,
    F__law_told_xor := F__law_told_xor,
    m__law_told_xor := PySem.W.mg_of X G a__law_told_xor',
    k__law_told_xor := k__law_told_xor,
    b__law_told_xor := b__law_told_xor,
    a__law_told_join := a__law_told_join,
    fd__law_told_join := _,
    F__law_told_join := F__law_told_join,
    m__law_told_join := PySem.W.mg_of X G a__law_told_join',
    k__law_told_join := k__law_told_join,
    b__law_told_join := b__law_told_join,
    a__law_check_due := a__law_check_due,
    fd__law_check_due := _,
    F__law_check_due := F__law_check_due,
    m__law_check_due := PySem.W.mg_of X G a__law_check_due',
    k__law_check_due := k__law_check_due,
    b__law_check_due := b__law_check_due,
    a__law_xor_due := a__law_xor_due,
    fd__law_xor_due := _,
    F__law_xor_due := F__law_xor_due,
    m__law_xor_due := PySem.W.mg_of X G a__law_xor_due',
    k__law_xor_due := k__law_xor_due,
    b__law_xor_due := b__law_xor_due,
    a__law_join_due := a__law_join_due,
    fd__law_join_due := _,
    F__law_join_due := F__law_join_due,
    m__law_join_due := PySem.W.mg_of X G a__law_join_due',
    k__law_join_due := k__law_join_due,
    b__law_join_due := b__law_join_due,
    a__law_perhaps_bent := a__law_perhaps_bent,
    fd__law_perhaps_bent := _,
    F__law_perhaps_bent := F__law_perhaps_bent,
    m__law_perhaps_bent := PySem.W.mg_of X G a__law_perhaps_bent',
    k__law_perhaps_bent := k__law_perhaps_bent,
    b__law_perhaps_bent := b__law_perhaps_bent,
    a__law_checks := a__law_checks,
    fd__law_checks := _,
    F__law_checks := F__law_checks,
    m__law_checks := PySem.W.mg_of X G a__law_checks',
    k__law_checks := k__law_checks,
    b__law_checks := b__law_checks,
    a__law_great := a__law_great,
    fd__law_great := _,
    F__law_great := F__law_great,
    m__law_great := PySem.W.mg_of X G a__law_great',
    k__law_great := k__law_great,
    b__law_great := b__law_great,
    a__law_longest := a__law_longest,
    fd__law_longest := _,
    F__law_longest := F__law_longest,
    m__law_longest := PySem.W.mg_of X G a__law_longest',
    k__law_longest := k__law_longest,
    b__law_longest := b__law_longest,
    a_law := a_law,
    fd_law := _,
    F_law := F_law,
    m_law := PySem.W.mg_of X G a_law',
    k_law := k_law,
    b_law := b_law,
    fi_OutOfRange := fi_OutOfRange,
    fdi_OutOfRange := _,
    e_OutOfRange := ⟨O_OutOfRange, iC_OutOfRange, tI_OutOfRange, PySem.W.mg_of X G x_OutOfRange⟩,
    in_OutOfRange := ⟨O_OutOfRange, fun g hg => by simp only [List.mem_cons, List.not_mem_nil, or_false] at hg; rcases hg with rfl <;> assumption⟩,
    ii_OutOfRange := F_IOutOfRange,
    bi_OutOfRange := b_IOutOfRange,
    x_OutOfRange := ⟨ga_OutOfRange, gg_OutOfRange, ex_OutOfRange, hd_OutOfRange, cl_OutOfRange, sg_OutOfRange, tk_OutOfRange, ob_OutOfRange⟩,
    f_OutOfRange := ⟨ga_OutOfRange, gg_OutOfRange, ex_OutOfRange, hd_OutOfRange⟩,
    exm_OutOfRange := exm_ref exN s_OutOfRange_NoiseboundError ic_NoiseboundError tyc_NoiseboundError,
    q_OutOfRange_ValueError := kit_ve s_OutOfRange_ValueError,
    g_OutOfRange_name := g_OutOfRange_name,
    q_OutOfRange_NoiseboundError := kit_ref s_OutOfRange_OutOfRange s_OutOfRange_NoiseboundError ic_NoiseboundError tyc_NoiseboundError,
    q_OutOfRange_OutOfRange := kit_ref s_OutOfRange_OutOfRange s_OutOfRange_OutOfRange ic_OutOfRange tyc_OutOfRange,
    q_OutOfRange_BadItem := kit_ref s_OutOfRange_OutOfRange s_OutOfRange_BadItem ic_BadItem tyc_BadItem,
    q_OutOfRange_BadLength := kit_ref s_OutOfRange_OutOfRange s_OutOfRange_BadLength ic_BadLength tyc_BadLength,
    q_OutOfRange_BadText := kit_ref s_OutOfRange_OutOfRange s_OutOfRange_BadText ic_BadText tyc_BadText,
    q_OutOfRange_BadPadding := kit_ref s_OutOfRange_OutOfRange s_OutOfRange_BadPadding ic_BadPadding tyc_BadPadding,
    q_OutOfRange_WrongPhase := kit_ref s_OutOfRange_OutOfRange s_OutOfRange_WrongPhase ic_WrongPhase tyc_WrongPhase,
    q_OutOfRange_NotInvertible := kit_ref s_OutOfRange_OutOfRange s_OutOfRange_NotInvertible ic_NotInvertible tyc_NotInvertible,
    q_OutOfRange_BadRing := kit_ref s_OutOfRange_OutOfRange s_OutOfRange_BadRing ic_BadRing tyc_BadRing,
    q_OutOfRange_BadParameters := kit_ref s_OutOfRange_OutOfRange s_OutOfRange_BadParameters ic_BadParameters tyc_BadParameters,
    q_OutOfRange_UnknownName := kit_ref s_OutOfRange_OutOfRange s_OutOfRange_UnknownName ic_UnknownName tyc_UnknownName,
    q_OutOfRange_DifferentRings := kit_ref s_OutOfRange_OutOfRange s_OutOfRange_DifferentRings ic_DifferentRings tyc_DifferentRings,
    q_OutOfRange_BadKey := kit_ref s_OutOfRange_OutOfRange s_OutOfRange_BadKey ic_BadKey tyc_BadKey,
    q_OutOfRange_BadLetter := kit_ref s_OutOfRange_OutOfRange s_OutOfRange_BadLetter ic_BadLetter tyc_BadLetter,
    q_OutOfRange_BadKeyText := kit_ref s_OutOfRange_OutOfRange s_OutOfRange_BadKeyText ic_BadKeyText tyc_BadKeyText,
    q_OutOfRange_BadRecord := kit_ref s_OutOfRange_OutOfRange s_OutOfRange_BadRecord ic_BadRecord tyc_BadRecord,
    q_OutOfRange_BadCommand := kit_ref s_OutOfRange_OutOfRange s_OutOfRange_BadCommand ic_BadCommand tyc_BadCommand,
    q_OutOfRange_NoEntry := kit_ref s_OutOfRange_OutOfRange s_OutOfRange_NoEntry ic_NoEntry tyc_NoEntry,
    q_OutOfRange_NothingLeft := kit_ref s_OutOfRange_OutOfRange s_OutOfRange_NothingLeft ic_NothingLeft tyc_NothingLeft,
    fi_BadItem := fi_BadItem,
    fdi_BadItem := _,
    e_BadItem := ⟨O_BadItem, iC_BadItem, tI_BadItem, PySem.W.mg_of X G x_BadItem⟩,
    in_BadItem := ⟨O_BadItem, fun g hg => by simp only [List.mem_cons, List.not_mem_nil, or_false] at hg; rcases hg with rfl <;> assumption⟩,
    ii_BadItem := F_IBadItem,
    bi_BadItem := b_IBadItem,
    x_BadItem := ⟨ga_BadItem, gg_BadItem, ex_BadItem, hd_BadItem, cl_BadItem, sg_BadItem, tk_BadItem, ob_BadItem⟩,
    f_BadItem := ⟨ga_BadItem, gg_BadItem, ex_BadItem, hd_BadItem⟩,
    exm_BadItem := exm_ref exN s_BadItem_NoiseboundError ic_NoiseboundError tyc_NoiseboundError,
    q_BadItem_ValueError := kit_ve s_BadItem_ValueError,
    g_BadItem_index := g_BadItem_index,
    q_BadItem_NoiseboundError := kit_ref s_BadItem_BadItem s_BadItem_NoiseboundError ic_NoiseboundError tyc_NoiseboundError,
    q_BadItem_OutOfRange := kit_ref s_BadItem_BadItem s_BadItem_OutOfRange ic_OutOfRange tyc_OutOfRange,
    q_BadItem_BadItem := kit_ref s_BadItem_BadItem s_BadItem_BadItem ic_BadItem tyc_BadItem,
    q_BadItem_BadLength := kit_ref s_BadItem_BadItem s_BadItem_BadLength ic_BadLength tyc_BadLength,
    q_BadItem_BadText := kit_ref s_BadItem_BadItem s_BadItem_BadText ic_BadText tyc_BadText,
    q_BadItem_BadPadding := kit_ref s_BadItem_BadItem s_BadItem_BadPadding ic_BadPadding tyc_BadPadding,
    q_BadItem_WrongPhase := kit_ref s_BadItem_BadItem s_BadItem_WrongPhase ic_WrongPhase tyc_WrongPhase,
    q_BadItem_NotInvertible := kit_ref s_BadItem_BadItem s_BadItem_NotInvertible ic_NotInvertible tyc_NotInvertible,
    q_BadItem_BadRing := kit_ref s_BadItem_BadItem s_BadItem_BadRing ic_BadRing tyc_BadRing,
    q_BadItem_BadParameters := kit_ref s_BadItem_BadItem s_BadItem_BadParameters ic_BadParameters tyc_BadParameters,
    q_BadItem_UnknownName := kit_ref s_BadItem_BadItem s_BadItem_UnknownName ic_UnknownName tyc_UnknownName,
    q_BadItem_DifferentRings := kit_ref s_BadItem_BadItem s_BadItem_DifferentRings ic_DifferentRings tyc_DifferentRings,
    q_BadItem_BadKey := kit_ref s_BadItem_BadItem s_BadItem_BadKey ic_BadKey tyc_BadKey,
    q_BadItem_BadLetter := kit_ref s_BadItem_BadItem s_BadItem_BadLetter ic_BadLetter tyc_BadLetter,
    q_BadItem_BadKeyText := kit_ref s_BadItem_BadItem s_BadItem_BadKeyText ic_BadKeyText tyc_BadKeyText,
    q_BadItem_BadRecord := kit_ref s_BadItem_BadItem s_BadItem_BadRecord ic_BadRecord tyc_BadRecord,
    q_BadItem_BadCommand := kit_ref s_BadItem_BadItem s_BadItem_BadCommand ic_BadCommand tyc_BadCommand,
    q_BadItem_NoEntry := kit_ref s_BadItem_BadItem s_BadItem_NoEntry ic_NoEntry tyc_NoEntry,
    q_BadItem_NothingLeft := kit_ref s_BadItem_BadItem s_BadItem_NothingLeft ic_NothingLeft tyc_NothingLeft,
    fi_BadLength := fi_BadLength,
    fdi_BadLength := _,
    e_BadLength := ⟨O_BadLength, iC_BadLength, tI_BadLength, PySem.W.mg_of X G x_BadLength⟩,
    in_BadLength := ⟨O_BadLength, fun g hg => by simp only [List.mem_cons, List.not_mem_nil, or_false] at hg; rcases hg with rfl | rfl <;> assumption⟩,
    ii_BadLength := F_IBadLength,
    bi_BadLength := b_IBadLength,
    x_BadLength := ⟨ga_BadLength, gg_BadLength, ex_BadLength, hd_BadLength, cl_BadLength, sg_BadLength, tk_BadLength, ob_BadLength⟩,
    f_BadLength := ⟨ga_BadLength, gg_BadLength, ex_BadLength, hd_BadLength⟩,
    exm_BadLength := exm_ref exN s_BadLength_NoiseboundError ic_NoiseboundError tyc_NoiseboundError,
    q_BadLength_ValueError := kit_ve s_BadLength_ValueError,
    g_BadLength_expected := g_BadLength_expected,
    g_BadLength_found := g_BadLength_found,
    q_BadLength_NoiseboundError := kit_ref s_BadLength_BadLength s_BadLength_NoiseboundError ic_NoiseboundError tyc_NoiseboundError,
    q_BadLength_OutOfRange := kit_ref s_BadLength_BadLength s_BadLength_OutOfRange ic_OutOfRange tyc_OutOfRange,
    q_BadLength_BadItem := kit_ref s_BadLength_BadLength s_BadLength_BadItem ic_BadItem tyc_BadItem,
    q_BadLength_BadLength := kit_ref s_BadLength_BadLength s_BadLength_BadLength ic_BadLength tyc_BadLength,
    q_BadLength_BadText := kit_ref s_BadLength_BadLength s_BadLength_BadText ic_BadText tyc_BadText,
    q_BadLength_BadPadding := kit_ref s_BadLength_BadLength s_BadLength_BadPadding ic_BadPadding tyc_BadPadding,
    q_BadLength_WrongPhase := kit_ref s_BadLength_BadLength s_BadLength_WrongPhase ic_WrongPhase tyc_WrongPhase,
    q_BadLength_NotInvertible := kit_ref s_BadLength_BadLength s_BadLength_NotInvertible ic_NotInvertible tyc_NotInvertible,
    q_BadLength_BadRing := kit_ref s_BadLength_BadLength s_BadLength_BadRing ic_BadRing tyc_BadRing,
    q_BadLength_BadParameters := kit_ref s_BadLength_BadLength s_BadLength_BadParameters ic_BadParameters tyc_BadParameters,
    q_BadLength_UnknownName := kit_ref s_BadLength_BadLength s_BadLength_UnknownName ic_UnknownName tyc_UnknownName,
    q_BadLength_DifferentRings := kit_ref s_BadLength_BadLength s_BadLength_DifferentRings ic_DifferentRings tyc_DifferentRings,
    q_BadLength_BadKey := kit_ref s_BadLength_BadLength s_BadLength_BadKey ic_BadKey tyc_BadKey,
    q_BadLength_BadLetter := kit_ref s_BadLength_BadLength s_BadLength_BadLetter ic_BadLetter tyc_BadLetter,
    q_BadLength_BadKeyText := kit_ref s_BadLength_BadLength s_BadLength_BadKeyText ic_BadKeyText tyc_BadKeyText,
    q_BadLength_BadRecord := kit_ref s_BadLength_BadLength s_BadLength_BadRecord ic_BadRecord tyc_BadRecord,
    q_BadLength_BadCommand := kit_ref s_BadLength_BadLength s_BadLength_BadCommand ic_BadCommand tyc_BadCommand,
    q_BadLength_NoEntry := kit_ref s_BadLength_BadLength s_BadLength_NoEntry ic_NoEntry tyc_NoEntry,
    q_BadLength_NothingLeft := kit_ref s_BadLength_BadLength s_BadLength_NothingLeft ic_NothingLeft tyc_NothingLeft,
    kn_check_bytes := kbn_of F_check_bytes fun _ _ _ _ _ _ us ws h1 h2 => match us, ws, h1, h2 with | [_], [_], _, _ => rfl,
    kx_check_bytes_data := kwx_of (st := (top 28)) gEnd_ok 0 [("length", .non)] l_check_bytes (fun q hq => by simp only [List.mem_cons, List.not_mem_nil, or_false] at hq; rcases hq with rfl <;> exact ⟨_, by assumption, by first | rfl | exact ⟨_, rfl⟩⟩) fun _ _ _ _ _ _ us mv ws h1 h2 h3 => match us, mv, ws, h1, h2, h3 with | [], [_], [_], _, _, _ => ⟨_, _, _, _, _, _, rfl, rfl, rfl⟩ }⟩
end Pf
set_option Elab.async false
set_option linter.all false
open PySem PySem.W PyProof.Rows in
set_option maxRecDepth 100000 in
set_option maxHeartbeats 0 in
theorem PySem.Challenge.cw_noisebound_k04_checks_in_order_holds : PySem.Challenge.rw_noisebound_k04_checks_in_order.Holds := by
  w_on; o_law; k_head; (case hw => w_witness2)
  k_fill
  refine L2.walk_of (l := PySem.Challenge.rw_noisebound_k04_checks_in_order) (n := 63) (k := 9) (x := "script") (CX := fun w => L2N.CX (PySem.Challenge.rw_noisebound_k04_checks_in_order).prog w) (sp := fun w => DK.spD _ 1 Pf.fLaw) rfl (by decide) rfl ⟨rfl, by decide, by decide⟩ (fun w h Y => PySem.W.kIn_of Y) ?F
    (fun w H a ns hl _ hS => ⟨[], [], [.rl (ns.map fun z => .v (.int z))], fun d _ => d = .v (.bl true), fun _ _ => False, ⟨.nil, rfl, fun k p c h => by cases h⟩, .cons (.rl (hS.imp (fun z => ⟨z, List.not_mem_nil⟩) id) DK.Dens.ints) .nil, rfl, ⟨ns, rfl, hl, rfl, fun _ => rfl⟩, fun d μ' e v w' _ _ _ dn => by subst e; exact dn.v_inv, fun x μ' e => e.elim⟩)
    fun w H s e s' z => ?E
  case E =>
    obtain ⟨_, _, _, _, _, _, _, _, _, _, _, _, z⟩ := z
    exact z.elim
  case F =>
    intro w mg fa h KX G hmg
    refine' Pf.all_mk KX G hmg ?z_ValueError ?z_enumerate ?z_max ?z_range ?z_isinstance ?z_int ?z_str ?z_list ?z_len ?z_min ?z_tuple ?z_bool ?z_zip ?ac_LONGEST ?x_NoiseboundError ?x_OutOfRange ?x_BadItem ?x_BadLength ?x_BadText ?x_BadPadding ?x_WrongPhase ?x_NotInvertible ?x_BadRing ?x_BadParameters ?x_UnknownName ?x_DifferentRings ?x_BadKey ?x_BadLetter ?x_BadKeyText ?x_BadRecord ?x_BadCommand ?x_NoEntry ?x_NothingLeft ?exN ?ic_NoiseboundError ?tyc_NoiseboundError ?ic_OutOfRange ?tyc_OutOfRange ?ic_BadItem ?tyc_BadItem ?ic_BadLength ?tyc_BadLength ?ic_BadText ?tyc_BadText ?ic_BadPadding ?tyc_BadPadding ?ic_WrongPhase ?tyc_WrongPhase ?ic_NotInvertible ?tyc_NotInvertible ?ic_BadRing ?tyc_BadRing ?ic_BadParameters ?tyc_BadParameters ?ic_UnknownName ?tyc_UnknownName ?ic_DifferentRings ?tyc_DifferentRings ?ic_BadKey ?tyc_BadKey ?ic_BadLetter ?tyc_BadLetter ?ic_BadKeyText ?tyc_BadKeyText ?ic_BadRecord ?tyc_BadRecord ?ic_BadCommand ?tyc_BadCommand ?ic_NoEntry ?tyc_NoEntry ?ic_NothingLeft ?tyc_NothingLeft ?a_is_number' ?l_is_number ?c_is_number ?k_is_number ?a_is_between' ?l_is_between ?c_is_between ?k_is_between ?a_check_between' ?l_check_between ?c_check_between ?k_check_between ?a_check_length' ?l_check_length ?c_check_length ?k_check_length ?a_check_items' ?l_check_items ?c_check_items ?k_check_items ?a_check_bytes' ?l_check_bytes ?c_check_bytes ?k_check_bytes ?kw0_check_bytes ?a_concatenate' ?l_concatenate ?c_concatenate ?k_concatenate ?a_xor_bytes' ?l_xor_bytes ?c_xor_bytes ?k_xor_bytes ?a__law_begin' ?l__law_begin ?c__law_begin ?k__law_begin ?a__law_mixed' ?l__law_mixed ?c__law_mixed ?k__law_mixed ?a__law_take' ?l__law_take ?c__law_take ?k__law_take ?a__law_wide' ?l__law_wide ?c__law_wide ?k__law_wide ?a__law_pick' ?l__law_pick ?c__law_pick ?k__law_pick ?a__law_between' ?l__law_between ?c__law_between ?k__law_between ?a__law_count' ?l__law_count ?c__law_count ?k__law_count ?a__law_other' ?l__law_other ?c__law_other ?k__law_other ?a__law_beyond' ?l__law_beyond ?c__law_beyond ?k__law_beyond ?a__law_same' ?l__law_same ?c__law_same ?k__law_same ?a__law_whole' ?l__law_whole ?c__law_whole ?k__law_whole ?a__law_within' ?l__law_within ?c__law_within ?k__law_within ?a__law_kin' ?l__law_kin ?c__law_kin ?k__law_kin ?a__law_refusal' ?l__law_refusal ?c__law_refusal ?k__law_refusal ?a__law_bytes' ?l__law_bytes ?c__law_bytes ?k__law_bytes ?a__law_byte_row' ?l__law_byte_row ?c__law_byte_row ?k__law_byte_row ?a__law_misfit' ?l__law_misfit ?c__law_misfit ?k__law_misfit ?a__law_bent_row' ?l__law_bent_row ?c__law_bent_row ?k__law_bent_row ?a__law_row_due' ?l__law_row_due ?c__law_row_due ?k__law_row_due ?a__law_told_check' ?l__law_told_check ?c__law_told_check ?k__law_told_check ?a__law_told_plain' ?l__law_told_plain ?c__law_told_plain ?k__law_told_plain ?a__law_told_xor' ?l__law_told_xor ?c__law_told_xor ?k__law_told_xor ?a__law_told_join' ?l__law_told_join ?c__law_told_join ?k__law_told_join ?a__law_check_due' ?l__law_check_due ?c__law_check_due ?k__law_check_due ?a__law_xor_due' ?l__law_xor_due ?c__law_xor_due ?k__law_xor_due ?a__law_join_due' ?l__law_join_due ?c__law_join_due ?k__law_join_due ?a__law_perhaps_bent' ?l__law_perhaps_bent ?c__law_perhaps_bent ?k__law_perhaps_bent ?a__law_checks' ?l__law_checks ?c__law_checks ?k__law_checks ?a__law_great' ?l__law_great ?c__law_great ?k__law_great ?a__law_longest' ?l__law_longest ?c__law_longest ?k__law_longest ?a_law' ?l_law ?c_law ?k_law ?xL_OutOfRange ?sa_OutOfRange ?ga_OutOfRange ?gg_OutOfRange ?ex_OutOfRange ?ty_OutOfRange ?kc_OutOfRange ?cl_OutOfRange ?hd_OutOfRange ?sg_OutOfRange ?tk_OutOfRange ?ob_OutOfRange ?g_OutOfRange_name ?iC_OutOfRange ?tI_OutOfRange ?l_IOutOfRange ?c_IOutOfRange ?k_IOutOfRange ?s_OutOfRange_ValueError ?s_OutOfRange_NoiseboundError ?s_OutOfRange_OutOfRange ?s_OutOfRange_BadItem ?s_OutOfRange_BadLength ?s_OutOfRange_BadText ?s_OutOfRange_BadPadding ?s_OutOfRange_WrongPhase ?s_OutOfRange_NotInvertible ?s_OutOfRange_BadRing ?s_OutOfRange_BadParameters ?s_OutOfRange_UnknownName ?s_OutOfRange_DifferentRings ?s_OutOfRange_BadKey ?s_OutOfRange_BadLetter ?s_OutOfRange_BadKeyText ?s_OutOfRange_BadRecord ?s_OutOfRange_BadCommand ?s_OutOfRange_NoEntry ?s_OutOfRange_NothingLeft ?xL_BadItem ?sa_BadItem ?ga_BadItem ?gg_BadItem ?ex_BadItem ?ty_BadItem ?kc_BadItem ?cl_BadItem ?hd_BadItem ?sg_BadItem ?tk_BadItem ?ob_BadItem ?g_BadItem_index ?iC_BadItem ?tI_BadItem ?l_IBadItem ?c_IBadItem ?k_IBadItem ?s_BadItem_ValueError ?s_BadItem_NoiseboundError ?s_BadItem_OutOfRange ?s_BadItem_BadItem ?s_BadItem_BadLength ?s_BadItem_BadText ?s_BadItem_BadPadding ?s_BadItem_WrongPhase ?s_BadItem_NotInvertible ?s_BadItem_BadRing ?s_BadItem_BadParameters ?s_BadItem_UnknownName ?s_BadItem_DifferentRings ?s_BadItem_BadKey ?s_BadItem_BadLetter ?s_BadItem_BadKeyText ?s_BadItem_BadRecord ?s_BadItem_BadCommand ?s_BadItem_NoEntry ?s_BadItem_NothingLeft ?xL_BadLength ?sa_BadLength ?ga_BadLength ?gg_BadLength ?ex_BadLength ?ty_BadLength ?kc_BadLength ?cl_BadLength ?hd_BadLength ?sg_BadLength ?tk_BadLength ?ob_BadLength ?g_BadLength_expected ?g_BadLength_found ?iC_BadLength ?tI_BadLength ?l_IBadLength ?c_IBadLength ?k_IBadLength ?s_BadLength_ValueError ?s_BadLength_NoiseboundError ?s_BadLength_OutOfRange ?s_BadLength_BadItem ?s_BadLength_BadLength ?s_BadLength_BadText ?s_BadLength_BadPadding ?s_BadLength_WrongPhase ?s_BadLength_NotInvertible ?s_BadLength_BadRing ?s_BadLength_BadParameters ?s_BadLength_UnknownName ?s_BadLength_DifferentRings ?s_BadLength_BadKey ?s_BadLength_BadLetter ?s_BadLength_BadKeyText ?s_BadLength_BadRecord ?s_BadLength_BadCommand ?s_BadLength_NoEntry ?s_BadLength_NothingLeft
    (case z_ValueError => k_is)
    (case z_enumerate => k_is)
    (case z_max => k_is)
    (case z_range => k_is)
    (case z_isinstance => k_is)
    (case z_int => k_is)
    (case z_str => k_is)
    (case z_list => k_is)
    (case z_len => k_is)
    (case z_min => k_is)
    (case z_tuple => k_is)
    (case z_bool => k_is)
    (case z_zip => k_is)
    (case ac_LONGEST => k_is)
    (case x_NoiseboundError => k_is)
    (case x_OutOfRange => k_is)
    (case x_BadItem => k_is)
    (case x_BadLength => k_is)
    (case x_BadText => k_is)
    (case x_BadPadding => k_is)
    (case x_WrongPhase => k_is)
    (case x_NotInvertible => k_is)
    (case x_BadRing => k_is)
    (case x_BadParameters => k_is)
    (case x_UnknownName => k_is)
    (case x_DifferentRings => k_is)
    (case x_BadKey => k_is)
    (case x_BadLetter => k_is)
    (case x_BadKeyText => k_is)
    (case x_BadRecord => k_is)
    (case x_BadCommand => k_is)
    (case x_NoEntry => k_is)
    (case x_NothingLeft => k_is)
    (case exN => k_is)
    (case ic_NoiseboundError => k_is)
    (case tyc_NoiseboundError => k_is)
    (case ic_OutOfRange => k_is)
    (case tyc_OutOfRange => k_is)
    (case ic_BadItem => k_is)
    (case tyc_BadItem => k_is)
    (case ic_BadLength => k_is)
    (case tyc_BadLength => k_is)
    (case ic_BadText => k_is)
    (case tyc_BadText => k_is)
    (case ic_BadPadding => k_is)
    (case tyc_BadPadding => k_is)
    (case ic_WrongPhase => k_is)
    (case tyc_WrongPhase => k_is)
    (case ic_NotInvertible => k_is)
    (case tyc_NotInvertible => k_is)
    (case ic_BadRing => k_is)
    (case tyc_BadRing => k_is)
    (case ic_BadParameters => k_is)
    (case tyc_BadParameters => k_is)
    (case ic_UnknownName => k_is)
    (case tyc_UnknownName => k_is)
    (case ic_DifferentRings => k_is)
    (case tyc_DifferentRings => k_is)
    (case ic_BadKey => k_is)
    (case tyc_BadKey => k_is)
    (case ic_BadLetter => k_is)
    (case tyc_BadLetter => k_is)
    (case ic_BadKeyText => k_is)
    (case tyc_BadKeyText => k_is)
    (case ic_BadRecord => k_is)
    (case tyc_BadRecord => k_is)
    (case ic_BadCommand => k_is)
    (case tyc_BadCommand => k_is)
    (case ic_NoEntry => k_is)
    (case tyc_NoEntry => k_is)
    (case ic_NothingLeft => k_is)
    (case tyc_NothingLeft => k_is)
    (case a_is_number' => k_is)
    (case l_is_number => k_is)
    (case c_is_number => k_is)
    (case k_is_number => k_is)
    (case a_is_between' => k_is)
    (case l_is_between => k_is)
    (case c_is_between => k_is)
    (case k_is_between => k_is)
    (case a_check_between' => k_is)
    (case l_check_between => k_is)
    (case c_check_between => k_is)
    (case k_check_between => k_is)
    (case a_check_length' => k_is)
    (case l_check_length => k_is)
    (case c_check_length => k_is)
    (case k_check_length => k_is)
    (case a_check_items' => k_is)
    (case l_check_items => k_is)
    (case c_check_items => k_is)
    (case k_check_items => k_is)
    (case a_check_bytes' => k_is)
    (case l_check_bytes => k_is)
    (case c_check_bytes => k_is)
    (case k_check_bytes => k_is)
    (case kw0_check_bytes => k_is)
    (case a_concatenate' => k_is)
    (case l_concatenate => k_is)
    (case c_concatenate => k_is)
    (case k_concatenate => k_is)
    (case a_xor_bytes' => k_is)
    (case l_xor_bytes => k_is)
    (case c_xor_bytes => k_is)
    (case k_xor_bytes => k_is)
    (case a__law_begin' => k_is)
    (case l__law_begin => k_is)
    (case c__law_begin => k_is)
    (case k__law_begin => k_is)
    (case a__law_mixed' => k_is)
    (case l__law_mixed => k_is)
    (case c__law_mixed => k_is)
    (case k__law_mixed => k_is)
    (case a__law_take' => k_is)
    (case l__law_take => k_is)
    (case c__law_take => k_is)
    (case k__law_take => k_is)
    (case a__law_wide' => k_is)
    (case l__law_wide => k_is)
    (case c__law_wide => k_is)
    (case k__law_wide => k_is)
    (case a__law_pick' => k_is)
    (case l__law_pick => k_is)
    (case c__law_pick => k_is)
    (case k__law_pick => k_is)
    (case a__law_between' => k_is)
    (case l__law_between => k_is)
    (case c__law_between => k_is)
    (case k__law_between => k_is)
    (case a__law_count' => k_is)
    (case l__law_count => k_is)
    (case c__law_count => k_is)
    (case k__law_count => k_is)
    (case a__law_other' => k_is)
    (case l__law_other => k_is)
    (case c__law_other => k_is)
    (case k__law_other => k_is)
    (case a__law_beyond' => k_is)
    (case l__law_beyond => k_is)
    (case c__law_beyond => k_is)
    (case k__law_beyond => k_is)
    (case a__law_same' => k_is)
    (case l__law_same => k_is)
    (case c__law_same => k_is)
    (case k__law_same => k_is)
    (case a__law_whole' => k_is)
    (case l__law_whole => k_is)
    (case c__law_whole => k_is)
    (case k__law_whole => k_is)
    (case a__law_within' => k_is)
    (case l__law_within => k_is)
    (case c__law_within => k_is)
    (case k__law_within => k_is)
    (case a__law_kin' => k_is)
    (case l__law_kin => k_is)
    (case c__law_kin => k_is)
    (case k__law_kin => k_is)
    (case a__law_refusal' => k_is)
    (case l__law_refusal => k_is)
    (case c__law_refusal => k_is)
    (case k__law_refusal => k_is)
    (case a__law_bytes' => k_is)
    (case l__law_bytes => k_is)
    (case c__law_bytes => k_is)
    (case k__law_bytes => k_is)
    (case a__law_byte_row' => k_is)
    (case l__law_byte_row => k_is)
    (case c__law_byte_row => k_is)
    (case k__law_byte_row => k_is)
    (case a__law_misfit' => k_is)
    (case l__law_misfit => k_is)
    (case c__law_misfit => k_is)
    (case k__law_misfit => k_is)
    (case a__law_bent_row' => k_is)
    (case l__law_bent_row => k_is)
    (case c__law_bent_row => k_is)
    (case k__law_bent_row => k_is)
    (case a__law_row_due' => k_is)
    (case l__law_row_due => k_is)
    (case c__law_row_due => k_is)
    (case k__law_row_due => k_is)
    (case a__law_told_check' => k_is)
    (case l__law_told_check => k_is)
    (case c__law_told_check => k_is)
    (case k__law_told_check => k_is)
    (case a__law_told_plain' => k_is)
    (case l__law_told_plain => k_is)
    (case c__law_told_plain => k_is)
    (case k__law_told_plain => k_is)
    (case a__law_told_xor' => k_is)
    (case l__law_told_xor => k_is)
    (case c__law_told_xor => k_is)
    (case k__law_told_xor => k_is)
    (case a__law_told_join' => k_is)
    (case l__law_told_join => k_is)
    (case c__law_told_join => k_is)
    (case k__law_told_join => k_is)
    (case a__law_check_due' => k_is)
    (case l__law_check_due => k_is)
    (case c__law_check_due => k_is)
    (case k__law_check_due => k_is)
    (case a__law_xor_due' => k_is)
    (case l__law_xor_due => k_is)
    (case c__law_xor_due => k_is)
    (case k__law_xor_due => k_is)
    (case a__law_join_due' => k_is)
    (case l__law_join_due => k_is)
    (case c__law_join_due => k_is)
    (case k__law_join_due => k_is)
    (case a__law_perhaps_bent' => k_is)
    (case l__law_perhaps_bent => k_is)
    (case c__law_perhaps_bent => k_is)
    (case k__law_perhaps_bent => k_is)
    (case a__law_checks' => k_is)
    (case l__law_checks => k_is)
    (case c__law_checks => k_is)
    (case k__law_checks => k_is)
    (case a__law_great' => k_is)
    (case l__law_great => k_is)
    (case c__law_great => k_is)
    (case k__law_great => k_is)
    (case a__law_longest' => k_is)
    (case l__law_longest => k_is)
    (case c__law_longest => k_is)
    (case k__law_longest => k_is)
    (case a_law' => k_is)
    (case l_law => k_is)
    (case c_law => k_is)
    (case k_law => k_is)
    (case xL_OutOfRange => k_is)
    (case sa_OutOfRange => k_is)
    (case ga_OutOfRange => k_is)
    (case gg_OutOfRange => k_is)
    (case ex_OutOfRange => k_is)
    (case ty_OutOfRange => k_is)
    (case kc_OutOfRange => k_is)
    (case cl_OutOfRange => k_is)
    (case hd_OutOfRange => k_is)
    (case sg_OutOfRange => k_is)
    (case tk_OutOfRange => k_is)
    (case ob_OutOfRange => k_is)
    (case g_OutOfRange_name => k_is)
    (case iC_OutOfRange => k_is)
    (case tI_OutOfRange => k_is)
    (case l_IOutOfRange => k_is)
    (case c_IOutOfRange => k_is)
    (case k_IOutOfRange => k_is)
    (case s_OutOfRange_ValueError => k_is)
    (case s_OutOfRange_NoiseboundError => k_is)
    (case s_OutOfRange_OutOfRange => k_is)
    (case s_OutOfRange_BadItem => k_is)
    (case s_OutOfRange_BadLength => k_is)
    (case s_OutOfRange_BadText => k_is)
    (case s_OutOfRange_BadPadding => k_is)
    (case s_OutOfRange_WrongPhase => k_is)
    (case s_OutOfRange_NotInvertible => k_is)
    (case s_OutOfRange_BadRing => k_is)
    (case s_OutOfRange_BadParameters => k_is)
    (case s_OutOfRange_UnknownName => k_is)
    (case s_OutOfRange_DifferentRings => k_is)
    (case s_OutOfRange_BadKey => k_is)
    (case s_OutOfRange_BadLetter => k_is)
    (case s_OutOfRange_BadKeyText => k_is)
    (case s_OutOfRange_BadRecord => k_is)
    (case s_OutOfRange_BadCommand => k_is)
    (case s_OutOfRange_NoEntry => k_is)
    (case s_OutOfRange_NothingLeft => k_is)
    (case xL_BadItem => k_is)
    (case sa_BadItem => k_is)
    (case ga_BadItem => k_is)
    (case gg_BadItem => k_is)
    (case ex_BadItem => k_is)
    (case ty_BadItem => k_is)
    (case kc_BadItem => k_is)
    (case cl_BadItem => k_is)
    (case hd_BadItem => k_is)
    (case sg_BadItem => k_is)
    (case tk_BadItem => k_is)
    (case ob_BadItem => k_is)
    (case g_BadItem_index => k_is)
    (case iC_BadItem => k_is)
    (case tI_BadItem => k_is)
    (case l_IBadItem => k_is)
    (case c_IBadItem => k_is)
    (case k_IBadItem => k_is)
    (case s_BadItem_ValueError => k_is)
    (case s_BadItem_NoiseboundError => k_is)
    (case s_BadItem_OutOfRange => k_is)
    (case s_BadItem_BadItem => k_is)
    (case s_BadItem_BadLength => k_is)
    (case s_BadItem_BadText => k_is)
    (case s_BadItem_BadPadding => k_is)
    (case s_BadItem_WrongPhase => k_is)
    (case s_BadItem_NotInvertible => k_is)
    (case s_BadItem_BadRing => k_is)
    (case s_BadItem_BadParameters => k_is)
    (case s_BadItem_UnknownName => k_is)
    (case s_BadItem_DifferentRings => k_is)
    (case s_BadItem_BadKey => k_is)
    (case s_BadItem_BadLetter => k_is)
    (case s_BadItem_BadKeyText => k_is)
    (case s_BadItem_BadRecord => k_is)
    (case s_BadItem_BadCommand => k_is)
    (case s_BadItem_NoEntry => k_is)
    (case s_BadItem_NothingLeft => k_is)
    (case xL_BadLength => k_is)
    (case sa_BadLength => k_is)
    (case ga_BadLength => k_is)
    (case gg_BadLength => k_is)
    (case ex_BadLength => k_is)
    (case ty_BadLength => k_is)
    (case kc_BadLength => k_is)
    (case cl_BadLength => k_is)
    (case hd_BadLength => k_is)
    (case sg_BadLength => k_is)
    (case tk_BadLength => k_is)
    (case ob_BadLength => k_is)
    (case g_BadLength_expected => k_is)
    (case g_BadLength_found => k_is)
    (case iC_BadLength => k_is)
    (case tI_BadLength => k_is)
    (case l_IBadLength => k_is)
    (case c_IBadLength => k_is)
    (case k_IBadLength => k_is)
    (case s_BadLength_ValueError => k_is)
    (case s_BadLength_NoiseboundError => k_is)
    (case s_BadLength_OutOfRange => k_is)
    (case s_BadLength_BadItem => k_is)
    (case s_BadLength_BadLength => k_is)
    (case s_BadLength_BadText => k_is)
    (case s_BadLength_BadPadding => k_is)
    (case s_BadLength_WrongPhase => k_is)
    (case s_BadLength_NotInvertible => k_is)
    (case s_BadLength_BadRing => k_is)
    (case s_BadLength_BadParameters => k_is)
    (case s_BadLength_UnknownName => k_is)
    (case s_BadLength_DifferentRings => k_is)
    (case s_BadLength_BadKey => k_is)
    (case s_BadLength_BadLetter => k_is)
    (case s_BadLength_BadKeyText => k_is)
    (case s_BadLength_BadRecord => k_is)
    (case s_BadLength_BadCommand => k_is)
    (case s_BadLength_NoEntry => k_is)
    (case s_BadLength_NothingLeft => k_is)
#print axioms PySem.Challenge.cw_noisebound_k04_checks_in_order_holds
