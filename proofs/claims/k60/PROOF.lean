import PyProof.Rows.All
import Wide.All
import OpenK.AllK
import Wide.FinOn
import HandS.ForMost
import HandS.HeadHook1
import HandS.TupAny
import HandS.Deep
import HandS.Style
import HandS.Defaults
import HandS.HeadHook2
import HandS.Star
import HandS.FStr
import HandS.DictComp
import KE.KDictCopyH
import HandS.SortRule
import KE.KSortTupAny
import HandS.IsInst
import HandS.Codes
import HandS.OwnEq
import HandS.Records
import PyProof.Rows.Range3
import PyProof.InstNe
import HandS.Small
import HandS.Iter
import HandS.Zip
import HandS.Text
import HandS.More
import KE.KStateDown
import HandS.Head0
import HandS.Head1
import HandS.Head2
import HandS.HeadEnd
import HandS.HeadHook3
import HandS.HeadHook4
import HandS.Gcd
import HandS.ListItems
import KE.KDictKeyed
import KE.KDictDisplayH
import HandS.DeepEq
import PyProof.NeKinds
import PySem.Challenge.RW_openchange_k60_whole_objects
set_option Elab.async false
set_option linter.all false
set_option maxRecDepth 100000
/-! DzBase: plain data D, how a heap bears it (Rep), owned and shared slots (EnvR), what a step keeps (Stp), readings by their own meaning (WE, WT, WA, WS). -/
namespace Dz
open PySem L2

/-! ### data -/
inductive D where
  | non | bl (b : Bool) | int (i : Int) | str (s : Str) | ty (n : String)
  | tup (xs : List D) | kup (xs : List D) | lst (xs : List D) | flz (xs : List D) | dic (ks vs : List D) | ins (C : Str) (ns : List Str) (vs : List D)
  /-- a place of the store -/
  | loc (j : Nat)

/-- a tuple's items: of one made in the run, or one of the text's own -/
def D.asTup : D → Option (List D)
  | .tup xs => some xs
  | .kup xs => some xs
  | _ => none
def D.mut : D → Bool
  | .lst _ => true
  | .dic _ _ => true
  | .ins _ _ _ => true
  | _ => false
def keysK : List D → Option (List Key)
  | [] => some []
  | .int i :: r => (keysK r).map (Sum.inl i :: ·)
  | .str s :: r => (keysK r).map (Sum.inr s :: ·)
  | _ => none
def keysT : List D → Option (List (List Key))
  | [] => some []
  | .tup xs :: r => match keysK xs with
    | some k => (keysT r).map (k :: ·)
    | none => none
  | _ => none

/-- what is shown: a heap, the places of the store -/
structure Vw where
  h : Hp
  w : Nat → Option Addr
instance : CoeFun Vw (fun _ => Addr → Option HO) := ⟨Vw.h⟩
instance : Coe Vw Hp := ⟨Vw.h⟩
mutual
/-- v bears d -/
inductive Rep (K : PySem.W.Frag) (H : Vw) : D → V → Prop
  | non : Rep K H .non .non
  | bl (b : Bool) : Rep K H (.bl b) (.bl b)
  | int (i : Int) : Rep K H (.int i) (.int i)
  | str (s : Str) : Rep K H (.str s) (.str s)
  | ty (n : String) : Rep K H (.ty n) (.ty n)
  | tup {a : Addr} {vs : List V} {xs : List D} : H a = some (.tup vs) → RepL K H xs vs → Rep K H (.tup xs) (.ref a)
  | kup {a : Addr} {vs : List V} {xs : List D} : SqT K H a vs → RepL K H xs vs → Rep K H (.kup xs) (.ref a)
  | lst {a : Addr} {vs : List V} {xs : List D} : H a = some (.lst vs) → RepL K H xs vs → Rep K H (.lst xs) (.ref a)
  | flz {a : Addr} {vs : List V} {xs : List D} : SqL K H a vs → RepL K H xs vs → Rep K H (.flz xs) (.ref a)
  | dicK {a : Addr} {kk : List Key} {vs : List V} {ks xs : List D} : keysK ks = some kk → kk.length = vs.length → Rd H a (.dK (kk.zip vs)) → kk.Nodup → RepL K H xs vs → Rep K H (.dic ks xs) (.ref a)
  | dicT {a : Addr} {kk : List (List Key)} {vs : List V} {ks xs : List D} : keysT ks = some kk → kk.length = vs.length → Rd H a (.dT (kk.zip vs)) → kk.Nodup → RepL K H xs vs → Rep K H (.dic ks xs) (.ref a)
  | ins {a dx : Addr} {C : Str} {fs : List (Str × V)} {ns : List Str} {xs : List D} : H a = some (.ins (He.ga K C) dx fs) → fs.map (·.1) = ns → RepL K H xs (fs.map (·.2)) → Rep K H (.ins C ns xs) (.ref a)
  | loc {a : Addr} {j : Nat} : H.w j = some a → Rep K H (.loc j) (.ref a)
inductive RepL (K : PySem.W.Frag) (H : Vw) : List D → List V → Prop
  | nil : RepL K H [] []
  | cons {d : D} {v : V} {ds : List D} {vs : List V} : Rep K H d v → RepL K H ds vs → RepL K H (d :: ds) (v :: vs)
end

def Sub (H H' : Hp) : Prop := ∀ b o, H b = some o → H' b = some o
theorem Sub.refl (H : Hp) : Sub H H := fun _ _ h => h
theorem Sub.trans {H H1 H2 : Hp} (a : Sub H H1) (b : Sub H1 H2) : Sub H H2 := fun c o h => b c o (a c o h)
theorem Sub.rd {H H' : Hp} (e : Sub H H') {a : Addr} {u : HO} (h : Rd H a u) : Rd H' a u := by
  rcases h with h | ⟨o, h⟩
  · exact .inl (e _ _ h)
  · exact .inr ⟨o, e _ _ h⟩
theorem Sub.sqL {K : PySem.W.Frag} {H H' : Hp} (e : Sub H H') {a : Addr} {vs : List V} (h : SqL K H a vs) : SqL K H' a vs := by
  rcases h with h | h
  · exact .inl (e.rd h)
  · exact .inr h
theorem Sub.sqT {K : PySem.W.Frag} {H H' : Hp} (e : Sub H H') {a : Addr} {vs : List V} (h : SqT K H a vs) : SqT K H' a vs := by
  rcases h with h | h
  · exact .inl (e.rd h)
  · exact .inr h
def IsDic : HO → Prop
  | .dK _ => True
  | .dT _ => True
  | _ => False
/-- it stands as it did; a dict may be locked for ever -/
def Kp (o : HO) (x : Option HO) : Prop := x = some o ∨ (IsDic o ∧ ∃ od, x = some (.frz od o))
theorem Kp.some {o : HO} {x : Option HO} (h : Kp o x) : ∃ u, x = some u := by
  rcases h with h | ⟨_, od, h⟩
  · exact ⟨_, h⟩
  · exact ⟨_, h⟩
theorem Kp.get {o : HO} {x : Option HO} (h : Kp o x) (n : ¬ IsDic o) : x = Option.some o := by
  rcases h with h | ⟨z, _⟩
  · exact h
  · exact absurd z n
theorem Kp.trans {o : HO} {x y : Option HO} (h : Kp o x) (k : ∀ u, x = Option.some u → Kp u y) : Kp o y := by
  rcases h with h | ⟨z, od, h⟩
  · exact k _ h
  · exact .inr ⟨z, od, (k _ h).get fun z => z⟩
theorem Kp.rd {o : HO} {H : Hp} {a : Addr} (h : Kp o (H a)) : Rd H a o := by
  rcases h with h | ⟨_, od, h⟩
  · exact .inl h
  · exact .inr ⟨od, h⟩
/-- more is shown -/
structure VSub (H H' : Vw) : Prop where
  h : ∀ b o, H.h b = some o → Kp o (H'.h b)
  w : ∀ j a, H.w j = some a → H'.w j = some a
theorem VSub.refl (H : Vw) : VSub H H := ⟨fun _ _ h => .inl h, fun _ _ h => h⟩
theorem VSub.trans {H H1 H2 : Vw} (a : VSub H H1) (b : VSub H1 H2) : VSub H H2 := ⟨fun c o h => (a.h c o h).trans fun u e => b.h c u e, fun j c h => b.w j c (a.w j c h)⟩
theorem Sub.on {Hh : Vw} {H : Hp} (e : Sub Hh.h H) : VSub Hh ⟨H, Hh.w⟩ := ⟨fun b o h => .inl (e b o h), fun _ _ z => z⟩
theorem VSub.get {H H' : Vw} (e : VSub H H') {a : Addr} {o : HO} (h : H a = some o) (n : ¬ IsDic o := by intro z; exact z) : H' a = some o := (e.h a o h).get n
theorem VSub.rd {H H' : Vw} (e : VSub H H') {a : Addr} {u : HO} (h : Rd H a u) : Rd H' a u := by
  rcases h with h | ⟨o, h⟩
  · exact (e.h _ _ h).rd
  · exact .inr ⟨o, e.get h⟩
theorem VSub.sqL {K : PySem.W.Frag} {H H' : Vw} (e : VSub H H') {a : Addr} {vs : List V} (h : SqL K H a vs) : SqL K H' a vs := by
  rcases h with h | h
  · exact .inl (e.rd h)
  · exact .inr h
theorem VSub.sqT {K : PySem.W.Frag} {H H' : Vw} (e : VSub H H') {a : Addr} {vs : List V} (h : SqT K H a vs) : SqT K H' a vs := by
  rcases h with h | h
  · exact .inl (e.rd h)
  · exact .inr h
mutual
theorem Rep.mono {K : PySem.W.Frag} {H H' : Vw} (e : VSub H H') : ∀ {d : D} {v : V}, Rep K H d v → Rep K H' d v
  | _, _, .non => .non
  | _, _, .bl b => .bl b
  | _, _, .int i => .int i
  | _, _, .str s => .str s
  | _, _, .ty n => .ty n
  | _, _, .tup h r => .tup (e.get h) (RepL.mono e r)
  | _, _, .kup h r => .kup (e.sqT h) (RepL.mono e r)
  | _, _, .lst h r => .lst (e.get h) (RepL.mono e r)
  | _, _, .flz h r => .flz (e.sqL h) (RepL.mono e r)
  | _, _, .dicK h1 h2 h3 h4 r => .dicK h1 h2 (e.rd h3) h4 (RepL.mono e r)
  | _, _, .dicT h1 h2 h3 h4 r => .dicT h1 h2 (e.rd h3) h4 (RepL.mono e r)
  | _, _, .ins h1 h2 r => .ins (e.get h1) h2 (RepL.mono e r)
  | _, _, .loc h => .loc (e.w _ _ h)
theorem RepL.mono {K : PySem.W.Frag} {H H' : Vw} (e : VSub H H') : ∀ {ds : List D} {vs : List V}, RepL K H ds vs → RepL K H' ds vs
  | _, _, .nil => .nil
  | _, _, .cons h r => .cons (Rep.mono e h) (RepL.mono e r)
end
theorem RepL.length {K : PySem.W.Frag} {H : Vw} : ∀ {ds : List D} {vs : List V}, RepL K H ds vs → ds.length = vs.length
  | _, _, .nil => rfl
  | _, _, .cons _ r => congrArg Nat.succ (RepL.length r)
theorem RepL.get {K : PySem.W.Frag} {H : Vw} : ∀ {ds : List D} {vs : List V} {i : Nat} {d : D}, RepL K H ds vs → ds[i]? = some d → ∃ v, vs[i]? = some v ∧ Rep K H d v
  | _, _, _, _, .nil, e => by simp at e
  | _, _, 0, _, .cons h _, e => by
    simp at e
    subst e
    exact ⟨_, rfl, h⟩
  | _, _, i + 1, d, .cons _ r, e => RepL.get (i := i) r (by simpa using e)
theorem RepL.get' {K : PySem.W.Frag} {H : Vw} : ∀ {ds : List D} {vs : List V} {i : Nat} {v : V}, RepL K H ds vs → vs[i]? = some v → ∃ d, ds[i]? = some d ∧ Rep K H d v
  | _, _, _, _, .nil, e => by simp at e
  | _, _, 0, _, .cons h _, e => by
    simp at e
    subst e
    exact ⟨_, rfl, h⟩
  | _, _, i + 1, d, .cons _ r, e => RepL.get' (i := i) r (by simpa using e)
theorem RepL.append {K : PySem.W.Frag} {H : Vw} : ∀ {ds es : List D} {vs us : List V}, RepL K H ds vs → RepL K H es us → RepL K H (ds ++ es) (vs ++ us)
  | _, _, _, _, .nil, s => s
  | _, _, _, _, .cons h r, s => .cons h (RepL.append r s)
theorem RepL.set {K : PySem.W.Frag} {H : Vw} {d : D} {v : V} (q : Rep K H d v) : ∀ {ds : List D} {vs : List V} (i : Nat), RepL K H ds vs → RepL K H (ds.set i d) (vs.set i v)
  | _, _, _, .nil => .nil
  | _, _, 0, .cons _ r => .cons q r
  | _, _, i + 1, .cons h r => .cons h (RepL.set q i r)
theorem RepL.take {K : PySem.W.Frag} {H : Vw} : ∀ {ds : List D} {vs : List V} (i : Nat), RepL K H ds vs → RepL K H (ds.take i) (vs.take i)
  | _, _, 0, _ => by simpa using RepL.nil
  | _, _, i + 1, .nil => .nil
  | _, _, i + 1, .cons h r => .cons h (RepL.take i r)
theorem RepL.drop {K : PySem.W.Frag} {H : Vw} : ∀ {ds : List D} {vs : List V} (i : Nat), RepL K H ds vs → RepL K H (ds.drop i) (vs.drop i)
  | _, _, 0, r => r
  | _, _, i + 1, .nil => .nil
  | _, _, i + 1, .cons h r => RepL.drop i r
theorem RepL.reverse {K : PySem.W.Frag} {H : Vw} : ∀ {ds : List D} {vs : List V}, RepL K H ds vs → RepL K H ds.reverse vs.reverse
  | _, _, .nil => .nil
  | _, _, .cons h r => by
    rw [List.reverse_cons, List.reverse_cons]
    exact RepL.append (RepL.reverse r) (.cons h .nil)

/-! ### hidden addresses -/
structure Hid where
  p : Addr → Prop
  w : Nat → Option Addr
instance : CoeFun Hid (fun _ => Addr → Prop) := ⟨Hid.p⟩
open Classical in
noncomputable def hdP (P : Addr → Prop) (H : Hp) : Hp := fun b => if P b then none else H b
noncomputable def hd (P : Hid) (H : Hp) : Vw := ⟨hdP P.p H, P.w⟩
theorem hd_some {P : Hid} {H : Hp} {b : Addr} {o : HO} : hd P H b = some o ↔ ¬ P b ∧ H b = some o := by
  show hdP P.p H b = some o ↔ ¬ P.p b ∧ H b = some o
  unfold hdP
  by_cases h : P.p b
  · rw [if_pos h]
    constructor
    · intro e; cases e
    · intro e; exact absurd h e.1
  · rw [if_neg h]
    exact ⟨fun e => ⟨h, e⟩, fun e => e.2⟩
theorem hd_sub {P : Hid} {H : Hp} : Sub (hd P H) H := fun _ _ e => (hd_some.mp e).2
/-- fewer are hidden, what was not hidden stands -/
theorem hd_monoK {P P' : Hid} {H H' : Hp} (k : ∀ b o, ¬ P b → H b = some o → Kp o (H' b)) (n : ∀ b o, ¬ P b → H b = some o → ¬ P' b) (w : ∀ j a, P.w j = some a → P'.w j = some a := by exact fun _ _ z => z) : VSub (hd P H) (hd P' H') := ⟨fun b o e => by
  obtain ⟨h1, h2⟩ := hd_some.mp e
  have q := n b o h1 h2
  rcases k b o h1 h2 with z | ⟨z, od, y⟩
  · exact .inl (hd_some.mpr ⟨q, z⟩)
  · exact .inr ⟨z, od, hd_some.mpr ⟨q, y⟩⟩, w⟩
theorem hd_mono {P P' : Hid} {H H' : Hp} (k : ∀ b o, ¬ P b → H b = some o → H' b = some o) (n : ∀ b o, ¬ P b → H b = some o → ¬ P' b) (w : ∀ j a, P.w j = some a → P'.w j = some a := by exact fun _ _ z => z) : VSub (hd P H) (hd P' H') := hd_monoK (fun b o h e => .inl (k b o h e)) n w

/-- the objects of slots (.inl), those of the store (.inr) -/
abbrev Ix := Nat ⊕ Nat
instance : Coe Nat Ix := ⟨Sum.inl⟩
abbrev Own := Ix → Option Addr
/-- what those around hide; what they have lent: the objects of borrowed slots -/
structure Amb where
  h : Addr → Prop
  B : Nat → Option Addr
instance : CoeFun Amb (fun _ => Addr → Prop) := ⟨Amb.h⟩
/-- a slot's flag: its value is shared, an object of its own, a borrowed one -/
inductive Fl where
  | sh | ow | bo
  deriving DecidableEq
abbrev hid (A : Amb) (own : Own) : Hid := ⟨fun b => A b ∨ ∃ i, own i = some b, fun j => own (.inr j)⟩
/-- one slot less, one slot more -/
def Own.drop (own : Own) (i : Nat) : Own := fun j => if j = .inl i then none else own j
def Own.put (own : Own) (i : Nat) (a : Addr) : Own := fun j => if j = .inl i then some a else own j
/-- one place more -/
def Own.box (own : Own) (i : Nat) (a : Addr) : Own := fun j => if j = .inr i then some a else own j
theorem Own.drop_some {own : Own} {i : Nat} {j : Ix} {a : Addr} : own.drop i j = some a ↔ j ≠ .inl i ∧ own j = some a := by
  unfold Own.drop
  by_cases h : j = .inl i
  · rw [if_pos h]
    constructor
    · intro e; cases e
    · intro e; exact absurd h e.1
  · rw [if_neg h]
    exact ⟨fun e => ⟨h, e⟩, fun e => e.2⟩
theorem Own.put_some {own : Own} {i : Nat} {j : Ix} {a b : Addr} : own.put i a j = some b ↔ (j = .inl i ∧ a = b) ∨ (j ≠ .inl i ∧ own j = some b) := by
  unfold Own.put
  by_cases h : j = .inl i
  · rw [if_pos h]
    constructor
    · intro e; exact .inl ⟨h, Option.some.inj e⟩
    · rintro (e | e)
      · rw [e.2]
      · exact absurd h e.1
  · rw [if_neg h]
    constructor
    · intro e; exact .inr ⟨h, e⟩
    · rintro (e | e)
      · exact absurd e.1 h
      · exact e.2
theorem Own.box_some {own : Own} {i : Nat} {j : Ix} {a b : Addr} : own.box i a j = some b ↔ (j = .inr i ∧ a = b) ∨ (j ≠ .inr i ∧ own j = some b) := by
  unfold Own.box
  by_cases h : j = .inr i
  · rw [if_pos h]
    constructor
    · intro e; exact .inl ⟨h, Option.some.inj e⟩
    · rintro (e | e)
      · rw [e.2]
      · exact absurd h e.1
  · rw [if_neg h]
    constructor
    · intro e; exact .inr ⟨h, e⟩
    · rintro (e | e)
      · exact absurd e.1 h
      · exact e.2
theorem Own.drop_w {own : Own} {i j : Nat} : own.drop i (.inr j) = own (.inr j) := if_neg (fun z => by cases z)
theorem Own.put_w {own : Own} {i j : Nat} {a : Addr} : own.put i a (.inr j) = own (.inr j) := if_neg (fun z => by cases z)
theorem Own.box_s {own : Own} {i j : Nat} {a : Addr} : own.box i a (.inl j) = own (.inl j) := if_neg (fun z => by cases z)

abbrev Slot := Option (D × Fl)
/-- a frame's slots, the store -/
structure En where
  sl : List Slot
  st : List D
abbrev En.set (e : En) (i : Nat) (x : Slot) : En := ⟨e.sl.set i x, e.st⟩
abbrev En.app (e : En) (l : List Slot) : En := ⟨e.sl ++ l, e.st⟩
abbrev En.take (e : En) (n : Nat) : En := ⟨e.sl.take n, e.st⟩
/-- an owned object's own content: its items are shared -/
inductive Top (K : PySem.W.Frag) (Hh : Vw) (H : Hp) : D → Addr → Prop
  | lst {a : Addr} {vs : List V} {xs : List D} : H a = some (.lst vs) → RepL K Hh xs vs → Top K Hh H (.lst xs) a
  | tup {a : Addr} {vs : List V} {xs : List D} : H a = some (.tup vs) → RepL K Hh xs vs → Top K Hh H (.tup xs) a
  | dicK {a : Addr} {kk : List Key} {vs : List V} {ks xs : List D} : keysK ks = some kk → kk.length = vs.length → H a = some (.dK (kk.zip vs)) → kk.Nodup → RepL K Hh xs vs → Top K Hh H (.dic ks xs) a
  | dicT {a : Addr} {kk : List (List Key)} {vs : List V} {ks xs : List D} : keysT ks = some kk → kk.length = vs.length → H a = some (.dT (kk.zip vs)) → kk.Nodup → RepL K Hh xs vs → Top K Hh H (.dic ks xs) a
  | ins {a dx : Addr} {C : Str} {fs : List (Str × V)} {ns : List Str} {xs : List D} : H a = some (.ins (He.ga K C) dx fs) → fs.map (·.1) = ns → RepL K Hh xs (fs.map (·.2)) → Top K Hh H (.ins C ns xs) a
theorem Top.some {K : PySem.W.Frag} {Hh : Vw} {H : Hp} {d : D} {a : Addr} (t : Top K Hh H d a) : ∃ o, H a = some o := by
  cases t with
  | lst h _ => exact ⟨_, h⟩
  | tup h _ => exact ⟨_, h⟩
  | dicK _ _ h _ _ => exact ⟨_, h⟩
  | dicT _ _ h _ _ => exact ⟨_, h⟩
  | ins h _ _ => exact ⟨_, h⟩
theorem Top.mono {K : PySem.W.Frag} {Hh Hh' : Vw} {H H' : Hp} {d : D} {a : Addr} (t : Top K Hh H d a) (e : VSub Hh Hh') (h : ∀ o, H a = Option.some o → H' a = Option.some o) : Top K Hh' H' d a := by
  cases t with
  | lst h1 r => exact .lst (h _ h1) (r.mono e)
  | tup h1 r => exact .tup (h _ h1) (r.mono e)
  | dicK h1 h2 h3 h4 r => exact .dicK h1 h2 (h _ h3) h4 (r.mono e)
  | dicT h1 h2 h3 h4 r => exact .dicT h1 h2 (h _ h3) h4 (r.mono e)
  | ins h1 h2 r => exact .ins (h _ h1) h2 (r.mono e)
/-- an object of the store: as it stands, or a dict that is locked while its keys are walked (then the place says so: .kup [.dic ..]) -/
inductive TopC (K : PySem.W.Frag) (Hh : Vw) (H : Hp) : D → Addr → Prop
  | top {a : Addr} {d : D} : Top K Hh H d a → TopC K Hh H d a
  | frK {a : Addr} {od : PySem.Obj} {kk : List Key} {vs : List V} {ks xs : List D} : keysK ks = some kk → kk.length = vs.length → H a = some (.frz od (.dK (kk.zip vs))) → kk.Nodup → RepL K Hh xs vs → TopC K Hh H (.kup [.dic ks xs]) a
  | frT {a : Addr} {od : PySem.Obj} {kk : List (List Key)} {vs : List V} {ks xs : List D} : keysT ks = some kk → kk.length = vs.length → H a = some (.frz od (.dT (kk.zip vs))) → kk.Nodup → RepL K Hh xs vs → TopC K Hh H (.kup [.dic ks xs]) a
theorem TopC.some {K : PySem.W.Frag} {Hh : Vw} {H : Hp} {d : D} {a : Addr} (t : TopC K Hh H d a) : ∃ o, H a = some o := by
  cases t with
  | top t => exact t.some
  | frK _ _ h _ _ => exact ⟨_, h⟩
  | frT _ _ h _ _ => exact ⟨_, h⟩
theorem TopC.mono {K : PySem.W.Frag} {Hh Hh' : Vw} {H H' : Hp} {d : D} {a : Addr} (t : TopC K Hh H d a) (e : VSub Hh Hh') (h : ∀ o, H a = Option.some o → H' a = Option.some o) : TopC K Hh' H' d a := by
  cases t with
  | top t => exact .top (t.mono e h)
  | frK h1 h2 h3 h4 r => exact .frK h1 h2 (h _ h3) h4 (r.mono e)
  | frT h1 h2 h3 h4 r => exact .frT h1 h2 (h _ h3) h4 (r.mono e)
theorem TopC.un {K : PySem.W.Frag} {Hh : Vw} {H : Hp} {d : D} {a : Addr} (t : TopC K Hh H d a) (m : d.mut = true) : Top K Hh H d a := by
  cases t with
  | top t => exact t
  | frK => cases m
  | frT => cases m
/-- shown where it isn't hidden -/
theorem Top.rep {K : PySem.W.Frag} {Hh : Vw} {H : Hp} {H' : Vw} {d : D} {a : Addr} (t : Top K Hh H d a) (e : VSub Hh H') (h : ∀ o, H a = Option.some o → H' a = Option.some o) : Rep K H' d (.ref a) := by
  cases t with
  | lst h1 r => exact .lst (h _ h1) (r.mono e)
  | tup h1 r => exact .tup (h _ h1) (r.mono e)
  | dicK h1 h2 h3 h4 r => exact .dicK h1 h2 (.inl (h _ h3)) h4 (r.mono e)
  | dicT h1 h2 h3 h4 r => exact .dicT h1 h2 (.inl (h _ h3)) h4 (r.mono e)
  | ins h1 h2 r => exact .ins (h _ h1) h2 (r.mono e)

/-- the slots of a frame: A what is hidden by those around, own the objects that slots own -/
structure EnvR (K : PySem.W.Frag) (A : Amb) (own : Own) (env : En) (σ : St) (H : Hp) : Prop where
  sh : ∀ (i : Nat) (d : D), env.sl[i]? = some (some (d, .sh)) → ∃ v, σ[i]? = some (some v) ∧ Rep K (hd (hid A own) H) d v
  ow : ∀ (i : Nat) (d : D) (f : Fl), env.sl[i]? = some (some (d, f)) → f ≠ .sh → ∃ a, own i = some a ∧ σ[i]? = some (some (.ref a)) ∧ Top K (hd (hid A own) H) H d a
  no : ∀ (i : Nat) (a : Addr), own i = some a → ∃ d f, env.sl[i]? = some (some (d, f)) ∧ f ≠ .sh
  bo : ∀ (i : Nat) (d : D), env.sl[i]? = some (some (d, .bo)) → ∃ a, A.B i = some a ∧ own i = some a
  ce : ∀ (j : Nat) (d : D), env.st[j]? = some d → ∃ a, own (.inr j) = some a ∧ TopC K (hd (hid A own) H) H d a
  cn : ∀ (j : Nat) (a : Addr), own (.inr j) = some a → ∃ d, env.st[j]? = some d
  inj : ∀ i j a, own i = some a → own j = some a → i = j
  sep : ∀ i a, own i = some a → ¬ A a
  al : ∀ b, A b → ∃ o, H b = some o
  len : σ.length = env.sl.length
  nt : ∀ b, hid A own b → ∀ xs, H b ≠ some (.tup xs)

/-- what a step keeps -/
structure Stp (A : Amb) (own : Own) (H : Hp) (own' : Own) (H' : Hp) : Prop where
  kp : ∀ b o, ¬ hid A own b → H b = some o → Kp o (H' b)
  hi : ∀ b, A b → H' b = H b
  ow : ∀ i a, own' i = some a → (∃ j, own j = some a) ∨ H a = none
  th : ∀ b o, H b = some o → ∃ o', H' b = some o'
  wl : ∀ (j : Nat) a, own (.inr j) = some a → own' (.inr j) = some a
  fz : ∀ b od u, H b = some (.frz od u) → H' b = some (.frz od u)
theorem Stp.refl {A : Amb} {own : Own} {H : Hp} : Stp A own H own H := ⟨fun _ _ _ h => .inl h, fun _ _ => rfl, fun i _ h => .inl ⟨i, h⟩, fun _ o h => ⟨o, h⟩, fun _ _ h => h, fun _ _ _ h => h⟩
theorem Stp.nh {A : Amb} {own own' : Own} {H H' : Hp} (s : Stp A own H own' H') {b : Addr} {o : HO} (n : ¬ hid A own b) (e : H b = some o) : ¬ hid A own' b := by
  rintro (h | ⟨i, h⟩)
  · exact n (.inl h)
  · rcases s.ow i b h with ⟨j, hj⟩ | h0
    · exact n (.inr ⟨j, hj⟩)
    · rw [h0] at e; cases e
theorem Stp.back {A : Amb} {own own' : Own} {H H' : Hp} (s : Stp A own H own' H') {b : Addr} (e : H' b = none) : H b = none := by
  cases h : H b with
  | none => rfl
  | some o =>
    obtain ⟨o', e'⟩ := s.th b o h
    rw [e] at e'; cases e'
theorem Stp.trans {A : Amb} {own own1 own2 : Own} {H H1 H2 : Hp} (s : Stp A own H own1 H1) (t : Stp A own1 H1 own2 H2) : Stp A own H own2 H2 where
  kp := fun b o n e => (s.kp b o n e).trans fun u eu => t.kp b u (s.nh n e) eu
  hi := fun b h => (t.hi b h).trans (s.hi b h)
  ow := fun i a h => by
    rcases t.ow i a h with ⟨j, hj⟩ | h0
    · exact s.ow j a hj
    · exact .inr (s.back h0)
  th := fun b o e => let ⟨o1, e1⟩ := s.th b o e; t.th b o1 e1
  wl := fun j a h => t.wl j a (s.wl j a h)
  fz := fun b od u e => t.fz b od u (s.fz b od u e)
/-- what was shown stays shown -/
theorem Stp.sub {A : Amb} {own own' : Own} {H H' : Hp} (s : Stp A own H own' H') : VSub (hd (hid A own) H) (hd (hid A own') H') := hd_monoK s.kp (fun _ _ n e => s.nh n e) s.wl

section
variable {K : PySem.W.Frag} {A : Amb} {own : Own} {env : En} {σ : St} {H H' : Hp} {i : Nat} {d : D} {v : V} {a : Addr}
def Plus (A : Amb) (a : Addr) : Amb := ⟨fun b => A b ∨ b = a, A.B⟩
/-- an owned object stands -/
theorem EnvR.own_there (r : EnvR K A own env σ H) {k : Ix} (h : own k = some a) : ∃ o, H a = some o := by
  cases k with
  | inl i =>
    obtain ⟨d, f, hd, hf⟩ := r.no i a h
    obtain ⟨a', h1, _, t⟩ := r.ow i d f hd hf
    rw [h] at h1
    cases h1
    exact t.some
  | inr j =>
    obtain ⟨d, hd⟩ := r.cn j a h
    obtain ⟨a', h1, t⟩ := r.ce j d hd
    rw [h] at h1
    cases h1
    exact t.some
theorem EnvR.hid_there (r : EnvR K A own env σ H) (h : hid A own a) : ∃ o, H a = some o := by
  rcases h with h | ⟨i, h⟩
  · exact r.al a h
  · exact r.own_there h
theorem Top.nfrz {Hh : Vw} (t : Top K Hh H d a) (od : PySem.Obj) (u : HO) (z : H a = Option.some (HO.frz od u)) : False := by
  cases t with
  | lst h _ => rw [h] at z; cases z
  | tup h _ => rw [h] at z; cases z
  | dicK _ _ h _ _ => rw [h] at z; cases z
  | dicT _ _ h _ _ => rw [h] at z; cases z
  | ins h _ _ => rw [h] at z; cases z
theorem EnvR.nhid (r : EnvR K A own env σ H) (h : H a = none) : ¬ hid A own a := fun z => by
  obtain ⟨o, e⟩ := r.hid_there z
  rw [h] at e; cases e
/-- the heap grows -/
theorem EnvR.sub (r : EnvR K A own env σ H) (e : Sub H H') : EnvR K A own env σ H' where
  sh := fun i d h => by
    obtain ⟨v, h1, h2⟩ := r.sh i d h
    exact ⟨v, h1, h2.mono (hd_mono (fun b o _ z => e b o z) fun _ _ n _ => n)⟩
  ow := fun i d f h hf => by
    obtain ⟨a, h1, h2, h3⟩ := r.ow i d f h hf
    exact ⟨a, h1, h2, h3.mono (hd_mono (fun b o _ z => e b o z) fun _ _ n _ => n) fun o z => e _ _ z⟩
  no := r.no
  bo := r.bo
  ce := fun j d h => by
    obtain ⟨a, h1, h3⟩ := r.ce j d h
    exact ⟨a, h1, h3.mono (hd_mono (fun b o _ z => e b o z) fun _ _ n _ => n) fun o z => e _ _ z⟩
  cn := r.cn
  inj := r.inj
  sep := r.sep
  len := r.len
  al := fun b h => let ⟨o, z⟩ := r.al b h; ⟨o, e _ _ z⟩
  nt := fun b h xs z => by
    obtain ⟨o, q⟩ := r.hid_there h
    have q2 := e _ _ q
    rw [z] at q2
    cases q2
    exact r.nt b h xs q
theorem Stp.new {o : HO} (r : EnvR K A own env σ H) (h : H a = none) : Stp A own H own (upd H a o) where
  kp := fun b u _ e => by rw [upd_ne (ne_of_none e h)]; exact .inl e
  fz := fun b od u e => by rw [upd_ne (ne_of_none e h)]; exact e
  hi := fun b hb => by
    obtain ⟨u, e⟩ := r.al b hb
    rw [upd_ne (ne_of_none e h)]
  ow := fun i b e => .inl ⟨i, e⟩
  th := fun b u e => ⟨u, by rw [upd_ne (ne_of_none e h)]; exact e⟩
  wl := fun _ _ h => h
theorem sub_new {o : HO} (h : H a = none) : Sub H (upd H a o) := fun b u e => by rw [upd_ne (ne_of_none e h)]; exact e
/-- a new object, hidden -/
theorem EnvR.new {o : HO} (r : EnvR K A own env σ H) (h : H a = none) (ho : ∀ xs, o ≠ .tup xs := by intro _ z; cases z) : EnvR K (Plus A a) own env σ (upd H a o) where
  sh := fun i d hh => by
    obtain ⟨v, h1, h2⟩ := r.sh i d hh
    refine ⟨v, h1, h2.mono (hd_mono (fun b u _ z => sub_new h b u z) fun b u n e => ?_)⟩
    rintro ((z | z) | z)
    · exact n (.inl z)
    · exact absurd z (ne_of_none e h)
    · exact n (.inr z)
  ow := fun i d f hh hf => by
    obtain ⟨a', h1, h2, h3⟩ := r.ow i d f hh hf
    refine ⟨a', h1, h2, h3.mono (hd_mono (fun b u _ z => sub_new h b u z) fun b u n e => ?_) fun u z => sub_new h _ _ z⟩
    rintro ((z | z) | z)
    · exact n (.inl z)
    · exact absurd z (ne_of_none e h)
    · exact n (.inr z)
  no := r.no
  bo := r.bo
  ce := fun j d hh => by
    obtain ⟨a', h1, h3⟩ := r.ce j d hh
    refine ⟨a', h1, h3.mono (hd_mono (fun b u _ z => sub_new h b u z) fun b u n e => ?_) fun u z => sub_new h _ _ z⟩
    rintro ((z | z) | z)
    · exact n (.inl z)
    · exact absurd z (ne_of_none e h)
    · exact n (.inr z)
  cn := r.cn
  inj := r.inj
  sep := fun i b e => by
    rintro (z | z)
    · exact r.sep i b e z
    · obtain ⟨o, q⟩ := r.own_there e
      exact ne_of_none q h z
  len := r.len
  al := fun b hb => by
    rcases hb with hb | hb
    · obtain ⟨u, e⟩ := r.al b hb
      exact ⟨u, sub_new h _ _ e⟩
    · exact ⟨o, by rw [hb]; exact upd_same⟩
  nt := fun b hb xs z => by
    by_cases hz : b = a
    · rw [hz, upd_same] at z
      cases z
      exact ho xs rfl
    · rw [upd_ne hz] at z
      refine r.nt b ?_ xs z
      rcases hb with (hb | hb) | hb
      · exact .inl hb
      · exact absurd hb hz
      · exact .inr hb
theorem hid_plus (h : hid A own a) {c : Addr} : hid (Plus A c) own a := by
  rcases h with h | h
  · exact .inl (.inl h)
  · exact .inr h
/-- fewer are hidden around -/
theorem EnvR.less {c : Addr} (r : EnvR K (Plus A c) own env σ H) : EnvR K A own env σ H where
  sh := fun i d hh => by
    obtain ⟨v, h1, h2⟩ := r.sh i d hh
    exact ⟨v, h1, h2.mono (hd_mono (fun _ _ _ z => z) fun b u n _ z => n (hid_plus z))⟩
  ow := fun i d f hh hf => by
    obtain ⟨a', h1, h2, h3⟩ := r.ow i d f hh hf
    exact ⟨a', h1, h2, h3.mono (hd_mono (fun _ _ _ z => z) fun b u n _ z => n (hid_plus z)) fun _ z => z⟩
  no := r.no
  bo := r.bo
  ce := fun j d hh => by
    obtain ⟨a', h1, h3⟩ := r.ce j d hh
    exact ⟨a', h1, h3.mono (hd_mono (fun _ _ _ z => z) fun b u n _ z => n (hid_plus z)) fun _ z => z⟩
  cn := r.cn
  inj := r.inj
  sep := fun i b e z => r.sep i b e (.inl z)
  len := r.len
  al := fun b hb => r.al b (.inl hb)
  nt := fun b hb => r.nt b (hid_plus hb)
theorem hid_drop (h : hid A (own.drop i) a) : hid A own a := by
  rcases h with h | ⟨j, h⟩
  · exact .inl h
  · exact .inr ⟨j, (Own.drop_some.mp h).2⟩
theorem drop_wl : ∀ (j : Nat) b, own (.inr j) = some b → own.drop i (.inr j) = some b := fun j b h => by rw [Own.drop_w]; exact h
theorem put_wl : ∀ (j : Nat) b, own (.inr j) = some b → own.put i a (.inr j) = some b := fun j b h => by rw [Own.put_w]; exact h
theorem Stp.drop : Stp A own H (own.drop i) H := ⟨fun _ _ _ h => .inl h, fun _ _ => rfl, fun j b h => .inl ⟨j, (Own.drop_some.mp h).2⟩, fun _ o h => ⟨o, h⟩, drop_wl, fun _ _ _ h => h⟩
theorem hd_drop : VSub (hd (hid A own) H) (hd (hid A (own.drop i)) H) := hd_mono (fun _ _ _ z => z) (fun b u n _ z => n (hid_drop z)) (drop_wl (i := i))
theorem ninl {i j : Nat} (h : ¬ i = j) : (Sum.inl j : Ix) ≠ .inl i := fun z => h (Sum.inl.inj z).symm
theorem ninl' {i j : Nat} (h : (Sum.inl j : Ix) ≠ .inl i) : i ≠ j := fun z => h (by rw [z])
/-- slot i: what it had is forgotten, or shown; the new slot's content is given -/
theorem EnvR.setSh (r : EnvR K A own env σ H) (q : Rep K (hd (hid A (own.drop i)) H) d v) : EnvR K A (own.drop i) (env.set i (some (d, .sh))) (σ.set i (some v)) H where
  sh := fun j e hh => by
    by_cases hj : i = j
    · subst hj
      by_cases hl : i < env.sl.length
      · rw [List.getElem?_set_self hl] at hh
        cases hh
        exact ⟨v, List.getElem?_set_self (by rw [r.len]; exact hl), q⟩
      · rw [List.getElem?_eq_none (by simpa using hl)] at hh; cases hh
    · rw [List.getElem?_set_ne hj] at hh
      obtain ⟨v, h1, h2⟩ := r.sh j e hh
      exact ⟨v, by rw [List.getElem?_set_ne hj]; exact h1, h2.mono hd_drop⟩
  ow := fun j e f hh hf => by
    by_cases hj : i = j
    · subst hj
      by_cases hl : i < env.sl.length
      · rw [List.getElem?_set_self hl] at hh; cases hh; exact absurd rfl hf
      · rw [List.getElem?_eq_none (by simpa using hl)] at hh; cases hh
    · rw [List.getElem?_set_ne hj] at hh
      obtain ⟨a', h1, h2, h3⟩ := r.ow j e f hh hf
      exact ⟨a', Own.drop_some.mpr ⟨ninl hj, h1⟩, by rw [List.getElem?_set_ne hj]; exact h2, h3.mono hd_drop fun _ z => z⟩
  no := fun j b e => by
    obtain ⟨h1, h2⟩ := Own.drop_some.mp e
    obtain ⟨d', f, h3, h4⟩ := r.no j b h2
    exact ⟨d', f, by rw [List.getElem?_set_ne (ninl' h1)]; exact h3, h4⟩
  bo := fun j e hh => by
    by_cases hj : i = j
    · subst hj
      by_cases hl : i < env.sl.length
      · rw [List.getElem?_set_self hl] at hh; cases hh
      · rw [List.getElem?_eq_none (by simpa using hl)] at hh; cases hh
    · rw [List.getElem?_set_ne hj] at hh
      obtain ⟨b, h1, h2⟩ := r.bo j e hh
      exact ⟨b, h1, Own.drop_some.mpr ⟨ninl hj, h2⟩⟩
  ce := fun j e hh => by
    obtain ⟨a', h1, h3⟩ := r.ce j e hh
    exact ⟨a', Own.drop_some.mpr ⟨(fun z => by cases z), h1⟩, h3.mono hd_drop fun _ z => z⟩
  cn := fun j b h => r.cn j b (Own.drop_some.mp h).2
  inj := fun j k b h1 h2 => r.inj j k b (Own.drop_some.mp h1).2 (Own.drop_some.mp h2).2
  sep := fun j b h => r.sep j b (Own.drop_some.mp h).2
  len := by rw [List.length_set, List.length_set]; exact r.len
  al := r.al
  nt := fun b hb => r.nt b (hid_drop hb)
/-- slot i owns the new object -/
theorem EnvR.setOw (r : EnvR K (Plus A a) own env σ H) (na : ¬ A a) (t : Top K (hd (hid (Plus A a) own) H) H d a) (hl : i < env.sl.length) : EnvR K A (own.put i a) (env.set i (some (d, .ow))) (σ.set i (some (.ref a))) H := by
  have key : ∀ b, hid A (own.put i a) b → hid (Plus A a) own b := fun b z => by
    rcases z with z | ⟨j, z⟩
    · exact .inl (.inl z)
    · rcases Own.put_some.mp z with ⟨_, z⟩ | ⟨_, z⟩
      · exact .inl (.inr z.symm)
      · exact .inr ⟨j, z⟩
  have sub : VSub (hd (hid (Plus A a) own) H) (hd (hid A (own.put i a)) H) := hd_mono (fun _ _ _ z => z) (fun b u n _ z => n (key b z)) (put_wl (i := i) (a := a))
  have nown : ∀ j : Ix, own j ≠ some a := fun j e => r.sep j a e (.inr rfl)
  refine ⟨fun j e hh => ?_, fun j e f hh hf => ?_, fun j b e => ?_, fun j e hh => ?_, fun j e hh => ?_, fun j b h => ?_, fun j k b h1 h2 => ?_, fun j b h => ?_, fun b hb => r.al b (.inl hb), by rw [List.length_set, List.length_set]; exact r.len, fun b hb => r.nt b (key b hb)⟩
  · by_cases hj : i = j
    · subst hj
      rw [List.getElem?_set_self hl] at hh; cases hh
    · rw [List.getElem?_set_ne hj] at hh
      obtain ⟨v, h1, h2⟩ := r.sh j e hh
      exact ⟨v, by rw [List.getElem?_set_ne hj]; exact h1, h2.mono sub⟩
  · by_cases hj : i = j
    · subst hj
      rw [List.getElem?_set_self hl] at hh
      cases hh
      exact ⟨a, Own.put_some.mpr (.inl ⟨rfl, rfl⟩), List.getElem?_set_self (by rw [r.len]; exact hl), t.mono sub fun _ z => z⟩
    · rw [List.getElem?_set_ne hj] at hh
      obtain ⟨a', h1, h2, h3⟩ := r.ow j e f hh hf
      exact ⟨a', Own.put_some.mpr (.inr ⟨ninl hj, h1⟩), by rw [List.getElem?_set_ne hj]; exact h2, h3.mono sub fun _ z => z⟩
  · rcases Own.put_some.mp e with ⟨h1, h2⟩ | ⟨h1, h2⟩
    · obtain rfl := Sum.inl.inj h1
      exact ⟨d, .ow, List.getElem?_set_self hl, fun z => by cases z⟩
    · obtain ⟨d', f, h3, h4⟩ := r.no j b h2
      exact ⟨d', f, by rw [List.getElem?_set_ne (ninl' h1)]; exact h3, h4⟩
  · by_cases hj : i = j
    · subst hj
      rw [List.getElem?_set_self hl] at hh; cases hh
    · rw [List.getElem?_set_ne hj] at hh
      obtain ⟨b, h1, h2⟩ := r.bo j e hh
      exact ⟨b, h1, Own.put_some.mpr (.inr ⟨ninl hj, h2⟩)⟩
  · obtain ⟨a', h1, h3⟩ := r.ce j e hh
    exact ⟨a', by rw [Own.put_w]; exact h1, h3.mono sub fun _ z => z⟩
  · rw [Own.put_w] at h
    exact r.cn j b h
  · rcases Own.put_some.mp h1 with ⟨e1, e2⟩ | ⟨e1, e2⟩ <;> rcases Own.put_some.mp h2 with ⟨e3, e4⟩ | ⟨e3, e4⟩
    · rw [e1, e3]
    · exact absurd (by rw [e4, ← e2]) (nown k)
    · exact absurd (by rw [e2, ← e4]) (nown j)
    · exact r.inj j k b e2 e4
  · rcases Own.put_some.mp h with ⟨e1, e2⟩ | ⟨e1, e2⟩
    · rw [← e2]; exact na
    · exact fun z => r.sep j b e2 (.inl z)
theorem Stp.put (na : H a = none) {H1 : Hp} {own1 : Own} (s : Stp A own H own1 H1) : Stp A own H (own1.put i a) H1 where
  kp := s.kp
  hi := s.hi
  ow := fun j b h => by
    rcases Own.put_some.mp h with ⟨_, e⟩ | ⟨_, e⟩
    · right; rw [← e]; exact na
    · exact s.ow j b e
  th := s.th
  wl := fun j b h => put_wl j b (s.wl j b h)
  fz := s.fz
/-- a new object goes to a new place of the store -/
theorem EnvR.box (r : EnvR K (Plus A a) own env σ H) (na : ¬ A a) (t : Top K (hd (hid (Plus A a) own) H) H d a) : EnvR K A (own.box env.st.length a) ⟨env.sl, env.st ++ [d]⟩ σ H := by
  have key : ∀ b, hid A (own.box env.st.length a) b → hid (Plus A a) own b := fun b z => by
    rcases z with z | ⟨j, z⟩
    · exact .inl (.inl z)
    · rcases Own.box_some.mp z with ⟨_, z⟩ | ⟨_, z⟩
      · exact .inl (.inr z.symm)
      · exact .inr ⟨j, z⟩
  have lt : ∀ {j : Nat} {b : Addr}, own (.inr j) = some b → j < env.st.length := fun {j b} h => by
    obtain ⟨d, q⟩ := r.cn j b h
    exact (List.getElem?_eq_some_iff.mp q).1
  have wl : ∀ (j : Nat) b, own (.inr j) = some b → own.box env.st.length a (.inr j) = some b := fun j b h => Own.box_some.mpr (.inr ⟨fun z => Nat.ne_of_lt (lt h) (Sum.inr.inj z), h⟩)
  have sub : VSub (hd (hid (Plus A a) own) H) (hd (hid A (own.box env.st.length a)) H) := hd_mono (fun _ _ _ z => z) (fun b u n _ z => n (key b z)) wl
  have nown : ∀ j : Ix, own j ≠ some a := fun j e => r.sep j a e (.inr rfl)
  refine ⟨fun j e hh => ?_, fun j e f hh hf => ?_, fun j b e => ?_, fun j e hh => ?_, fun j e hh => ?_, fun j b h => ?_, fun j k b h1 h2 => ?_, fun j b h => ?_, fun b hb => r.al b (.inl hb), r.len, fun b hb => r.nt b (key b hb)⟩
  · obtain ⟨v, h1, h2⟩ := r.sh j e hh
    exact ⟨v, h1, h2.mono sub⟩
  · obtain ⟨a', h1, h2, h3⟩ := r.ow j e f hh hf
    exact ⟨a', by rw [Own.box_s]; exact h1, h2, h3.mono sub fun _ z => z⟩
  · rw [Own.box_s] at e
    exact r.no j b e
  · obtain ⟨b, h1, h2⟩ := r.bo j e hh
    exact ⟨b, h1, by rw [Own.box_s]; exact h2⟩
  · by_cases hj : j < env.st.length
    · rw [List.getElem?_append_left hj] at hh
      obtain ⟨a', h1, h3⟩ := r.ce j e hh
      exact ⟨a', wl j a' h1, h3.mono sub fun _ z => z⟩
    · rw [List.getElem?_append_right (by omega)] at hh
      by_cases h0 : j - env.st.length = 0
      · rw [h0] at hh
        cases hh
        exact ⟨a, Own.box_some.mpr (.inl ⟨congrArg _ (by omega), rfl⟩), .top (t.mono sub fun _ z => z)⟩
      · rw [List.getElem?_eq_none (by show 1 ≤ j - env.st.length; omega)] at hh
        cases hh
  · rcases Own.box_some.mp h with ⟨h1, _⟩ | ⟨_, h2⟩
    · obtain rfl := Sum.inr.inj h1
      exact ⟨d, by show (env.st ++ [d])[env.st.length]? = _; simp⟩
    · obtain ⟨d', q⟩ := r.cn j b h2
      exact ⟨d', by show (env.st ++ [d])[j]? = _; rw [List.getElem?_append_left (lt h2)]; exact q⟩
  · rcases Own.box_some.mp h1 with ⟨e1, e2⟩ | ⟨e1, e2⟩ <;> rcases Own.box_some.mp h2 with ⟨e3, e4⟩ | ⟨e3, e4⟩
    · rw [e1, e3]
    · exact absurd (by rw [e4, ← e2]) (nown k)
    · exact absurd (by rw [e2, ← e4]) (nown j)
    · exact r.inj j k b e2 e4
  · rcases Own.box_some.mp h with ⟨e1, e2⟩ | ⟨e1, e2⟩
    · rw [← e2]; exact na
    · exact fun z => r.sep j b e2 (.inl z)
theorem EnvR.st_lt (r : EnvR K A own env σ H) {j : Nat} (h : own (.inr j) = some a) : j < env.st.length := by
  obtain ⟨d, q⟩ := r.cn j a h
  exact (List.getElem?_eq_some_iff.mp q).1
theorem Stp.box (na : H a = none) {H1 : Hp} {own1 : Own} {n : Nat} (hn : ∀ j b, own1 (.inr j) = some b → j ≠ n) (s : Stp A own H own1 H1) : Stp A own H (own1.box n a) H1 where
  kp := s.kp
  hi := s.hi
  ow := fun j b h => by
    rcases Own.box_some.mp h with ⟨_, e⟩ | ⟨_, e⟩
    · right; rw [← e]; exact na
    · exact s.ow j b e
  th := s.th
  wl := fun j b h => by
    have q := s.wl j b h
    exact Own.box_some.mpr (.inr ⟨fun z => hn j b q (Sum.inr.inj z), q⟩)
  fz := s.fz
/-- what is hidden around changes -/
theorem VSub.updA {P : Hid} {o : HO} (hA : P a) : VSub (hd P H) (hd P (upd H a o)) := hd_mono (fun b u n e => by
  rw [upd_ne (fun z => n (by rw [z]; exact hA))]; exact e) fun _ _ n _ => n
theorem EnvR.updA {o : HO} (r : EnvR K A own env σ H) (hA : A a) (hm : ∀ xs, o ≠ .tup xs := by intro _ z; cases z) : EnvR K A own env σ (upd H a o) where
  sh := fun i d h => by
    obtain ⟨w, h1, h2⟩ := r.sh i d h
    exact ⟨w, h1, h2.mono (.updA (P := hid A own) (.inl hA))⟩
  ow := fun i d f h hf => by
    obtain ⟨w, h1, h2, h3⟩ := r.ow i d f h hf
    exact ⟨w, h1, h2, h3.mono (.updA (P := hid A own) (.inl hA)) fun o e => by rw [upd_ne (fun z => r.sep _ w h1 (by rw [z]; exact hA))]; exact e⟩
  no := r.no
  bo := r.bo
  ce := fun j d h => by
    obtain ⟨w, h1, h3⟩ := r.ce j d h
    exact ⟨w, h1, h3.mono (.updA (P := hid A own) (.inl hA)) fun o e => by rw [upd_ne (fun z => r.sep _ w h1 (by rw [z]; exact hA))]; exact e⟩
  cn := r.cn
  inj := r.inj
  sep := r.sep
  al := fun b hb => by
    by_cases hz : b = a
    · exact ⟨_, by rw [hz]; exact upd_same⟩
    · obtain ⟨u, e⟩ := r.al b hb
      exact ⟨u, by rw [upd_ne hz]; exact e⟩
  len := r.len
  nt := fun b hb xs z => by
    by_cases hz : b = a
    · rw [hz, upd_same] at z; cases z; exact hm xs rfl
    · rw [upd_ne hz] at z; exact r.nt b hb xs z
/-- an object of the store changes: its slot's view -/
theorem EnvR.cell (r : EnvR K A own env σ H) {j : Nat} (h : env.st[j]? = some d) (m : d.mut = true) : ∃ a, own (.inr j) = some a ∧ Rep K (hd (hid A own) H) (.loc j) (.ref a) ∧ Top K (hd (hid A own) H) H d a := by
  obtain ⟨a, h1, t⟩ := r.ce j d h
  exact ⟨a, h1, .loc h1, t.un m⟩
end

/-- what an expression leaves: the slots, its value; if it is new: hidden from all slots -/
structure Res (K : PySem.W.Frag) (A : Amb) (own : Own) (env : En) (σ : St) (H0 H : Hp) (fr : Bool) (d : D) (v : V) : Prop where
  en : EnvR K A own env σ H
  rp : Rep K (hd (hid A own) H) d v
  nw : fr = true → d.mut = true → ∃ a, v = .ref a ∧ H0 a = none ∧ EnvR K (Plus A a) own env σ H ∧ Top K (hd (hid (Plus A a) own) H) H d a

/-! ### readings by their own meaning -/
section
variable (X : Cx)
def WE (e : Expr) : TE := fun σ H Q => ∀ pins s, Inv X pins σ H s → wpAny (model X.prog X.w) X.A (eval e X.env) (EP X pins σ Q) X.xe s
def WT (e : Expr) : TT := fun σ H Q => ∀ pins s, Inv X pins σ H s → wpAny (model X.prog X.w) X.A (isTrue e X.env (eval e X.env)) (TP X pins σ Q) X.xe s
def WA (es : List Expr) : TA := fun σ H Q => ∀ (pos : Pos) pins s, Inv X pins σ H s → wpAny (model X.prog X.w) X.A (spliced (backTo pos (starEach es X.env))) (AP X pins σ Q) X.xe s
def WS (st : Stmt) : TS := fun D σ H => ∀ pins s, Inv X pins σ H s → wpAny (model X.prog X.w) X.A (exec st X.env) (SP X pins D) X.xe s
def WSs (st : List Stmt) : TS := fun D σ H => ∀ pins s, Inv X pins σ H s → wpAny (model X.prog X.w) X.A (execs st X.env) (SP X pins D) X.xe s
end
section
variable {X : Cx} {e : Expr} {es : List Expr} {st : Stmt} {sts : List Stmt} {σ : St} {H : Hp} {D : Ends}
theorem pe_w : PE X e (WE X e) := ⟨fun pins s _ _ _ I h => h pins s I⟩
theorem pt_w : PT X e (WT X e) := ⟨fun pins s _ _ _ I h => h pins s I⟩
theorem pa_w : PA X es (WA X es) := ⟨fun pos pins s _ _ _ I h => h pos pins s I⟩
theorem ps_w : PS X st (WS X st) := ⟨fun pins s _ _ _ I h => h pins s I⟩
theorem pss_w : PSs X sts (WSs X sts) := ⟨fun pins s _ _ _ I h => h pins s I⟩
theorem we_of {t : TE} {Q : VK} (p : PE X e t) (h : t σ H Q) : WE X e σ H Q := fun pins s I => p.run pins s σ H Q I h
theorem wt_of {t : TT} {Q : Bool → Hp → Prop} (p : PT X e t) (h : t σ H Q) : WT X e σ H Q := fun pins s I => p.run pins s σ H Q I h
theorem wa_of {t : TA} {Q : List V → Hp → Prop} (p : PA X es t) (h : t σ H Q) : WA X es σ H Q := fun pos pins s I => p.run pos pins s σ H Q I h
theorem ws_of {t : TS} (p : PS X st t) (h : t D σ H) : WS X st D σ H := fun pins s I => p.run pins s σ H D I h
theorem wss_of {t : TS} (p : PSs X sts t) (h : t D σ H) : WSs X sts D σ H := fun pins s I => p.run pins s σ H D I h
theorem we_mono {Q Q' : VK} (h : WE X e σ H Q) (k : ∀ v H', Q v H' → Q' v H') : WE X e σ H Q' := fun pins s I => thn (h pins s I) fun u s' ⟨v, H', I', r, q⟩ => ⟨v, H', I', r, k v H' q⟩
end
end Dz
/-! DzEv: what evaluates to what: judgements SE (expressions), SO (operands), SA (items), ST (tests), SS (statements) and their first rules. -/
namespace Dz
open PySem L2

structure StpE (A : Amb) (own : Own) (H : Hp) (own' : Own) (H' : Hp) : Prop extends Stp A own H own' H' where
  dr : ∀ (i : Nat) a, own' i = some a → own i = some a
theorem StpE.refl {A : Amb} {own : Own} {H : Hp} : StpE A own H own H := ⟨Stp.refl, fun _ _ h => h⟩
theorem StpE.trans {A : Amb} {own own1 own2 : Own} {H H1 H2 : Hp} (s : StpE A own H own1 H1) (t : StpE A own1 H1 own2 H2) : StpE A own H own2 H2 :=
  ⟨s.toStp.trans t.toStp, fun i a h => s.dr i a (t.dr i a h)⟩

/-! ### objects, views, what is given -/
inductive Obj (K : PySem.W.Frag) (Hh : Vw) : D → HO → Prop
  | tup {vs : List V} {xs : List D} : RepL K Hh xs vs → Obj K Hh (.tup xs) (.tup vs)
  | lst {vs : List V} {xs : List D} : RepL K Hh xs vs → Obj K Hh (.lst xs) (.lst vs)
  | dicK {kk : List Key} {vs : List V} {ks xs : List D} : keysK ks = some kk → kk.length = vs.length → kk.Nodup → RepL K Hh xs vs → Obj K Hh (.dic ks xs) (.dK (kk.zip vs))
  | dicT {kk : List (List Key)} {vs : List V} {ks xs : List D} : keysT ks = some kk → kk.length = vs.length → kk.Nodup → RepL K Hh xs vs → Obj K Hh (.dic ks xs) (.dT (kk.zip vs))
  | ins {C : Str} {dx : Addr} {fs : List (Str × V)} {ns : List Str} {xs : List D} : fs.map (·.1) = ns → RepL K Hh xs (fs.map (·.2)) → Obj K Hh (.ins C ns xs) (.ins (He.ga K C) dx fs)
theorem Obj.top {K : PySem.W.Frag} {Hh Hh' : Vw} {H : Hp} {d : D} {o : HO} {a : Addr} (h : Obj K Hh d o) (e : VSub Hh Hh') (ha : H a = some o) : Top K Hh' H d a := by
  cases h with
  | tup r => exact .tup ha (r.mono e)
  | lst r => exact .lst ha (r.mono e)
  | dicK h1 h2 h3 r => exact .dicK h1 h2 ha h3 (r.mono e)
  | dicT h1 h2 h3 r => exact .dicT h1 h2 ha h3 (r.mono e)
  | ins h1 r => exact .ins ha h1 (r.mono e)
theorem Obj.nt {K : PySem.W.Frag} {Hh : Vw} {d : D} {o : HO} (h : Obj K Hh d o) (m : d.mut = true) : ∀ xs, o ≠ .tup xs := by
  intro xs z
  cases h with
  | tup r => exact absurd m (by simp [D.mut])
  | _ => cases z
inductive View (K : PySem.W.Frag) (Hh : Vw) (H : Hp) : D → V → Prop
  | sc {d : D} {v : V} : Rep K Hh d v → View K Hh H d v
  | ow {d : D} {a : Addr} : d.mut = true → Top K Hh H d a → View K Hh H d (.ref a)
  | lkK {a : Addr} {od : PySem.Obj} {kk : List Key} {vs : List V} {ks xs : List D} : keysK ks = some kk → kk.length = vs.length → H a = some (.frz od (.dK (kk.zip vs))) → kk.Nodup → RepL K Hh xs vs → View K Hh H (.dic ks xs) (.ref a)
  | lkT {a : Addr} {od : PySem.Obj} {kk : List (List Key)} {vs : List V} {ks xs : List D} : keysT ks = some kk → kk.length = vs.length → H a = some (.frz od (.dT (kk.zip vs))) → kk.Nodup → RepL K Hh xs vs → View K Hh H (.dic ks xs) (.ref a)
section
variable {K : PySem.W.Frag} {Hh : Vw} {H : Hp} {v : V} {xs : List D}
theorem View.lst (h : View K Hh H (.lst xs) v) (e : Sub Hh H) : ∃ a vs, v = .ref a ∧ H a = some (.lst vs) ∧ RepL K Hh xs vs := by
  cases h with
  | sc h => cases h with | lst h r => exact ⟨_, _, rfl, e _ _ h, r⟩
  | ow _ h => cases h with | lst h r => exact ⟨_, _, rfl, h, r⟩
theorem View.flz (h : View K Hh H (.flz xs) v) (e : Sub Hh H) : ∃ a vs, v = .ref a ∧ SqL K H a vs ∧ RepL K Hh xs vs := by
  cases h with
  | sc h => cases h with | flz h r => exact ⟨_, _, rfl, e.sqL h, r⟩
  | ow _ h => cases h
theorem View.rep {d : D} (h : View K Hh H d v) (e : Sub Hh H) : Rep K ⟨H, Hh.w⟩ d v := by
  cases h with
  | sc h => exact h.mono e.on
  | ow _ h => exact h.rep (H' := ⟨H, Hh.w⟩) e.on fun _ z => z
  | lkK h1 h2 h3 h4 r => exact .dicK h1 h2 (.inr ⟨_, h3⟩) h4 (r.mono e.on)
  | lkT h1 h2 h3 h4 r => exact .dicT h1 h2 (.inr ⟨_, h3⟩) h4 (r.mono e.on)
theorem View.sh {d : D} (h : View K Hh H d v) (e : d.mut = false) : Rep K Hh d v := by
  cases h with
  | sc h => exact h
  | ow m _ => rw [e] at m; cases m
  | lkK => cases e
  | lkT => cases e
theorem View.tupS (h : View K Hh H (.tup xs) v) (e : Sub Hh H) : ∃ a vs, v = .ref a ∧ H a = some (.tup vs) ∧ RepL K Hh xs vs := by
  have h2 := h.sh rfl
  cases h2 with
  | tup h3 r => exact ⟨_, _, rfl, e _ _ h3, r⟩
theorem asTup_mut {d : D} (q : d.asTup = some xs) : d.mut = false := by
  cases d <;> first | rfl | cases q
theorem View.tup {d : D} (h : View K Hh H d v) (q : d.asTup = some xs) (e : Sub Hh H) : ∃ a vs, v = .ref a ∧ SqT K H a vs ∧ RepL K Hh xs vs := by
  have h2 := h.sh (asTup_mut q)
  cases h2 with
  | tup h3 r => cases q; exact ⟨_, _, rfl, .inl (.inl (e _ _ h3)), r⟩
  | kup h3 r => cases q; exact ⟨_, _, rfl, e.sqT h3, r⟩
  | _ => cases q
theorem Rep.tupA {Hv : Vw} {d : D} (h : Rep K Hv d v) (q : d.asTup = some xs) : ∃ a vs, v = .ref a ∧ SqT K Hv a vs ∧ RepL K Hv xs vs := (View.sc (Hh := Hv) (H := Hv) h).tup q (Sub.refl Hv.h)
theorem View.ins {C : Str} {ns : List Str} (h : View K Hh H (.ins C ns xs) v) (e : Sub Hh H) : ∃ a dx fs, v = .ref a ∧ H a = some (.ins (He.ga K C) dx fs) ∧ fs.map (·.1) = ns ∧ RepL K Hh xs (fs.map (·.2)) := by
  cases h with
  | sc h => cases h with | ins h1 h2 r => exact ⟨_, _, _, rfl, e _ _ h1, h2, r⟩
  | ow _ h => cases h with | ins h1 h2 r => exact ⟨_, _, _, rfl, h1, h2, r⟩
theorem View.int {i : Int} (h : View K Hh H (.int i) v) : v = .int i := by
  cases h with
  | sc h => cases h; rfl
  | ow _ h => cases h
theorem View.str {i : Str} (h : View K Hh H (.str i) v) : v = .str i := by
  cases h with
  | sc h => cases h; rfl
  | ow _ h => cases h
theorem View.bl {i : Bool} (h : View K Hh H (.bl i) v) : v = .bl i := by
  cases h with
  | sc h => cases h; rfl
  | ow _ h => cases h
theorem View.non (h : View K Hh H .non v) : v = .non := by
  cases h with
  | sc h => cases h; rfl
  | ow _ h => cases h
end
/-- a value that stands, or a new object -/
structure Give (K : PySem.W.Frag) (Hh : Vw) (H : Hp) (fr : Bool) (d : D) (Q : VK) : Prop where
  old : fr = false → ∀ v, Rep K Hh d v → Q v H
  new : ∀ p o, H p = none → Obj K Hh d o → Q (.ref p) (upd H p o)

/-! ### the judgements -/
abbrev EF := En → Option (D × Bool × En)
abbrev Opn := D ⊕ Nat
abbrev OF := En → Option (Opn × En)
abbrev LF := En → Option (List Opn × En)
abbrev AF := En → Option (List D × En)
abbrev TF := En → Option (Bool × En)
inductive Out where
  | nx (e : En) | rt (d : D) (e : En) | bk (e : En) | ct (e : En)
abbrev SF := En → Option Out
def OpOk (K : PySem.W.Frag) (A : Amb) (own : Own) (H : Hp) : Opn → V → Prop
  | .inl d, v => Rep K (hd (hid A own) H) d v
  | .inr i, v => ∃ a, v = .ref a ∧ own i = some a
inductive OpsOk (K : PySem.W.Frag) (A : Amb) (own : Own) (H : Hp) : List Opn → List V → Prop
  | nil : OpsOk K A own H [] []
  | cons {o : Opn} {v : V} {os : List Opn} {vs : List V} : OpOk K A own H o v → OpsOk K A own H os vs → OpsOk K A own H (o :: os) (v :: vs)
inductive Views (K : PySem.W.Frag) (Hh : Vw) (H : Hp) : List D → List V → Prop
  | nil : Views K Hh H [] []
  | cons {d : D} {v : V} {ds : List D} {vs : List V} : View K Hh H d v → Views K Hh H ds vs → Views K Hh H (d :: ds) (v :: vs)
def res (env : En) : Opn → Option D
  | .inl (.loc j) => match env.st[j]? with
    | some (.kup [d]) => some d
    | o => o
  | .inl d => some d
  | .inr i => match env.sl[i]? with
    | some (some (_, .sh)) => none
    | some (some (d, _)) => if d.mut then some d else none
    | _ => none
def ress (env : En) : List Opn → Option (List D)
  | [] => some []
  | o :: os => match res env o with
    | some d => (ress env os).map (d :: ·)
    | none => none
section
variable (X : Cx)
def SE_ (f : EF) (e : Expr) : Prop := ∀ A own env σ H d fr env', EnvR X.K A own env σ H → f env = some (d, fr, env') → ∀ Q : VK,
  (∀ v H' own', StpE A own H own' H' → Res X.K A own' env' σ H H' fr d v → Q v H') → WE X e σ H Q
structure SE (f : EF) (e : Expr) : Prop where
  run : SE_ X f e
instance coe_SE {X : Cx} {f : EF} {e : Expr} : CoeFun (SE X f e) (fun _ => SE_ X f e) := ⟨fun h => h.run⟩
def SO_ (f : OF) (e : Expr) : Prop := ∀ A own env σ H o env', EnvR X.K A own env σ H → f env = some (o, env') → ∀ Q : VK,
  (∀ v H' own', StpE A own H own' H' → EnvR X.K A own' env' σ H' → OpOk X.K A own' H' o v → Q v H') → WE X e σ H Q
structure SO (f : OF) (e : Expr) : Prop where
  run : SO_ X f e
instance coe_SO {X : Cx} {f : OF} {e : Expr} : CoeFun (SO X f e) (fun _ => SO_ X f e) := ⟨fun h => h.run⟩
def SL_ (f : LF) (es : List Expr) : Prop := ∀ A own env σ H os env', EnvR X.K A own env σ H → f env = some (os, env') → ∀ Q : List V → Hp → Prop,
  (∀ vs H' own', StpE A own H own' H' → EnvR X.K A own' env' σ H' → OpsOk X.K A own' H' os vs → Q vs H') → WA X es σ H Q
structure SL (f : LF) (es : List Expr) : Prop where
  run : SL_ X f es
instance coe_SL {X : Cx} {f : LF} {es : List Expr} : CoeFun (SL X f es) (fun _ => SL_ X f es) := ⟨fun h => h.run⟩
def SA_ (f : AF) (es : List Expr) : Prop := ∀ A own env σ H ds env', EnvR X.K A own env σ H → f env = some (ds, env') → ∀ Q : List V → Hp → Prop,
  (∀ vs H' own', StpE A own H own' H' → EnvR X.K A own' env' σ H' → RepL X.K (hd (hid A own') H') ds vs → Q vs H') → WA X es σ H Q
structure SA (f : AF) (es : List Expr) : Prop where
  run : SA_ X f es
instance coe_SA {X : Cx} {f : AF} {es : List Expr} : CoeFun (SA X f es) (fun _ => SA_ X f es) := ⟨fun h => h.run⟩
def ST_ (f : TF) (e : Expr) : Prop := ∀ A own env σ H b env', EnvR X.K A own env σ H → f env = some (b, env') → ∀ Q : Bool → Hp → Prop,
  (∀ H' own', StpE A own H own' H' → EnvR X.K A own' env' σ H' → Q b H') → WT X e σ H Q
structure ST (f : TF) (e : Expr) : Prop where
  run : ST_ X f e
instance coe_ST {X : Cx} {f : TF} {e : Expr} : CoeFun (ST X f e) (fun _ => ST_ X f e) := ⟨fun h => h.run⟩
/-- what must follow a statement's end -/
def Fol (K : PySem.W.Frag) (A : Amb) (own : Own) (H : Hp) (D : Ends) : Out → Prop
  | .nx e => ∀ σ' H' own', Stp A own H own' H' → EnvR K A own' e σ' H' → D.nx σ' H'
  | .bk e => ∀ σ' H' own', Stp A own H own' H' → EnvR K A own' e σ' H' → D.bk σ' H'
  | .ct e => ∀ σ' H' own', Stp A own H own' H' → EnvR K A own' e σ' H' → D.ct σ' H'
  | .rt d e => ∀ v σ' H' own', Stp A own H own' H' → EnvR K A own' e σ' H' → Rep K (hd (hid A own') H') d v → D.rt v H'
def SS_ (f : SF) (st : Stmt) : Prop := ∀ A own env σ H out, EnvR X.K A own env σ H → f env = some out → ∀ D : Ends, Fol X.K A own H D out → WS X st D σ H
structure SS (f : SF) (st : Stmt) : Prop where
  run : SS_ X f st
instance coe_SS {X : Cx} {f : SF} {st : Stmt} : CoeFun (SS X f st) (fun _ => SS_ X f st) := ⟨fun h => h.run⟩
def SB_ (f : SF) (st : List Stmt) : Prop := ∀ A own env σ H out, EnvR X.K A own env σ H → f env = some out → ∀ D : Ends, Fol X.K A own H D out → WSs X st D σ H
structure SB (f : SF) (st : List Stmt) : Prop where
  run : SB_ X f st
instance coe_SB {X : Cx} {f : SF} {st : List Stmt} : CoeFun (SB X f st) (fun _ => SB_ X f st) := ⟨fun h => h.run⟩
end

section
variable {X : Cx}
theorem OpOk.step {K : PySem.W.Frag} {A : Amb} {own own' : Own} {H H' : Hp} {o : Opn} {v : V} (h : OpOk K A own H o v) (s : StpE A own H own' H') {env : En} {σ : St} (r : EnvR K A own' env σ H') {d : D} (q : res env o = some d) :
    View K (hd (hid A own') H') H' d v := by
  cases o with
  | inl d0 =>
    cases d0 with
    | loc j =>
      have h2 : Rep K (hd (hid A own') H') (.loc j) v := Rep.mono s.toStp.sub h
      have q2 : (match env.st[j]? with
        | some (.kup [d]) => some d
        | o => o) = some d := q
      split at q2
      · rename_i d1 e1
        cases q2
        obtain ⟨a, h1, t⟩ := r.ce j _ e1
        cases h2 with
        | loc h3 =>
          have e : own' (.inr j) = some _ := h3
          rw [h1] at e
          cases e
          cases t with
          | top t => cases t
          | frK g1 g2 g3 g4 g5 => exact .lkK g1 g2 g3 g4 g5
          | frT g1 g2 g3 g4 g5 => exact .lkT g1 g2 g3 g4 g5
      · rename_i hne
        obtain ⟨a, h1, t⟩ := r.ce j d q2
        cases h2 with
        | loc h3 =>
          have e : own' (.inr j) = some _ := h3
          rw [h1] at e
          cases e
          cases t with
          | top t =>
            refine .ow ?_ t
            cases t with
            | tup z _ => exact absurd z (r.nt a (.inr ⟨_, h1⟩) _)
            | _ => rfl
          | frK => exact absurd q2 (hne _)
          | frT => exact absurd q2 (hne _)
    | _ =>
      cases q
      exact .sc (Rep.mono s.toStp.sub h)
  | inr i =>
    obtain ⟨a, rfl, ha⟩ := h
    have q2 : (match env.sl[i]? with
      | some (some (_, .sh)) => none
      | some (some (d, _)) => if d.mut then some d else none
      | _ => none) = some d := q
    split at q2
    · cases q2
    · rename_i d1 f1 hf1 e1
      split at q2
      case isFalse => cases q2
      rename_i hm
      cases q2
      obtain ⟨a', h1, _, t⟩ := r.ow i _ f1 e1 (fun z => hf1 z)
      have := s.dr i a' h1
      rw [ha] at this
      cases this
      exact .ow hm t
    · cases q2
theorem OpsOk.step {K : PySem.W.Frag} {A : Amb} {own own' : Own} {H H' : Hp} (s : StpE A own H own' H') {env : En} {σ : St} (r : EnvR K A own' env σ H') : ∀ {os : List Opn} {vs : List V} {ds : List D}, OpsOk K A own H os vs → ress env os = some ds →
    Views K (hd (hid A own') H') H' ds vs
  | _, _, _, .nil, q => by cases q; exact .nil
  | o :: os, _, ds, .cons h t, q => by
    unfold ress at q
    split at q
    · rename_i d e
      cases q2 : ress env os with
      | none => rw [q2] at q; cases q
      | some ds' =>
        rw [q2] at q
        cases q
        exact .cons (h.step s r e) (OpsOk.step s r t q2)
    · cases q
/-- from what is known behind the operands: the end -/
theorem give {K : PySem.W.Frag} {A : Amb} {own own' : Own} {env' : En} {σ : St} {H H' : Hp} {fr : Bool} {d : D} {Q : VK} (s : StpE A own H own' H') (r : EnvR K A own' env' σ H')
    (k : ∀ v H'' own'', StpE A own H own'' H'' → Res K A own'' env' σ H H'' fr d v → Q v H'') : Give K (hd (hid A own') H') H' fr d Q where
  old := fun e v h => k v H' own' s ⟨r, h, fun z => by rw [e] at z; cases z⟩
  new := fun p o hp ho => by
    have r3 := r.sub (sub_new (o := o) hp)
    have np : ¬ hid A own' p := r.nhid hp
    have sb : VSub (hd (hid A own') H') (hd (hid (Plus A p) own') (upd H' p o)) := hd_mono (fun b u _ z => sub_new hp b u z) fun b u n e => by
      rintro ((z | z) | z)
      · exact n (.inl z)
      · exact absurd z (ne_of_none e hp)
      · exact n (.inr z)
    have sb2 : VSub (hd (hid A own') H') (hd (hid A own') (upd H' p o)) := hd_mono (fun b u _ z => sub_new hp b u z) fun b u n e => n
    have t := ho.top sb (upd_same (H := H') (a := p) (o := o))
    have t2 := ho.top sb2 (upd_same (H := H') (a := p) (o := o))
    refine k (.ref p) _ own' (s.trans ⟨Stp.new r hp, fun _ _ z => z⟩) ⟨r3, t2.rep (VSub.refl _) fun o' e => hd_some.mpr ⟨np, e⟩, fun _ m => ⟨p, rfl, s.toStp.back hp, r.new (o := o) hp (ho.nt m), t⟩⟩

/-! ### names -/
def fVar (i : Nat) : EF := fun env => match env.sl[i]? with
  | some (some (d, .sh)) => some (d, false, env)
  | some (some (d, _)) => some (d, false, env.set i (some (d, .sh)))
  | _ => none
def oVar (i : Nat) : OF := fun env => match env.sl[i]? with
  | some (some (d, .sh)) => some (.inl d, env)
  | some (some (_, _)) => some (.inr i, env)
  | _ => none
theorem set_self {α : Type} : ∀ {l : List α} {i : Nat} {x : α}, l[i]? = some x → l.set i x = l
  | [], _, _, h => by simp at h
  | a :: l, 0, x, h => by simp at h; subst h; rfl
  | a :: l, i + 1, x, h => by
    show a :: l.set i x = a :: l
    rw [set_self (by simpa using h)]
theorem se_var {i : Nat} {x : Str} {pos : Pos} (hN : X.N[i]? = some x) (hv : Vis X.env.scope x) (hd1 : (x == ("__debug__" : Str)) = false) (hcd : (x == ("__classdict__" : Str)) = false) : SE X (fVar i) (.Name x pos) := by
  refine ⟨?_⟩
  intro A own env σ H d fr env' r h Q k
  unfold fVar at h
  split at h
  · rename_i d0 e
    cases h
    obtain ⟨v, h1, h2⟩ := r.sh i _ e
    exact we_of (pe_var hN hv hd1 hcd) ⟨v, h1, k v H own StpE.refl ⟨r, h2, fun z => by cases z⟩⟩
  · rename_i d0 f0 hf0 e
    cases h
    obtain ⟨a, h1, h2, h3⟩ := r.ow i _ f0 e (fun z => hf0 z)
    have nh : ¬ hid A (own.drop i) a := by
      rintro (z | ⟨j, z⟩)
      · exact r.sep i a h1 z
      · obtain ⟨z1, z2⟩ := Own.drop_some.mp z
        exact z1 (r.inj j i a z2 h1)
    have q : Rep X.K (hd (hid A (own.drop i)) H) d (.ref a) := h3.rep (hd_mono (fun _ _ _ z => z) fun b u n _ z => n (hid_drop z)) fun o e => hd_some.mpr ⟨nh, e⟩
    have r2 := r.setSh q
    rw [set_self h2] at r2
    exact we_of (pe_var hN hv hd1 hcd) ⟨_, h2, k _ H (own.drop i) ⟨Stp.drop, fun j b z => (Own.drop_some.mp z).2⟩ ⟨r2, q, fun z => by cases z⟩⟩
  · cases h
theorem so_var {i : Nat} {x : Str} {pos : Pos} (hN : X.N[i]? = some x) (hv : Vis X.env.scope x) (hd1 : (x == ("__debug__" : Str)) = false) (hcd : (x == ("__classdict__" : Str)) = false) : SO X (oVar i) (.Name x pos) := by
  refine ⟨?_⟩
  intro A own env σ H o env' r h Q k
  unfold oVar at h
  split at h
  · rename_i d0 e
    cases h
    obtain ⟨v, h1, h2⟩ := r.sh i _ e
    exact we_of (pe_var hN hv hd1 hcd) ⟨v, h1, k v H own StpE.refl r h2⟩
  · rename_i d0 f0 hf0 e
    cases h
    obtain ⟨a, h1, h2, h3⟩ := r.ow i _ f0 e (fun z => hf0 z)
    exact we_of (pe_var hN hv hd1 hcd) ⟨_, h2, k _ H own StpE.refl r ⟨a, rfl, h1⟩⟩
  · cases h
def oE (f : EF) : OF := fun env => match f env with
  | some (d, _, env') => some (.inl d, env')
  | none => none
theorem so_e {f : EF} {e : Expr} (h : SE X f e) : SO X (oE f) e := by
  refine ⟨?_⟩
  intro A own env σ H o env' r q Q k
  unfold oE at q
  split at q
  · rename_i d fr env1 e1
    cases q
    exact h A own env σ H d fr env' r e1 Q fun v H' own' s R => k v H' own' s R.en R.rp
  · cases q

/-! ### constants -/
def fCon (d : D) : EF := fun env => some (d, false, env)
theorem se_con {e : Expr} {v : V} {d : D} (h : PE X e (tC v)) (q : ∀ H, Rep X.K H d v) : SE X (fCon d) e := by
  refine ⟨?_⟩
  intro A own env σ H d' fr env' r h' Q k
  cases h'
  exact we_of h (k v H own StpE.refl ⟨r, q _, fun z => by cases z⟩)
theorem se_int {i : Int} {j pos} : SE X (fCon (.int i)) (.Constant (.int i) j pos) := se_con pe_int fun _ => .int i
theorem se_str {i : Str} {j pos} : SE X (fCon (.str i)) (.Constant (.str i) j pos) := se_con pe_str fun _ => .str i
theorem se_bl {i : Bool} {j pos} : SE X (fCon (.bl i)) (.Constant (.bool i) j pos) := se_con pe_bl fun _ => .bl i
theorem se_non {j pos} : SE X (fCon .non) (.Constant .none j pos) := se_con pe_non fun _ => .non

/-! ### two operands -/
def fOp2 (p : D → D → Option (D × Bool)) (f g : OF) : EF := fun env => match f env with
  | some (x, e1) => match g e1 with
    | some (y, e2) => match res e2 x, res e2 y with
      | some dx, some dy => match p dx dy with
        | some (d, fr) => some (d, fr, e2)
        | none => none
      | _, _ => none
    | none => none
  | none => none
def P2 (X : Cx) (r : R2) (p : D → D → Option (D × Bool)) : Prop := ∀ (Hh : Vw) (H : Hp) (x y : D) (v u : V) (d : D) (fr : Bool) (Q : VK), Sub Hh H → View X.K Hh H x v → View X.K Hh H y u → p x y = some (d, fr) → Give X.K Hh H fr d Q → r v u H Q
theorem se_op2 {r : R2} {p : D → D → Option (D × Bool)} {f g : OF} {a b e : Expr} (hf : SO X f a) (hg : SO X g b) (hp : P2 X r p) (he : ∀ ta tb, PE X a ta → PE X b tb → PE X e (tOp r ta tb)) : SE X (fOp2 p f g) e := by
  refine ⟨?_⟩
  intro A own env σ H d fr env' R h Q k
  unfold fOp2 at h
  split at h
  · rename_i x e1 h1
    split at h
    · rename_i y e2 h2
      split at h
      · rename_i dx dy hx hy
        split at h
        · rename_i d' fr' hpp
          cases h
          refine we_of (he _ _ pe_w pe_w) (hf A own env σ H x e1 R h1 _ fun v H1 own1 s1 R1 o1 => hg A own1 e1 σ H1 y env' R1 h2 _ fun u H2 own2 s2 R2 o2 => ?_)
          exact hp _ H2 dx dy v u d fr Q hd_sub (o1.step s2 R2 hx) (o2.step StpE.refl R2 hy) hpp (give (s1.trans s2) R2 k)
        · cases h
      · cases h
    · cases h
  · cases h
theorem se_bin {op : Operator} {r : R2} {p : D → D → Option (D × Bool)} {f g : OF} {a b : Expr} {pos : Pos} (ho : OpR X (binaryOp op) r) (hp : P2 X r p) (hf : SO X f a) (hg : SO X g b) : SE X (fOp2 p f g) (.BinOp a op b pos) :=
  se_op2 hf hg hp fun _ _ h1 h2 => pe_op ho h1 h2
theorem se_cmp {op : CmpOp} {r : R2} {p : D → D → Option (D × Bool)} {f g : OF} {a b : Expr} {pos : Pos} (ho : OpR X (compareOp op) r) (hp : P2 X r p) (hf : SO X f a) (hg : SO X g b) (hm : behindInMarks op b = false) : SE X (fOp2 p f g) (.Compare a [op] [b] pos) :=
  se_op2 hf hg hp fun _ _ h1 h2 => pe_cmpR ho h1 h2 hm
theorem se_ix {r : R2} {p : D → D → Option (D × Bool)} {f g : OF} {a b : Expr} {pos : Pos} (ho : IxR X r) (hp : P2 X r p) (hf : SO X f a) (hg : SO X g b) (hs : PlainIx b) : SE X (fOp2 p f g) (.Subscript a b pos) :=
  se_op2 hf hg hp fun _ _ h1 h2 => pe_ix ho h1 h2 hs
end
end Dz
/-! DzPrim: operations on data: +, -, *, //, %, **, comparisons, in, subscripts, len, list, tuple, int, str, max, min, all, any, abs, sum. -/
namespace Dz
open PySem L2

mutual
def D.toP : D → Option PyData
  | .non => some .none
  | .bl b => some (.bool b)
  | .int i => some (.int i)
  | .str s => some (.str s)
  | .tup xs => match D.toPs xs with
    | some ps => some (.tuple ps)
    | none => none
  | .kup xs => match D.toPs xs with
    | some ps => some (.tuple ps)
    | none => none
  | .lst xs => match D.toPs xs with
    | some ps => some (.list ps)
    | none => none
  | .flz xs => match D.toPs xs with
    | some ps => some (.list ps)
    | none => none
  | _ => none
def D.toPs : List D → Option (List PyData)
  | [] => some []
  | x :: xs => match D.toP x with
    | some p => match D.toPs xs with
      | some ps => some (p :: ps)
      | none => none
    | none => none
end
mutual
theorem Rep.dp {K : PySem.W.Frag} {H : Vw} : ∀ {d : D} {v : V} {p : PyData}, Rep K H d v → d.toP = some p → Dp K H v p
  | _, _, _, .non, e => by simp only [D.toP] at e; cases e; exact .non
  | _, _, _, .bl b, e => by simp only [D.toP] at e; cases e; exact .bl b
  | _, _, _, .int i, e => by simp only [D.toP] at e; cases e; exact .int i
  | _, _, _, .str s, e => by simp only [D.toP] at e; cases e; exact .str s
  | _, _, _, .ty n, e => by simp only [D.toP] at e; cases e
  | .tup xs, _, _, .tup h r, e => by
    simp only [D.toP] at e
    cases q : D.toPs xs with
    | none => rw [q] at e; cases e
    | some ps => rw [q] at e; cases e; exact .tup (.inl (.inl h)) (RepL.dp r q)
  | .kup xs, _, _, .kup h r, e => by
    simp only [D.toP] at e
    cases q : D.toPs xs with
    | none => rw [q] at e; cases e
    | some ps => rw [q] at e; cases e; exact .tup h (RepL.dp r q)
  | .lst xs, _, _, .lst h r, e => by
    simp only [D.toP] at e
    cases q : D.toPs xs with
    | none => rw [q] at e; cases e
    | some ps => rw [q] at e; cases e; exact .lst (.inl (.inl h)) (RepL.dp r q)
  | .flz xs, _, _, .flz h r, e => by
    simp only [D.toP] at e
    cases q : D.toPs xs with
    | none => rw [q] at e; cases e
    | some ps => rw [q] at e; cases e; exact .lst h (RepL.dp r q)
  | _, _, _, .dicK _ _ _ _ _, e => by simp only [D.toP] at e; cases e
  | _, _, _, .dicT _ _ _ _ _, e => by simp only [D.toP] at e; cases e
  | _, _, _, .ins _ _ _, e => by simp only [D.toP] at e; cases e
  | _, _, _, .loc _, e => by simp only [D.toP] at e; cases e
theorem RepL.dp {K : PySem.W.Frag} {H : Vw} : ∀ {ds : List D} {vs : List V} {ps : List PyData}, RepL K H ds vs → D.toPs ds = some ps → DpAll K H vs ps
  | _, _, _, .nil, e => by simp only [D.toPs] at e; cases e; exact .nil
  | x :: xs, _, _, .cons h r, e => by
    simp only [D.toPs] at e
    cases q1 : D.toP x with
    | none => rw [q1] at e; cases e
    | some p =>
      rw [q1] at e
      cases q2 : D.toPs xs with
      | none => rw [q2] at e; cases e
      | some ps => rw [q2] at e; cases e; exact .cons (Rep.dp h q1) (RepL.dp r q2)
end
abbrev Pr2 := D → D → Option (D × Bool)
def por (p q : Pr2) : Pr2 := fun x y => match p x y with
  | some z => some z
  | none => q x y
section
variable {X : Cx}
theorem P2.or {r r' : R2} {p p' : Pr2} (h : P2 X r p) (h' : P2 X r' p') : P2 X (fun x y H Q => r x y H Q ∨ r' x y H Q) (por p p') := by
  intro Hh H x y v u d fr Q e vx vy q g
  unfold por at q
  split at q
  · rename_i z e1
    cases q
    exact .inl (h Hh H x y v u d fr Q e vx vy e1 g)
  · exact .inr (h' Hh H x y v u d fr Q e vx vy q g)
/-! ### ints -/
def pI (C : Int → Int → Bool) (g : Int → Int → D) : Pr2 := fun x y => match x, y with
  | .int i, .int j => if C i j then some (g i j, false) else none
  | _, _ => none
theorem p2_I {C : Int → Int → Prop} {c : Int → Int → Bool} {g : Int → Int → V} {g' : Int → Int → D} (hc : ∀ i j, c i j = true → C i j) (hg : ∀ K H i j, Rep K H (g' i j) (g i j)) : P2 X (rI C g) (pI c g') := by
  intro Hh H x y v u d fr Q e vx vy q gv
  cases x <;> first | (cases q; done) | skip
  cases y <;> first | (cases q; done) | skip
  rename_i i j
  have q2 : (if c i j = true then some (g' i j, false) else none) = some (d, fr) := q
  split at q2
  · rename_i hcc
    cases q2
    rw [vx.int, vy.int]
    exact ⟨i, j, rfl, rfl, hc i j hcc, gv.old rfl _ (hg _ _ i j)⟩
  · cases q2
theorem p2_I0 {g : Int → Int → V} {g' : Int → Int → D} (hg : ∀ K H i j, Rep K H (g' i j) (g i j)) : P2 X (rI0 g) (pI (fun _ _ => true) g') := by
  intro Hh H x y v u d fr Q e vx vy q gv
  cases x <;> first | (cases q; done) | skip
  cases y <;> first | (cases q; done) | skip
  rename_i i j
  cases q
  rw [vx.int, vy.int]
  exact ⟨i, j, rfl, rfl, gv.old rfl _ (hg _ _ i j)⟩
def pT : Int → Int → Bool := fun _ _ => true
def pAddI : Pr2 := pI (fun _ _ => true) fun i j => .int (i + j)
def pSub : Pr2 := pI (fun _ _ => true) fun i j => .int (i - j)
def pMul : Pr2 := pI (fun i j => (decide (-(2 ^ 64) < i) && decide (i < 2 ^ 64)) || (decide (-(2 ^ 64) < j) && decide (j < 2 ^ 64))) fun i j => .int (i * j)
def pFdiv : Pr2 := pI (fun _ j => decide (0 < j) && decide (j < 1073741824)) fun i j => .int (i / j)
def pMod : Pr2 := pI (fun _ j => decide (0 < j)) fun i j => .int (i % j)
def pPow : Pr2 := pI (fun i j => decide (0 ≤ j) && decide (j ≤ 100) && decide (i.natAbs < 2 ^ 64)) fun i j => .int (i ^ j.toNat)
def pLt : Pr2 := pI (fun _ _ => true) fun i j => .bl (decide (i < j))
def pLe : Pr2 := pI (fun _ _ => true) fun i j => .bl (decide (i ≤ j))
def pGt : Pr2 := pI (fun _ _ => true) fun i j => .bl (decide (j < i))
def pGe : Pr2 := pI (fun _ _ => true) fun i j => .bl (decide (j ≤ i))
theorem p2_addI : P2 X (rI0 fun i j => .int (i + j)) pAddI := p2_I0 fun _ _ _ _ => .int _
theorem p2_sub : P2 X (rI0 fun i j => .int (i - j)) pSub := p2_I0 fun _ _ _ _ => .int _
theorem p2_mul : P2 X (rI CMul fun i j => .int (i * j)) pMul := p2_I (fun i j h => by
  simp only [Bool.or_eq_true, Bool.and_eq_true, decide_eq_true_eq] at h
  exact h) fun _ _ _ _ => .int _
theorem p2_fdiv : P2 X (rI CDiv fun i j => .int (i / j)) pFdiv := p2_I (fun i j h => by
  simp only [Bool.and_eq_true, decide_eq_true_eq] at h
  exact h) fun _ _ _ _ => .int _
theorem p2_mod : P2 X (rI (fun _ j => 0 < j) fun i j => .int (i % j)) pMod := p2_I (fun i j h => by
  simp only [decide_eq_true_eq] at h
  exact h) fun _ _ _ _ => .int _
theorem p2_pow : P2 X (rI CPow fun i j => .int (i ^ j.toNat)) pPow := p2_I (fun i j h => by
  simp only [Bool.and_eq_true, decide_eq_true_eq] at h
  exact ⟨h.1.1, by omega, h.2⟩) fun _ _ _ _ => .int _
theorem p2_lt : P2 X (rI0 fun i j => .bl (decide (i < j))) pLt := p2_I0 fun _ _ _ _ => .bl _
theorem p2_le : P2 X (rI0 fun i j => .bl (decide (i ≤ j))) pLe := p2_I0 fun _ _ _ _ => .bl _
theorem p2_gt : P2 X (rI0 fun i j => .bl (decide (j < i))) pGt := p2_I0 fun _ _ _ _ => .bl _
theorem p2_ge : P2 X (rI0 fun i j => .bl (decide (j ≤ i))) pGe := p2_I0 fun _ _ _ _ => .bl _
/-! ### + of texts, lists, tuples -/
def pAddS : Pr2 := fun x y => match x, y with
  | .str i, .str j => if i.length + j.length ≤ 100000 then some (.str (i ++ j), false) else none
  | _, _ => none
theorem line_of {n : Nat} (h : n ≤ 100000) : n ≤ sizeLine := Nat.le_trans h (by decide)
theorem p2_addS : P2 X (fun x y H Q => ∃ i j, x = .str i ∧ y = .str j ∧ i.length + j.length ≤ sizeLine ∧ Q (.str (i ++ j)) H) pAddS := by
  intro Hh H x y v u d fr Q e vx vy q gv
  cases x <;> first | (cases q; done) | skip
  cases y <;> first | (cases q; done) | skip
  rename_i i j
  have q2 : (if i.length + j.length ≤ 100000 then some (D.str (i ++ j), false) else none) = some (d, fr) := q
  split at q2
  · rename_i hl
    cases q2
    rw [vx.str, vy.str]
    exact ⟨i, j, rfl, rfl, line_of hl, gv.old rfl _ (.str _)⟩
  · cases q2
def pCatL : Pr2 := fun x y => match x, y with
  | .lst i, .lst j => if i.length + j.length ≤ 100000 then some (.lst (i ++ j), true) else none
  | _, _ => none
theorem p2_catL : P2 X rCat pCatL := by
  intro Hh H x y v u d fr Q e vx vy q gv
  cases x <;> first | (cases q; done) | skip
  cases y <;> first | (cases q; done) | skip
  rename_i i j
  have q2 : (if i.length + j.length ≤ 100000 then some (D.lst (i ++ j), true) else none) = some (d, fr) := q
  split at q2
  · rename_i hl
    cases q2
    obtain ⟨a, vs, rfl, h1, r1⟩ := vx.lst e
    obtain ⟨b, us, rfl, h2, r2⟩ := vy.lst e
    exact ⟨a, b, vs, us, rfl, rfl, h1, h2, by rw [← r1.length, ← r2.length]; exact line_of hl, fun p hp => gv.new p _ hp (.lst (r1.append r2))⟩
  · cases q2
def pCatT : Pr2 := fun x y => match x.asTup, y.asTup with
  | some i, some j => if i.length + j.length ≤ 100000 then if i.isEmpty then some (y, false) else if j.isEmpty then some (x, false) else some (.tup (i ++ j), false) else none
  | _, _ => none
theorem p2_catT : P2 X (rCatA X.K) pCatT := by
  intro Hh H x y v u d fr Q e vx vy q gv
  unfold pCatT at q
  split at q
  · rename_i i j hi hj
    split at q
    · rename_i hl
      have k1 := vx.sh (asTup_mut hi)
      have k2 := vy.sh (asTup_mut hj)
      obtain ⟨a, vs, rfl, h1, r1⟩ := vx.tup hi e
      obtain ⟨b, us, rfl, h2, r2⟩ := vy.tup hj e
      have e1 : vs = [] ↔ i = [] := by
        cases r1 with
        | nil => exact ⟨fun _ => rfl, fun _ => rfl⟩
        | cons _ _ => exact ⟨fun z => (nomatch z), fun z => (nomatch z)⟩
      have e2 : us = [] ↔ j = [] := by
        cases r2 with
        | nil => exact ⟨fun _ => rfl, fun _ => rfl⟩
        | cons _ _ => exact ⟨fun z => (nomatch z), fun z => (nomatch z)⟩
      refine ⟨a, b, vs, us, rfl, rfl, h1, h2, by rw [← r1.length, ← r2.length]; exact line_of hl, fun z => ?_, fun z0 z => ?_, fun z0 z p hp => ?_⟩
      · rw [e1.mp z] at q
        cases q
        exact gv.old rfl _ k2
      · have h0 : i.isEmpty = false := by
          cases i with
          | nil => exact absurd (e1.mpr rfl) z0
          | cons _ _ => rfl
        rw [h0, e2.mp z] at q
        cases q
        exact gv.old rfl _ k1
      · have h0 : i.isEmpty = false := by
          cases i with
          | nil => exact absurd (e1.mpr rfl) z0
          | cons _ _ => rfl
        have h9 : j.isEmpty = false := by
          cases j with
          | nil => exact absurd (e2.mpr rfl) z
          | cons _ _ => rfl
        rw [h0, h9] at q
        cases q
        exact gv.new p _ hp (.tup (r1.append r2))
    · cases q
  · cases q
def pAdd : Pr2 := por pAddI (por pAddS (por pCatL pCatT))
def rAddA (X : Cx) : R2 := fun x y H Q => (rI0 fun i j => .int (i + j)) x y H Q ∨ ((fun x y H Q => ∃ i j, x = .str i ∧ y = .str j ∧ i.length + j.length ≤ sizeLine ∧ Q (.str (i ++ j)) H) : R2) x y H Q ∨ rCat x y H Q ∨ rCatA X.K x y H Q
theorem op_addA : OpR X (binaryOp .Add) (rAddA X) := OpR.or op_add (OpR.or op_add_str (OpR.or op_cat op_catA))
theorem p2_add : P2 X (rAddA X) pAdd := P2.or p2_addI (P2.or p2_addS (P2.or p2_catL p2_catT))
/-! ### ==, !=, is None -/
def pEqv (n : Bool) : Pr2 := fun x y => match x.toP, y.toP with
  | some p, some q => if SeqAt.shaped p && SeqAt.shaped q then some (.bl (if n then !PyData.eqv p q else PyData.eqv p q), false) else none
  | _, _ => none
theorem p2_eq : P2 X (rEqD X.K) (pEqv false) := by
  intro Hh H x y v u d fr Q e vx vy q gv
  unfold pEqv at q
  split at q
  · rename_i p1 p2 h1 h2
    split at q
    · rename_i hs
      cases q
      obtain ⟨s1, s2⟩ := Bool.and_eq_true_iff.mp hs
      exact ⟨p1, p2, (vx.rep e).dp h1, (vy.rep e).dp h2, s1, s2, gv.old rfl _ (.bl _)⟩
    · cases q
  · cases q
theorem p2_ne : P2 X (rNeD X.K) (pEqv true) := by
  intro Hh H x y v u d fr Q e vx vy q gv
  unfold pEqv at q
  split at q
  · rename_i p1 p2 h1 h2
    split at q
    · rename_i hs
      cases q
      obtain ⟨s1, s2⟩ := Bool.and_eq_true_iff.mp hs
      exact ⟨p1, p2, (vx.rep e).dp h1, (vy.rep e).dp h2, s1, s2, gv.old rfl _ (.bl _)⟩
    · cases q
  · cases q
/-! ### in -/
def pInL (n : Bool) : Pr2 := fun x y => match y with
  | .lst ys => match x.toP, D.toPs ys with
    | some p, some ps => if SeqAt.shaped p && SeqAt.shaped (.list ps) then some (.bl (if n then !(ps.any fun z => PyData.eqv z p) else ps.any fun z => PyData.eqv z p), false) else none
    | _, _ => none
  | _ => none
theorem p2_inL : P2 X (rInD X.K) (pInL false) := by
  intro Hh H x y v u d fr Q e vx vy q gv
  unfold pInL at q
  split at q
  · rename_i ys
    split at q
    · rename_i p ps h1 h2
      split at q
      · rename_i hs
        cases q
        obtain ⟨s1, s2⟩ := Bool.and_eq_true_iff.mp hs
        obtain ⟨a, vs, rfl, h3, r3⟩ := vy.lst e
        exact ⟨p, ps, (vx.rep e).dp h1, .lst (.inl (.inl h3)) ((r3.mono e.on).dp h2), s1, s2, gv.old rfl _ (.bl _)⟩
      · cases q
    · cases q
  · cases q
theorem p2_ninL : P2 X (rNotInD X.K) (pInL true) := by
  intro Hh H x y v u d fr Q e vx vy q gv
  unfold pInL at q
  split at q
  · rename_i ys
    split at q
    · rename_i p ps h1 h2
      split at q
      · rename_i hs
        cases q
        obtain ⟨s1, s2⟩ := Bool.and_eq_true_iff.mp hs
        obtain ⟨a, vs, rfl, h3, r3⟩ := vy.lst e
        exact ⟨p, ps, (vx.rep e).dp h1, .lst (.inl (.inl h3)) ((r3.mono e.on).dp h2), s1, s2, gv.old rfl _ (.bl _)⟩
      · cases q
    · cases q
  · cases q
/-- flat data as values -/
def D.flat : D → Option V
  | .non => some .non
  | .bl b => some (.bl b)
  | .int i => some (.int i)
  | .str s => some (.str s)
  | _ => none
def D.flats : List D → Option (List V)
  | [] => some []
  | x :: xs => match x.flat, D.flats xs with
    | some v, some vs => some (v :: vs)
    | _, _ => none
theorem Rep.flat {K : PySem.W.Frag} {H : Vw} {d : D} {v u : V} (h : Rep K H d v) (e : d.flat = some u) : v = u ∧ flatV v = true := by
  cases h <;> simp only [D.flat] at e <;> cases e <;> exact ⟨rfl, rfl⟩
theorem RepL.flats {K : PySem.W.Frag} {H : Vw} : ∀ {ds : List D} {vs us : List V}, RepL K H ds vs → D.flats ds = some us → vs = us ∧ vs.all flatV = true
  | _, _, _, .nil, e => by cases e; exact ⟨rfl, rfl⟩
  | _, _, _, .cons h r, e => by
    unfold D.flats at e
    split at e
    · rename_i v1 vs1 e1 e2
      cases e
      obtain ⟨a1, a2⟩ := h.flat e1
      obtain ⟨b1, b2⟩ := r.flats e2
      subst a1 b1
      exact ⟨rfl, by rw [List.all_cons, a2, b2]; rfl⟩
    · cases e
def pInT (n : Bool) : Pr2 := fun x y => match y.asTup with
  | some ys => match x.flat, D.flats ys with
    | some v, some vs => some (.bl (if n then !inV v vs else inV v vs), false)
    | _, _ => none
  | _ => none
theorem p2_inT (n : Bool) : P2 X (rIn X.K n) (pInT n) := by
  intro Hh H x y v u d fr Q e vx vy q gv
  unfold pInT at q
  split at q
  · rename_i ys hy
    split at q
    · rename_i v1 vs1 h1 h2
      cases q
      obtain ⟨a, vs, rfl, h3, r3⟩ := vy.tup hy e
      obtain ⟨rfl, f1⟩ := (vx.rep e).flat h1
      obtain ⟨rfl, f2⟩ := r3.flats h2
      exact ⟨a, vs, rfl, .inr h3, f1, f2, gv.old rfl _ (.bl _)⟩
    · cases q
  · cases q
/-! ### subscripts -/
theorem RepL.atI {K : PySem.W.Frag} {H : Vw} {ds : List D} {vs : List V} {i : Int} {d : D} (r : RepL K H ds vs) (h : L2.atI ds i = some d) : ∃ v, L2.atI vs i = some v ∧ Rep K H d v := by
  unfold L2.atI at h ⊢
  rw [← r.length]
  cases q : ixN ds.length i with
  | none => rw [q] at h; cases h
  | some j =>
    rw [q] at h
    exact r.get h
def pIxL : Pr2 := fun x y => match x, y with
  | .lst xs, .int i => match L2.atI xs i with
    | some d => some (d, false)
    | none => none
  | .flz xs, .int i => match L2.atI xs i with
    | some d => some (d, false)
    | none => none
  | _, _ => none
def pIxT : Pr2 := fun x y => match x.asTup, y with
  | some xs, .int i => match L2.atI xs i with
    | some d => some (d, false)
    | none => none
  | _, _ => none
theorem p2_ixL : P2 X (rIxL X.K) pIxL := by
  intro Hh H x y v u d fr Q e vx vy q gv
  unfold pIxL at q
  split at q
  · rename_i xs i
    split at q
    · rename_i d1 h1
      cases q
      obtain ⟨a, vs, rfl, h3, r3⟩ := vx.lst e
      obtain ⟨w, h4, h5⟩ := r3.atI h1
      rw [vy.int]
      exact ⟨a, vs, i, w, rfl, rfl, .inl (.inl h3), h4, gv.old rfl _ h5⟩
    · cases q
  · rename_i xs i
    split at q
    · rename_i d1 h1
      cases q
      obtain ⟨a, vs, rfl, h3, r3⟩ := vx.flz e
      obtain ⟨w, h4, h5⟩ := r3.atI h1
      rw [vy.int]
      exact ⟨a, vs, i, w, rfl, rfl, h3, h4, gv.old rfl _ h5⟩
    · cases q
  · cases q
theorem p2_ixT : P2 X (rIxT X.K) pIxT := by
  intro Hh H x y v u d fr Q e vx vy q gv
  unfold pIxT at q
  split at q
  · rename_i xs i hx
    split at q
    · rename_i d1 h1
      cases q
      obtain ⟨a, vs, rfl, h3, r3⟩ := vx.tup hx e
      obtain ⟨w, h4, h5⟩ := r3.atI h1
      rw [vy.int]
      exact ⟨a, vs, i, w, rfl, rfl, h3, h4, gv.old rfl _ h5⟩
    · cases q
  · cases q
def pIx : Pr2 := por pIxL pIxT
def rIxA (X : Cx) : R2 := fun x y H Q => rIxL X.K x y H Q ∨ rIxT X.K x y H Q
theorem ix_A : IxR X (rIxA X) := IxR.or ix_list ix_tup
theorem p2_ix : P2 X (rIxA X) pIx := P2.or p2_ixL p2_ixT
end
end Dz
/-! DzTerm: operand lists, calls of built-ins, displays, tests, and | or | not, a if t else b. -/
namespace Dz
open PySem L2
abbrev PrN := List D → Option (D × Bool)
def PN (X : Cx) (r : List V → Hp → VK → Prop) (p : PrN) : Prop := ∀ (Hh : Vw) (H : Hp) (ds : List D) (vs : List V) (d : D) (fr : Bool) (Q : VK), Sub Hh H → Views X.K Hh H ds vs → p ds = some (d, fr) → Give X.K Hh H fr d Q → r vs H Q
theorem OpOk.keep {K : PySem.W.Frag} {A : Amb} {own own' : Own} {H H' : Hp} {o : Opn} {v : V} (h : OpOk K A own H o v) (s : StpE A own H own' H') {env : En} {σ : St} (r : EnvR K A own' env σ H') (q : (res env o).isSome = true) : OpOk K A own' H' o v := by
  cases o with
  | inl d => exact Rep.mono s.toStp.sub h
  | inr i =>
    obtain ⟨a, rfl, ha⟩ := h
    have q2 : (match env.sl[i]? with
      | some (some (_, .sh)) => none
      | some (some (d, _)) => if d.mut then some d else none
      | _ => none).isSome = true := q
    split at q2
    · cases q2
    · rename_i d1 f1 hf1 e1
      obtain ⟨a', h1, _, t⟩ := r.ow i _ f1 e1 (fun z => hf1 z)
      have := s.dr i a' h1
      rw [ha] at this
      cases this
      exact ⟨a, rfl, h1⟩
    · cases q2
section
variable {X : Cx}
def lNil : LF := fun env => some ([], env)
def lCons (f : OF) (g : LF) : LF := fun env => match f env with
  | some (o, e1) => match g e1 with
    | some (os, e2) => if (res e2 o).isSome then some (o :: os, e2) else none
    | none => none
  | none => none
theorem sl_nil : SL X lNil [] := by
  refine ⟨?_⟩
  intro A own env σ H os env' r h Q k
  cases h
  exact wa_of pa_nil (k [] H own StpE.refl r .nil)
theorem sl_cons {f : OF} {g : LF} {e : Expr} {es : List Expr} (hf : SO X f e) (hg : SL X g es) (hs : starEach (e :: es) X.env = (false, eval e X.env) :: starEach es X.env) : SL X (lCons f g) (e :: es) := by
  refine ⟨?_⟩
  intro A own env σ H os env' r h Q k
  unfold lCons at h
  split at h
  · rename_i o e1 h1
    split at h
    · rename_i os2 e2 h2
      split at h
      · rename_i hr
        cases h
        exact wa_of (pa_cons pe_w pa_w hs) (hf A own env σ H o e1 r h1 _ fun v H1 own1 s1 R1 o1 => hg A own1 e1 σ H1 os2 env' R1 h2 _ fun vs H2 own2 s2 R2 o2 => k (v :: vs) H2 own2 (s1.trans s2) R2 (.cons (o1.keep s2 R2 hr) o2))
      · cases h
    · cases h
  · cases h
/-- an operation on operands -/
def fPrim (p : PrN) (f : LF) : EF := fun env => match f env with
  | some (os, e1) => match ress e1 os with
    | some ds => match p ds with
      | some (d, fr) => some (d, fr, e1)
      | none => none
    | none => none
  | none => none
theorem se_prim {r : List V → Hp → VK → Prop} {p : PrN} {f : LF} {es : List Expr} {e : Expr} (hf : SL X f es) (hp : PN X r p) (he : PE X e (tCB r (WA X es))) : SE X (fPrim p f) e := by
  refine ⟨?_⟩
  intro A own env σ H d fr env' R h Q k
  unfold fPrim at h
  split at h
  · rename_i os e1 h1
    split at h
    · rename_i ds hd
      split at h
      · rename_i d' fr' hpp
        cases h
        refine we_of he (hf A own env σ H os env' R h1 _ fun vs H1 own1 s1 R1 o1 => ?_)
        exact hp _ H1 ds vs d fr Q hd_sub (o1.step StpE.refl R1 hd) hpp (give s1 R1 k)
      · cases h
    · cases h
  · cases h
/-! ### items -/
def aNil : AF := fun env => some ([], env)
def aCons (f : EF) (g : AF) : AF := fun env => match f env with
  | some (d, _, e1) => match g e1 with
    | some (ds, e2) => some (d :: ds, e2)
    | none => none
  | none => none
theorem sa_nil : SA X aNil [] := by
  refine ⟨?_⟩
  intro A own env σ H os env' r h Q k
  cases h
  exact wa_of pa_nil (k [] H own StpE.refl r .nil)
theorem sa_cons {f : EF} {g : AF} {e : Expr} {es : List Expr} (hf : SE X f e) (hg : SA X g es) (hs : starEach (e :: es) X.env = (false, eval e X.env) :: starEach es X.env) : SA X (aCons f g) (e :: es) := by
  refine ⟨?_⟩
  intro A own env σ H ds env' r h Q k
  unfold aCons at h
  split at h
  · rename_i d fr e1 h1
    split at h
    · rename_i ds2 e2 h2
      cases h
      exact wa_of (pa_cons pe_w pa_w hs) (hf A own env σ H d fr e1 r h1 _ fun v H1 own1 s1 R1 => hg A own1 e1 σ H1 ds2 env' R1.en h2 _ fun vs H2 own2 s2 R2 o2 => k (v :: vs) H2 own2 (s1.trans s2) R2 (.cons (R1.rp.mono s2.toStp.sub) o2))
    · cases h
  · cases h
def fTup (f : AF) : EF := fun env => match f env with
  | some (ds, e1) => if ds.length ≤ 100000 then some (.tup ds, false, e1) else none
  | none => none
def fLst (f : AF) : EF := fun env => match f env with
  | some (ds, e1) => if ds.length ≤ 100000 then some (.lst ds, true, e1) else none
  | none => none
theorem se_tup {f : AF} {es : List Expr} {x1 pos} (hf : SA X f es) : SE X (fTup f) (.Tuple es x1 pos) := by
  refine ⟨?_⟩
  intro A own env σ H d fr env' R h Q k
  unfold fTup at h
  split at h
  · rename_i ds e1 h1
    split at h
    · rename_i hl
      cases h
      exact we_of (pe_tup pa_w) (hf A own env σ H ds env' R h1 _ fun vs H1 own1 s1 R1 o1 => ⟨by rw [← o1.length]; exact line_of hl, fun p hp => (give s1 R1 k).new p _ hp (.tup o1)⟩)
    · cases h
  · cases h
theorem se_lst {f : AF} {es : List Expr} {pos} (hf : SA X f es) : SE X (fLst f) (.List es pos) := by
  refine ⟨?_⟩
  intro A own env σ H d fr env' R h Q k
  unfold fLst at h
  split at h
  · rename_i ds e1 h1
    split at h
    · rename_i hl
      cases h
      exact we_of (pe_lst pa_w) (hf A own env σ H ds env' R h1 _ fun vs H1 own1 s1 R1 o1 => ⟨by rw [← o1.length]; exact line_of hl, fun p hp => (give s1 R1 k).new p _ hp (.lst o1)⟩)
    · cases h
  · cases h
/-! ### truth, tests -/
def D.tru : D → Option Bool
  | .non => some false
  | .bl b => some b
  | .int i => some (i != 0)
  | .str s => if s.length ≤ 100000 then some ((s.length : Int) != 0) else none
  | .tup xs => some (!xs.isEmpty)
  | .kup xs => some (!xs.isEmpty)
  | .lst xs => some (!xs.isEmpty)
  | _ => none
theorem empty_of {K : PySem.W.Frag} {H : Vw} {xs : List D} {vs : List V} (r : RepL K H xs vs) : (!xs.isEmpty) = !vs.isEmpty := by
  cases r <;> rfl
theorem View.tru {K : PySem.W.Frag} {Hh : Vw} {H : Hp} {d : D} {v : V} {b : Bool} (h : View K Hh H d v) (e : Sub Hh H) (q : d.tru = some b) : TruV K v H b := by
  cases d with
  | non => cases q; rw [h.non]; rfl
  | bl c => cases q; rw [h.bl]; rfl
  | int i => cases q; rw [h.int]; rfl
  | str s =>
    have q2 : (if s.length ≤ 100000 then some ((s.length : Int) != 0) else none) = some b := q
    split at q2
    · rename_i hl
      cases q2
      rw [h.str]
      exact ⟨line_of hl, rfl⟩
    · cases q2
  | tup xs =>
    cases q
    obtain ⟨a, vs, rfl, h1, r⟩ := h.tup rfl e
    exact .inr (.inl ⟨vs, h1, empty_of r⟩)
  | kup xs =>
    cases q
    obtain ⟨a, vs, rfl, h1, r⟩ := h.tup rfl e
    exact .inr (.inl ⟨vs, h1, empty_of r⟩)
  | lst xs =>
    cases q
    obtain ⟨a, vs, rfl, h1, r⟩ := h.lst e
    exact .inl ⟨vs, .inl (.inl h1), empty_of r⟩
  | _ => cases q
/-- an operand's truth -/
def tOf (f : OF) : TF := fun env => match f env with
  | some (o, e1) => match res e1 o with
    | some d => match d.tru with
      | some b => some (b, e1)
      | none => none
    | none => none
  | none => none
theorem st_of {f : OF} {e : Expr} (hf : SO X f e) (he : ∀ whole, isTrue e X.env whole = (do let v ← whole; standAt e.pos; holding [v] (truthy v))) : ST X (tOf f) e := by
  refine ⟨?_⟩
  intro A own env σ H b env' R h Q k
  unfold tOf at h
  split at h
  · rename_i o e1 h1
    split at h
    · rename_i d hd
      split at h
      · rename_i b' hb
        cases h
        exact wt_of (pt_truth pe_w he) (hf A own env σ H o env' R h1 _ fun v H1 own1 s1 R1 o1 => ⟨b, (o1.step StpE.refl R1 hd).tru hd_sub hb, k H1 own1 s1 R1⟩)
      · cases h
    · cases h
  · cases h
/-- a comparison, whose value is a bool -/
def tCp (f : EF) : TF := fun env => match f env with
  | some (.bl b, _, e1) => some (b, e1)
  | _ => none
theorem st_cmp {f : EF} {e : Expr} (hf : SE X f e) (he : ∀ t, PE X e t → PT X e (tB t)) : ST X (tCp f) e := by
  refine ⟨?_⟩
  intro A own env σ H b env' R h Q k
  unfold tCp at h
  split at h
  · rename_i b' fr e1 h1
    cases h
    exact wt_of (he _ pe_w) (hf A own env σ H _ fr env' R h1 _ fun v H1 own1 s1 R1 => ⟨b, (View.sc (Hh := _) (H := H1) R1.rp).bl, k H1 own1 s1 R1.en⟩)
  · cases h
theorem st_rel {op : CmpOp} {r : R2} {p : Pr2} {f g : OF} {a b : Expr} {pos : Pos} (ho : OpR X (compareOp op) r) (hp : P2 X r p) (hf : SO X f a) (hg : SO X g b) (hm : behindInMarks op b = false) : ST X (tCp (fOp2 p f g)) (.Compare a [op] [b] pos) := by
  refine ⟨?_⟩
  intro A own env σ H c env' R h Q k
  unfold tCp at h
  split at h
  · rename_i b' fr e1 h1
    cases h
    unfold fOp2 at h1
    split at h1
    · rename_i x e1 h2
      split at h1
      · rename_i y e2 h3
        split at h1
        · rename_i dx dy hx hy
          split at h1
          · rename_i d' fr' hpp
            cases h1
            refine wt_of (pt_cmpR ho pe_w pe_w hm) (hf A own env σ H x e1 R h2 _ fun v H1 own1 s1 R1 o1 => hg A own1 e1 σ H1 y env' R1 h3 _ fun u H2 own2 s2 R2 o2 => ?_)
            exact hp _ H2 dx dy v u (.bl c) fr _ hd_sub (o1.step s2 R2 hx) (o2.step StpE.refl R2 hy) hpp (give (s1.trans s2) R2 fun w H3 own3 s3 R3 => ⟨c, (View.sc (Hh := _) (H := H3) R3.rp).bl, k H3 own3 s3 R3.en⟩)
          · cases h1
        · cases h1
      · cases h1
    · cases h1
  · cases h
def tNotF (f : TF) : TF := fun env => match f env with
  | some (b, e1) => some (!b, e1)
  | none => none
theorem st_not {f : TF} {a : Expr} {pos : Pos} (hf : ST X f a) : ST X (tNotF f) (.UnaryOp .Not a pos) := by
  refine ⟨?_⟩
  intro A own env σ H c env' R h Q k
  unfold tNotF at h
  split at h
  · rename_i b e1 h1
    cases h
    exact wt_of (pt_not pt_w) (hf A own env σ H b env' R h1 _ fun H1 own1 s1 R1 => k H1 own1 s1 R1)
  · cases h
/-- and, or, in a row -/
def tAndF (f g : TF) : TF := fun env => match f env with
  | some (true, e1) => g e1
  | some (false, e1) => some (false, e1)
  | none => none
def tOrF (f g : TF) : TF := fun env => match f env with
  | some (false, e1) => g e1
  | some (true, e1) => some (true, e1)
  | none => none
/-- a row of and (n = true), or -/
def SW_ (X : Cx) (f : TF) (e : Expr) : Prop := ∀ A own env σ H b env', EnvR X.K A own env σ H → f env = some (b, env') → ∀ Q : Bool → Hp → Prop,
  (∀ H' own', StpE A own H own' H' → EnvR X.K A own' env' σ H' → Q b H') → ∀ whole pins s, Inv X pins σ H s → wpAny (model X.prog X.w) X.A (isTrue e X.env whole) (TP X pins σ Q) X.xe s
structure SW (X : Cx) (f : TF) (e : Expr) : Prop where
  run : SW_ X f e
instance coe_SW {X : Cx} {f : TF} {e : Expr} : CoeFun (SW X f e) (fun _ => SW_ X f e) := ⟨fun h => h.run⟩
theorem SW.st {f : TF} {e : Expr} (h : SW X f e) : ST X f e := ⟨fun A own env σ H b env' r q Q k pins s I => h A own env σ H b env' r q Q k _ pins s I⟩
def WW (X : Cx) (e : Expr) : TT := fun σ H Q => ∀ whole pins s, Inv X pins σ H s → wpAny (model X.prog X.w) X.A (isTrue e X.env whole) (TP X pins σ Q) X.xe s
theorem pw_w {e : Expr} : PW X e (WW X e) := ⟨fun wh pins s _ _ _ I h => h wh pins s I⟩
theorem ww_of {e : Expr} {t : TT} {σ : St} {H : Hp} {Q : Bool → Hp → Prop} (p : PW X e t) (h : t σ H Q) : ∀ whole pins s, Inv X pins σ H s → wpAny (model X.prog X.w) X.A (isTrue e X.env whole) (TP X pins σ Q) X.xe s := fun wh pins s I => p.run wh pins s σ H Q I h
theorem sw_and1 {f : TF} {a : Expr} {pos : Pos} (hf : ST X f a) : SW X f (.BoolOp .And [a] pos) := ⟨fun A own env σ H b env' R h Q k => ww_of (pw_and1 pt_w) (hf A own env σ H b env' R h Q k)⟩
theorem sw_or1 {f : TF} {a : Expr} {pos : Pos} (hf : ST X f a) : SW X f (.BoolOp .Or [a] pos) := ⟨fun A own env σ H b env' R h Q k => ww_of (pw_or1 pt_w) (hf A own env σ H b env' R h Q k)⟩
theorem sw_and {f g : TF} {a b : Expr} {rest : List Expr} {pos : Pos} (hf : ST X f a) (hg : SW X g (.BoolOp .And (b :: rest) pos)) : SW X (tAndF f g) (.BoolOp .And (a :: b :: rest) pos) := by
  refine ⟨?_⟩
  intro A own env σ H c env' R h Q k
  unfold tAndF at h
  split at h
  · rename_i e1 h1
    refine ww_of (pw_and pt_w (pw_w (e := .BoolOp .And (b :: rest) pos))) (hf A own env σ H true e1 R h1 _ fun H1 own1 s1 R1 => ?_)
    rw [if_pos rfl]
    exact hg A own1 e1 σ H1 c env' R1 h Q fun H2 own2 s2 R2 => k H2 own2 (s1.trans s2) R2
  · rename_i e1 h1
    cases h
    refine ww_of (pw_and pt_w (pw_w (e := .BoolOp .And (b :: rest) pos))) (hf A own env σ H false env' R h1 _ fun H1 own1 s1 R1 => ?_)
    rw [if_neg (by decide)]
    exact k H1 own1 s1 R1
  · cases h
theorem sw_or {f g : TF} {a b : Expr} {rest : List Expr} {pos : Pos} (hf : ST X f a) (hg : SW X g (.BoolOp .Or (b :: rest) pos)) : SW X (tOrF f g) (.BoolOp .Or (a :: b :: rest) pos) := by
  refine ⟨?_⟩
  intro A own env σ H c env' R h Q k
  unfold tOrF at h
  split at h
  · rename_i e1 h1
    refine ww_of (pw_or pt_w (pw_w (e := .BoolOp .Or (b :: rest) pos))) (hf A own env σ H false e1 R h1 _ fun H1 own1 s1 R1 => ?_)
    rw [if_neg (by decide)]
    exact hg A own1 e1 σ H1 c env' R1 h Q fun H2 own2 s2 R2 => k H2 own2 (s1.trans s2) R2
  · rename_i e1 h1
    cases h
    refine ww_of (pw_or pt_w (pw_w (e := .BoolOp .Or (b :: rest) pos))) (hf A own env σ H true env' R h1 _ fun H1 own1 s1 R1 => ?_)
    rw [if_pos rfl]
    exact k H1 own1 s1 R1
  · cases h
/-- and, or as values: of bools but for the last -/
def vAnd (f g : EF) : EF := fun env => match f env with
  | some (.bl true, _, e1) => g e1
  | some (.bl false, _, e1) => some (.bl false, false, e1)
  | _ => none
def vOr (f g : EF) : EF := fun env => match f env with
  | some (.bl false, _, e1) => g e1
  | some (.bl true, _, e1) => some (.bl true, false, e1)
  | _ => none
theorem Res.from {K : PySem.W.Frag} {A : Amb} {own : Own} {env : En} {σ : St} {H0 H1 H : Hp} {fr : Bool} {d : D} {v : V} (r : Res K A own env σ H1 H fr d v) (k : ∀ b, H1 b = none → H0 b = none) : Res K A own env σ H0 H fr d v :=
  ⟨r.en, r.rp, fun z m => let ⟨a, h1, h2, h3⟩ := r.nw z m; ⟨a, h1, k a h2, h3⟩⟩
theorem se_one {op} {f : EF} {a : Expr} {pos : Pos} (hf : SE X f a) : SE X f (.BoolOp op [a] pos) := ⟨fun A own env σ H d fr env' R h Q k => we_of (pe_one pe_w) (hf A own env σ H d fr env' R h Q k)⟩
theorem se_and {f g : EF} {a b : Expr} {rest : List Expr} {pos : Pos} (hf : SE X f a) (hg : SE X g (.BoolOp .And (b :: rest) pos)) : SE X (vAnd f g) (.BoolOp .And (a :: b :: rest) pos) := by
  refine ⟨?_⟩
  intro A own env σ H d fr env' R h Q k
  unfold vAnd at h
  split at h
  · rename_i fr1 e1 h1
    refine we_of (pe_and pe_w (pe_w (e := .BoolOp .And (b :: rest) pos))) (hf A own env σ H _ fr1 e1 R h1 _ fun v H1 own1 s1 R1 => ⟨true, (View.sc (Hh := _) (H := H1) R1.rp).bl, ?_⟩)
    rw [if_pos rfl]
    exact hg A own1 e1 σ H1 d fr env' R1.en h Q fun w H2 own2 s2 R2 => k w H2 own2 (s1.trans s2) (R2.from fun b z => s1.toStp.back z)
  · rename_i fr1 e1 h1
    cases h
    refine we_of (pe_and pe_w (pe_w (e := .BoolOp .And (b :: rest) pos))) (hf A own env σ H _ fr1 env' R h1 _ fun v H1 own1 s1 R1 => ⟨false, (View.sc (Hh := _) (H := H1) R1.rp).bl, ?_⟩)
    rw [if_neg (by decide)]
    exact k _ H1 own1 s1 ⟨R1.en, .bl _, fun z => by cases z⟩
  · cases h
theorem se_or {f g : EF} {a b : Expr} {rest : List Expr} {pos : Pos} (hf : SE X f a) (hg : SE X g (.BoolOp .Or (b :: rest) pos)) : SE X (vOr f g) (.BoolOp .Or (a :: b :: rest) pos) := by
  refine ⟨?_⟩
  intro A own env σ H d fr env' R h Q k
  unfold vOr at h
  split at h
  · rename_i fr1 e1 h1
    refine we_of (pe_or pe_w (pe_w (e := .BoolOp .Or (b :: rest) pos))) (hf A own env σ H _ fr1 e1 R h1 _ fun v H1 own1 s1 R1 => ⟨false, (View.sc (Hh := _) (H := H1) R1.rp).bl, ?_⟩)
    rw [if_neg (by decide)]
    exact hg A own1 e1 σ H1 d fr env' R1.en h Q fun w H2 own2 s2 R2 => k w H2 own2 (s1.trans s2) (R2.from fun b z => s1.toStp.back z)
  · rename_i fr1 e1 h1
    cases h
    refine we_of (pe_or pe_w (pe_w (e := .BoolOp .Or (b :: rest) pos))) (hf A own env σ H _ fr1 env' R h1 _ fun v H1 own1 s1 R1 => ⟨true, (View.sc (Hh := _) (H := H1) R1.rp).bl, ?_⟩)
    rw [if_pos rfl]
    exact k _ H1 own1 s1 ⟨R1.en, .bl _, fun z => by cases z⟩
  · cases h
def vNot (f : EF) : EF := fun env => match f env with
  | some (.bl b, _, e1) => some (.bl (!b), false, e1)
  | _ => none
theorem se_not {f : EF} {a : Expr} {pos : Pos} (hf : SE X f a) : SE X (vNot f) (.UnaryOp .Not a pos) := by
  refine ⟨?_⟩
  intro A own env σ H d fr env' R h Q k
  unfold vNot at h
  split at h
  · rename_i b fr1 e1 h1
    cases h
    exact we_of (pe_not pe_w) (hf A own env σ H _ fr1 env' R h1 _ fun v H1 own1 s1 R1 => ⟨b, (View.sc (Hh := _) (H := H1) R1.rp).bl, k _ H1 own1 s1 ⟨R1.en, .bl _, fun z => by cases z⟩⟩)
  · cases h
/-- a if t else b -/
def fIf (t : TF) (f g : EF) : EF := fun env => match t env with
  | some (true, e1) => f e1
  | some (false, e1) => g e1
  | none => none
theorem se_if {t : TF} {f g : EF} {c a b : Expr} {pos : Pos} (ht : ST X t c) (hf : SE X f a) (hg : SE X g b) : SE X (fIf t f g) (.IfExp c a b pos) := by
  refine ⟨?_⟩
  intro A own env σ H d fr env' R h Q k
  unfold fIf at h
  split at h
  · rename_i e1 h1
    refine we_of (pe_ifExp pt_w pe_w pe_w) (ht A own env σ H _ e1 R h1 _ fun H1 own1 s1 R1 => ?_)
    rw [if_pos rfl]
    exact hf A own1 e1 σ H1 d fr env' R1 h Q fun w H2 own2 s2 R2 => k w H2 own2 (s1.trans s2) (R2.from fun b z => s1.toStp.back z)
  · rename_i e1 h1
    refine we_of (pe_ifExp pt_w pe_w pe_w) (ht A own env σ H _ e1 R h1 _ fun H1 own1 s1 R1 => ?_)
    rw [if_neg (by decide)]
    exact hg A own1 e1 σ H1 d fr env' R1 h Q fun w H2 own2 s2 R2 => k w H2 own2 (s1.trans s2) (R2.from fun b z => s1.toStp.back z)
  · cases h
end
end Dz
/-! DzStmt: statements and blocks, targets, stores, append, loops over lists, tuples, ranges, while. -/
namespace Dz
open PySem L2
section
variable {K : PySem.W.Frag} {A : Amb} {own : Own} {env : En} {σ : St} {H H' : Hp} {i : Nat} {d d' : D} {v : V} {a : Addr} {o' : HO}
/-- an owned object changes -/
theorem EnvR.mut {f : Fl} (r : EnvR K A own env σ H) (hi : own i = some a) (hd1 : env.sl[i]? = some (some (d, f))) (hf1 : f ≠ .sh) (ho : Obj K (hd (hid A own) H) d' o') (hm : ∀ xs, o' ≠ .tup xs := by intro _ z; cases z) : EnvR K A own (env.set i (some (d', f))) σ (upd H a o') := by
  have sb : VSub (hd (hid A own) H) (hd (hid A own) (upd H a o')) := hd_mono (fun b u n e => by
    rw [upd_ne (fun z => n (by rw [z]; exact .inr ⟨_, hi⟩))]; exact e) fun _ _ n _ => n
  have hl : i < env.sl.length := by
    have := List.getElem?_eq_some_iff.mp hd1
    exact this.1
  have hoth : ∀ (j : Ix) b, j ≠ .inl i → own j = some b → b ≠ a := fun j b hj e z => hj (r.inj j _ a (by rw [← z]; exact e) hi)
  refine ⟨fun j e hh => ?_, fun j e f2 hh hf => ?_, fun j b e => ?_, fun j e hh => ?_, fun j e hh => ?_, r.cn, r.inj, r.sep, fun b hb => ?_, by rw [List.length_set]; exact r.len, fun b hb xs z => by
    by_cases hz : b = a
    · rw [hz, upd_same] at z; cases z; exact hm xs rfl
    · rw [upd_ne hz] at z; exact r.nt b hb xs z⟩
  · by_cases hj : i = j
    · subst hj
      rw [List.getElem?_set_self hl] at hh; cases hh; exact absurd rfl hf1
    · rw [List.getElem?_set_ne hj] at hh
      obtain ⟨v, h1, h2⟩ := r.sh j e hh
      exact ⟨v, h1, h2.mono sb⟩
  · by_cases hj : i = j
    · subst hj
      rw [List.getElem?_set_self hl] at hh
      cases hh
      obtain ⟨a', h1, h2, _⟩ := r.ow i d f hd1 hf1
      rw [hi] at h1
      cases h1
      exact ⟨a, hi, h2, ho.top sb upd_same⟩
    · rw [List.getElem?_set_ne hj] at hh
      obtain ⟨a', h1, h2, h3⟩ := r.ow j e f2 hh hf
      exact ⟨a', h1, h2, h3.mono sb fun o z => by rw [upd_ne (hoth j a' (ninl hj) h1)]; exact z⟩
  · obtain ⟨d2, f2, h2, h3⟩ := r.no j b e
    by_cases hj : i = j
    · subst hj
      exact ⟨d', f, List.getElem?_set_self hl, hf1⟩
    · exact ⟨d2, f2, by rw [List.getElem?_set_ne hj]; exact h2, h3⟩
  · by_cases hj : i = j
    · subst hj
      rw [List.getElem?_set_self hl] at hh
      cases hh
      exact r.bo i d hd1
    · rw [List.getElem?_set_ne hj] at hh
      exact r.bo j e hh
  · obtain ⟨a', h1, h3⟩ := r.ce j e hh
    exact ⟨a', h1, h3.mono sb fun o z => by rw [upd_ne (hoth (.inr j) a' (fun z => by cases z) h1)]; exact z⟩
  · obtain ⟨u, e⟩ := r.al b hb
    exact ⟨u, by rw [upd_ne (fun z => r.sep _ a hi (by rw [← z]; exact hb))]; exact e⟩
theorem Stp.mut {k : Ix} (r : EnvR K A own env σ H) (hi : own k = some a) (hz : ∀ od u, H a = some (.frz od u) → False := by intro od u z; first | exact Top.nfrz (by assumption) od u z | simp_all) : Stp A own H own (upd H a o') where
  kp := fun b u n e => by rw [upd_ne (fun z => n (by rw [z]; exact .inr ⟨_, hi⟩))]; exact .inl e
  fz := fun b od u e => by rw [upd_ne (fun z => hz od u (by rw [← z]; exact e))]; exact e
  hi := fun b hb => by rw [upd_ne (fun z => r.sep _ a hi (by rw [← z]; exact hb))]
  ow := fun j b e => .inl ⟨j, e⟩
  th := fun b u e => by
    by_cases h : b = a
    · exact ⟨o', by rw [h]; exact upd_same⟩
    · exact ⟨u, by rw [upd_ne h]; exact e⟩
  wl := fun _ _ h => h
/-- an object of the store changes -/
theorem EnvR.mutC {j : Nat} (r : EnvR K A own env σ H) (hi : own (.inr j) = some a) (ho : Obj K (hd (hid A own) H) d' o') (hm : ∀ xs, o' ≠ .tup xs := by intro _ z; cases z) : EnvR K A own ⟨env.sl, env.st.set j d'⟩ σ (upd H a o') := by
  have sb : VSub (hd (hid A own) H) (hd (hid A own) (upd H a o')) := hd_mono (fun b u n e => by
    rw [upd_ne (fun z => n (by rw [z]; exact .inr ⟨_, hi⟩))]; exact e) fun _ _ n _ => n
  have hl := r.st_lt hi
  have hoth : ∀ (k : Ix) b, k ≠ .inr j → own k = some b → b ≠ a := fun k b hj e z => hj (r.inj k _ a (by rw [← z]; exact e) hi)
  refine ⟨fun k e hh => ?_, fun k e f2 hh hf => ?_, r.no, r.bo, fun k e hh => ?_, fun k b h => ?_, r.inj, r.sep, fun b hb => ?_, r.len, fun b hb xs z => by
    by_cases hz : b = a
    · rw [hz, upd_same] at z; cases z; exact hm xs rfl
    · rw [upd_ne hz] at z; exact r.nt b hb xs z⟩
  · obtain ⟨v, h1, h2⟩ := r.sh k e hh
    exact ⟨v, h1, h2.mono sb⟩
  · obtain ⟨a', h1, h2, h3⟩ := r.ow k e f2 hh hf
    exact ⟨a', h1, h2, h3.mono sb fun o z => by rw [upd_ne (hoth _ a' (fun z => by cases z) h1)]; exact z⟩
  · by_cases hj : j = k
    · subst hj
      rw [List.getElem?_set_self hl] at hh
      cases hh
      exact ⟨a, hi, .top (ho.top sb upd_same)⟩
    · rw [List.getElem?_set_ne hj] at hh
      obtain ⟨a', h1, h3⟩ := r.ce k e hh
      exact ⟨a', h1, h3.mono sb fun o z => by rw [upd_ne (hoth _ a' (fun z => hj (Sum.inr.inj z).symm) h1)]; exact z⟩
  · obtain ⟨d0, q⟩ := r.cn k b h
    by_cases hj : j = k
    · subst hj
      exact ⟨d', List.getElem?_set_self hl⟩
    · exact ⟨d0, by rw [List.getElem?_set_ne hj]; exact q⟩
  · obtain ⟨u, e⟩ := r.al b hb
    exact ⟨u, by rw [upd_ne (fun z => r.sep _ a hi (by rw [← z]; exact hb))]; exact e⟩
end
theorem Fol.after {K : PySem.W.Frag} {A : Amb} {own own1 : Own} {H H1 : Hp} {D : Ends} {o : Out} (s : Stp A own H own1 H1) (h : Fol K A own H D o) : Fol K A own1 H1 D o := by
  cases o with
  | nx e => exact fun σ' H' own' s' r => h σ' H' own' (s.trans s') r
  | bk e => exact fun σ' H' own' s' r => h σ' H' own' (s.trans s') r
  | ct e => exact fun σ' H' own' s' r => h σ' H' own' (s.trans s') r
  | rt d e => exact fun v σ' H' own' s' r q => h v σ' H' own' (s.trans s') r q
section
variable {X : Cx}
/-! ### blocks -/
def bNil : SF := fun env => some (.nx env)
def bCons (f g : SF) : SF := fun env => match f env with
  | some (.nx e) => g e
  | r => r
theorem sb_nil : SB X bNil [] := by
  refine ⟨?_⟩
  intro A own env σ H out r h D k
  cases h
  exact wss_of pss_nil (k σ H own Stp.refl r)
theorem sb_cons {f g : SF} {st : Stmt} {rest : List Stmt} (hf : SS X f st) (hg : SB X g rest) : SB X (bCons f g) (st :: rest) := by
  refine ⟨?_⟩
  intro A own env σ H out r h D k
  unfold bCons at h
  refine wss_of (pss_cons ps_w pss_w) ?_
  split at h
  · rename_i e h1
    exact hf A own env σ H (.nx e) r h1 _ fun σ' H' own' s' r' => hg A own' e σ' H' out r' h D (k.after s')
  · rename_i r0 hn
    cases out with
    | nx e => exact absurd h (hn e)
    | bk e => exact hf A own env σ H _ r h _ k
    | ct e => exact hf A own env σ H _ r h _ k
    | rt d e => exact hf A own env σ H _ r h _ k
/-! ### small statements -/
theorem ss_pass {pos} : SS X bNil (.Pass pos) := by
  refine ⟨?_⟩
  intro A own env σ H out r h D k
  cases h
  exact ws_of ps_pass (k σ H own Stp.refl r)
def sBk : SF := fun env => some (.bk env)
def sCt : SF := fun env => some (.ct env)
theorem ss_break {pos} : SS X sBk (.Break pos) := by
  refine ⟨?_⟩
  intro A own env σ H out r h D k
  cases h
  exact ws_of ps_break (k σ H own Stp.refl r)
theorem ss_continue {pos} : SS X sCt (.Continue pos) := by
  refine ⟨?_⟩
  intro A own env σ H out r h D k
  cases h
  exact ws_of ps_continue (k σ H own Stp.refl r)
def sRt (f : EF) : SF := fun env => match f env with
  | some (d, _, e) => some (.rt d e)
  | none => none
theorem ss_ret {f : EF} {e : Expr} {pos} (hf : SE X f e) : SS X (sRt f) (.Return (some e) pos) := by
  refine ⟨?_⟩
  intro A own env σ H out r h D k
  unfold sRt at h
  split at h
  · rename_i d fr e1 h1
    cases h
    exact ws_of (ps_ret pe_w) (hf A own env σ H d fr e1 r h1 _ fun v H1 own1 s1 R1 => k v σ H1 own1 s1.toStp R1.en R1.rp)
  · cases h
def sEx (f : EF) : SF := fun env => match f env with
  | some (_, _, e) => some (.nx e)
  | none => none
theorem ss_expr {f : EF} {e : Expr} {pos} (hf : SE X f e) (hs : swapsWith e none pos.line X.env = pure false) : SS X (sEx f) (.Expr e pos) := by
  refine ⟨?_⟩
  intro A own env σ H out r h D k
  unfold sEx at h
  split at h
  · rename_i d fr e1 h1
    cases h
    exact ws_of (ps_expr pe_w hs) (hf A own env σ H d fr e1 r h1 _ fun v H1 own1 s1 R1 => k σ H1 own1 s1.toStp R1.en)
  · cases h
def sIf (t : TF) (f g : SF) : SF := fun env => match t env with
  | some (true, e) => f e
  | some (false, e) => g e
  | none => none
theorem ss_if {t : TF} {f g : SF} {c : Expr} {a b : List Stmt} {pos} (ht : ST X t c) (hf : SB X f a) (hg : SB X g b) : SS X (sIf t f g) (.If c a b pos) := by
  refine ⟨?_⟩
  intro A own env σ H out r h D k
  unfold sIf at h
  refine ws_of (ps_if pt_w pss_w pss_w) ?_
  split at h
  · rename_i e1 h1
    refine ht A own env σ H true e1 r h1 _ fun H1 own1 s1 R1 => ?_
    rw [if_pos rfl]
    exact hf A own1 e1 σ H1 out R1 h D (k.after s1.toStp)
  · rename_i e1 h1
    refine ht A own env σ H false e1 r h1 _ fun H1 own1 s1 R1 => ?_
    rw [if_neg (by decide)]
    exact hg A own1 e1 σ H1 out R1 h D (k.after s1.toStp)
  · cases h
/-! ### stores to names -/
/-- a value goes to slot i -/
def put (i : Nat) (d : D) (fr : Bool) (env : En) : En := env.set i (some (d, if fr && d.mut then .ow else .sh))
theorem Res.put {K : PySem.W.Frag} {A : Amb} {own own1 : Own} {env : En} {σ : St} {H H1 : Hp} {fr : Bool} {d : D} {v : V} {i : Nat} (s : Stp A own H own1 H1) (R : Res K A own1 env σ H H1 fr d v) (al : ∀ b, A b → ∃ o, H b = some o) (hl : i < env.sl.length) :
    ∃ own2, Stp A own H own2 H1 ∧ EnvR K A own2 (Dz.put i d fr env) (σ.set i (some v)) H1 := by
  unfold Dz.put
  cases hm : (fr && d.mut) with
  | true =>
    obtain ⟨h1, h2⟩ := Bool.and_eq_true_iff.mp hm
    obtain ⟨a, rfl, hn, r2, t⟩ := R.nw h1 h2
    rw [if_pos rfl]
    exact ⟨own1.put i a, Stp.put hn s, r2.setOw (fun z => by obtain ⟨o, e⟩ := al a z; rw [hn] at e; cases e) t hl⟩
  | false =>
    rw [if_neg (by decide)]
    exact ⟨own1.drop i, s.trans Stp.drop, R.en.setSh (R.rp.mono (hd_mono (fun _ _ _ z => z) fun b u n _ z => n (hid_drop z)))⟩
def sSet (i : Nat) (f : EF) : SF := fun env => match f env with
  | some (d, fr, e) => if i < e.sl.length then some (.nx (put i d fr e)) else none
  | none => none
theorem ss_set {i : Nat} {x : Str} {f : EF} {e : Expr} {pos pos'} (hN : X.N.Nodup) (hi : X.N[i]? = some x) (hx : Loc X.env.scope x) (hf : SE X f e) (hs : swapsWith e (some (.Name x pos')) pos.line X.env = pure false) (hfn : X.fn x = true ∨ X.env.scope.names.lookup x = some .local) :
    SS X (sSet i f) (.Assign [.Name x pos'] e pos) := by
  refine ⟨?_⟩
  intro A own env σ H out r h D k
  unfold sSet at h
  split at h
  · rename_i d fr e1 h1
    split at h
    · rename_i hl
      cases h
      refine ws_of (ps_set hN hi hx pe_w hs hfn) (hf A own env σ H d fr e1 r h1 _ fun v H1 own1 s1 R1 => ?_)
      obtain ⟨own2, s2, r2⟩ := R1.put s1.toStp r.al hl
      exact k _ H1 own2 s2 r2
    · cases h
  · cases h
/-! ### targets -/
def WG (X : Cx) (tg : Expr) : TG := fun v σ H Q => ∀ pins s u, Inv X pins σ H s → RelV v u → wpAny (model X.prog X.w) X.A (assign tg X.env u) (fun _ s' => ∃ σ' H', Inv X pins σ' H' s' ∧ Q σ' H') X.xe s
theorem pg_w {tg : Expr} : PG X tg (WG X tg) := ⟨fun pins s _ _ _ u _ I r h => h pins s u I r⟩
theorem wg_of {tg : Expr} {t : TG} {v : V} {σ : St} {H : Hp} {Q : St → Hp → Prop} (p : PG X tg t) (h : t v σ H Q) : WG X tg v σ H Q := fun pins s u I r => p.run pins s σ H v u Q I r h
def WGs (X : Cx) (ts : List Expr) : TGs := fun vs σ H Q => ∀ pins s us, Inv X pins σ H s → Vals vs us → wpAny (model X.prog X.w) X.A (assignInOrder ((assignEach ts X.env).map (·.2)) us) (fun _ s' => ∃ σ' H', Inv X pins σ' H' s' ∧ Q σ' H') X.xe s
theorem pgs_w {ts : List Expr} : PGs X ts (WGs X ts) := ⟨fun pins s _ _ _ us _ I r h => h pins s us I r⟩
theorem wgs_of {ts : List Expr} {t : TGs} {vs : List V} {σ : St} {H : Hp} {Q : St → Hp → Prop} (p : PGs X ts t) (h : t vs σ H Q) : WGs X ts vs σ H Q := fun pins s us I r => p.run pins s σ H vs us Q I r h
abbrev GF := D → En → Option En
abbrev GsF := List D → En → Option En
/-- only the slots js differ -/
def Only (js : List Nat) (σ σ' : St) : Prop := ∀ j, j ∉ js → σ'[j]? = σ[j]?
/-- a target takes a shared value; js: its slots -/
def SG_ (X : Cx) (js : List Nat) (g : GF) (tg : Expr) : Prop := ∀ A own env σ H d env' v, EnvR X.K A own env σ H → Rep X.K (hd (hid A own) H) d v → g d env = some env' → ∀ Q : St → Hp → Prop,
  (∀ σ' own', StpE A own H own' H → EnvR X.K A own' env' σ' H → Only js σ σ' → σ'.length = σ.length → Q σ' H) → WG X tg v σ H Q
structure SG (X : Cx) (js : List Nat) (g : GF) (tg : Expr) : Prop where
  run : SG_ X js g tg
instance coe_SG {X : Cx} {js : List Nat} {g : GF} {tg : Expr} : CoeFun (SG X js g tg) (fun _ => SG_ X js g tg) := ⟨fun h => h.run⟩
def SGs_ (X : Cx) (js : List Nat) (g : GsF) (ts : List Expr) : Prop := ∀ A own env σ H ds env' vs, EnvR X.K A own env σ H → RepL X.K (hd (hid A own) H) ds vs → g ds env = some env' → ∀ Q : St → Hp → Prop,
  (∀ σ' own', StpE A own H own' H → EnvR X.K A own' env' σ' H → Only js σ σ' → σ'.length = σ.length → Q σ' H) → WGs X ts vs σ H Q
structure SGs (X : Cx) (js : List Nat) (g : GsF) (ts : List Expr) : Prop where
  run : SGs_ X js g ts
instance coe_SGs {X : Cx} {js : List Nat} {g : GsF} {ts : List Expr} : CoeFun (SGs X js g ts) (fun _ => SGs_ X js g ts) := ⟨fun h => h.run⟩
theorem StpE.drop {A : Amb} {own : Own} {H : Hp} {i : Nat} : StpE A own H (own.drop i) H := ⟨Stp.drop, fun j b z => (Own.drop_some.mp z).2⟩
def gNm (i : Nat) : GF := fun d env => some (env.set i (some (d, .sh)))
theorem sg_name {i : Nat} {x : Str} {pos} (hN : X.N.Nodup) (hi : X.N[i]? = some x) (hx : Loc X.env.scope x) (hf : X.fn x = true ∨ X.env.scope.names.lookup x = some .local) : SG X [i] (gNm i) (.Name x pos) := by
  refine ⟨?_⟩
  intro A own env σ H d env' v r q h Q k
  cases h
  exact wg_of (pg_name hN hi hx hf) (k _ (own.drop i) StpE.drop (r.setSh (q.mono (hd_mono (fun _ _ _ z => z) fun b u n _ z => n (hid_drop z)))) (fun j hj => List.getElem?_set_ne (fun z => hj (by rw [z]; exact List.mem_singleton_self j))) (List.length_set ..))
def gsNil : GsF := fun ds env => match ds with
  | [] => some env
  | _ => none
def gsCons (g : GF) (gs : GsF) : GsF := fun ds env => match ds with
  | d :: r => match g d env with
    | some e => gs r e
    | none => none
  | [] => none
theorem sgs_nil : SGs X [] gsNil [] := by
  refine ⟨?_⟩
  intro A own env σ H ds env' vs r q h Q k
  cases q with
  | nil => cases h; exact wgs_of pgs_nil ⟨rfl, k σ own StpE.refl r (fun _ _ => rfl) rfl⟩
  | cons _ _ => cases h
theorem sgs_cons {js ks : List Nat} {g : GF} {gs : GsF} {e : Expr} {es : List Expr} (hg : SG X js g e) (hgs : SGs X ks gs es) (hs : (assignEach (e :: es) X.env).map (·.2) = assign e X.env :: (assignEach es X.env).map (·.2)) : SGs X (js ++ ks) (gsCons g gs) (e :: es) := by
  refine ⟨?_⟩
  intro A own env σ H ds env' vs r q h Q k
  cases q with
  | nil => cases h
  | cons q1 q2 =>
    rename_i d v ds vs
    have h2 : (match g d env with
      | some e => gs ds e
      | none => none) = some env' := h
    split at h2
    · rename_i e1 h1
      refine wgs_of (pgs_cons pg_w pgs_w hs) ⟨v, vs, rfl, hg A own env σ H d e1 v r q1 h1 _ fun σ1 own1 s1 r1 o1 l1 => ?_⟩
      exact hgs A own1 e1 σ1 H ds env' vs r1 (q2.mono s1.toStp.sub) h2 Q fun σ2 own2 s2 r2 o2 l2 => k σ2 own2 (s1.trans s2) r2 (fun j hj => by
        rw [List.mem_append, not_or] at hj
        rw [o2 j hj.2, o1 j hj.1]) (l2.trans l1)
    · cases h2
def gTp (gs : GsF) : GF := fun d env => match d.asTup with
  | some xs => gs xs env
  | none => none
theorem sg_tup {js : List Nat} {gs : GsF} {es : List Expr} {kk pos} (hc : X.calm = true) (hgs : SGs X js gs es) (hn : (assignEach es X.env).length = es.length) (hst : (assignEach es X.env).findIdx? (·.1) = none) (hlen : ∀ xs env env', gs xs env = some env' → xs.length = es.length) : SG X js (gTp gs) (.Tuple es kk pos) := by
  refine ⟨?_⟩
  intro A own env σ H d env' v r q h Q k
  unfold gTp at h
  split at h
  · rename_i xs hx
    obtain ⟨a, vs, rfl, h1, r1⟩ := q.tupA hx
    exact wg_of (pg_tup hc pgs_w hn hst) ⟨a, vs, rfl, hd_sub.sqT h1, by rw [← r1.length]; exact hlen xs env env' h, hgs A own env σ H xs env' vs r r1 h Q k⟩
  · cases h
/-- target = value -/
def sAsg (g : GF) (f : EF) : SF := fun env => match f env with
  | some (d, _, e) => match g d e with
    | some e2 => some (.nx e2)
    | none => none
  | none => none
theorem ss_asg {js : List Nat} {g : GF} {f : EF} {tg e : Expr} {pos} (hg : SG X js g tg) (hf : SE X f e) (hs : swapsWithSole [tg] e pos.line X.env = pure false) (hw : swappedStores [tg] e X.env = pure none)
    (h1 : (assignEach [tg] X.env).map (·.2) = [assign tg X.env]) : SS X (sAsg g f) (.Assign [tg] e pos) := by
  refine ⟨?_⟩
  intro A own env σ H out r h D k
  unfold sAsg at h
  split at h
  · rename_i d fr e1 q1
    split at h
    · rename_i e2 q2
      cases h
      exact ws_of (ps_asg pe_w pg_w hs hw h1) (hf A own env σ H d fr e1 r q1 _ fun v H1 own1 s1 R1 => hg A own1 e1 σ H1 d e2 v R1.en R1.rp q2 _ fun σ2 own2 s2 r2 _ _ => k σ2 H1 own2 (s1.toStp.trans s2.toStp) r2)
    · cases h
  · cases h
/-! ### an owned list changes -/
def ownL (env : En) (i : Nat) : Option (List D × Fl) := match env.sl[i]? with
  | some (some (_, .sh)) => none
  | some (some (.lst xs, f)) => some (xs, f)
  | _ => none
theorem ownL_some {env : En} {i : Nat} {xs : List D} {f : Fl} (h : ownL env i = some (xs, f)) : env.sl[i]? = some (some (.lst xs, f)) ∧ f ≠ .sh := by
  unfold ownL at h
  split at h
  · cases h
  · rename_i ys f2 hf e
    cases h
    exact ⟨e, fun z => hf z⟩
  · cases h
def sApp (i : Nat) (f : EF) : SF := fun env => match ownL env i with
  | some _ => match f env with
    | some (d, _, e) => match ownL e i with
      | some (xs, fl) => if xs.length < 100000 then some (.nx (e.set i (some (.lst (xs ++ [d]), fl)))) else none
      | none => none
    | none => none
  | none => none
theorem ss_app {i : Nat} {f : EF} {st : Stmt} {e : Expr} (hf : SE X f e) (hst : PS X st (tDrop (tBM X.K "list" rAppend (tVar i) (tCons (WE X e) tNil)))) : SS X (sApp i f) st := by
  refine ⟨?_⟩
  intro A own env σ H out r h D k
  unfold sApp at h
  split at h
  · rename_i xf0 q00
    obtain ⟨xs0, f0⟩ := xf0
    obtain ⟨q0, hf0⟩ := ownL_some q00
    split at h
    · rename_i d fr e1 q1
      split at h
      · rename_i xs fl q22
        obtain ⟨q2, hfl⟩ := ownL_some q22
        split at h
        · rename_i hl
          cases h
          obtain ⟨a, h1, h2, t0⟩ := r.ow i _ f0 q0 hf0
          have ty : ∃ ys, H a = some (.lst ys) := by cases t0 with | lst z _ => exact ⟨_, z⟩
          obtain ⟨ys, hys⟩ := ty
          refine ws_of hst ⟨.ref a, h2, .inl ⟨rfl, ys, .inl (.inl hys)⟩, hf A own env σ H d fr e1 r q1 _ fun v H1 own1 s1 R1 => ?_⟩
          obtain ⟨a', h3, _, t⟩ := R1.en.ow i _ fl q2 hfl
          have ea := s1.dr i a' h3
          rw [h1] at ea
          cases ea
          cases t with
          | lst z rr =>
            rename_i vs
            refine ⟨a, vs, v, rfl, rfl, z, Nat.lt_of_lt_of_le (by rw [← rr.length]; exact hl) (by decide : 100000 ≤ sizeLine), ?_⟩
            have r2 := R1.en.mut h3 q2 hfl (d' := .lst (xs ++ [d])) (.lst (rr.append (.cons R1.rp .nil)))
            exact k σ _ own1 (s1.toStp.trans (Stp.mut R1.en h3)) r2
        · cases h
      · cases h
    · cases h
  · cases h
/-- xs[k] = e, xs owned -/
def sStL (i : Nat) (g f : EF) : SF := fun env => match f env with
  | some (d, _, e) => match ownL e i with
    | some _ => match g e with
      | some (.int j, _, e2) => match ownL e2 i with
        | some (xs, fl) => match ixN xs.length j with
          | some n => some (.nx (e2.set i (some (.lst (xs.set n d), fl))))
          | none => none
        | none => none
      | _ => none
    | none => none
  | none => none
theorem ss_stL {i : Nat} {g f : EF} {st : Stmt} {e ix : Expr} (hf : SE X f e) (hg : SE X g ix) (hst : PS X st (tAsg (WE X e) (gSub (tVar i) (WE X ix) rSetL))) : SS X (sStL i g f) st := by
  refine ⟨?_⟩
  intro A own env σ H out r h D k
  unfold sStL at h
  split at h
  · rename_i d fr e1 q1
    split at h
    · rename_i xf0 q00
      obtain ⟨xs0, f0⟩ := xf0
      obtain ⟨q0, hf0⟩ := ownL_some q00
      split at h
      · rename_i j fr2 e2 q2
        split at h
        · rename_i xs fl q33
          obtain ⟨q3, hfl⟩ := ownL_some q33
          split at h
          · rename_i n hn
            cases h
            refine ws_of hst (hf A own env σ H d fr e1 r q1 _ fun v H1 own1 s1 R1 => ?_)
            obtain ⟨a, h1, h2, t0⟩ := R1.en.ow i _ f0 q0 hf0
            refine ⟨.ref a, h2, hg A own1 e1 σ H1 _ fr2 e2 R1.en q2 _ fun u H2 own2 s2 R2 => ?_⟩
            obtain ⟨a', h3, _, t⟩ := R2.en.ow i _ fl q3 hfl
            have ea := s2.dr i a' h3
            rw [h1] at ea
            cases ea
            cases t with
            | lst z rr =>
              rename_i vs
              have hv : u = .int j := (View.sc (Hh := _) (H := H2) R2.rp).int
              refine ⟨a, vs, j, n, rfl, hv, z, by rw [← rr.length]; exact hn, ?_⟩
              have r2 := R2.en.mut h3 q3 hfl (d' := .lst (xs.set n d)) (.lst (rr.set (R1.rp.mono s2.toStp.sub) n))
              exact k σ _ own2 ((s1.trans s2).toStp.trans (Stp.mut R2.en h3)) r2
          · cases h
        · cases h
      · cases h
    · cases h
  · cases h
end
end Dz
/-! DzLoop: what is walked; for and while. -/
namespace Dz
open PySem L2
/-- J walks the data ds, while src stands in what is shown -/
structure Wk (K : PySem.W.Frag) (J : It) (ds : List D) (src : Vw → Hp → Prop) : Prop where
  mono : ∀ Hv H Hv' H', src Hv H → VSub Hv Hv' → (∀ b od u, H b = some (.frz od u) → H' b = some (.frz od u)) → src Hv' H'
  stop : ∀ (Hv : Vw) H, src Hv H → Sub Hv H → J.stop ds.length H
  go : ∀ (Hv : Vw) H i, src Hv H → Sub Hv H → i < ds.length → J.go i H
  yld : ∀ (Hv : Vw) H i x H' d, src Hv H → Sub Hv H → (∀ b xs, H b = some (.tup xs) → Hv b = some (.tup xs)) → J.yld i H x H' → ds[i]? = some d → (H' = H ∧ Rep K Hv d x) ∨ ∃ p o, x = .ref p ∧ H p = none ∧ H' = upd H p o ∧ Obj K Hv d o
theorem Obj.rep {K : PySem.W.Frag} {Hh H' : Vw} {d : D} {o : HO} {a : Addr} (h : Obj K Hh d o) (e : VSub Hh H') (ha : H' a = some o) : Rep K H' d (.ref a) :=
  (h.top (H := H'.h) e ha).rep (VSub.refl _) fun _ z => z
/-- an item comes -/
theorem Wk.item {K : PySem.W.Frag} {J : It} {ds : List D} {src : Vw → Hp → Prop} (w : Wk K J ds src) {A : Amb} {own : Own} {env : En} {σ : St} {H H' : Hp} {i : Nat} {x : V} {d : D} (r : EnvR K A own env σ H) (q : src (hd (hid A own) H) H) (y : J.yld i H x H') (hd1 : ds[i]? = some d) :
    EnvR K A own env σ H' ∧ StpE A own H own H' ∧ Rep K (hd (hid A own) H') d x := by
  rcases w.yld _ H i x H' d q hd_sub (fun b xs e => hd_some.mpr ⟨fun z => r.nt b z xs e, e⟩) y hd1 with ⟨rfl, rp⟩ | ⟨p, o, rfl, hp, rfl, ob⟩
  · exact ⟨r, StpE.refl, rp⟩
  · have np : ¬ hid A own p := r.nhid hp
    have sb2 : VSub (hd (hid A own) H) (hd (hid A own) (upd H p o)) := hd_mono (fun b u _ z => sub_new hp b u z) fun b u n e => n
    exact ⟨r.sub (sub_new hp), ⟨Stp.new r hp, fun _ _ z => z⟩, ob.rep sb2 (hd_some.mpr ⟨np, upd_same⟩)⟩
abbrev IF := En → Option (List D × En)
def WI (X : Cx) (tg iter : Expr) : TI := fun σ H R => ∃ wi, PI X tg iter wi ∧ wi σ H R
theorem pi_w {X : Cx} {tg iter : Expr} : PI X tg iter (WI X tg iter) := ⟨fun pins s σ H R I ⟨wi, p, h⟩ => p.run pins s σ H R I h⟩
/-- an iterable gives ds -/
def SI_ (X : Cx) (f : IF) (tg iter : Expr) : Prop := ∀ A own env σ H ds env', EnvR X.K A own env σ H → f env = some (ds, env') → ∀ R : It → Hp → Prop,
  (∀ J H' own' src, StpE A own H own' H' → EnvR X.K A own' env' σ H' → Wk X.K J ds src → src (hd (hid A own') H') H' → R J H') → WI X tg iter σ H R
structure SI (X : Cx) (f : IF) (tg iter : Expr) : Prop where
  run : SI_ X f tg iter
instance coe_SI {X : Cx} {f : IF} {tg iter : Expr} : CoeFun (SI X f tg iter) (fun _ => SI_ X f tg iter) := ⟨fun h => h.run⟩
section
variable {X : Cx}
theorem wk_list {K : PySem.W.Frag} {a : Addr} {ds : List D} : Wk K (Itl K a) ds (fun (H : Vw) _ => ∃ vs, SqL K H a vs ∧ RepL K H ds vs) where
  mono := fun H _ H' _ ⟨vs, h1, h2⟩ s _ => ⟨vs, s.sqL h1, h2.mono s⟩
  stop := fun Hv H ⟨vs, h1, h2⟩ s => ⟨vs, s.sqL h1, Nat.le_of_eq h2.length.symm⟩
  go := fun Hv H i ⟨vs, h1, h2⟩ s hi => ⟨vs, vs[i]'(by rw [← h2.length]; exact hi), s.sqL h1, List.getElem?_eq_getElem _⟩
  yld := fun Hv H i x H' d ⟨vs, h1, h2⟩ s _ ⟨e, y⟩ hd1 => by
    subst e
    have q := y vs (s.sqL h1)
    obtain ⟨v, h3, h4⟩ := h2.get hd1
    rw [h3] at q
    cases q
    exact .inl ⟨rfl, h4⟩
theorem wk_tup {K : PySem.W.Frag} {a : Addr} {ds : List D} : Wk K (Itt K a) ds (fun (H : Vw) _ => ∃ vs, SqT K H a vs ∧ RepL K H ds vs) where
  mono := fun H _ H' _ ⟨vs, h1, h2⟩ s _ => ⟨vs, s.sqT h1, h2.mono s⟩
  stop := fun Hv H ⟨vs, h1, h2⟩ s => ⟨vs, s.sqT h1, Nat.le_of_eq h2.length.symm⟩
  go := fun Hv H i ⟨vs, h1, h2⟩ s hi => ⟨vs, vs[i]'(by rw [← h2.length]; exact hi), s.sqT h1, List.getElem?_eq_getElem _⟩
  yld := fun Hv H i x H' d ⟨vs, h1, h2⟩ s _ ⟨e, y⟩ hd1 => by
    subst e
    have q := y vs (s.sqT h1)
    obtain ⟨v, h3, h4⟩ := h2.get hd1
    rw [h3] at q
    cases q
    exact .inl ⟨rfl, h4⟩
def rgD (lo : Int) (n : Nat) : List D := (List.range n).map fun (i : Nat) => .int (lo + i)
theorem rgD_get {lo : Int} {n i : Nat} {d : D} (h : (rgD lo n)[i]? = some d) : d = .int (lo + i) ∧ i < n := by
  unfold rgD at h
  rw [List.getElem?_map] at h
  cases e : (List.range n)[i]? with
  | none => rw [e] at h; cases h
  | some j =>
    rw [e] at h
    cases h
    obtain ⟨h1, h2⟩ := List.getElem?_eq_some_iff.mp e
    rw [List.getElem_range] at h2
    subst h2
    rw [List.length_range] at h1
    exact ⟨rfl, h1⟩
theorem wk_rng {K : PySem.W.Frag} {lo : Int} {n : Nat} : Wk K (Itr lo n) (rgD lo n) (fun _ _ => True) where
  mono := fun _ _ _ _ _ _ _ => trivial
  stop := fun Hv H _ _ => by show n ≤ (rgD lo n).length; unfold rgD; rw [List.length_map, List.length_range]; exact Nat.le_refl _
  go := fun Hv H i _ _ hi => by
    unfold rgD at hi
    rw [List.length_map, List.length_range] at hi
    exact hi
  yld := fun Hv H i x H' d _ _ _ ⟨e, y⟩ hd1 => by
    subst e y
    rw [(rgD_get hd1).1]
    exact .inl ⟨rfl, .int _⟩
/-- over a list, a tuple -/
def iSq (f : EF) : IF := fun env => match f env with
  | some (.lst xs, _, e) => some (xs, e)
  | some (.flz xs, _, e) => some (xs, e)
  | some (d, _, e) => match d.asTup with
    | some xs => some (xs, e)
    | none => none
  | _ => none
theorem si_sq {f : EF} {tg iter : Expr} (hf : SE X f iter) : SI X (iSq f) tg iter := by
  refine ⟨?_⟩
  intro A own env σ H ds env' r h R k
  unfold iSq at h
  split at h
  · rename_i xs fr e1 h1
    cases h
    refine ⟨_, pi_list pe_w, hf A own env σ H _ fr env' r h1 _ fun v H1 own1 s1 R1 => ?_⟩
    have rp := R1.rp
    cases rp with
    | lst q1 q2 => exact ⟨_, rfl, ⟨_, .inl (.inl (hd_sub _ _ q1))⟩, k _ H1 own1 _ s1 R1.en wk_list ⟨_, .inl (.inl q1), q2⟩⟩
  · rename_i xs fr e1 h1
    cases h
    refine ⟨_, pi_list pe_w, hf A own env σ H _ fr env' r h1 _ fun v H1 own1 s1 R1 => ?_⟩
    have rp := R1.rp
    cases rp with
    | flz q1 q2 => exact ⟨_, rfl, ⟨_, hd_sub.sqL q1⟩, k _ H1 own1 _ s1 R1.en wk_list ⟨_, q1, q2⟩⟩
  · rename_i d fr e1 _ _ h1
    split at h
    · rename_i xs hx
      cases h
      refine ⟨_, pi_tup pe_w, hf A own env σ H _ fr env' r h1 _ fun v H1 own1 s1 R1 => ?_⟩
      obtain ⟨a, vs, rfl, q1, q2⟩ := R1.rp.tupA hx
      exact ⟨_, rfl, ⟨_, hd_sub.sqT q1⟩, k _ H1 own1 _ s1 R1.en wk_tup ⟨_, q1, q2⟩⟩
    · cases h
  · cases h
def iR1 (f : EF) : IF := fun env => match f env with
  | some (.int j, _, e) => if -(2 ^ 62) ≤ j ∧ j < 2 ^ 62 then some (rgD 0 j.toNat, e) else none
  | _ => none
theorem si_r1 {f : EF} {tg a : Expr} {p pos : Pos} (hg : Gl X "range") (hm : X.mg "range" = none) (hf : SE X f a) (hs : starEach [a] X.env = [(false, eval a X.env)]) : SI X (iR1 f) tg (.Call (.Name "range" p) [a] [] pos) := by
  refine ⟨?_⟩
  intro A own env σ H ds env' r h R k
  unfold iR1 at h
  split at h
  · rename_i j fr e1 h1
    split at h
    · rename_i hb
      cases h
      refine ⟨_, pi_range1 hg hm (pa_cons pe_w pa_nil hs) hs, hf A own env σ H _ fr env' r h1 _ fun v H1 own1 s1 R1 => ⟨j, ?_, hb.1, hb.2, k _ H1 own1 _ s1 R1.en wk_rng trivial⟩⟩
      rw [(View.sc (Hh := _) (H := H1) R1.rp).int]
    · cases h
  · cases h
def iR2 (f g : EF) : IF := fun env => match f env with
  | some (.int i, _, e) => match g e with
    | some (.int j, _, e2) => if -(2 ^ 62) ≤ i ∧ i < 2 ^ 62 ∧ -(2 ^ 62) ≤ j ∧ j < 2 ^ 62 then some (rgD i (j - i).toNat, e2) else none
    | _ => none
  | _ => none
theorem si_r2 {f g : EF} {tg a b : Expr} {p pos : Pos} (hg : Gl X "range") (hm : X.mg "range" = none) (hf : SE X f a) (hgg : SE X g b) (hs : starEach [a, b] X.env = [(false, eval a X.env), (false, eval b X.env)]) (hs2 : starEach [b] X.env = [(false, eval b X.env)]) :
    SI X (iR2 f g) tg (.Call (.Name "range" p) [a, b] [] pos) := by
  refine ⟨?_⟩
  intro A own env σ H ds env' r h R k
  unfold iR2 at h
  split at h
  · rename_i i fr e1 h1
    split at h
    · rename_i j fr2 e2 h2
      split at h
      · rename_i hb
        cases h
        refine ⟨_, pi_range2 hg hm (pa_cons pe_w (pa_cons pe_w pa_nil hs2) (by rw [hs, hs2])) hs hs2, hf A own env σ H _ fr e1 r h1 _ fun v H1 own1 s1 R1 => hgg A own1 e1 σ H1 _ fr2 env' R1.en h2 _ fun u H2 own2 s2 R2 => ⟨i, j, ?_, hb, k _ H2 own2 _ (s1.trans s2) R2.en wk_rng trivial⟩⟩
        rw [(View.sc (Hh := _) (H := H1) R1.rp).int, (View.sc (Hh := _) (H := H2) R2.rp).int]
      · cases h
    · cases h
  · cases h
/-! ### for -/
def forL (g : GF) (b : SF) : List D → En → Option Out
  | [], env => some (.nx env)
  | d :: ds, env => match g d env with
    | some e1 => match b e1 with
      | some (.nx e2) => forL g b ds e2
      | some (.ct e2) => forL g b ds e2
      | some (.bk e2) => some (.nx e2)
      | r => r
    | none => none
def sFor (f : IF) (g : GF) (b : SF) : SF := fun env => match f env with
  | some (ds, e) => forL g b ds e
  | none => none
theorem drop_cons {α : Type} {l : List α} {i : Nat} {d : α} (h : l[i]? = some d) : l.drop i = d :: l.drop (i + 1) := by
  obtain ⟨h1, h2⟩ := List.getElem?_eq_some_iff.mp h
  rw [List.drop_eq_getElem_cons h1, h2]
theorem ss_for {js : List Nat} {f : IF} {g : GF} {b : SF} {tg iter : Expr} {body : List Stmt} {pos} (hp : PassesOwn (model X.prog X.w) X.A X.env X.xe) (hc : X.calm = true) (hf : SI X f tg iter) (hg : SG X js g tg) (hb : SB X b body) (hs : ∀ x, foldedSetIterable iter X.env x = pure x) :
    SS X (sFor f g b) (.For tg iter body [] pos) := by
  refine ⟨?_⟩
  intro A own env σ H out r h D k
  unfold sFor at h
  split at h
  · rename_i ds e1 h1
    refine ws_of (ps_for hp hc pi_w pg_w pss_w hs) (hf A own env σ H ds e1 r h1 _ fun J H1 own1 src s1 r1 w1 q1 => ?_)
    have k1 := k.after s1.toStp
    refine ⟨fun i m σ' H' => m = ds.length - i ∧ i ≤ ds.length ∧ ∃ own' env', Stp A own1 H1 own' H' ∧ EnvR X.K A own' env' σ' H' ∧ src (hd (hid A own') H') H' ∧ forL g b (ds.drop i) env' = some out, ⟨ds.length, by simp, Nat.zero_le _, own1, e1, Stp.refl, r1, q1, h⟩, ?_⟩
    rintro i m σ' H' ⟨rfl, hi, own', env', s', r', q', h'⟩
    by_cases hlt : i < ds.length
    · refine .inr ⟨w1.go _ H' i q' hd_sub hlt, fun σ3 H3 => ∃ own3 env3, Stp A own1 H1 own3 H3 ∧ EnvR X.K A own3 env3 σ3 H3 ∧ src (hd (hid A own3) H3) H3 ∧ forL g b (ds.drop (i + 1)) env3 = some out, fun σ3 H3 z => ⟨ds.length - (i + 1), by omega, rfl, hlt, z⟩, fun x H3 y => ?_⟩
      have hd1 : ds[i]? = some ds[i] := List.getElem?_eq_getElem hlt
      obtain ⟨r3, s3, z2⟩ := w1.item r' q' y hd1
      have q3 := w1.mono _ _ _ _ q' s3.toStp.sub s3.toStp.fz
      rw [drop_cons hd1] at h'
      have h4 : (match g ds[i] env' with
        | some e1 => match b e1 with
          | some (.nx e2) => forL g b (ds.drop (i + 1)) e2
          | some (.ct e2) => forL g b (ds.drop (i + 1)) e2
          | some (.bk e2) => some (.nx e2)
          | r => r
        | none => none) = some out := h'
      split at h4
      · rename_i e2 h5
        refine hg A own' env' σ' H3 ds[i] e2 x r3 z2 h5 _ fun σ4 own4 s4 r4 _ _ => ?_
        have q4 := w1.mono _ _ _ _ q3 s4.toStp.sub s4.toStp.fz
        have st4 : Stp A own1 H1 own4 H3 := s'.trans (s3.toStp.trans s4.toStp)
        cases h6 : b e2 with
        | none => rw [h6] at h4; cases h4
        | some o =>
          rw [h6] at h4
          refine hb A own4 e2 σ4 H3 o r4 h6 _ ?_
          cases o with
          | nx e3 => exact fun σ5 H5 own5 s5 r5 => ⟨own5, e3, st4.trans s5, r5, w1.mono _ _ _ _ q4 s5.sub s5.fz, h4⟩
          | ct e3 => exact fun σ5 H5 own5 s5 r5 => ⟨own5, e3, st4.trans s5, r5, w1.mono _ _ _ _ q4 s5.sub s5.fz, h4⟩
          | bk e3 =>
            cases h4
            exact fun σ5 H5 own5 s5 r5 => k1 σ5 H5 own5 (st4.trans s5) r5
          | rt d e3 =>
            cases h4
            exact fun v σ5 H5 own5 s5 r5 q5 => k1 v σ5 H5 own5 (st4.trans s5) r5 q5
      · cases h4
    · have e : i = ds.length := by omega
      subst e
      rw [List.drop_length] at h'
      cases h'
      exact .inl ⟨w1.stop _ H' q' hd_sub, k1 σ' H' own' s' r'⟩
  · cases h
/-! ### while, by a count of turns -/
def whL (t : TF) (b : SF) : Nat → En → Option Out
  | 0, _ => none
  | n + 1, env => match t env with
    | some (false, e) => some (.nx e)
    | some (true, e) => match b e with
      | some (.nx e2) => whL t b n e2
      | some (.ct e2) => whL t b n e2
      | some (.bk e2) => some (.nx e2)
      | r => r
    | none => none
theorem ss_while {n : Nat} {t : TF} {b : SF} {c : Expr} {body : List Stmt} {pos} (hp : PassesOwn (model X.prog X.w) X.A X.env X.xe) (ht : ST X t c) (hb : SB X b body) : SS X (whL t b n) (.While c body [] pos) := by
  refine ⟨?_⟩
  intro A own env σ H out r h D k
  refine ws_of (ps_while hp pt_w pss_w) ⟨fun m σ' H' => ∃ own' env', Stp A own H own' H' ∧ EnvR X.K A own' env' σ' H' ∧ whL t b m env' = some out, ⟨n, own, env, Stp.refl, r, h⟩, ?_⟩
  rintro m σ' H' ⟨own', env', s', r', h'⟩
  cases m with
  | zero => cases h'
  | succ m =>
    have h4 : (match t env' with
      | some (false, e) => some (.nx e)
      | some (true, e) => match b e with
        | some (.nx e2) => whL t b m e2
        | some (.ct e2) => whL t b m e2
        | some (.bk e2) => some (.nx e2)
        | r => r
      | none => none) = some out := h'
    split at h4
    · rename_i e1 h1
      cases h4
      refine ht A own' env' σ' H' false e1 r' h1 _ fun H1 own1 s1 r1 => ?_
      rw [if_neg (by decide)]
      exact k σ' H1 own1 (s'.trans s1.toStp) r1
    · rename_i e1 h1
      refine ht A own' env' σ' H' true e1 r' h1 _ fun H1 own1 s1 r1 => ?_
      rw [if_pos rfl]
      have st1 := s'.trans s1.toStp
      refine ⟨fun σ3 H3 => ∃ own3 env3, Stp A own H own3 H3 ∧ EnvR X.K A own3 env3 σ3 H3 ∧ whL t b m env3 = some out, fun σ3 H3 z => ⟨m, Nat.lt_succ_self m, z⟩, ?_⟩
      cases h6 : b e1 with
      | none => rw [h6] at h4; cases h4
      | some o =>
        rw [h6] at h4
        refine hb A own1 e1 σ' H1 o r1 h6 _ ?_
        cases o with
        | nx e3 => exact fun σ5 H5 own5 s5 r5 => ⟨own5, e3, st1.trans s5, r5, h4⟩
        | ct e3 => exact fun σ5 H5 own5 s5 r5 => ⟨own5, e3, st1.trans s5, r5, h4⟩
        | bk e3 =>
          cases h4
          exact fun σ5 H5 own5 s5 r5 => k σ5 H5 own5 (st1.trans s5) r5
        | rt d e3 =>
          cases h4
          exact fun v σ5 H5 own5 s5 r5 q5 => k v σ5 H5 own5 (st1.trans s5) r5 q5
    · cases h4
end
end Dz
/-! DzComp: list comprehensions. -/
namespace Dz
open PySem L2
/-- the block's own slots forgotten; put back -/
def wipeE (env : En) : List Nat → En
  | [] => env
  | v :: vs => (wipeE env vs).set v none
def backE (env0 env1 : En) : List Nat → En
  | [] => env1
  | v :: vs => (backE env0 env1 vs).set v ((env0.sl[v]?).getD none)
/-- none of the block's own slots owns -/
def freeE (env : En) : List Nat → Bool
  | [] => true
  | v :: vs => (match env.sl[v]? with
    | some (some (_, .sh)) => true
    | some (some _) => false
    | _ => true) && freeE env vs
theorem wipeE_length (env : En) : ∀ vs : List Nat, (wipeE env vs).sl.length = env.sl.length
  | [] => rfl
  | v :: vs => by unfold wipeE; rw [List.length_set, wipeE_length env vs]
theorem backE_length (env0 env1 : En) : ∀ vs : List Nat, (backE env0 env1 vs).sl.length = env1.sl.length
  | [] => rfl
  | v :: vs => by unfold backE; rw [List.length_set, backE_length env0 env1 vs]
theorem wipeE_st (env : En) : ∀ vs : List Nat, (wipeE env vs).st = env.st
  | [] => rfl
  | v :: vs => by unfold wipeE; exact wipeE_st env vs
theorem backE_st (env0 env1 : En) : ∀ vs : List Nat, (backE env0 env1 vs).st = env1.st
  | [] => rfl
  | v :: vs => by unfold backE; exact backE_st env0 env1 vs
theorem wipeE_out {env : En} {i : Nat} : ∀ {vs : List Nat}, i ∉ vs → (wipeE env vs).sl[i]? = env.sl[i]?
  | [], _ => rfl
  | v :: vs, h => by
    unfold wipeE
    rw [List.getElem?_set_ne (fun z => h (by rw [z]; exact List.mem_cons_self ..)), wipeE_out fun z => h (List.mem_cons_of_mem _ z)]
theorem wipe_out {σ : St} {i : Nat} : ∀ {vs : List Nat}, i ∉ vs → (wipe σ vs)[i]? = σ[i]?
  | [], _ => rfl
  | v :: vs, h => by
    unfold wipe
    rw [List.getElem?_set_ne (fun z => h (by rw [z]; exact List.mem_cons_self ..)), wipe_out fun z => h (List.mem_cons_of_mem _ z)]
theorem wipeE_in {env : En} {i : Nat} {s : D × Fl} : ∀ {vs : List Nat}, i ∈ vs → (wipeE env vs).sl[i]? ≠ some (some s)
  | v :: vs, h, e => by
    unfold wipeE at e
    by_cases hv : v = i
    · subst hv
      by_cases hl : v < (wipeE env vs).sl.length
      · rw [List.getElem?_set_self hl] at e; cases e
      · rw [List.getElem?_eq_none (by simpa using hl)] at e; cases e
    · rw [List.getElem?_set_ne hv] at e
      rcases List.mem_cons.mp h with z | z
      · exact hv z.symm
      · exact wipeE_in z e
theorem backE_out {env0 env1 : En} {i : Nat} : ∀ {vs : List Nat}, i ∉ vs → (backE env0 env1 vs).sl[i]? = env1.sl[i]?
  | [], _ => rfl
  | v :: vs, h => by
    unfold backE
    rw [List.getElem?_set_ne (fun z => h (by rw [z]; exact List.mem_cons_self ..)), backE_out fun z => h (List.mem_cons_of_mem _ z)]
theorem backE_in {env0 env1 : En} {i : Nat} {s : D × Fl} : ∀ {vs : List Nat}, i ∈ vs → (backE env0 env1 vs).sl[i]? = some (some s) → env0.sl[i]? = some (some s)
  | v :: vs, h, e => by
    unfold backE at e
    by_cases hv : v = i
    · subst hv
      by_cases hl : v < (backE env0 env1 vs).sl.length
      · rw [List.getElem?_set_self hl] at e
        cases q : env0.sl[v]? with
        | none => rw [q] at e; cases e
        | some z => rw [q] at e; exact e
      · rw [List.getElem?_eq_none (by simpa using hl)] at e; cases e
    · rw [List.getElem?_set_ne hv] at e
      rcases List.mem_cons.mp h with z | z
      · exact absurd z.symm hv
      · exact backE_in z e
theorem freeE_in {env : En} {i : Nat} {d : D} {f : Fl} (hf : f ≠ .sh) : ∀ {vs : List Nat}, freeE env vs = true → i ∈ vs → env.sl[i]? ≠ some (some (d, f))
  | v :: vs, h, hi, e => by
    unfold freeE at h
    obtain ⟨h1, h2⟩ := Bool.and_eq_true_iff.mp h
    rcases List.mem_cons.mp hi with z | z
    · subst z
      rw [e] at h1
      cases f with
      | sh => exact hf rfl
      | ow => cases h1
      | bo => cases h1
    · exact freeE_in hf h2 z e
section
variable {K : PySem.W.Frag} {A : Amb} {own own1 : Own} {env env1 : En} {σ : St} {H H1 : Hp} {vs : List Nat}
theorem EnvR.wipeN (r : EnvR K A own env σ H) (f : ∀ i, i ∈ vs → ∀ a, own i ≠ some a) : EnvR K A own (wipeE env vs) (L2.wipe σ vs) H where
  sh := fun i d h => by
    by_cases hi : i ∈ vs
    · exact absurd h (wipeE_in hi)
    · rw [wipeE_out hi] at h
      rw [wipe_out hi]
      exact r.sh i d h
  ow := fun i d fl h hf => by
    by_cases hi : i ∈ vs
    · exact absurd h (wipeE_in hi)
    · rw [wipeE_out hi] at h
      rw [wipe_out hi]
      exact r.ow i d fl h hf
  no := fun i a h => by
    obtain ⟨d, fl, e, hf⟩ := r.no i a h
    by_cases hi : i ∈ vs
    · exact absurd h (f i hi a)
    · exact ⟨d, fl, by rw [wipeE_out hi]; exact e, hf⟩
  bo := fun i d h => by
    by_cases hi : i ∈ vs
    · exact absurd h (wipeE_in hi)
    · rw [wipeE_out hi] at h
      exact r.bo i d h
  ce := fun j d h => r.ce j d (by rw [wipeE_st] at h; exact h)
  cn := fun j a h => by rw [wipeE_st]; exact r.cn j a h
  inj := r.inj
  sep := r.sep
  al := r.al
  nt := r.nt
  len := by rw [wipe_length, wipeE_length]; exact r.len
theorem EnvR.free (r : EnvR K A own env σ H) (f : freeE env vs = true) : ∀ i, i ∈ vs → ∀ a, own i ≠ some a := fun i hi a e => by
  obtain ⟨d, fl, q, hf⟩ := r.no i a e
  exact freeE_in hf f hi q
theorem EnvR.back {A0 : Amb} (r : EnvR K A0 own env σ H) (fr : ∀ i, i ∈ vs → ∀ a, own1 i ≠ some a) (fe : freeE env vs = true) (sb : VSub (hd (hid A0 own) H) (hd (hid A own1) H1)) (r1 : EnvR K A own1 env1 (L2.wipe σ vs) H1) : EnvR K A own1 (backE env env1 vs) σ H1 := by
  refine ⟨fun i d h => ?_, fun i d fl h hf => ?_, fun i a h => ?_, fun i d h => ?_, fun j d h => r1.ce j d (by rw [backE_st] at h; exact h), fun j a h => by rw [backE_st]; exact r1.cn j a h, r1.inj, r1.sep, r1.al, ?_, r1.nt⟩
  · by_cases hi : i ∈ vs
    · obtain ⟨v, h1, h2⟩ := r.sh i d (backE_in hi h)
      exact ⟨v, h1, h2.mono sb⟩
    · rw [backE_out hi] at h
      obtain ⟨v, h1, h2⟩ := r1.sh i d h
      rw [wipe_out hi] at h1
      exact ⟨v, h1, h2⟩
  · by_cases hi : i ∈ vs
    · exact absurd (backE_in hi h) (freeE_in hf fe hi)
    · rw [backE_out hi] at h
      obtain ⟨v, h1, h2, h3⟩ := r1.ow i d fl h hf
      rw [wipe_out hi] at h2
      exact ⟨v, h1, h2, h3⟩
  · by_cases hi : i ∈ vs
    · exact absurd h (fr i hi a)
    · obtain ⟨d, fl, e, hf⟩ := r1.no i a h
      exact ⟨d, fl, by rw [backE_out hi]; exact e, hf⟩
  · by_cases hi : i ∈ vs
    · exact absurd (backE_in hi h) (freeE_in (fun z => by cases z) fe hi)
    · rw [backE_out hi] at h
      exact r1.bo i d h
  · rw [backE_length, ← r1.len, wipe_length]
theorem wipe_eq_of : ∀ {vs : List Nat} {σ σ' : St}, (∀ j, j ∉ vs → σ'[j]? = σ[j]?) → σ'.length = σ.length → L2.wipe σ' vs = L2.wipe σ vs := fun {vs σ σ'} h hl => by
  apply List.ext_getElem?
  intro i
  by_cases hi : i ∈ vs
  · have key : ∀ τ : St, (L2.wipe τ vs)[i]? = if i < τ.length then some none else none := fun τ => by
      by_cases hlt : i < τ.length
      · rw [if_pos hlt]
        cases e : (L2.wipe τ vs)[i]? with
        | none =>
          have := List.getElem?_eq_none_iff.mp e
          rw [wipe_length] at this
          omega
        | some o =>
          cases o with
          | none => rfl
          | some v => exact absurd hi (wipe_some e).2
      · rw [if_neg hlt]
        exact List.getElem?_eq_none (by rw [wipe_length]; omega)
    rw [key, key, hl]
  · rw [wipe_out hi, wipe_out hi, h i hi]
end
/-! ### the turns -/
/-- what is collected -/
def lcL (vs : List Nat) (g : GF) (t : TF) (f : EF) : List D → En → List D → Option (List D × En)
  | [], env, acc => some (acc, wipeE env vs)
  | d :: ds, env, acc => match g d (wipeE env vs) with
    | some e1 => match t e1 with
      | some (true, e2) => match f e2 with
        | some (y, _, e3) => if acc.length < 100000 then lcL vs g t f ds e3 (acc ++ [y]) else none
        | none => none
      | some (false, e2) => lcL vs g t f ds e2 acc
      | none => none
    | none => none
def sublist (js vs : List Nat) : Bool := js.all fun j => vs.contains j
section
variable {X : Cx}
/-- tests of a block -/
def WTs (X : Cx) (ifs : List Expr) : TT := fun σ H Q => ∃ t, PTs X ifs t ∧ t σ H Q
theorem pts_w {ifs : List Expr} : PTs X ifs (WTs X ifs) := ⟨fun pins s σ H Q I ⟨t, p, h⟩ => p.run pins s σ H Q I h⟩
def STs_ (X : Cx) (f : TF) (ifs : List Expr) : Prop := ∀ A own env σ H b env', EnvR X.K A own env σ H → f env = some (b, env') → ∀ Q : Bool → Hp → Prop,
  (∀ H' own', StpE A own H own' H' → EnvR X.K A own' env' σ H' → Q b H') → WTs X ifs σ H Q
structure STs (X : Cx) (f : TF) (ifs : List Expr) : Prop where
  run : STs_ X f ifs
instance coe_STs {X : Cx} {f : TF} {ifs : List Expr} : CoeFun (STs X f ifs) (fun _ => STs_ X f ifs) := ⟨fun h => h.run⟩
def tTrue : TF := fun env => some (true, env)
theorem sts_nil : STs X tTrue [] := by
  refine ⟨?_⟩
  intro A own env σ H b env' r h Q k
  cases h
  exact ⟨_, pts_nil, k H own StpE.refl r⟩
theorem sts_one {f : TF} {c : Expr} (hf : ST X f c) : STs X f [c] := by
  refine ⟨?_⟩
  intro A own env σ H b env' r h Q k
  exact ⟨_, pts_one pt_w, hf A own env σ H b env' r h Q k⟩
/-- the blocks of a comprehension at X -/
def AtBlk (X : Cx) (scope : Scope) (P : Cx → Prop) : Prop := ∀ (s : Shared) (H : Hp) (C : Addr) (cl : List (Str × Addr)) (fp : List Addr), P (X.blk s H scope (compEnvC scope cl C X.env) fp)
/-- an expression, a target, tests in all of them -/
def BE (X : Cx) (scope : Scope) (e : Expr) : TE := fun σ H Q => AtBlk X scope fun Y => WE Y e σ H Q
def BT (X : Cx) (scope : Scope) (ifs : List Expr) : TT := fun σ H Q => AtBlk X scope fun Y => WTs Y ifs σ H Q
def BG (X : Cx) (scope : Scope) (tg : Expr) : TG := fun v σ H Q => AtBlk X scope fun Y => WG Y tg v σ H Q
theorem Stp.less {A : Amb} {c : Addr} {own own' : Own} {H H' : Hp} (s : Stp (Plus A c) own H own' H') : Stp A own H own' H' where
  kp := fun b o n e => by
    by_cases h : b = c
    · rw [s.hi b (.inr h)]; exact .inl e
    · exact s.kp b o (fun z => by
        rcases z with (z | z) | z
        · exact n (.inl z)
        · exact h z
        · exact n (.inr z)) e
  hi := fun b h => s.hi b (.inl h)
  ow := s.ow
  th := s.th
  wl := s.wl
  fz := s.fz
theorem sublist_mem {js vs : List Nat} (h : sublist js vs = true) {j : Nat} (hj : j ∈ js) : j ∈ vs := by
  have := List.all_eq_true.mp h j hj
  simpa using this
theorem wipe_wipe {σ : St} {vs : List Nat} : L2.wipe (L2.wipe σ vs) vs = L2.wipe σ vs := wipe_eq_of (fun j hj => wipe_out hj) (wipe_length σ vs)
/-- the reading of [elt for tg in iter if ..] -/
theorem lc_read {js vs : List Nat} {fi : IF} {g : GF} {t : TF} {f : EF} {scope : Scope} {elt tg iter : Expr} {ifs : List Expr}
    (hi : SI X fi tg iter) (hg : AtBlk X scope fun Y => SG Y js g tg) (ht : AtBlk X scope fun Y => STs Y t ifs) (he : AtBlk X scope fun Y => SE Y f elt) (hjs : sublist js vs = true)
    {A : Amb} {own : Own} {env : En} {σ : St} {H : Hp} {ds : List D} {e1 : En} {ys : List D} {e2 : En} (r : EnvR X.K A own env σ H) (h1 : fi env = some (ds, e1)) (hfr : freeE e1 vs = true) (h2 : lcL vs g t f ds e1 [] = some (ys, e2))
    {Q : VK} (k : ∀ v H' own', StpE A own H own' H' → Res X.K A own' (backE e1 e2 vs) σ H H' true (.lst ys) v → Q v H') : tLc (WI X tg iter) (BG X scope tg) (BT X scope ifs) (BE X scope elt) vs σ H Q := by
  refine hi A own env σ H ds e1 r h1 _ fun J H1 own1 src s1 r1 w1 q1 => ?_
  intro Dl hDl
  have rD := r1.new (o := .lst []) hDl
  have nA : ∀ b, A b → b ≠ Dl := fun b hb z => by
    obtain ⟨o, e⟩ := r1.al b hb
    rw [z, hDl] at e; cases e
  have sb1 : VSub (hd (hid A own1) H1) (hd (hid (Plus A Dl) own1) (upd H1 Dl (.lst []))) := hd_mono (fun b u _ z => sub_new hDl b u z) fun b u n e => by
    rintro ((z | z) | z)
    · exact n (.inl z)
    · exact absurd z (ne_of_none e hDl)
    · exact n (.inr z)
  have fr1 := r1.free hfr
  -- the state between two turns
  refine ⟨fun i m H' => m = ds.length - i ∧ i ≤ ds.length ∧ ∃ own' env' acc us, StpE A own1 H1 own' H' ∧ EnvR X.K (Plus A Dl) own' (wipeE env' vs) (L2.wipe σ vs) H' ∧ VSub (hd (hid A own1) H1) (hd (hid (Plus A Dl) own') H') ∧ H' Dl = some (.lst us) ∧
      RepL X.K (hd (hid (Plus A Dl) own') H') acc us ∧ lcL vs g t f (ds.drop i) env' acc = some (ys, e2) ∧ acc.length ≤ 100000,
    ⟨ds.length, by simp, Nat.zero_le _, own1, e1, [], [], ⟨Stp.new r1 hDl, fun _ _ z => z⟩, rD.wipeN fr1, sb1, upd_same, .nil, h2, Nat.zero_le _⟩, ?_⟩
  rintro i m H' ⟨rfl, hle, own', env', acc, us, s', r', sb', hD', rp', h', hacc⟩
  have fr' : ∀ i, i ∈ vs → ∀ a, own' i ≠ some a := fun i hi a e => fr1 i hi a (s'.dr i a e)
  by_cases hlt : i < ds.length
  · have hd1 : ds[i]? = some ds[i] := List.getElem?_eq_getElem hlt
    have q' := w1.mono _ _ _ _ q1 sb' s'.toStp.fz
    refine .inr ⟨w1.go _ H' i q' hd_sub hlt, fun H3 => ∃ own3 env3 acc3 us3, StpE A own1 H1 own3 H3 ∧ EnvR X.K (Plus A Dl) own3 (wipeE env3 vs) (L2.wipe σ vs) H3 ∧ VSub (hd (hid A own1) H1) (hd (hid (Plus A Dl) own3) H3) ∧ H3 Dl = some (.lst us3) ∧
      RepL X.K (hd (hid (Plus A Dl) own3) H3) acc3 us3 ∧ lcL vs g t f (ds.drop (i + 1)) env3 acc3 = some (ys, e2) ∧ acc3.length ≤ 100000, fun H3 z => ⟨ds.length - (i + 1), by omega, rfl, hlt, z⟩, fun x H3 y => ?_⟩
    obtain ⟨r3, s3, z2⟩ := w1.item r' q' y hd1
    rw [drop_cons hd1] at h'
    have h4 : (match g ds[i] (wipeE env' vs) with
      | some e1 => match t e1 with
        | some (true, e2) => match f e2 with
          | some (y, _, e3) => if acc.length < 100000 then lcL vs g t f (ds.drop (i + 1)) e3 (acc ++ [y]) else none
          | none => none
        | some (false, e2) => lcL vs g t f (ds.drop (i + 1)) e2 acc
        | none => none
      | none => none) = some (ys, e2) := h'
    split at h4
    · rename_i ea h5
      -- the target
      intro s0 H0 C cl fp
      refine hg s0 H0 C cl fp (Plus A Dl) own' (wipeE env' vs) (L2.wipe σ vs) H3 ds[i] ea x r3 z2 h5 _ fun σ4 own4 s4 r4 o4 l4 => ?_
      have wq : L2.wipe σ4 vs = L2.wipe σ vs := (wipe_eq_of (fun j hj => o4 j fun z => hj (sublist_mem hjs z)) l4).trans wipe_wipe
      refine ⟨wq, ?_⟩
      have st4 : StpE (Plus A Dl) own' H' own4 H3 := s3.trans s4
      split at h4
      · rename_i eb h6
        -- the test holds
        intro s0 H0 C cl fp
        refine ht s0 H0 C cl fp (Plus A Dl) own4 ea σ4 H3 true eb r4 h6 _ fun H5 own5 s5 r5 => ?_
        rw [if_pos rfl]
        split at h4
        · rename_i y fr3 ec h7
          split at h4
          · rename_i hl
            intro s0 H0 C cl fp
            refine he s0 H0 C cl fp (Plus A Dl) own5 eb σ4 H5 y fr3 ec r5 h7 _ fun v H6 own6 s6 R6 => ?_
            have st6 : StpE (Plus A Dl) own' H' own6 H6 := (st4.trans s5).trans s6
            have hD6 : H6 Dl = some (.lst us) := by rw [st6.toStp.hi Dl (.inr rfl)]; exact hD'
            have st6A : StpE A own1 H1 own6 H6 := s'.trans ⟨st6.toStp.less, st6.dr⟩
            have rp6 : RepL X.K (hd (hid (Plus A Dl) own6) H6) acc us := rp'.mono st6.toStp.sub
            have sbh : ∀ P : Hid, P Dl → VSub (hd P H6) (hd P (upd H6 Dl (.lst (us ++ [v])))) := fun P hP => .updA hP
            have hPD : hid (Plus A Dl) own6 Dl := .inl (.inr rfl)
            refine ⟨us, hD6, by rw [← rp'.length]; exact Nat.lt_of_lt_of_le hl (by decide), own6, ec, acc ++ [y], us ++ [v], ⟨?_, st6A.dr⟩, ?_, (sb'.trans st6.toStp.sub).trans (sbh _ hPD), upd_same, ?_, h4, by rw [List.length_append]; exact hl⟩
            · refine ⟨fun b o n e => ?_, fun b hb => ?_, st6A.toStp.ow, fun b o e => ?_, st6A.toStp.wl, fun b od u e => ?_⟩
              · rw [upd_ne (ne_of_none e hDl)]; exact st6A.toStp.kp b o n e
              · rw [upd_ne (nA b hb)]; exact st6A.toStp.hi b hb
              · rw [upd_ne (ne_of_none e hDl)]; exact st6A.toStp.th b o e
              · rw [upd_ne (ne_of_none e hDl)]; exact st6A.toStp.fz b od u e
            · have fr6 : ∀ i, i ∈ vs → ∀ a, own6 i ≠ some a := fun i hi a e => fr1 i hi a (st6A.dr i a e)
              have rw6 := R6.en.wipeN fr6
              rw [wq] at rw6
              exact rw6.updA (.inr rfl)
            · exact (rp6.append (.cons R6.rp .nil)).mono (sbh _ hPD)
          · cases h4
        · cases h4
      · rename_i eb h6
        intro s0 H0 C cl fp
        refine ht s0 H0 C cl fp (Plus A Dl) own4 ea σ4 H3 false eb r4 h6 _ fun H5 own5 s5 r5 => ?_
        rw [if_neg (by decide)]
        have st5 : StpE (Plus A Dl) own' H' own5 H5 := st4.trans s5
        have st5A : StpE A own1 H1 own5 H5 := s'.trans ⟨st5.toStp.less, st5.dr⟩
        have fr5 : ∀ i, i ∈ vs → ∀ a, own5 i ≠ some a := fun i hi a e => fr1 i hi a (st5A.dr i a e)
        have rw5 := r5.wipeN fr5
        rw [wq] at rw5
        exact ⟨own5, eb, acc, us, st5A, rw5, sb'.trans st5.toStp.sub, by rw [st5.toStp.hi Dl (.inr rfl)]; exact hD', rp'.mono st5.toStp.sub, h4, hacc⟩
      · cases h4
    · cases h4
  · have e : i = ds.length := by omega
    subst e
    rw [List.drop_length] at h'
    cases h'
    have q' := w1.mono _ _ _ _ q1 sb' s'.toStp.fz
    refine .inl ⟨w1.stop _ H' q' hd_sub, k (.ref Dl) H' own' (s1.trans s') ?_⟩
    have rb : EnvR X.K (Plus A Dl) own' (backE e1 (wipeE env' vs) vs) σ H' := r1.back fr' hfr sb' r'
    have nh : ¬ hid A own' Dl := by
      rintro (z | ⟨j, z⟩)
      · exact nA Dl z rfl
      · exact rb.sep j Dl z (.inr rfl)
    have sbl : VSub (hd (hid (Plus A Dl) own') H') (hd (hid A own') H') := hd_mono (fun _ _ _ z => z) fun b o n _ z => n (hid_plus z)
    exact ⟨rb.less, .lst (hd_some.mpr ⟨nh, hD'⟩) (rp'.mono sbl), fun _ _ => ⟨Dl, rfl, s1.toStp.back hDl, rb, .lst hD' rp'⟩⟩
/-- [elt for tg in iter if ..] -/
def fLc (vs : List Nat) (fi : IF) (g : GF) (t : TF) (f : EF) : EF := fun env => match fi env with
  | some (ds, e1) => if freeE e1 vs then match lcL vs g t f ds e1 [] with
    | some (ys, e2) => some (.lst ys, true, backE e1 e2 vs)
    | none => none
    else none
  | none => none
theorem fLc_read {js : List Nat} {own1 : List (Str × Nat)} {fi : IF} {g : GF} {t : TF} {f : EF} {scope : Scope} {elt tg iter : Expr} {ifs : List Expr}
    (hi : SI X fi tg iter) (hg : AtBlk X scope fun Y => SG Y js g tg) (ht : AtBlk X scope fun Y => STs Y t ifs) (he : AtBlk X scope fun Y => SE Y f elt) (hjs : sublist js (own1.map (·.2)) = true)
    {A : Amb} {own : Own} {env env' : En} {σ : St} {H : Hp} {d : D} {fr : Bool} (r : EnvR X.K A own env σ H) (h : fLc (own1.map (·.2)) fi g t f env = some (d, fr, env')) {Q : VK}
    (k : ∀ v H' own', StpE A own H own' H' → Res X.K A own' env' σ H H' fr d v → Q v H') : tLc (WI X tg iter) (BG X scope tg) (BT X scope ifs) (BE X scope elt) (own1.map (·.2)) σ H Q := by
  unfold fLc at h
  split at h
  · rename_i ds e1 h1
    split at h
    · rename_i hf
      split at h
      · rename_i ys e2 h2
        cases h
        exact lc_read hi hg ht he hjs r h1 hf h2 k
      · cases h
    · cases h
  · cases h
theorem se_lc {js : List Nat} {own1 : List (Str × Nat)} {fi : IF} {g : GF} {t : TF} {f : EF} {scope : Scope} {elt tg iter : Expr} {ifs : List Expr} {pos : Pos} (hc : X.calm = true) (hN : X.N.Nodup)
    (hi : SI X fi tg iter) (ok : BlkOk X.N X.env.scope scope own1) (hg : AtBlk X scope fun Y => SG Y js g tg) (ht : AtBlk X scope fun Y => STs Y t ifs) (he : AtBlk X scope fun Y => SE Y f elt) (hjs : sublist js (own1.map (·.2)) = true) (hs : ∀ x, foldedSetIterable iter X.env x = pure x) :
    SE X (fLc (own1.map (·.2)) fi g t f) (.ListComp elt [⟨tg, iter, ifs, 0⟩] scope pos) := by
  refine ⟨?_⟩
  intro A own env σ H d fr env' r h Q k
  refine we_of (pe_lc (g := BG X scope tg) (tt := BT X scope ifs) (te := BE X scope elt) hc hN pi_w ok (fun s H C cl fp => ⟨fun pins s' σ H Q' u Q I rv h => h s _ C cl fp pins s' u I rv⟩) (fun s H C cl fp => ⟨fun pins s' σ H' Q I h => ?_⟩) (fun s H C cl fp => ⟨fun pins s' σ H Q I h => h s _ C cl fp pins s' I⟩) hs) (fLc_read hi hg ht he hjs r h k)
  obtain ⟨tt, p, q⟩ := h s H C cl fp
  exact p.run pins s' σ _ Q I q
theorem ss_setLc {i : Nat} {y : Str} {py : Pos} {js : List Nat} {own1 : List (Str × Nat)} {fi : IF} {g : GF} {t : TF} {f : EF} {scope : Scope} {elt tg iter : Expr} {ifs : List Expr} {pos spos : Pos} (hc : X.calm = true) (hN : X.N.Nodup) (hy : X.N[i]? = some y) (hyl : X.env.scope.names.lookup y = some .local)
    (hsw : swapsWith (.ListComp elt [⟨tg, iter, ifs, 0⟩] scope pos) (some (.Name y py)) spos.line X.env = pure true)
    (hi : SI X fi tg iter) (ok : BlkOk X.N X.env.scope scope own1) (hg : AtBlk X scope fun Y => SG Y js g tg) (ht : AtBlk X scope fun Y => STs Y t ifs) (he : AtBlk X scope fun Y => SE Y f elt) (hjs : sublist js (own1.map (·.2)) = true) (hs : ∀ x, foldedSetIterable iter X.env x = pure x) :
    SS X (sSet i (fLc (own1.map (·.2)) fi g t f)) (.Assign [.Name y py] (.ListComp elt [⟨tg, iter, ifs, 0⟩] scope pos) spos) := by
  refine ⟨?_⟩
  intro A own env σ H out r h D k
  unfold sSet at h
  split at h
  · rename_i d fr e h1
    split at h
    · rename_i hl
      cases h
      refine ws_of (ps_setLc (g := BG X scope tg) (tt := BT X scope ifs) (te := BE X scope elt) hc hN hy hyl hsw pi_w ok (fun s H C cl fp => ⟨fun pins s' σ H Q' u Q I rv h => h s _ C cl fp pins s' u I rv⟩) (fun s H C cl fp => ⟨fun pins s' σ H' Q I h => ?_⟩) (fun s H C cl fp => ⟨fun pins s' σ H Q I h => h s _ C cl fp pins s' I⟩) hs) (fLc_read hi hg ht he hjs r h1 fun v H1 own1 s1 R1 => ?_)
      · obtain ⟨tt, p, q⟩ := h s H C cl fp
        exact p.run pins s' σ _ Q I q
      · obtain ⟨own2, s2, r2⟩ := R1.put s1.toStp r.al hl
        exact k _ H1 own2 s2 r2
    · cases h
  · cases h
end
end Dz
/-! DzFun: a def's promise by what its body evaluates to; calls with borrowed arguments. -/
namespace Dz
open PySem PyProof.Rows L2
abbrev Arg := D × Fl
/-- the store, the arguments; the answer, the store, what the arguments became -/
abbrev Run := List D → List Arg → Option (D × List D × List Arg)
/-- the promise: run says what comes out -/
def spE (K : PySem.W.Frag) (n : Nat) (run : Run) : Sp := fun vs H Q _ => ∃ (A : Amb) (own : Own) (st : List D) (args : List Arg) (d : D) (st' : List D) (args' : List Arg),
  EnvR K A own ⟨args.map some, st⟩ (vs.map some) H ∧ vs.length = n ∧ run st args = some (d, st', args') ∧
  ∀ v H' own', Stp A own H own' H' → EnvR K A own' ⟨args'.map some, st'⟩ (vs.map some) H' → Rep K (hd (hid A own') H') d v → Q v H'
/-- what the borrowed parameters have become -/
def fins (e : En) : List Arg → Nat → Option (List Arg)
  | [], _ => some []
  | (d, .sh) :: r, i => match fins e r (i + 1) with
    | some l => some ((d, .sh) :: l)
    | none => none
  | (_, .ow) :: _, _ => none
  | (_, .bo) :: r, i => match e.sl[i]? with
    | some (some (d', .bo)) => match fins e r (i + 1) with
      | some l => some ((d', .bo) :: l)
      | none => none
    | _ => none
def runB (n : Nat) (b : SF) : Run := fun st args => match b ⟨args.map some ++ List.replicate (n - args.length) none, st⟩ with
  | some (.nx e) => match fins e args 0 with
    | some l => some (.non, e.st, l)
    | none => none
  | some (.rt d e) => match fins e args 0 with
    | some l => some (d, e.st, l)
    | none => none
  | _ => none
theorem fins_get {e : En} : ∀ {args : List Arg} {k : Nat} {l : List Arg}, fins e args k = some l → l.length = args.length ∧ ∀ i d f, l[i]? = some (d, f) →
    (f = .sh ∧ args[i]? = some (d, .sh)) ∨ (f = .bo ∧ e.sl[k + i]? = some (some (d, .bo)) ∧ ∃ d0, args[i]? = some (d0, .bo))
  | [], _, _, h => by
    cases h
    exact ⟨rfl, fun i d f h => by simp at h⟩
  | (d0, .sh) :: r, k, l, h => by
    unfold fins at h
    split at h
    · rename_i l2 h2
      cases h
      obtain ⟨h3, h4⟩ := fins_get h2
      refine ⟨by rw [List.length_cons, List.length_cons, h3], fun i d f hi => ?_⟩
      cases i with
      | zero =>
        simp at hi
        obtain ⟨rfl, rfl⟩ := hi
        exact .inl ⟨rfl, rfl⟩
      | succ i =>
        have hi2 : l2[i]? = some (d, f) := by simpa using hi
        rcases h4 i d f hi2 with z | z
        · exact .inl ⟨z.1, by simpa using z.2⟩
        · exact .inr ⟨z.1, by rw [show k + (i + 1) = k + 1 + i by omega]; exact z.2.1, by simpa using z.2.2⟩
    · cases h
  | (d0, .ow) :: r, k, l, h => by cases h
  | (d0, .bo) :: r, k, l, h => by
    unfold fins at h
    split at h
    · rename_i d1 h1
      split at h
      · rename_i l2 h2
        cases h
        obtain ⟨h3, h4⟩ := fins_get h2
        refine ⟨by rw [List.length_cons, List.length_cons, h3], fun i d f hi => ?_⟩
        cases i with
        | zero =>
          simp at hi
          obtain ⟨rfl, rfl⟩ := hi
          exact .inr ⟨rfl, h1, d0, rfl⟩
        | succ i =>
          have hi2 : l2[i]? = some (d, f) := by simpa using hi
          rcases h4 i d f hi2 with z | z
          · exact .inl ⟨z.1, by simpa using z.2⟩
          · exact .inr ⟨z.1, by rw [show k + (i + 1) = k + 1 + i by omega]; exact z.2.1, by simpa using z.2.2⟩
      · cases h
    · cases h
theorem map_some_get {α : Type} {l : List α} {i : Nat} {x : α} (h : (l.map some)[i]? = some (some x)) : l[i]? = some x := by
  rw [List.getElem?_map] at h
  cases e : l[i]? with
  | none => rw [e] at h; cases h
  | some y => rw [e] at h; cases h; rfl
theorem map_some_get' {α : Type} {l : List α} {i : Nat} {x : α} (h : l[i]? = some x) : (l.map some)[i]? = some (some x) := by
  rw [List.getElem?_map, h]; rfl
theorem pad_get {α : Type} {l : List (Option α)} {n i : Nat} {x : α} (h : (l ++ List.replicate n none)[i]? = some (some x)) : l[i]? = some (some x) := by
  by_cases hi : i < l.length
  · rw [List.getElem?_append_left hi] at h; exact h
  · rw [List.getElem?_append_right (by omega), List.getElem?_replicate] at h
    split at h <;> cases h
theorem pad_get' {α : Type} {l m : List α} {i : Nat} {x : α} (h : l[i]? = some x) : (l ++ m)[i]? = some x := by
  rw [List.getElem?_append_left (List.getElem?_eq_some_iff.mp h).1]; exact h
section
variable {K : PySem.W.Frag} {A : Amb} {own : Own} {σ : L2.St} {H H' : Hp}
/-- more slots, empty -/
theorem EnvR.pad {env : En} (r : EnvR K A own env σ H) (n : Nat) : EnvR K A own (env.app (List.replicate n none)) (σ ++ List.replicate n none) H where
  sh := fun i d h => let ⟨v, h1, h2⟩ := r.sh i d (pad_get h); ⟨v, pad_get' h1, h2⟩
  ow := fun i d f h hf => let ⟨a, h1, h2, h3⟩ := r.ow i d f (pad_get h) hf; ⟨a, h1, pad_get' h2, h3⟩
  no := fun i a h => let ⟨d, f, h1, h2⟩ := r.no i a h; ⟨d, f, pad_get' h1, h2⟩
  bo := fun i d h => r.bo i d (pad_get h)
  ce := r.ce
  cn := r.cn
  inj := r.inj
  sep := r.sep
  al := r.al
  nt := r.nt
  len := by rw [List.length_append, List.length_append, List.length_replicate, List.length_replicate, r.len]
/-- the parameters' slots behind a body -/
theorem ends {st : List D} {args args' : List Arg} {vs : List V} {e : En} {own1 : Own} {σ1 : L2.St} {d : D} {v : V} (r : EnvR K A own ⟨args.map some, st⟩ (vs.map some) H) (s : Stp A own H own1 H') (r1 : EnvR K A own1 e σ1 H') (h : fins e args 0 = some args') (q : Rep K (hd (hid A own1) H') d v) :
    ∃ own', Stp A own H own' H' ∧ EnvR K A own' ⟨args'.map some, e.st⟩ (vs.map some) H' ∧ Rep K (hd (hid A own') H') d v := by
  obtain ⟨hl, hg⟩ := fins_get h
  refine ⟨fun i => match i with
    | .inl i => (match args'[i]? with
      | some (_, .bo) => A.B i
      | _ => none)
    | .inr j => own1 (.inr j), ?_⟩
  generalize ho : (fun i => match i with
    | .inl i => (match args'[i]? with
      | some (_, .bo) => A.B i
      | _ => none)
    | .inr j => own1 (.inr j) : Own) = own'
  have hw : ∀ j : Nat, own' (.inr j) = own1 (.inr j) := fun j => by rw [← ho]
  have key : ∀ (i : Nat) a, own' i = some a → ∃ d f, args'[i]? = some (d, f) ∧ f = .bo ∧ A.B i = some a ∧ own1 i = some a ∧ own i = some a ∧ e.sl[i]? = some (some (d, .bo)) := fun i a hi => by
    rw [← ho] at hi
    have hi2 : (match args'[i]? with
      | some (_, .bo) => A.B i
      | _ => none) = some a := hi
    split at hi2
    · rename_i d0 e0
      rcases hg i d0 .bo e0 with z | ⟨_, z1, d1, z2⟩
      · cases z.1
      · rw [Nat.zero_add] at z1
        obtain ⟨a1, b1, b2⟩ := r1.bo i d0 z1
        obtain ⟨a2, c1, c2⟩ := r.bo i d1 (map_some_get' z2)
        rw [hi2] at b1 c1
        cases b1
        cases c1
        exact ⟨d0, .bo, e0, rfl, hi2, b2, c2, z1⟩
    · cases hi2
  have key1 : ∀ (k : Ix) a, own' k = some a → own1 k = some a := fun k a h => by
    cases k with
    | inl i =>
      obtain ⟨_, _, _, _, _, k1, _⟩ := key i a h
      exact k1
    | inr j => rw [hw] at h; exact h
  have wl1 : ∀ (j : Nat) a, own1 (.inr j) = some a → own' (.inr j) = some a := fun j a h => by rw [hw]; exact h
  have sub1 : VSub (hd (hid A own1) H') (hd (hid A own') H') := hd_mono (fun _ _ _ z => z) (fun b o n _ z => by
    rcases z with z | ⟨i, z⟩
    · exact n (.inl z)
    · exact n (.inr ⟨i, key1 i b z⟩)) wl1
  have st : Stp A own H own' H' := ⟨s.kp, s.hi, fun i a hi => by
    cases i with
    | inl i =>
      obtain ⟨_, _, _, _, _, _, k2, _⟩ := key i a hi
      exact .inl ⟨_, k2⟩
    | inr j => exact s.ow _ a (key1 _ a hi), s.th, fun j a h => wl1 j a (s.wl j a h), s.fz⟩
  refine ⟨st, ⟨fun i d0 hi => ?_, fun i d0 f hi hf => ?_, fun i a hi => ?_, fun i d0 hi => ?_, fun j d0 hh => ?_, fun j a hi => r1.cn j a (key1 _ a hi), fun i j a hi hj => r1.inj i j a (key1 i a hi) (key1 j a hj), fun i a hi => r1.sep i a (key1 i a hi), r1.al, ?_, fun b hb => r1.nt b (by
    rcases hb with z | ⟨i, z⟩
    · exact .inl z
    · exact .inr ⟨i, key1 i b z⟩)⟩, q.mono sub1⟩
  · rcases hg i d0 .sh (map_some_get hi) with z | z
    · obtain ⟨w, h1, h2⟩ := r.sh i d0 (map_some_get' z.2)
      exact ⟨w, h1, h2.mono (s.sub.trans sub1)⟩
    · cases z.1
  · rcases hg i d0 f (map_some_get hi) with z | ⟨rfl, z1, d1, z2⟩
    · exact absurd z.1 hf
    · rw [Nat.zero_add] at z1
      obtain ⟨a1, b1, b2⟩ := r1.bo i d0 z1
      obtain ⟨a2, c1, c2, c3⟩ := r1.ow i d0 .bo z1 (fun z => by cases z)
      rw [b2] at c1
      cases c1
      obtain ⟨a3, e1, e2, _⟩ := r.ow i d1 .bo (map_some_get' z2) (fun z => by cases z)
      obtain ⟨a4, g1, g2⟩ := r.bo i d1 (map_some_get' z2)
      rw [b1] at g1
      cases g1
      rw [g2] at e1
      cases e1
      refine ⟨a1, ?_, e2, c3.mono sub1 fun _ z => z⟩
      rw [← ho]
      show (match args'[i]? with
        | some (_, .bo) => A.B i
        | _ => none) = some a1
      rw [map_some_get hi]
      exact b1
  · obtain ⟨d0, f, k1, k2, _⟩ := key i a hi
    exact ⟨d0, f, map_some_get' k1, by rw [k2]; intro z; cases z⟩
  · rcases hg i d0 .bo (map_some_get hi) with z | ⟨_, z1, d1, z2⟩
    · cases z.1
    · rw [Nat.zero_add] at z1
      obtain ⟨a1, b1, b2⟩ := r1.bo i d0 z1
      refine ⟨a1, b1, ?_⟩
      rw [← ho]
      show (match args'[i]? with
        | some (_, .bo) => A.B i
        | _ => none) = some a1
      rw [map_some_get hi]
      exact b1
  · obtain ⟨a1, h1, t⟩ := r1.ce j d0 hh
    exact ⟨a1, wl1 j a1 h1, t.mono sub1 fun _ z => z⟩
  · have := r.len
    rw [List.length_map, List.length_map] at this ⊢
    rw [this, hl]
end
/-- THE RULE for a def -/
theorem fnE {P : Program} {w : World} {K : PySem.W.Frag} {mg : Str → Option Value} {base : Heap} {x qual : Str} {params : Arguments} {body : List Stmt} {scope : Scope} {dvs : List V} {kws : List (Str × V)} {f : Addr} {fd : FuncData} {N ps : List Str} {k : Nat} {b : SF}
    (F : FunD K x qual params body scope dvs kws f fd) (S : FnScope N ps scope)
    (hb : ∀ (cdv : Value) (A : Around) (outer : List Env) (s : Shared) (H : Hp) (E : XK), Room k (A.deeper (envOfC qual scope s.heap.objs.size f cdv)) → SB (cxOf CX0 P w K mg base N qual scope f cdv A outer s H E).nox b body) :
    FnOk P w K mg base CX0 (k + 1) f fd ps (spE K ps.length (runB N.length b)) := by
  refine F.ok S (fun vs H Q E h => by obtain ⟨A, own, st, args, d, st', args', _, h, _⟩ := h; exact h) fun cdv A outer s H vs Q E hr h => ?_
  obtain ⟨Am, own, st, args, d, st', args', r, hl, hrun, kk⟩ := h
  have hlen : args.length = vs.length := by
    have := r.len
    rw [List.length_map, List.length_map] at this
    exact this.symm
  have r0 := r.pad (N.length - args.length)
  have hst : L2.start N vs = vs.map some ++ List.replicate (N.length - args.length) none := by unfold L2.start; rw [hlen]
  refine ⟨_, PSs.nox (X := cxOf CX0 P w K mg base N qual scope f cdv A outer s H E) pss_w, ?_⟩
  rw [hst]
  unfold runB at hrun
  have fin : ∀ {e : En} {d1 : D} {v : V} {σ1 : L2.St} {H1 : Hp} {own1 : Own}, Stp Am own H own1 H1 → EnvR K Am own1 e σ1 H1 → fins e args 0 = some args' → Rep K (hd (hid Am own1) H1) d1 v → d1 = d → e.st = st' → Q v H1 := fun s1 r1 hf q e z => by
    subst e
    subst z
    obtain ⟨own', z1, z2, z3⟩ := ends r s1 r1 hf q
    exact kk _ _ own' z1 z2 z3
  split at hrun
  · rename_i e h1
    split at hrun
    · rename_i l h2
      cases hrun
      exact hb cdv A outer s H E hr Am own _ _ H _ r0 h1 _ fun σ1 H1 own1 s1 r1 => fin s1 r1 h2 .non rfl rfl
    · cases hrun
  · rename_i d1 e h1
    split at hrun
    · rename_i l h2
      cases hrun
      exact hb cdv A outer s H E hr Am own _ _ H _ r0 h1 _ fun v σ1 H1 own1 s1 r1 q => fin s1 r1 h2 q rfl rfl
    · cases hrun
  · cases hrun
end Dz
/-! DzCall: a call's arguments, borrowed and shared; what stands behind it. -/
namespace Dz
open PySem PyProof.Rows L2
def argOf (e : En) : Opn → Option Arg
  | .inl d => some (d, .sh)
  | .inr i => match e.sl[i]? with
    | some (some (_, .sh)) => none
    | some (some (d, _)) => some (d, .bo)
    | _ => none
def argsOf (e : En) : List Opn → Option (List Arg)
  | [] => some []
  | o :: os => match argOf e o with
    | some a => match argsOf e os with
      | some l => some (a :: l)
      | none => none
    | none => none
def lent : List Opn → List Nat
  | [] => []
  | .inl _ :: os => lent os
  | .inr i :: os => i :: lent os
def putBack (e : En) : List Opn → List Arg → En
  | .inr i :: os, (d, _) :: as => match e.sl[i]? with
    | some (some (_, f)) => putBack (e.set i (some (d, f))) os as
    | _ => putBack e os as
  | .inl _ :: os, _ :: as => putBack e os as
  | _, _ => e
theorem argOf_bo {e : En} {i : Nat} {a : Arg} (h : argOf e (.inr i) = some a) : ∃ d f, a = (d, .bo) ∧ e.sl[i]? = some (some (d, f)) ∧ f ≠ .sh := by
  have h2 : (match e.sl[i]? with
    | some (some (_, .sh)) => none
    | some (some (d, _)) => some (d, .bo)
    | _ => none) = some a := h
  split at h2
  · cases h2
  · rename_i d f hf q
    cases h2
    exact ⟨d, f, rfl, q, fun z => hf z⟩
  · cases h2
theorem argsOf_get {e : En} : ∀ {os : List Opn} {args : List Arg}, argsOf e os = some args → args.length = os.length ∧ ∀ (i : Nat) (o : Opn), os[i]? = some o → ∃ a : Arg, args[i]? = some a ∧ argOf e o = some a
  | [], _, h => by
    cases h
    exact ⟨rfl, fun i o h => by simp at h⟩
  | o :: os, args, h => by
    unfold argsOf at h
    split at h
    · rename_i a h1
      split at h
      · rename_i l h2
        cases h
        obtain ⟨h3, h4⟩ := argsOf_get h2
        refine ⟨by rw [List.length_cons, List.length_cons, h3], fun i o' hi => ?_⟩
        cases i with
        | zero => simp at hi; subst hi; exact ⟨a, rfl, h1⟩
        | succ i => exact (h4 i o' (by simpa using hi)).imp fun a h => ⟨by simpa using h.1, h.2⟩
      · cases h
    · cases h
theorem mem_lent {i : Nat} : ∀ {os : List Opn}, i ∈ lent os → ∃ k : Nat, os[k]? = some (Sum.inr i : Opn)
  | .inl _ :: os, h => by
    obtain ⟨k, e⟩ := mem_lent (os := os) h
    exact ⟨k + 1, by simpa using e⟩
  | .inr j :: os, h => by
    rcases List.mem_cons.mp (show i ∈ j :: lent os from h) with z | z
    · exact ⟨0, by rw [z]; rfl⟩
    · obtain ⟨k, e⟩ := mem_lent z
      exact ⟨k + 1, by simpa using e⟩
theorem lent_mem {i : Nat} : ∀ {os : List Opn} {k : Nat}, os[k]? = some (Sum.inr i : Opn) → i ∈ lent os
  | o :: os, 0, h => by
    simp at h
    subst h
    exact List.mem_cons_self ..
  | o :: os, k + 1, h => by
    have h2 : i ∈ lent os := lent_mem (k := k) (by simpa using h)
    cases o with
    | inl d => exact h2
    | inr j => exact List.mem_cons_of_mem _ h2
theorem lent_inj {i : Nat} : ∀ {os : List Opn} {k l : Nat}, (lent os).Nodup → os[k]? = some (Sum.inr i : Opn) → os[l]? = some (Sum.inr i : Opn) → k = l
  | o :: os, 0, 0, _, _, _ => rfl
  | o :: os, 0, l + 1, nd, h1, h2 => by
    simp at h1
    subst h1
    exact absurd (lent_mem (k := l) (by simpa using h2)) (List.nodup_cons.mp nd).1
  | o :: os, k + 1, 0, nd, h1, h2 => by
    simp at h2
    subst h2
    exact absurd (lent_mem (k := k) (by simpa using h1)) (List.nodup_cons.mp nd).1
  | o :: os, k + 1, l + 1, nd, h1, h2 => by
    have nd2 : (lent os).Nodup := by
      cases o with
      | inl d => exact nd
      | inr j => exact (List.nodup_cons.mp nd).2
    exact congrArg Nat.succ (lent_inj (i := i) (k := k) (l := l) nd2 (by simpa using h1) (by simpa using h2))
theorem putBack_length : ∀ {os : List Opn} {as : List Arg} {e : En}, (putBack e os as).sl.length = e.sl.length
  | [], _, _ => by unfold putBack; rfl
  | .inl _ :: os, [], _ => by unfold putBack; rfl
  | .inr _ :: os, [], _ => by unfold putBack; rfl
  | .inl _ :: os, _ :: as, e => by unfold putBack; exact putBack_length
  | .inr i :: os, (d, _) :: as, e => by
    unfold putBack
    split
    · rw [putBack_length, List.length_set]
    · exact putBack_length
theorem putBack_out {j : Nat} : ∀ {os : List Opn} {as : List Arg} {e : En}, j ∉ lent os → (putBack e os as).sl[j]? = e.sl[j]?
  | [], _, _, _ => by unfold putBack; rfl
  | .inl _ :: os, [], _, _ => by unfold putBack; rfl
  | .inr _ :: os, [], _, _ => by unfold putBack; rfl
  | .inl _ :: os, _ :: as, e, h => by unfold putBack; exact putBack_out h
  | .inr i :: os, (d, _) :: as, e, h => by
    have h2 : j ∉ i :: lent os := h
    rw [List.mem_cons, not_or] at h2
    unfold putBack
    split
    · rw [putBack_out h2.2, List.getElem?_set_ne fun z => h2.1 z.symm]
    · exact putBack_out h2.2
theorem putBack_in {j : Nat} {d0 d : D} {f g : Fl} : ∀ {os : List Opn} {as : List Arg} {e : En} {k : Nat}, (lent os).Nodup → os[k]? = some (.inr j) → as[k]? = some (d, g) → e.sl[j]? = some (some (d0, f)) → (putBack e os as).sl[j]? = some (some (d, f))
  | .inl _ :: os, _ :: as, e, 0, _, h, _, _ => by simp at h
  | .inr i :: os, (d1, g1) :: as, e, 0, nd, h1, h2, h3 => by
    simp at h1 h2
    subst h1
    obtain ⟨rfl, rfl⟩ := h2
    unfold putBack
    rw [h3]
    show (putBack (e.set i (some (d1, f))) os as).sl[i]? = _
    rw [putBack_out (List.nodup_cons.mp nd).1, List.getElem?_set_self (List.getElem?_eq_some_iff.mp h3).1]
  | .inl _ :: os, _ :: as, e, k + 1, nd, h1, h2, h3 => by
    unfold putBack
    exact putBack_in (k := k) nd (by simpa using h1) (by simpa using h2) h3
  | .inr i :: os, (d1, g1) :: as, e, k + 1, nd, h1, h2, h3 => by
    have h4 : os[k]? = some (.inr j) := by simpa using h1
    have hij : i ≠ j := fun z => (List.nodup_cons.mp nd).1 (by rw [z]; exact lent_mem h4)
    unfold putBack
    split
    · exact putBack_in (k := k) (List.nodup_cons.mp nd).2 h4 (by simpa using h2) (by rw [List.getElem?_set_ne hij]; exact h3)
    · exact putBack_in (k := k) (List.nodup_cons.mp nd).2 h4 (by simpa using h2) h3
theorem OpsOk.length {K : PySem.W.Frag} {A : Amb} {own : Own} {H : Hp} : ∀ {os : List Opn} {vs : List V}, OpsOk K A own H os vs → os.length = vs.length
  | _, _, .nil => rfl
  | _, _, .cons _ r => congrArg Nat.succ (OpsOk.length r)
theorem OpsOk.get {K : PySem.W.Frag} {A : Amb} {own : Own} {H : Hp} : ∀ {os : List Opn} {vs : List V} {i : Nat} {o : Opn}, OpsOk K A own H os vs → os[i]? = some o → ∃ v, vs[i]? = some v ∧ OpOk K A own H o v
  | _, _, _, _, .nil, e => by simp at e
  | _, _, 0, _, .cons h _, e => by simp at e; subst e; exact ⟨_, rfl, h⟩
  | _, _, i + 1, _, .cons _ r, e => OpsOk.get (i := i) r (by simpa using e)
/-- the store is another one -/
abbrev En.sto (e : En) (st : List D) : En := ⟨e.sl, st⟩
/-- what comes in and what goes out of a call -/
theorem call_sp {K : PySem.W.Frag} {Ac : Amb} {ownc : Own} {e1 : En} {σ : L2.St} {H1 : Hp} {os : List Opn} {vs : List V} {args args' : List Arg} {d : D} {st' : List D} {run : Run} {n : Nat} {Q : VK} {E : XK}
    (R : EnvR K Ac ownc e1 σ H1) (O : OpsOk K Ac ownc H1 os vs) (ha : argsOf e1 os = some args) (nd : (lent os).Nodup) (hrun : run e1.st args = some (d, st', args')) (ok : args'.map (·.2) = args.map (·.2)) (hn : vs.length = n)
    (k : ∀ v H' own2, StpE Ac ownc H1 own2 H' → (∀ (i : Nat), own2 i = ownc i) → EnvR K Ac own2 ((putBack e1 os args').sto st') σ H' → Rep K (hd (hid Ac own2) H') d v → Q v H') : spE K n run vs H1 Q E := by
  obtain ⟨hl, hg⟩ := argsOf_get ha
  have getO : ∀ {i : Nat} {a : Arg}, args[i]? = some a → ∃ o, os[i]? = some o ∧ argOf e1 o = some a := fun {i a} hi => by
    have hlt : i < os.length := by rw [← hl]; exact (List.getElem?_eq_some_iff.mp hi).1
    obtain ⟨a2, h1, h2⟩ := hg i os[i] (List.getElem?_eq_getElem hlt)
    rw [hi] at h1
    cases h1
    exact ⟨_, List.getElem?_eq_getElem hlt, h2⟩
  generalize hB : (fun i => match os[i]? with
    | some (.inr j) => ownc (.inl j)
    | _ => none : Nat → Option Addr) = B
  have hBr : ∀ {i j : Nat}, os[i]? = some (.inr j) → B i = ownc j := fun {i j} h => by
    rw [← hB]
    show (match os[i]? with
      | some (.inr j) => ownc (.inl j)
      | _ => none) = ownc (.inl j)
    rw [h]
  have hBs : ∀ {i : Nat} {a : Addr}, B i = some a → ∃ j : Nat, os[i]? = some (.inr j) ∧ ownc j = some a := fun {i a} h => by
    rw [← hB] at h
    have h2 : (match os[i]? with
      | some (.inr j) => ownc (.inl j)
      | _ => none) = some a := h
    split at h2
    · rename_i j q
      exact ⟨j, q, h2⟩
    · cases h2
  generalize hBo : (fun k => match k with
    | .inl i => B i
    | .inr j => ownc (.inr j) : Own) = Bo
  have hBl : ∀ i : Nat, Bo (.inl i) = B i := fun i => by rw [← hBo]
  have hBw : ∀ j : Nat, Bo (.inr j) = ownc (.inr j) := fun j => by rw [← hBo]
  have hBc : ∀ {k : Ix} {a : Addr}, Bo k = some a → ∃ k', ownc k' = some a := fun {k a} h => by
    cases k with
    | inl i =>
      rw [hBl] at h
      obtain ⟨j, _, z⟩ := hBs h
      exact ⟨_, z⟩
    | inr j => rw [hBw] at h; exact ⟨_, h⟩
  generalize hA : (⟨fun b => hid Ac ownc b ∧ ¬ ∃ k, Bo k = some b, B⟩ : Amb) = A
  have hAB : A.B = B := by rw [← hA]
  have hAh : ∀ b, A b ↔ hid Ac ownc b ∧ ¬ ∃ k, Bo k = some b := fun b => by rw [← hA]
  have he : hid A Bo = hid Ac ownc := by
    have e1 : (hid A Bo).p = (hid Ac ownc).p := funext fun b => propext ⟨fun z => by
      rcases z with z | ⟨i, z⟩
      · exact ((hAh b).mp z).1
      · exact .inr (hBc z), fun z => by
      by_cases q : ∃ i, Bo i = some b
      · exact .inr q
      · exact .inl ((hAh b).mpr ⟨z, q⟩)⟩
    have e2 : (hid A Bo).w = (hid Ac ownc).w := funext fun j => hBw j
    exact (show Hid.mk _ _ = Hid.mk _ _ from by rw [Hid.mk.injEq]; exact ⟨e1, e2⟩)
  have r0 : EnvR K A Bo ⟨args.map some, e1.st⟩ (vs.map some) H1 := by
    refine ⟨fun i d h => ?_, fun i d f h hf => ?_, fun i a h => ?_, fun i d h => ?_, fun j d h => ?_, fun j a h => ?_, fun i j a h1 h2 => ?_, fun i a h z => ?_, fun b h => R.hid_there ((hAh b).mp h).1, ?_, fun b h => R.nt b (by rw [← he]; exact h)⟩
    · obtain ⟨o, h1, h2⟩ := getO (map_some_get h)
      obtain ⟨v, h3, h4⟩ := O.get h1
      cases o with
      | inl d0 =>
        cases h2
        rw [he]
        exact ⟨v, map_some_get' h3, h4⟩
      | inr j =>
        obtain ⟨_, _, z, _⟩ := argOf_bo h2
        cases z
    · obtain ⟨o, h1, h2⟩ := getO (map_some_get h)
      obtain ⟨v, h3, h4⟩ := O.get h1
      cases o with
      | inl d0 => cases h2; exact absurd rfl hf
      | inr j =>
        obtain ⟨d1, f1, z, q1, q2⟩ := argOf_bo h2
        cases z
        obtain ⟨a, rfl, h5⟩ := h4
        obtain ⟨a2, h6, _, h7⟩ := R.ow j d f1 q1 q2
        rw [h5] at h6
        cases h6
        rw [he]
        exact ⟨a, by rw [hBl]; exact (hBr h1).trans h5, map_some_get' h3, h7⟩
    · rw [hBl] at h
      obtain ⟨j, h1, h2⟩ := hBs h
      obtain ⟨a2, h3, h4⟩ := hg i _ h1
      obtain ⟨d1, f1, rfl, q1, q2⟩ := argOf_bo h4
      exact ⟨d1, .bo, map_some_get' h3, fun z => by cases z⟩
    · obtain ⟨o, h1, h2⟩ := getO (map_some_get h)
      cases o with
      | inl d0 => cases h2
      | inr j =>
        obtain ⟨v, h3, a, _, h5⟩ := O.get h1
        exact ⟨a, by rw [hAB, hBr h1]; exact h5, by rw [hBl]; exact (hBr h1).trans h5⟩
    · obtain ⟨a, h1, t⟩ := R.ce j d h
      rw [he]
      exact ⟨a, by rw [hBw]; exact h1, t⟩
    · rw [hBw] at h
      exact R.cn j a h
    · cases i with
      | inl i =>
        cases j with
        | inl j =>
          rw [hBl] at h1 h2
          obtain ⟨p, q1, q2⟩ := hBs h1
          obtain ⟨p', q3, q4⟩ := hBs h2
          obtain rfl := Sum.inl.inj (R.inj _ _ a q2 q4)
          exact congrArg _ (lent_inj nd q1 q3)
        | inr j =>
          rw [hBl] at h1
          rw [hBw] at h2
          obtain ⟨p, _, q2⟩ := hBs h1
          cases R.inj _ _ a q2 h2
      | inr i =>
        cases j with
        | inl j =>
          rw [hBl] at h2
          rw [hBw] at h1
          obtain ⟨p, _, q2⟩ := hBs h2
          cases R.inj _ _ a h1 q2
        | inr j =>
          rw [hBw] at h1 h2
          exact R.inj _ _ a h1 h2
    · exact ((hAh a).mp z).2 ⟨i, h⟩
    · rw [List.length_map, List.length_map, ← O.length, hl]
  refine ⟨A, Bo, e1.st, args, d, st', args', r0, hn, hrun, fun v H' own' s r1 q => ?_⟩
  -- flags
  have fl : ∀ {i : Nat} {d : D} {f : Fl}, args'[i]? = some (d, f) → ∃ d0, args[i]? = some (d0, f) := fun {i d f} h => by
    have e2 : (args'.map (·.2))[i]? = (args.map (·.2))[i]? := by rw [ok]
    rw [List.getElem?_map, List.getElem?_map, h] at e2
    cases q : args[i]? with
    | none => rw [q] at e2; cases e2
    | some a =>
      rw [q] at e2
      obtain ⟨d0, f0⟩ := a
      cases e2
      exact ⟨d0, rfl⟩
  have fl2 : ∀ {i : Nat} {d : D} {f : Fl}, args[i]? = some (d, f) → ∃ d0, args'[i]? = some (d0, f) := fun {i d f} h => by
    have e2 : (args'.map (·.2))[i]? = (args.map (·.2))[i]? := by rw [ok]
    rw [List.getElem?_map, List.getElem?_map, h] at e2
    cases q : args'[i]? with
    | none => rw [q] at e2; cases e2
    | some a =>
      rw [q] at e2
      obtain ⟨d0, f0⟩ := a
      cases e2
      exact ⟨d0, rfl⟩
  -- what is borrowed came back at its place
  have bk : ∀ {i j : Nat} {a : Addr}, os[i]? = some (.inr j) → ownc j = some a → ∃ d', args'[i]? = some (d', .bo) ∧ own' i = some a ∧ Top K (hd (hid A own') H') H' d' a := fun {i j a} h1 h2 => by
    obtain ⟨a2, h3, h4⟩ := hg i _ h1
    obtain ⟨d1, f1, rfl, q1, q2⟩ := argOf_bo h4
    obtain ⟨d', h5⟩ := fl2 h3
    obtain ⟨a3, h6, h7⟩ := r1.bo i d' (map_some_get' h5)
    rw [hAB, hBr h1, h2] at h6
    cases h6
    obtain ⟨a4, h8, _, h9⟩ := r1.ow i d' .bo (map_some_get' h5) (fun z => by cases z)
    rw [h7] at h8
    cases h8
    exact ⟨d', h5, h7, h9⟩
  generalize hF : (fun k => match k with
    | .inl i => ownc (.inl i)
    | .inr j => own' (.inr j) : Own) = ownf
  have hFl : ∀ i : Nat, ownf (.inl i) = ownc (.inl i) := fun i => by rw [← hF]
  have hFw : ∀ j : Nat, ownf (.inr j) = own' (.inr j) := fun j => by rw [← hF]
  have back : ∀ b, hid Ac ownc b → hid A own' b := fun b z => by
    by_cases q : ∃ k, Bo k = some b
    · obtain ⟨k, q⟩ := q
      cases k with
      | inl i =>
        rw [hBl] at q
        obtain ⟨j, q1, q2⟩ := hBs q
        obtain ⟨_, _, q3, _⟩ := bk q1 q2
        exact .inr ⟨_, q3⟩
      | inr j => exact .inr ⟨_, s.wl j b q⟩
    · exact .inl ((hAh b).mpr ⟨z, q⟩)
  have he' : hid A own' = hid Ac ownf := by
    have e1 : (hid A own').p = (hid Ac ownf).p := funext fun b => propext ⟨fun z => by
      rcases z with z | ⟨i, z⟩
      · obtain ⟨z1, z2⟩ := (hAh b).mp z
        rcases z1 with z1 | ⟨k, z1⟩
        · exact .inl z1
        · cases k with
          | inl i => exact .inr ⟨.inl i, by rw [hFl]; exact z1⟩
          | inr j => exact absurd ⟨.inr j, by rw [hBw]; exact z1⟩ z2
      · cases i with
        | inl i =>
          obtain ⟨d1, f1, q1, q2⟩ := r1.no i b z
          have q1' := map_some_get q1
          obtain ⟨d0, q3⟩ := fl q1'
          obtain ⟨o, q4, q5⟩ := getO q3
          cases o with
          | inl d9 => cases q5; exact absurd rfl q2
          | inr j =>
            obtain ⟨_, _, z9, _⟩ := argOf_bo q5
            cases z9
            obtain ⟨a9, q6, q7⟩ := r1.bo i d1 q1
            rw [z] at q7
            cases q7
            rw [hAB] at q6
            obtain ⟨j2, _, q8⟩ := hBs q6
            exact .inr ⟨.inl j2, by rw [hFl]; exact q8⟩
        | inr j => exact .inr ⟨.inr j, by rw [hFw]; exact z⟩, fun z => by
      rcases z with z | ⟨k, z⟩
      · exact back b (.inl z)
      · cases k with
        | inl i => rw [hFl] at z; exact back b (.inr ⟨_, z⟩)
        | inr j => rw [hFw] at z; exact .inr ⟨_, z⟩⟩
    have e2 : (hid A own').w = (hid Ac ownf).w := funext fun j => (hFw j).symm
    exact (show Hid.mk _ _ = Hid.mk _ _ from by rw [Hid.mk.injEq]; exact ⟨e1, e2⟩)
  have sb : VSub (hd (hid Ac ownc) H1) (hd (hid Ac ownf) H') := by
    have := s.sub
    rw [he, he'] at this
    exact this
  have nAc : ∀ b, Ac b → A b := fun b hb => (hAh b).mpr ⟨.inl hb, fun ⟨i, z⟩ => by
    obtain ⟨k, q2⟩ := hBc z
    exact R.sep k b q2 hb⟩
  have st : StpE Ac ownc H1 ownf H' := ⟨⟨fun b o n e => s.kp b o (by rw [he]; exact n) e, fun b hb => s.hi b (nAc b hb), fun i a h => by
    cases i with
    | inl i => rw [hFl] at h; exact .inl ⟨_, h⟩
    | inr j =>
      rw [hFw] at h
      rcases s.ow _ a h with ⟨k, z⟩ | z
      · exact .inl (hBc z)
      · exact .inr z, s.th, fun j a h => by rw [hFw]; exact s.wl j a (by rw [hBw]; exact h), s.fz⟩, fun i a h => by rw [hFl] at h; exact h⟩
  -- a slot's object is no object of the store
  have nsw : ∀ {i j : Nat} {a : Addr}, ownc (.inl i) = some a → own' (.inr j) = some a → False := fun {i j a} h1 h2 => by
    by_cases q : ∃ k, Bo k = some a
    · obtain ⟨k, q⟩ := q
      cases k with
      | inl p =>
        rw [hBl] at q
        obtain ⟨j2, q1, q2⟩ := hBs q
        obtain ⟨_, _, q3, _⟩ := bk q1 q2
        cases r1.inj _ _ a q3 h2
      | inr p =>
        rw [hBw] at q
        cases R.inj _ _ a h1 q
    · exact r1.sep _ a h2 ((hAh a).mpr ⟨.inr ⟨_, h1⟩, q⟩)
  refine k v H' ownf st hFl ⟨fun j d0 h => ?_, fun j d0 f h hf => ?_, fun j a h => ?_, fun j d0 h => ?_, fun j d0 h => ?_, fun j a h => ?_, fun i j a h1 h2 => ?_, fun i a h z => ?_, fun b hb => ?_, ?_, fun b hb => r1.nt b (by rw [he']; exact hb)⟩ (by rw [he'] at q; exact q)
  · by_cases hj : j ∈ lent os
    · obtain ⟨i, h1⟩ := mem_lent hj
      obtain ⟨a2, h3, h4⟩ := hg i _ h1
      obtain ⟨d1, f1, rfl, q1, q2⟩ := argOf_bo h4
      obtain ⟨d', h5⟩ := fl2 h3
      rw [putBack_in nd h1 h5 q1] at h
      cases h
      exact absurd rfl q2
    · rw [putBack_out hj] at h
      obtain ⟨w, h1, h2⟩ := R.sh j d0 h
      exact ⟨w, h1, h2.mono sb⟩
  · by_cases hj : j ∈ lent os
    · obtain ⟨i, h1⟩ := mem_lent hj
      obtain ⟨a2, h3, h4⟩ := hg i _ h1
      obtain ⟨d1, f1, rfl, q1, q2⟩ := argOf_bo h4
      obtain ⟨d', h5⟩ := fl2 h3
      rw [putBack_in nd h1 h5 q1] at h
      cases h
      obtain ⟨a, h6, h7, _⟩ := R.ow j d1 f q1 q2
      obtain ⟨d9, h8, _, h9⟩ := bk h1 h6
      rw [h5] at h8
      cases h8
      rw [he'] at h9
      exact ⟨a, by rw [hFl]; exact h6, h7, h9⟩
    · rw [putBack_out hj] at h
      obtain ⟨a, h1, h2, h3⟩ := R.ow j d0 f h hf
      refine ⟨a, by rw [hFl]; exact h1, h2, h3.mono sb fun o e => ?_⟩
      rw [s.hi a ((hAh a).mpr ⟨.inr ⟨_, h1⟩, fun ⟨k, z⟩ => by
        cases k with
        | inl i =>
          rw [hBl] at z
          obtain ⟨j', q1, q2⟩ := hBs z
          obtain rfl := Sum.inl.inj (R.inj _ _ a h1 q2)
          exact hj (lent_mem q1)
        | inr i =>
          rw [hBw] at z
          cases R.inj _ _ a h1 z⟩)]
      exact e
  · rw [hFl] at h
    obtain ⟨d0, f, h1, h2⟩ := R.no j a h
    by_cases hj : j ∈ lent os
    · obtain ⟨i, q1⟩ := mem_lent hj
      obtain ⟨a2, h3, h4⟩ := hg i _ q1
      obtain ⟨d1, f1, rfl, q2, q3⟩ := argOf_bo h4
      obtain ⟨d', h5⟩ := fl2 h3
      exact ⟨d', f1, putBack_in nd q1 h5 q2, q3⟩
    · exact ⟨d0, f, by rw [putBack_out hj]; exact h1, h2⟩
  · by_cases hj : j ∈ lent os
    · obtain ⟨i, h1⟩ := mem_lent hj
      obtain ⟨a2, h3, h4⟩ := hg i _ h1
      obtain ⟨d1, f1, rfl, q1, q2⟩ := argOf_bo h4
      obtain ⟨d', h5⟩ := fl2 h3
      rw [putBack_in nd h1 h5 q1] at h
      cases h
      rw [hFl]
      exact R.bo j d1 q1
    · rw [putBack_out hj] at h
      rw [hFl]
      exact R.bo j d0 h
  · obtain ⟨a, h1, t⟩ := r1.ce j d0 h
    rw [he'] at t
    exact ⟨a, by rw [hFw]; exact h1, t⟩
  · rw [hFw] at h
    exact r1.cn j a h
  · cases i with
    | inl i =>
      cases j with
      | inl j => rw [hFl] at h1 h2; exact R.inj _ _ a h1 h2
      | inr j => rw [hFl] at h1; rw [hFw] at h2; exact (nsw h1 h2).elim
    | inr i =>
      cases j with
      | inl j => rw [hFl] at h2; rw [hFw] at h1; exact (nsw h2 h1).elim
      | inr j => rw [hFw] at h1 h2; exact r1.inj _ _ a h1 h2
  · cases i with
    | inl i => rw [hFl] at h; exact R.sep _ a h z
    | inr j => rw [hFw] at h; exact r1.sep _ a h (nAc a z)
  · obtain ⟨o, e⟩ := R.al b hb
    exact s.th b o e
  · show σ.length = (putBack e1 os args').sl.length
    rw [putBack_length]; exact R.len
end Dz
/-! DzObj: calls of defs, of classes, of methods; attributes. -/
namespace Dz
open PySem PyProof.Rows L2
/-- what is known of a def that is called -/
structure Cal (X : Cx) (k : Nat) (f : Addr) (n : Nat) (run : Run) : Prop where
  ex : ∃ fd ps, FnOk X.prog X.w X.K X.mg X.base CX0 k f fd ps (spE X.K n run) ∧ Binds X.K fd ps [] ∧ ps.length = n
  kp : PySem.W.keepIn X.K (.ref f) = true
  ok : ∀ st args d st' args', run st args = some (d, st', args') → args'.map (·.2) = args.map (·.2)
def fCall (n : Nat) (run : Run) (f : LF) : EF := fun env => match f env with
  | some (os, e1) => if os.length = n ∧ (lent os).Nodup then match argsOf e1 os with
    | some args => match run e1.st args with
      | some (d, st', args') => some (d, false, (putBack e1 os args').sto st')
      | none => none
    | none => none
    else none
  | none => none
section
variable {X : Cx} {k n : Nat} {fa C : Addr} {run : Run} {x m : Str} {p pos apos : Pos}
theorem se_call {f : LF} {e : Expr} {es : List Expr} (c : Cal X k fa n run) (hr : Room k X.A) (hg : Gl X x) (hm : X.mg x = some (.ref fa)) (hf : SL X f (e :: es)) (hdb : (x == ("__debug__" : Str)) = false)
    (he : starEach (e :: es) X.env = (false, eval e X.env) :: starEach es X.env) (hpl : (backTo pos (starEach es X.env)).any (·.1) = false) : SE X (fCall n run f) (.Call (.Name x p) (e :: es) [] pos) := by
  refine ⟨?_⟩
  intro A own env σ H d fr env' R h Q kk
  obtain ⟨fd, ps, F, hb, hl⟩ := c.ex
  unfold fCall at h
  split at h
  · rename_i os e1 h1
    split at h
    · rename_i hc
      split at h
      · rename_i args ha
        split at h
        · rename_i d' st' args' hrun
          cases h
          refine we_of (pe_call F hr hg hm c.kp hb .nil pass0 pa_w hdb he hpl) (hf A own env σ H os e1 R h1 _ fun vs H1 own1 s1 R1 O1 => ?_)
          rw [List.append_nil]
          exact call_sp R1 O1 ha hc.2 hrun (c.ok _ _ _ _ _ hrun) (by rw [← O1.length]; exact hc.1) fun v H' own2 s _ r q => kk v H' own2 (s1.trans s) ⟨r, q, fun z => by cases z⟩
        · cases h
      · cases h
    · cases h
  · cases h
theorem se_call0 {f : LF} (c : Cal X k fa n run) (hr : Room k X.A) (hg : Gl X x) (hm : X.mg x = some (.ref fa)) (hf : f = lNil) (hdb : (x == ("__debug__" : Str)) = false) : SE X (fCall n run f) (.Call (.Name x p) [] [] pos) := by
  subst hf
  refine ⟨?_⟩
  intro A own env σ H d fr env' R h Q kk
  obtain ⟨fd, ps, F, hb, hl⟩ := c.ex
  unfold fCall lNil at h
  split at h
  · rename_i os e1 h1
    cases h1
    split at h
    · rename_i hc
      split at h
      · rename_i args ha
        split at h
        · rename_i d' st' args' hrun
          cases h
          refine we_of (pe_call0 F hr hg hm c.kp hb .nil pass0 hdb) ?_
          show spE X.K n run ([] ++ []) H Q E0
          exact call_sp R .nil ha hc.2 hrun (c.ok _ _ _ _ _ hrun) hc.1 fun v H' own2 s _ r q => kk v H' own2 s ⟨r, q, fun z => by cases z⟩
        · cases h
      · cases h
    · cases h
  · cases h
end
/-! ### a slot more, a slot less -/
section
variable {K : PySem.W.Frag} {A : Amb} {own : Own} {env : En} {σ : L2.St} {H H' : Hp} {x : Addr}
theorem EnvR.own_lt (r : EnvR K A own env σ H) {i : Nat} {a : Addr} (h : own i = some a) : i < env.sl.length := by
  obtain ⟨d, f, q, _⟩ := r.no i a h
  exact (List.getElem?_eq_some_iff.mp q).1
theorem snoc_get {α : Type} {l : List α} {y z : α} {i : Nat} (h : (l ++ [y])[i]? = some z) : l[i]? = some z ∨ (i = l.length ∧ y = z) := by
  by_cases hi : i < l.length
  · rw [List.getElem?_append_left hi] at h; exact .inl h
  · rw [List.getElem?_append_right (by omega)] at h
    by_cases h0 : i - l.length = 0
    · rw [h0] at h
      cases h
      exact .inr ⟨by omega, rfl⟩
    · rw [List.getElem?_eq_none (by show 1 ≤ i - l.length; omega)] at h
      cases h
theorem EnvR.ext {d : D} (r : EnvR K A own env σ H) (hx : H x = none) (e : Sub H H') (t : Top K (hd (hid A own) H) H' d x) (hm : ∀ xs, H' x ≠ some (.tup xs)) : EnvR K A (own.put env.sl.length x) (env.app [some (d, .ow)]) (σ ++ [some (.ref x)]) H' := by
  have nh : ∀ b o, ¬ hid A own b → H b = some o → ¬ hid A (own.put env.sl.length x) b := fun b o n q z => by
    rcases z with z | ⟨j, z⟩
    · exact n (.inl z)
    · rcases Own.put_some.mp z with ⟨_, z⟩ | ⟨_, z⟩
      · exact ne_of_none q hx z.symm
      · exact n (.inr ⟨j, z⟩)
  have sb : VSub (hd (hid A own) H) (hd (hid A (own.put env.sl.length x)) H') := hd_mono (fun b o _ q => e b o q) nh (put_wl (i := env.sl.length) (a := x))
  have pl : ∀ {i : Nat} {a : Addr}, own i = some a → (own.put env.sl.length x) i = some a := fun {i a} q => Own.put_some.mpr (.inr ⟨fun z => Nat.ne_of_lt (r.own_lt q) (Sum.inl.inj z), q⟩)
  refine ⟨fun i d h => ?_, fun i d f h hf => ?_, fun i a h => ?_, fun i d h => ?_, fun j d0 h => ?_, fun j a h => ?_, fun i j a h1 h2 => ?_, fun i a h z => ?_, fun b hb => ?_, ?_, fun b hb xs z => by
    by_cases hz : b = x
    · rw [hz] at z; exact hm xs z
    · have hb2 : hid A own b := by
        rcases hb with hb | ⟨j, hb⟩
        · exact .inl hb
        · rcases Own.put_some.mp hb with ⟨_, w⟩ | ⟨_, w⟩
          · exact absurd w.symm hz
          · exact .inr ⟨j, w⟩
      obtain ⟨o, q⟩ := r.hid_there hb2
      have q2 := e _ _ q
      rw [z] at q2
      cases q2
      exact r.nt b hb2 xs q⟩
  · rcases snoc_get h with h | ⟨_, h⟩
    · obtain ⟨v, h1, h2⟩ := r.sh i d h
      exact ⟨v, pad_get' h1, h2.mono sb⟩
    · cases h
  · rcases snoc_get h with h | ⟨hi, h⟩
    · obtain ⟨a, h1, h2, h3⟩ := r.ow i d f h hf
      exact ⟨a, pl h1, pad_get' h2, h3.mono sb fun o q => e _ _ q⟩
    · cases h
      refine ⟨x, Own.put_some.mpr (.inl ⟨congrArg _ hi, rfl⟩), ?_, t.mono sb fun _ z => z⟩
      rw [hi, ← r.len]
      simp
  · rcases Own.put_some.mp h with ⟨h1, h2⟩ | ⟨h1, h2⟩
    · obtain rfl := Sum.inl.inj h1
      exact ⟨d, .ow, by simp, fun z => by cases z⟩
    · obtain ⟨d2, f, h3, h4⟩ := r.no i a h2
      exact ⟨d2, f, pad_get' h3, h4⟩
  · rcases snoc_get h with h | ⟨_, h⟩
    · obtain ⟨a, h1, h2⟩ := r.bo i d h
      exact ⟨a, h1, pl h2⟩
    · cases h
  · obtain ⟨a, h1, h3⟩ := r.ce j d0 h
    exact ⟨a, by rw [Own.put_w]; exact h1, h3.mono sb fun o q => e _ _ q⟩
  · rw [Own.put_w] at h
    exact r.cn j a h
  · rcases Own.put_some.mp h1 with ⟨e1, e2⟩ | ⟨e1, e2⟩ <;> rcases Own.put_some.mp h2 with ⟨e3, e4⟩ | ⟨e3, e4⟩
    · rw [e1, e3]
    · obtain ⟨o, q⟩ := r.own_there e4
      rw [← e2, hx] at q; cases q
    · obtain ⟨o, q⟩ := r.own_there e2
      rw [← e4, hx] at q; cases q
    · exact r.inj i j a e2 e4
  · rcases Own.put_some.mp h with ⟨e1, e2⟩ | ⟨e1, e2⟩
    · obtain ⟨o, q⟩ := r.al a z
      rw [← e2, hx] at q; cases q
    · exact r.sep i a e2 z
  · obtain ⟨o, q⟩ := r.al b hb
    exact ⟨o, e _ _ q⟩
  · rw [List.length_append, List.length_append, r.len]; rfl
theorem EnvR.takeN {n : Nat} (r : EnvR K A own env σ H) (h : ∀ (i : Nat) a, own i = some a → i < n) : EnvR K A own (env.take n) (σ.take n) H := by
  have g : ∀ {α : Type} {l : List α} {i : Nat} {y : α}, (l.take n)[i]? = some y → l[i]? = some y ∧ i < n := fun {α l i y} q => by
    have hi := (List.getElem?_eq_some_iff.mp q).1
    rw [List.length_take] at hi
    rw [List.getElem?_take_of_lt (by omega)] at q
    exact ⟨q, by omega⟩
  have g' : ∀ {α : Type} {l : List α} {i : Nat} {y : α}, i < n → l[i]? = some y → (l.take n)[i]? = some y := fun {α l i y} hi q => by rw [List.getElem?_take_of_lt hi]; exact q
  refine ⟨fun i d q => ?_, fun i d f q hf => ?_, fun i a q => ?_, fun i d q => r.bo i d (g q).1, r.ce, r.cn, r.inj, r.sep, r.al, by rw [List.length_take, List.length_take, r.len], r.nt⟩
  · obtain ⟨v, h1, h2⟩ := r.sh i d (g q).1
    exact ⟨v, g' (g q).2 h1, h2⟩
  · obtain ⟨a, h1, h2, h3⟩ := r.ow i d f (g q).1 hf
    exact ⟨a, h1, g' (g q).2 h2, h3⟩
  · obtain ⟨d, f, h1, h2⟩ := r.no i a q
    exact ⟨d, f, g' (h i a q) h1, h2⟩
theorem argsOf_snoc {e : En} {s : Slot} : ∀ {os : List Opn} {args : List Arg}, argsOf e os = some args → argsOf (e.app [s]) os = some args
  | [], _, h => h
  | o :: os, args, h => by
    unfold argsOf at h ⊢
    split at h
    · rename_i a h1
      split at h
      · rename_i l h2
        cases h
        rw [argsOf_snoc h2]
        cases o with
        | inl d => cases h1; rfl
        | inr i =>
          obtain ⟨d, f, rfl, q, hf⟩ := argOf_bo h1
          have q2 : (e.app [s]).sl[i]? = some (some (d, f)) := pad_get' q
          have : argOf (e.app [s]) (.inr i) = some (d, .bo) := by
            show (match (e.app [s]).sl[i]? with
              | some (some (_, .sh)) => none
              | some (some (d, _)) => some (d, .bo)
              | _ => none) = some (d, Fl.bo)
            rw [q2]
            cases f with
            | sh => exact absurd rfl hf
            | ow => rfl
            | bo => rfl
          rw [this]
      · cases h
    · cases h
theorem lent_lt {e : En} {i : Nat} {os : List Opn} {args : List Arg} (h : argsOf e os = some args) (hi : i ∈ lent os) : i < e.sl.length := by
  obtain ⟨k, q⟩ := mem_lent hi
  obtain ⟨a, _, h2⟩ := (argsOf_get h).2 k _ q
  obtain ⟨d, f, _, q2, _⟩ := argOf_bo h2
  exact (List.getElem?_eq_some_iff.mp q2).1
theorem OpsOk.mono {own' : Own} (h1 : ∀ (i : Nat) a, own i = some a → own' i = some a) (sb : VSub (hd (hid A own) H) (hd (hid A own') H')) : ∀ {os : List Opn} {vs : List V}, OpsOk K A own H os vs → OpsOk K A own' H' os vs
  | _, _, .nil => .nil
  | .inl d :: _, _, .cons h r => .cons (show Rep K (hd (hid A own') H') d _ from Rep.mono sb h) (OpsOk.mono h1 sb r)
  | .inr i :: _, _, .cons ⟨a, e, q⟩ r => .cons ⟨a, e, h1 i a q⟩ (OpsOk.mono h1 sb r)
end
/-- C(..): self is a slot more -/
def fMake (C : Str) (n : Nat) (run : Run) (f : LF) : EF := fun env => match f env with
  | some (os, e1) => if os.length + 1 = n ∧ (lent os).Nodup then match argsOf e1 os with
    | some args => match run e1.st ((.ins C [] [], .bo) :: args) with
      | some (.non, st', (d, .bo) :: args') => some (d, false, (putBack e1 os args').sto st')
      | _ => none
    | none => none
    else none
  | none => none
theorem putBack_snoc {s : Slot} : ∀ {os : List Opn} {as : List Arg} {e : En}, (∀ i, i ∈ lent os → i < e.sl.length) → putBack (e.app [s]) os as = (putBack e os as).app [s]
  | [], _, _, _ => by unfold putBack; rfl
  | .inl _ :: os, [], _, _ => by unfold putBack; rfl
  | .inr _ :: os, [], _, _ => by unfold putBack; rfl
  | .inl _ :: os, _ :: as, e, h => by unfold putBack; exact putBack_snoc h
  | .inr i :: os, (d, _) :: as, e, h => by
    have hi : i < e.sl.length := h i (List.mem_cons_self ..)
    have h2 : ∀ j, j ∈ lent os → j < e.sl.length := fun j hj => h j (List.mem_cons_of_mem _ hj)
    unfold putBack
    rw [List.getElem?_append_left hi]
    cases hq : e.sl[i]? with
    | none => exact putBack_snoc h2
    | some sl =>
      cases sl with
      | none => exact putBack_snoc h2
      | some p =>
        obtain ⟨d9, f9⟩ := p
        have q9 : (e.app [s]).set i (some (d, f9)) = (e.set i (some (d, f9))).app [s] := by
          show (⟨(e.sl ++ [s]).set i (some (d, f9)), e.st⟩ : En) = ⟨e.sl.set i (some (d, f9)) ++ [s], e.st⟩
          rw [List.set_append_left i (some (d, f9)) hi]
        show putBack ((e.app [s]).set i (some (d, f9))) os as = (putBack (e.set i (some (d, f9))) os as).app [s]
        rw [q9]
        exact putBack_snoc fun j hj => Nat.lt_of_lt_of_eq (h2 j hj) (List.length_set (as := e.sl) (i := i) (a := some (d, f9))).symm
theorem putBack_sto {t : List D} : ∀ {os : List Opn} {as : List Arg} {e : En}, putBack (e.sto t) os as = (putBack e os as).sto t
  | [], _, _ => by unfold putBack; rfl
  | .inl _ :: os, [], _ => by unfold putBack; rfl
  | .inr _ :: os, [], _ => by unfold putBack; rfl
  | .inl _ :: os, _ :: as, e => by unfold putBack; exact putBack_sto
  | .inr i :: os, (d, _) :: as, e => by
    unfold putBack
    show (match e.sl[i]? with
      | some (some (_, f)) => putBack ((e.set i (some (d, f))).sto t) os as
      | _ => putBack (e.sto t) os as) = _
    cases hq : e.sl[i]? with
    | none => exact putBack_sto
    | some sl =>
      cases sl with
      | none => exact putBack_sto
      | some p => exact putBack_sto
theorem argsOf_sto {e : En} {t : List D} : ∀ {os : List Opn}, argsOf (e.sto t) os = argsOf e os
  | [] => rfl
  | o :: os => by
    unfold argsOf
    rw [argsOf_sto]
    cases o <;> rfl
section
variable {K : PySem.W.Frag} {A : Amb} {own1 : Own} {e1 : En} {σ : L2.St} {H1 : Hp} {os : List Opn} {vs : List V} {args args' : List Arg} {d : D} {st' : List D} {run : Run} {n : Nat} {Q : VK} {E : XK} {C : Str}
theorem make_sp (R1 : EnvR K A own1 e1 σ H1) (O1 : OpsOk K A own1 H1 os vs) (hc : os.length + 1 = n) (hnd : (lent os).Nodup) (ha : argsOf e1 os = some args) (hrun : run e1.st ((.ins C [] [], .bo) :: args) = some (.non, st', (d, .bo) :: args')) (hok : ((d, Fl.bo) :: args').map (·.2) = ((.ins C [] [], Fl.bo) :: args).map (·.2))
    (kk : ∀ v H' own2, StpE A own1 H1 own2 H' → Res K A own2 ((putBack e1 os args').sto st') σ H1 H' false d v → Q v H') : ∀ a dx, H1 a = none → H1 dx = none → dx ≠ a → spE K n run (.ref a :: vs) (upd (upd H1 dx (.own a)) a (.ins (He.ga K C) dx [])) (fun w H' => w = .non ∧ Q (.ref a) H') E := by
  intro a dx ha0 hdx0 hne
  have sH : Sub H1 (upd (upd H1 dx (.own a)) a (.ins (He.ga K C) dx [])) := fun b o q => by rw [upd_ne (ne_of_none q ha0), upd_ne (ne_of_none q hdx0)]; exact q
  have Rx := R1.ext (d := .ins C [] []) ha0 sH (.ins (fs := []) upd_same rfl .nil) (by intro _ z; rw [upd_same] at z; cases z)
  have pl : ∀ (i : Nat) (b : Addr), own1 i = some b → (own1.put e1.sl.length a) i = some b := fun i b q => Own.put_some.mpr (.inr ⟨fun z => Nat.ne_of_lt (R1.own_lt q) (Sum.inl.inj z), q⟩)
  have sbx : VSub (hd (hid A own1) H1) (hd (hid A (own1.put e1.sl.length a)) (upd (upd H1 dx (.own a)) a (.ins (He.ga K C) dx []))) := hd_mono (fun b o _ q => sH b o q) (fun b o nn q z => by
    rcases z with z | ⟨j, z⟩
    · exact nn (.inl z)
    · rcases Own.put_some.mp z with ⟨_, z⟩ | ⟨_, z⟩
      · exact ne_of_none q ha0 z.symm
      · exact nn (.inr ⟨j, z⟩)) (put_wl (i := e1.sl.length) (a := a))
  have Ox : OpsOk K A (own1.put e1.sl.length a) (upd (upd H1 dx (.own a)) a (.ins (He.ga K C) dx [])) (.inr e1.sl.length :: os) (.ref a :: vs) := .cons ⟨a, rfl, Own.put_some.mpr (.inl ⟨rfl, rfl⟩)⟩ (OpsOk.mono pl sbx O1)
  have hL : (e1.app [some (D.ins C [] [], Fl.ow)]).sl[e1.sl.length]? = some (some (D.ins C [] [], Fl.ow)) := by simp
  have hax : argsOf (e1.app [some (D.ins C [] [], Fl.ow)]) (.inr e1.sl.length :: os) = some ((.ins C [] [], .bo) :: args) := by
    unfold argsOf
    have : argOf (e1.app [some (D.ins C [] [], Fl.ow)]) (.inr e1.sl.length) = some (.ins C [] [], .bo) := by
      show (match (e1.app [some (D.ins C [] [], Fl.ow)]).sl[e1.sl.length]? with
        | some (some (_, .sh)) => none
        | some (some (d, _)) => some (d, .bo)
        | _ => none) = some (D.ins C [] [], Fl.bo)
      rw [hL]
    rw [this, argsOf_snoc ha]
  have ndx : (lent (.inr e1.sl.length :: os)).Nodup := List.nodup_cons.mpr ⟨fun z => Nat.lt_irrefl _ (lent_lt ha z), hnd⟩
  refine call_sp Rx Ox hax ndx hrun hok (by rw [List.length_cons, ← O1.length]; exact hc) fun v H' own2 s hsl r q => ?_
  cases q
  refine ⟨rfl, ?_⟩
  -- the instance's slot is let go
  have eqb : putBack (e1.app [some (D.ins C [] [], Fl.ow)]) (.inr e1.sl.length :: os) ((d, Fl.bo) :: args') = (putBack e1 os args').app [some (d, Fl.ow)] := by
    show (match (e1.app [some (D.ins C [] [], Fl.ow)]).sl[e1.sl.length]? with
      | some (some (_, f)) => putBack ((e1.app [some (D.ins C [] [], Fl.ow)]).set e1.sl.length (some (d, f))) os args'
      | _ => putBack (e1.app [some (D.ins C [] [], Fl.ow)]) os args') = _
    rw [hL]
    show putBack ((e1.app [some (D.ins C [] [], Fl.ow)]).set e1.sl.length (some (d, Fl.ow))) os args' = _
    have e9 : (e1.app [some (D.ins C [] [], Fl.ow)]).set e1.sl.length (some (d, Fl.ow)) = e1.app [some (d, Fl.ow)] := by
      show (⟨(e1.sl ++ [some (D.ins C [] [], Fl.ow)]).set e1.sl.length (some (d, Fl.ow)), e1.st⟩ : En) = _
      rw [List.set_append_right _ _ (Nat.le_refl _), Nat.sub_self]
      rfl
    rw [e9]
    exact putBack_snoc fun i hi => lent_lt ha hi
  rw [eqb] at r
  have hL2 : (((putBack e1 os args').app [some (d, Fl.ow)]).sto st').sl[(putBack e1 os args').sl.length]? = some (some (d, Fl.ow)) := by simp
  have len1 : (putBack e1 os args').sl.length = e1.sl.length := putBack_length
  obtain ⟨a2, g1, g2, g3⟩ := r.ow _ d .ow hL2 (fun z => by cases z)
  rw [len1] at g1 g2
  have ea : a2 = a := by
    rw [hsl] at g1
    rcases Own.put_some.mp g1 with ⟨_, z⟩ | ⟨z, _⟩
    · exact z.symm
    · exact absurd rfl z
  subst ea
  have drp : ∀ (i : Nat) b, (own2.drop e1.sl.length) i = some b → own1 i = some b := fun i b z => by
    obtain ⟨z1, z2⟩ := Own.drop_some.mp z
    rw [hsl] at z2
    rcases Own.put_some.mp z2 with ⟨z3, _⟩ | ⟨_, z3⟩
    · exact absurd z3 z1
    · exact z3
  have nh : ¬ hid A (own2.drop e1.sl.length) a2 := by
    rintro (z | ⟨j, z⟩)
    · exact r.sep _ a2 g1 z
    · obtain ⟨z1, z2⟩ := Own.drop_some.mp z
      exact z1 (r.inj j _ a2 z2 g1)
  have rq : Rep K (hd (hid A (own2.drop e1.sl.length)) H') d (.ref a2) := g3.rep hd_drop fun o e => hd_some.mpr ⟨nh, e⟩
  have r2 := (r.setSh (i := e1.sl.length) (v := .ref a2) rq).takeN (n := e1.sl.length) fun i b z => R1.own_lt (drp i b z)
  have t1 : ((((putBack e1 os args').app [some (d, Fl.ow)]).sto st').set e1.sl.length (some (d, Fl.sh))).take e1.sl.length = (putBack e1 os args').sto st' := by
    show (⟨(((putBack e1 os args').sl ++ [some (d, Fl.ow)]).set e1.sl.length (some (d, Fl.sh))).take e1.sl.length, st'⟩ : En) = ⟨(putBack e1 os args').sl, st'⟩
    rw [List.set_append_right _ _ (by rw [len1]; exact Nat.le_refl _), List.take_append_of_le_length (by rw [len1]; exact Nat.le_refl _), List.take_of_length_le (by rw [len1]; exact Nat.le_refl _)]
  have t2 : ((σ ++ [some (V.ref a2)]).set e1.sl.length (some (V.ref a2))).take e1.sl.length = σ := by
    rw [List.set_append_right _ _ (by rw [R1.len]; exact Nat.le_refl _), List.take_append_of_le_length (by rw [R1.len]; exact Nat.le_refl _), List.take_of_length_le (by rw [R1.len]; exact Nat.le_refl _)]
  rw [t1, t2] at r2
  refine kk (.ref a2) H' _ (⟨⟨fun b o nn q => ?_, fun b hb => ?_, fun i b z => ?_, fun b o q => ?_, fun j b z => ?_, fun b od u q => s.toStp.fz b od u (sH b _ q)⟩, drp⟩) ⟨r2, rq, fun z => by cases z⟩
  · refine s.toStp.kp b o (fun z => ?_) (sH b o q)
    rcases z with z | ⟨j, z⟩
    · exact nn (.inl z)
    · rcases Own.put_some.mp z with ⟨_, z⟩ | ⟨_, z⟩
      · exact ne_of_none q ha0 z.symm
      · exact nn (.inr ⟨j, z⟩)
  · obtain ⟨o, q⟩ := R1.al b hb
    rw [s.toStp.hi b hb, sH b o q, q]
  · cases i with
    | inl i => exact .inl ⟨_, drp i b z⟩
    | inr j =>
      rw [Own.drop_w] at z
      rcases s.toStp.ow _ b z with ⟨k2, z2⟩ | z2
      · rcases Own.put_some.mp z2 with ⟨_, z3⟩ | ⟨_, z3⟩
        · right; rw [← z3]; exact ha0
        · exact .inl ⟨_, z3⟩
      · right
        cases q : H1 b with
        | none => rfl
        | some o => rw [sH b o q] at z2; cases z2
  · exact s.toStp.th b o (sH b o q)
  · rw [Own.drop_w]; exact s.toStp.wl j b (by rw [Own.put_w]; exact z)
theorem make_spC {a0 : Arg} (R1 : EnvR K A own1 e1 σ H1) (O1 : OpsOk K A own1 H1 os vs) (hc : os.length + 1 = n) (hnd : (lent os).Nodup) (ha : argsOf e1 os = some args) (hrun : run (e1.st ++ [.ins C [] []]) ((.loc e1.st.length, .sh) :: args) = some (.non, st', a0 :: args')) (hok : (a0 :: args').map (·.2) = ((.loc e1.st.length, Fl.sh) :: args).map (·.2))
    (kk : ∀ v H' own2, StpE A own1 H1 own2 H' → Res K A own2 ((putBack e1 os args').sto st') σ H1 H' false (.loc e1.st.length) v → Q v H') : ∀ a dx, H1 a = none → H1 dx = none → dx ≠ a → spE K n run (.ref a :: vs) (upd (upd H1 dx (.own a)) a (.ins (He.ga K C) dx [])) (fun w H' => w = .non ∧ Q (.ref a) H') E := by
  intro a dx ha0 hdx0 hne
  have ha1 : upd H1 dx (.own a) a = none := by rw [upd_ne hne.symm]; exact ha0
  have sH : Sub H1 (upd (upd H1 dx (.own a)) a (.ins (He.ga K C) dx [])) := fun b o q => by rw [upd_ne (ne_of_none q ha0), upd_ne (ne_of_none q hdx0)]; exact q
  have na : ¬ A a := fun z => by
    obtain ⟨o, q⟩ := R1.al a z
    rw [ha0] at q; cases q
  have Rn := (R1.sub (sub_new (o := .own a) hdx0)).new (o := .ins (He.ga K C) dx []) ha1
  have Rx := Rn.box (d := .ins C [] []) na (.ins (fs := []) upd_same rfl .nil)
  have bw : ∀ (j : Nat) b, own1 (.inr j) = some b → own1.box e1.st.length a (.inr j) = some b := fun j b h => Own.box_some.mpr (.inr ⟨fun z => Nat.ne_of_lt (R1.st_lt h) (Sum.inr.inj z), h⟩)
  have stx : StpE A own1 H1 (own1.box e1.st.length a) (upd (upd H1 dx (.own a)) a (.ins (He.ga K C) dx [])) := ⟨⟨fun b o _ q => .inl (sH b o q), fun b hb => by
    obtain ⟨o, q⟩ := R1.al b hb
    rw [sH b o q, q], fun i b z => by
    rcases Own.box_some.mp z with ⟨_, z⟩ | ⟨_, z⟩
    · right; rw [← z]; exact ha0
    · exact .inl ⟨_, z⟩, fun b o q => ⟨o, sH b o q⟩, bw, fun b od u q => sH b _ q⟩, fun i b z => by rw [Own.box_s] at z; exact z⟩
  have Ox : OpsOk K A (own1.box e1.st.length a) (upd (upd H1 dx (.own a)) a (.ins (He.ga K C) dx [])) (.inl (.loc e1.st.length) :: os) (.ref a :: vs) := .cons (show Rep K (hd (hid A (own1.box e1.st.length a)) _) (.loc e1.st.length) (.ref a) from .loc (Own.box_some.mpr (.inl ⟨rfl, rfl⟩))) (OpsOk.mono (fun i b z => by rw [Own.box_s]; exact z) stx.toStp.sub O1)
  have hax : argsOf (e1.sto (e1.st ++ [.ins C [] []])) (.inl (.loc e1.st.length) :: os) = some ((.loc e1.st.length, .sh) :: args) := by
    rw [argsOf_sto]
    unfold argsOf
    rw [ha]
    rfl
  refine call_sp Rx Ox hax hnd hrun hok (by rw [List.length_cons, ← O1.length]; exact hc) fun v H' own2 s hsl r q => ?_
  cases q
  refine ⟨rfl, ?_⟩
  have eqb : (putBack (e1.sto (e1.st ++ [.ins C [] []])) (.inl (.loc e1.st.length) :: os) (a0 :: args')).sto st' = (putBack e1 os args').sto st' := by
    show (putBack (e1.sto (e1.st ++ [.ins C [] []])) os args').sto st' = _
    rw [putBack_sto]
  rw [eqb] at r
  exact kk (.ref a) H' own2 (stx.trans s) ⟨r, .loc (s.toStp.wl _ _ (Own.box_some.mpr (.inl ⟨rfl, rfl⟩))), fun z => by cases z⟩
end
/-- C(..), the instance at a new place of the store -/
def fMakeC (C : Str) (n : Nat) (run : Run) (f : LF) : EF := fun env => match f env with
  | some (os, e1) => if os.length + 1 = n ∧ (lent os).Nodup then match argsOf e1 os with
    | some args => match run (e1.st ++ [.ins C [] []]) ((.loc e1.st.length, .sh) :: args) with
      | some (.non, st', _ :: args') => some (.loc e1.st.length, false, (putBack e1 os args').sto st')
      | _ => none
    | none => none
    else none
  | none => none
/-- the reading of C(..) by what is asked behind the arguments -/
theorem fMake_read {X : Cx} {n : Nat} {run : Run} {C : Str} {f : LF} {A : Amb} {own : Own} {env env' : En} {σ : L2.St} {H : Hp} {d : D} {fr : Bool} {es : List Expr} {Q : VK} {dvs : List V} (R : EnvR X.K A own env σ H) (h : fMake C n run f env = some (d, fr, env')) (ok : ∀ st args d st' args', run st args = some (d, st', args') → args'.map (·.2) = args.map (·.2))
    (hf : ∀ os e1, f env = some (os, e1) → ∀ Q' : List V → Hp → Prop, (∀ vs H' own', StpE A own H own' H' → EnvR X.K A own' e1 σ H' → OpsOk X.K A own' H' os (vs ++ dvs) → Q' vs H') → WA X es σ H Q') (kk : ∀ v H' own', StpE A own H own' H' → Res X.K A own' env' σ H H' fr d v → Q v H') :
    WA X es σ H fun vs H1 => ∀ a dx, H1 a = none → H1 dx = none → dx ≠ a → spE X.K n run (.ref a :: (vs ++ dvs)) (upd (upd H1 dx (.own a)) a (.ins (He.ga X.K C) dx [])) (fun w H' => w = .non ∧ Q (.ref a) H') E0 := by
  unfold fMake at h
  split at h
  · rename_i os e1 h1
    split at h
    · rename_i hc
      split at h
      · rename_i args ha
        split at h
        · rename_i st' d' args' hrun
          cases h
          refine hf os e1 h1 _ fun vs H1 own1 s1 R1 O1 => ?_
          exact make_sp R1 O1 hc.1 hc.2 ha hrun (ok _ _ _ _ _ hrun) fun v H' own2 s R2 => kk v H' own2 (s1.trans s) ⟨R2.en, R2.rp, fun z => by cases z⟩
        · cases h
      · cases h
    · cases h
  · cases h
theorem fMakeC_read {X : Cx} {n : Nat} {run : Run} {C : Str} {f : LF} {A : Amb} {own : Own} {env env' : En} {σ : L2.St} {H : Hp} {d : D} {fr : Bool} {es : List Expr} {Q : VK} {dvs : List V} (R : EnvR X.K A own env σ H) (h : fMakeC C n run f env = some (d, fr, env')) (ok : ∀ st args d st' args', run st args = some (d, st', args') → args'.map (·.2) = args.map (·.2))
    (hf : ∀ os e1, f env = some (os, e1) → ∀ Q' : List V → Hp → Prop, (∀ vs H' own', StpE A own H own' H' → EnvR X.K A own' e1 σ H' → OpsOk X.K A own' H' os (vs ++ dvs) → Q' vs H') → WA X es σ H Q') (kk : ∀ v H' own', StpE A own H own' H' → Res X.K A own' env' σ H H' fr d v → Q v H') :
    WA X es σ H fun vs H1 => ∀ a dx, H1 a = none → H1 dx = none → dx ≠ a → spE X.K n run (.ref a :: (vs ++ dvs)) (upd (upd H1 dx (.own a)) a (.ins (He.ga X.K C) dx [])) (fun w H' => w = .non ∧ Q (.ref a) H') E0 := by
  unfold fMakeC at h
  split at h
  · rename_i os e1 h1
    split at h
    · rename_i hc
      split at h
      · rename_i args ha
        split at h
        · rename_i st' a0 args' hrun
          cases h
          refine hf os e1 h1 _ fun vs H1 own1 s1 R1 O1 => ?_
          exact make_spC R1 O1 hc.1 hc.2 ha hrun (ok _ _ _ _ _ hrun) fun v H' own2 s R2 => kk v H' own2 (s1.trans s) ⟨R2.en, R2.rp, fun z => by cases z⟩
        · cases h
      · cases h
    · cases h
  · cases h
section
variable {X : Cx} {k n : Nat} {fa : Addr} {run : Run} {x m C : Str} {p pos apos : Pos}
theorem se_make {f : LF} {e : Expr} {es : List Expr} (c : Cal X k fa n run) (M : Mk X.K (He.ga X.K C) fa) (hr : Room (k + 1) X.A) (hg : Gl X x) (hm : X.mg x = some (.ref (He.ga X.K C))) (hf : SL X f (e :: es)) (hdb : (x == ("__debug__" : Str)) = false)
    (he : starEach (e :: es) X.env = (false, eval e X.env) :: starEach es X.env) (hpl : (backTo pos (starEach es X.env)).any (·.1) = false) : SE X (fMake C n run f) (.Call (.Name x p) (e :: es) [] pos) := by
  refine ⟨?_⟩
  intro A own env σ H d fr env' R h Q kk
  obtain ⟨fd, ps, F, hb, hl⟩ := c.ex
  refine we_of (pe_make M F hr hg hm hb .nil pass0 pa_w hdb he hpl) (show WA X (e :: es) σ H _ from ?_)
  have := fMake_read R h c.ok (dvs := []) (fun os e1 h1 Q' k' => hf A own env σ H os e1 R h1 Q' fun vs H' own' s r o => k' vs H' own' s r (by rw [List.append_nil]; exact o)) kk
  exact this
theorem se_makeC {f : LF} {e : Expr} {es : List Expr} (c : Cal X k fa n run) (M : Mk X.K (He.ga X.K C) fa) (hr : Room (k + 1) X.A) (hg : Gl X x) (hm : X.mg x = some (.ref (He.ga X.K C))) (hf : SL X f (e :: es)) (hdb : (x == ("__debug__" : Str)) = false)
    (he : starEach (e :: es) X.env = (false, eval e X.env) :: starEach es X.env) (hpl : (backTo pos (starEach es X.env)).any (·.1) = false) : SE X (fMakeC C n run f) (.Call (.Name x p) (e :: es) [] pos) := by
  refine ⟨?_⟩
  intro A own env σ H d fr env' R h Q kk
  obtain ⟨fd, ps, F, hb, hl⟩ := c.ex
  refine we_of (pe_make M F hr hg hm hb .nil pass0 pa_w hdb he hpl) (show WA X (e :: es) σ H _ from ?_)
  have := fMakeC_read R h c.ok (dvs := []) (fun os e1 h1 Q' k' => hf A own env σ H os e1 R h1 Q' fun vs H' own' s r o => k' vs H' own' s r (by rw [List.append_nil]; exact o)) kk
  exact this
end
end Dz
/-! DzMeth: methods, attributes read and stored. -/
namespace Dz
open PySem PyProof.Rows L2
theorem lookup_none {fs : List (Str × V)} {m : Str} (h : m ∉ fs.map (·.1)) : fs.lookup m = none := by
  induction fs with
  | nil => rfl
  | cons p r ih =>
    obtain ⟨g, v⟩ := p
    rw [List.map_cons, List.mem_cons, not_or] at h
    rw [List.lookup_cons]
    have : (m == g) = false := beq_eq_false_iff_ne.mpr h.1
    rw [this]
    exact ih h.2
/-- an attribute's datum -/
def attD (f : Str) : List Str → List D → Option D
  | n :: ns, d :: ds => if f = n then some d else attD f ns ds
  | _, _ => none
theorem attD_get {K : PySem.W.Frag} {H : Vw} {f : Str} {d : D} : ∀ {ns : List Str} {ds : List D} {fs : List (Str × V)}, fs.map (·.1) = ns → RepL K H ds (fs.map (·.2)) → attD f ns ds = some d → ∃ v, fs.lookup f = some v ∧ Rep K H d v
  | [], _, _, _, _, h => by unfold attD at h; cases h
  | n :: ns, [], _, _, _, h => by unfold attD at h; cases h
  | n :: ns, d0 :: ds, [], h1, _, _ => by cases h1
  | n :: ns, d0 :: ds, (g, v) :: fs, h1, h2, h => by
    rw [List.map_cons] at h1
    obtain ⟨rfl, h1'⟩ := List.cons.inj h1
    rw [List.map_cons] at h2
    cases h2 with
    | cons q1 q2 =>
      unfold attD at h
      rw [List.lookup_cons]
      split at h
      · rename_i e
        cases h
        have : (f == g) = true := beq_iff_eq.mpr e
        rw [this]
        exact ⟨v, rfl, q1⟩
      · rename_i e
        have : (f == g) = false := beq_eq_false_iff_ne.mpr e
        rw [this]
        exact attD_get h1' q2 h
def putD (f : Str) (d : D) : List Str → List D → List D
  | n :: ns, x :: ds => if n = f then d :: ds else x :: putD f d ns ds
  | _, _ => [d]
def putN (f : Str) : List Str → List Str
  | [] => [f]
  | n :: ns => if n = f then n :: ns else n :: putN f ns
theorem putD_rep {K : PySem.W.Frag} {H : Vw} {f : Str} {d : D} {v : V} (q : Rep K H d v) : ∀ {ns : List Str} {ds : List D} {fs : List (Str × V)}, fs.map (·.1) = ns → RepL K H ds (fs.map (·.2)) → (putF f v fs).map (·.1) = putN f ns ∧ RepL K H (putD f d ns ds) ((putF f v fs).map (·.2))
  | [], ds, [], _, r => by
    unfold putD putN
    exact ⟨rfl, .cons q .nil⟩
  | [], _, _ :: _, h, _ => by cases h
  | _ :: _, _, [], h, _ => by cases h
  | n :: ns, ds, (g, w) :: fs, h1, h2 => by
    rw [List.map_cons] at h1
    obtain ⟨rfl, h1'⟩ := List.cons.inj h1
    rw [List.map_cons] at h2
    cases h2 with
    | cons q1 q2 =>
      rename_i d0 ds
      obtain ⟨i1, i2⟩ := putD_rep q h1' q2
      rw [show putF f v ((g, w) :: fs) = (if g = f then (g, v) :: fs else (g, w) :: putF f v fs) from rfl]
      unfold putD putN
      by_cases hk : g = f
      · rw [if_pos hk, if_pos hk, if_pos hk]
        exact ⟨by rw [List.map_cons, h1'], .cons q q2⟩
      · rw [if_neg hk, if_neg hk, if_neg hk]
        exact ⟨by rw [List.map_cons, i1], .cons q1 i2⟩
section
variable {X : Cx}
/-- o.f; at_ tells which attributes of which classes are plain -/
def fAtt (at_ : Str → Str → Bool) (f : Str) (o : OF) : EF := fun env => match o env with
  | some (op, e1) => match res e1 op with
    | some (.ins C ns ds) => if at_ C f then match attD f ns ds with
      | some d => some (d, false, e1)
      | none => none
      else none
    | _ => none
  | none => none
theorem se_att {at_ : Str → Str → Bool} {f : Str} {o : OF} {e : Expr} {pos} (hat : ∀ C f, at_ C f = true → Cls X.K (He.ga X.K C) ∧ NoAttr X.K (He.ga X.K C) f) (ho : SO X o e) (hb : attributeBase e f X.env (eval e X.env) = eval e X.env) : SE X (fAtt at_ f o) (.Attribute e f pos) := by
  refine ⟨?_⟩
  intro A own env σ H d fr env' R h Q k
  unfold fAtt at h
  split at h
  · rename_i op e1 h1
    split at h
    · rename_i C ns ds h2
      split at h
      · rename_i hc
        split at h
        · rename_i d1 h3
          cases h
          obtain ⟨c1, c2⟩ := hat C f hc
          refine we_of (pe_fld pe_w hb) (ho A own env σ H op env' R h1 _ fun v H1 own1 s1 R1 o1 => ?_)
          have vw := o1.step StpE.refl R1 h2
          obtain ⟨a, dx, fs, rfl, g1, g2, g3⟩ := vw.ins hd_sub
          obtain ⟨w, g4, g5⟩ := attD_get g2 g3 h3
          exact ⟨a, _, dx, fs, w, rfl, g1, c1, c2, g4, k w H1 own1 s1 ⟨R1, g5, fun z => by cases z⟩⟩
        · cases h
      · cases h
    · cases h
  · cases h
/-- self.f = e, the instance owned by slot i -/
def sFldS (at_ : Str → Str → Bool) (i : Nat) (f : Str) (g : EF) : SF := fun env => match g env with
  | some (d, _, e) => match e.sl[i]? with
    | some (some (.loc j, .sh)) => match e.st[j]? with
      | some (.ins C ns ds) => if at_ C f && decide (ns.length < 1000) then some (.nx (e.sto (e.st.set j (.ins C (putN f ns) (putD f d ns ds))))) else none
      | _ => none
    | some (some (_, .sh)) => none
    | some (some (.ins C ns ds, fl)) => if at_ C f && decide (ns.length < 1000) then some (.nx (e.set i (some (.ins C (putN f ns) (putD f d ns ds), fl)))) else none
    | _ => none
  | none => none
theorem ss_fld {at_ : Str → Str → Bool} {i : Nat} {x f : Str} {g : EF} {e : Expr} {p pos pos'} (hat : ∀ C f, at_ C f = true → Cls X.K (He.ga X.K C) ∧ NoAttr X.K (He.ga X.K C) f) (hN : X.N[i]? = some x) (hv : Vis X.env.scope x) (hd1 : (x == ("__debug__" : Str)) = false) (hcd : (x == ("__classdict__" : Str)) = false)
    (hg : SE X g e) (hs : swapsWith e (some (.Attribute (.Name x p) f pos')) pos.line X.env = pure false) : SS X (sFldS at_ i f g) (.Assign [.Attribute (.Name x p) f pos'] e pos) := by
  refine ⟨?_⟩
  intro A own env σ H out r h D k
  unfold sFldS at h
  split at h
  · rename_i d fr e1 h1
    split at h
    · rename_i j h2
      split at h
      · rename_i C ns ds h4
        split at h
        · rename_i hc
          cases h
          obtain ⟨hc1, hc2⟩ := Bool.and_eq_true_iff.mp hc
          obtain ⟨c1, c2⟩ := hat C f hc1
          refine ws_of (ps_fld (pe_var hN hv hd1 hcd) pe_w hs) (hg A own env σ H d fr e1 r h1 _ fun v H1 own1 s1 R1 => ?_)
          obtain ⟨w, q2, q5⟩ := R1.en.sh i _ h2
          obtain ⟨a, q1, q3⟩ := R1.en.ce j _ h4
          have ew : w = .ref a := by
            cases q5 with
            | loc q6 =>
              have q7 : own1 (.inr j) = some _ := q6
              rw [q1] at q7
              cases q7
              rfl
          subst ew
          have q3 := q3.un rfl
          cases q3 with
          | ins g1 g2 g3 =>
            rename_i dx fs
            obtain ⟨j1, j2⟩ := putD_rep R1.rp g2 g3
            refine ⟨_, q2, a, _, dx, fs, rfl, g1, c1, c2, ?_, ?_⟩
            · have := of_decide_eq_true hc2
              rw [← g2, List.length_map] at this
              exact this
            · exact k σ _ own1 (s1.toStp.trans (Stp.mut R1.en q1)) (R1.en.mutC q1 (.ins j1 j2))
        · cases h
      · cases h
    · cases h
    · rename_i C ns ds fl hfl h2
      split at h
      · rename_i hc
        cases h
        obtain ⟨hc1, hc2⟩ := Bool.and_eq_true_iff.mp hc
        obtain ⟨c1, c2⟩ := hat C f hc1
        refine ws_of (ps_fld (pe_var hN hv hd1 hcd) pe_w hs) (hg A own env σ H d fr e1 r h1 _ fun v H1 own1 s1 R1 => ?_)
        have hf : fl ≠ .sh := fun z => hfl z
        obtain ⟨a, q1, q2, q3⟩ := R1.en.ow i _ fl h2 hf
        cases q3 with
        | ins g1 g2 g3 =>
          rename_i dx fs
          obtain ⟨j1, j2⟩ := putD_rep R1.rp g2 g3
          refine ⟨_, q2, a, _, dx, fs, rfl, g1, c1, c2, ?_, ?_⟩
          · have := of_decide_eq_true hc2
            rw [← g2, List.length_map] at this
            exact this
          · exact k σ _ own1 (s1.toStp.trans (Stp.mut R1.en q1)) (R1.en.mut q1 h2 hf (.ins j1 j2))
      · cases h
    · cases h
  · cases h
end
/-! ### methods -/
/-- the receiver ahead of the arguments -/
def fMeth (mt : Str → Str → Option (Nat × Run)) (m : Str) (o : OF) (f : LF) : EF := fun env => match o env with
  | some (op, e0) => match res e0 op with
    | some (.ins C ns _) => match mt C m with
      | some (n, run) => if ns.contains m then none else match f e0 with
        | some (os, e1) => if (res e1 op).isSome ∧ os.length + 1 = n ∧ (lent (op :: os)).Nodup then match argsOf e1 (op :: os) with
          | some args => match run e1.st args with
            | some (d, st', args') => some (d, false, (putBack e1 (op :: os) args').sto st')
            | none => none
          | none => none
          else none
        | none => none
      | none => none
    | _ => none
  | none => none
section
variable {X : Cx} {k : Nat} {m : Str} {pos apos : Pos}
theorem se_meth {mt : Str → Str → Option (Nat × Run)} {pl : Sem Bool} {o : Expr} {fo : OF} {f : LF} {e : Expr} {es : List Expr} (hmt : ∀ C n run, mt C m = some (n, run) → Cls X.K (He.ga X.K C) ∧ ∃ g, Meth X.K (He.ga X.K C) m g ∧ Cal X k g n run) (hr : Room k X.A) (ho : SO X fo o) (hf : SL X f (e :: es))
    (hst : starEach (e :: es) X.env = (false, eval e X.env) :: starEach es X.env) (hpl : (backTo pos (starEach es X.env)).any (·.1) = false)
    (ht : eval (.Call (.Attribute o m apos) (e :: es) [] pos) X.env = (do
      let ov ← eval o X.env
      standAt apos.atName
      let (f, first) ← holding [ov] (getMethod ov m pl)
      callWith pos f first (backTo pos (starEach (e :: es) X.env)) (backToKw pos (keywordEach [] X.env)))) : SE X (fMeth mt m fo f) (.Call (.Attribute o m apos) (e :: es) [] pos) := by
  refine ⟨?_⟩
  intro A own env σ H d fr env' R h Q kk
  unfold fMeth at h
  split at h
  · rename_i op e0 h0
    split at h
    · rename_i C ns ds h2
      split at h
      · rename_i n run hm
        split at h
        · cases h
        · rename_i hns
          split at h
          · rename_i os e1 h1
            split at h
            · rename_i hc
              split at h
              · rename_i args ha
                split at h
                · rename_i d' st' args' hrun
                  cases h
                  obtain ⟨c1, g, c2, c3⟩ := hmt C n run hm
                  obtain ⟨fd, ps, F, hb, hl⟩ := c3.ex
                  refine we_of (pe_meth pe_w c1 c2 F hr hb .nil pass0 pa_w hst hpl ht) (ho A own env σ H op e0 R h0 _ fun v H0 own0 s0 R0 o0 => ?_)
                  obtain ⟨a, dx, fs, rfl, g1, g2, g3⟩ := (o0.step StpE.refl R0 h2).ins hd_sub
                  refine ⟨a, dx, fs, rfl, g1, lookup_none (by rw [g2]; simpa using hns), hf A own0 e0 σ H0 os e1 R0 h1 _ fun vs H1 own1 s1 R1 O1 => ?_⟩
                  rw [List.append_nil]
                  have O2 : OpsOk X.K A own1 H1 (op :: os) (.ref a :: vs) := .cons (o0.keep s1 R1 hc.1) O1
                  exact call_sp R1 O2 ha hc.2.2 hrun (c3.ok _ _ _ _ _ hrun) (by rw [List.length_cons, ← O1.length]; exact hc.2.1) fun v H' own2 s _ r q => kk v H' own2 ((s0.trans s1).trans s) ⟨r, q, fun z => by cases z⟩
                · cases h
              · cases h
            · cases h
          · cases h
      · cases h
    · cases h
  · cases h
theorem se_meth0 {mt : Str → Str → Option (Nat × Run)} {pl : Sem Bool} {o : Expr} {fo : OF} (hmt : ∀ C n run, mt C m = some (n, run) → Cls X.K (He.ga X.K C) ∧ ∃ g, Meth X.K (He.ga X.K C) m g ∧ Cal X k g n run) (hr : Room k X.A) (ho : SO X fo o)
    (ht : eval (.Call (.Attribute o m apos) [] [] pos) X.env = (do
      let ov ← eval o X.env
      standAt apos.atName
      let (f, first) ← holding [ov] (getMethod ov m pl)
      callWith pos f first (backTo pos (starEach [] X.env)) (backToKw pos (keywordEach [] X.env)))) : SE X (fMeth mt m fo lNil) (.Call (.Attribute o m apos) [] [] pos) := by
  refine ⟨?_⟩
  intro A own env σ H d fr env' R h Q kk
  unfold fMeth lNil at h
  split at h
  · rename_i op e0 h0
    split at h
    · rename_i C ns ds h2
      split at h
      · rename_i n run hm
        split at h
        · cases h
        · rename_i hns
          split at h
          · rename_i os e1 h1
            cases h1
            split at h
            · rename_i hc
              split at h
              · rename_i args ha
                split at h
                · rename_i d' st' args' hrun
                  cases h
                  obtain ⟨c1, g, c2, c3⟩ := hmt C n run hm
                  obtain ⟨fd, ps, F, hb, hl⟩ := c3.ex
                  refine we_of (pe_meth0 pe_w c1 c2 F hr hb .nil pass0 ht) (ho A own env σ H op e0 R h0 _ fun v H0 own0 s0 R0 o0 => ?_)
                  obtain ⟨a, dx, fs, rfl, g1, g2, g3⟩ := (o0.step StpE.refl R0 h2).ins hd_sub
                  refine ⟨a, dx, fs, rfl, g1, lookup_none (by rw [g2]; simpa using hns), ?_⟩
                  show spE X.K n run (.ref a :: ([] ++ [])) H0 Q E0
                  have O2 : OpsOk X.K A own0 H0 [op] [.ref a] := .cons o0 .nil
                  exact call_sp R0 O2 ha hc.2.2 hrun (c3.ok _ _ _ _ _ hrun) hc.2.1 fun v H' own2 s _ r q => kk v H' own2 (s0.trans s) ⟨r, q, fun z => by cases z⟩
                · cases h
              · cases h
            · cases h
          · cases h
      · cases h
    · cases h
  · cases h
end
end Dz
/-! DzBlt: built-ins by name, slices, stars in displays, f-strings, split. -/
namespace Dz
open PySem L2
theorem CallR.or {X : Cx} {f : Value} {r r' : List V → Hp → VK → Prop} (h : CallR X f r) (h' : CallR X f r') : CallR X f (fun xs H Q => r xs H Q ∨ r' xs H Q) := by
  intro pins s σ H xs us Q I rx q
  rcases q with q | q
  · exact h pins s σ H xs us Q I rx q
  · exact h' pins s σ H xs us Q I rx q
def porN (p q : PrN) : PrN := fun xs => match p xs with
  | some z => some z
  | none => q xs
theorem PN.or {X : Cx} {r r' : List V → Hp → VK → Prop} {p p' : PrN} (h : PN X r p) (h' : PN X r' p') : PN X (fun xs H Q => r xs H Q ∨ r' xs H Q) (porN p p') := by
  intro Hh H ds vs d fr Q e vx q g
  unfold porN at q
  split at q
  · rename_i z e1
    cases q
    exact .inl (h Hh H ds vs d fr Q e vx e1 g)
  · exact .inr (h' Hh H ds vs d fr Q e vx q g)
/-- a list or a tuple, by its items -/
def D.seq : D → Option (List D)
  | .lst xs => some xs
  | .flz xs => some xs
  | .tup xs => some xs
  | .kup xs => some xs
  | _ => none
theorem View.seq {K : PySem.W.Frag} {Hh : Vw} {H : Hp} {d : D} {v : V} {xs : List D} (h : View K Hh H d v) (q : d.seq = some xs) (e : Sub Hh H) : ∃ a vs, v = .ref a ∧ (SqL K H a vs ∨ SqT K H a vs) ∧ RepL K Hh xs vs := by
  cases d with
  | lst ys =>
    cases q
    obtain ⟨a, vs, h1, h2, h3⟩ := h.lst e
    exact ⟨a, vs, h1, .inl (.inl (.inl h2)), h3⟩
  | flz ys =>
    cases q
    obtain ⟨a, vs, h1, h2, h3⟩ := h.flz e
    exact ⟨a, vs, h1, .inl h2, h3⟩
  | tup ys =>
    cases q
    obtain ⟨a, vs, h1, h2, h3⟩ := h.tup rfl e
    exact ⟨a, vs, h1, .inr h2, h3⟩
  | kup ys =>
    cases q
    obtain ⟨a, vs, h1, h2, h3⟩ := h.tup rfl e
    exact ⟨a, vs, h1, .inr h2, h3⟩
  | _ => cases q
section
variable {X : Cx}
/-! ### len, list, tuple -/
def pLen : PrN := fun ds => match ds with
  | [d] => match d.seq with
    | some xs => some (.int xs.length, false)
    | none => none
  | _ => none
theorem pn_len : PN X (fun xs H Q => ∃ p ys, xs = [.ref p] ∧ (SqL X.K H p ys ∨ SqT X.K H p ys) ∧ Q (.int ys.length) H) pLen := by
  intro Hh H ds vs d fr Q e vx q g
  unfold pLen at q
  split at q
  · rename_i d0
    split at q
    · rename_i xs h1
      cases q
      cases vx with
      | cons v1 v2 =>
        cases v2
        obtain ⟨a, us, rfl, h2, h3⟩ := v1.seq h1 e
        refine ⟨a, us, rfl, h2, ?_⟩
        rw [← h3.length]
        exact g.old rfl _ (.int _)
    · cases q
  · cases q
def pLenS : PrN := fun ds => match ds with
  | [.str s] => if s.length ≤ 100000 then some (.int s.length, false) else none
  | _ => none
def pList : PrN := fun ds => match ds with
  | [d] => match d.seq with
    | some xs => some (.lst xs, true)
    | none => none
  | _ => none
theorem pn_list : PN X (fun xs H Q => ∃ p ys, xs = [.ref p] ∧ (SqL X.K H p ys ∨ SqT X.K H p ys) ∧ ∀ l, H l = none → Q (.ref l) (upd H l (.lst ys))) pList := by
  intro Hh H ds vs d fr Q e vx q g
  unfold pList at q
  split at q
  · rename_i d0
    split at q
    · rename_i xs h1
      cases q
      cases vx with
      | cons v1 v2 =>
        cases v2
        obtain ⟨a, us, rfl, h2, h3⟩ := v1.seq h1 e
        exact ⟨a, us, rfl, h2, fun l hl => g.new l _ hl (.lst h3)⟩
    · cases q
  · cases q
def pTuple : PrN := fun ds => match ds with
  | [.lst xs] => some (.tup xs, false)
  | [.tup xs] => some (.tup xs, false)
  | [.kup xs] => some (.kup xs, false)
  | _ => none
theorem pn_tuple : PN X (fun xs H Q => ∃ p ys, xs = [.ref p] ∧ ((SqL X.K H p ys ∧ ∀ l, H l = none → Q (.ref l) (upd H l (.tup ys))) ∨ (SqT X.K H p ys ∧ Q (.ref p) H))) pTuple := by
  intro Hh H ds vs d fr Q e vx q g
  unfold pTuple at q
  split at q
  · cases q
    cases vx with
    | cons v1 v2 =>
      cases v2
      obtain ⟨a, us, rfl, h2, h3⟩ := v1.lst e
      exact ⟨a, us, rfl, .inl ⟨.inl (.inl h2), fun l hl => g.new l _ hl (.tup h3)⟩⟩
  · cases q
    cases vx with
    | cons v1 v2 =>
      cases v2
      have k := v1.sh rfl
      obtain ⟨a, us, rfl, h2, h3⟩ := v1.tup rfl e
      exact ⟨a, us, rfl, .inr ⟨h2, g.old rfl _ k⟩⟩
  · cases q
    cases vx with
    | cons v1 v2 =>
      cases v2
      have k := v1.sh rfl
      obtain ⟨a, us, rfl, h2, h3⟩ := v1.tup rfl e
      exact ⟨a, us, rfl, .inr ⟨h2, g.old rfl _ k⟩⟩
  · cases q
def pInt : PrN := fun ds => match ds with
  | [.int i] => some (.int i, false)
  | [.bl k] => some (.int (if k then 1 else 0), false)
  | _ => none
theorem pn_int : PN X (fun xs H Q => (∃ i, xs = [.int i] ∧ Q (.int i) H) ∨ ∃ k, xs = [.bl k] ∧ Q (.int (if k then 1 else 0)) H) pInt := by
  intro Hh H ds vs d fr Q e vx q g
  unfold pInt at q
  split at q
  · cases q
    cases vx with
    | cons v1 v2 =>
      cases v2
      rw [v1.int]
      exact .inl ⟨_, rfl, g.old rfl _ (.int _)⟩
  · cases q
    cases vx with
    | cons v1 v2 =>
      cases v2
      rw [v1.bl]
      exact .inr ⟨_, rfl, g.old rfl _ (.int _)⟩
  · cases q
def pStrI : PrN := fun ds => match ds with
  | [.int i] => if i.natAbs < 2 ^ 64 then some (.str (toString i), false) else none
  | _ => none
theorem log2_lt {n : Nat} (h : n < 2 ^ 64) : n.log2 < 1920 := by
  by_cases h0 : n = 0
  · rw [h0]; decide
  · have : n.log2 < 64 := (Nat.log2_lt h0).mpr h
    omega
theorem pn_strI : PN X (fun xs H Q => ∃ i, xs = [.int i] ∧ i.natAbs.log2 < 1920 ∧ Q (.str (toString i)) H) pStrI := by
  intro Hh H ds vs d fr Q e vx q g
  unfold pStrI at q
  split at q
  · split at q
    · rename_i hl
      cases q
      cases vx with
      | cons v1 v2 =>
        cases v2
        rw [v1.int]
        exact ⟨_, rfl, log2_lt hl, g.old rfl _ (.str _)⟩
    · cases q
  · cases q
def pMax : PrN := fun ds => match ds with
  | [.int i, .int j] => some (.int (if j > i then j else i), false)
  | _ => none
def pMin : PrN := fun ds => match ds with
  | [.int i, .int j] => some (.int (if j < i then j else i), false)
  | _ => none
theorem pn_max : PN X (fun xs H Q => ∃ i j, xs = [.int i, .int j] ∧ Q (.int (if j > i then j else i)) H) pMax := by
  intro Hh H ds vs d fr Q e vx q g
  unfold pMax at q
  split at q
  · cases q
    cases vx with
    | cons v1 v2 =>
      cases v2 with
      | cons v2 v3 =>
        cases v3
        rw [v1.int, v2.int]
        exact ⟨_, _, rfl, g.old rfl _ (.int _)⟩
  · cases q
theorem pn_min : PN X (fun xs H Q => ∃ i j, xs = [.int i, .int j] ∧ Q (.int (if j < i then j else i)) H) pMin := by
  intro Hh H ds vs d fr Q e vx q g
  unfold pMin at q
  split at q
  · cases q
    cases vx with
    | cons v1 v2 =>
      cases v2 with
      | cons v2 v3 =>
        cases v3
        rw [v1.int, v2.int]
        exact ⟨_, _, rfl, g.old rfl _ (.int _)⟩
  · cases q
/-! ### all, any of bools -/
def blsD : List D → Option (List Bool)
  | [] => some []
  | .bl b :: r => (blsD r).map (b :: ·)
  | _ => none
theorem RepL.bls {K : PySem.W.Frag} {H : Vw} : ∀ {ds : List D} {vs : List V} {bs : List Bool}, RepL K H ds vs → blsD ds = some bs → vs = bs.map V.bl
  | _, _, _, .nil, e => by cases e; rfl
  | d :: ds, _, bs, .cons h r, e => by
    cases d <;> first | (cases e; done) | skip
    rename_i b
    have e2 : (blsD ds).map (b :: ·) = some bs := e
    cases q : blsD ds with
    | none => rw [q] at e2; cases e2
    | some l =>
      rw [q] at e2
      cases e2
      cases h
      rw [r.bls q]
      rfl
def pAll : PrN := fun ds => match ds with
  | [.lst xs] => match blsD xs with
    | some bs => some (.bl (bs.all id), false)
    | none => none
  | _ => none
def pAny : PrN := fun ds => match ds with
  | [.lst xs] => match blsD xs with
    | some bs => some (.bl (bs.any id), false)
    | none => none
  | _ => none
theorem pn_all : PN X (rAll X.K) pAll := by
  intro Hh H ds vs d fr Q e vx q g
  unfold pAll at q
  split at q
  · split at q
    · rename_i bs h1
      cases q
      cases vx with
      | cons v1 v2 =>
        cases v2
        obtain ⟨a, us, rfl, h2, h3⟩ := v1.lst e
        refine ⟨a, bs, rfl, .inl (.inl ?_), g.old rfl _ (.bl _)⟩
        rw [h2, h3.bls h1]
    · cases q
  · cases q
theorem pn_any : PN X (rAny X.K) pAny := by
  intro Hh H ds vs d fr Q e vx q g
  unfold pAny at q
  split at q
  · split at q
    · rename_i bs h1
      cases q
      cases vx with
      | cons v1 v2 =>
        cases v2
        obtain ⟨a, us, rfl, h2, h3⟩ := v1.lst e
        refine ⟨a, bs, rfl, .inl (.inl ?_), g.old rfl _ (.bl _)⟩
        rw [h2, h3.bls h1]
    · cases q
  · cases q
/-! ### a star in a display -/
def aStar (o : OF) (g : AF) : AF := fun env => match o env with
  | some (op, e1) => match res e1 op with
    | some d => match d.seq with
      | some xs => match g e1 with
        | some (ds, e2) => some (xs ++ ds, e2)
        | none => none
      | none => none
    | none => none
  | none => none
theorem sa_star {o : OF} {g : AF} {e : Expr} {p : Pos} {es : List Expr} (ho : SO X o e) (hg : SA X g es) (hs : starEach (.Starred e p :: es) X.env = (true, eval e X.env) :: starEach es X.env) : SA X (aStar o g) (.Starred e p :: es) := by
  refine ⟨?_⟩
  intro A own env σ H ds env' r h Q k
  unfold aStar at h
  split at h
  · rename_i op e1 h1
    split at h
    · rename_i d hd1
      split at h
      · rename_i xs hx
        split at h
        · rename_i ds2 e2 h2
          cases h
          refine wa_of (StX.pa_star pe_w pa_w hs) (ho A own env σ H op e1 r h1 _ fun v H1 own1 s1 R1 o1 => ?_)
          obtain ⟨a, vs, rfl, h3, h4⟩ := (o1.step StpE.refl R1 hd1).seq hx hd_sub
          exact ⟨a, vs, rfl, h3.symm, hg A own1 e1 σ H1 ds2 env' R1 h2 _ fun us H2 own2 s2 R2 o2 => k _ H2 own2 (s1.trans s2) R2 ((h4.mono s2.toStp.sub).append o2)⟩
        · cases h
      · cases h
    · cases h
  · cases h
/-! ### f-strings -/
def fFmt (o : EF) : EF := fun env => match o env with
  | some (.str s, _, e) => if s.length ≤ 100000 then some (.str s, false, e) else none
  | some (.int i, _, e) => if i.natAbs < 2 ^ 64 then some (.str (toString i), false, e) else none
  | _ => none
theorem se_fmt {o : EF} {e : Expr} {pos} (ho : SE X o e) : SE X (fFmt o) (.FormattedValue e (-1) none pos) := by
  refine ⟨?_⟩
  intro A own env σ H d fr env' r h Q k
  unfold fFmt at h
  split at h
  · rename_i s fr1 e1 h1
    split at h
    · rename_i hl
      cases h
      refine we_of (pe_fmt pe_w) (ho A own env σ H _ fr1 env' r h1 _ fun v H1 own1 s1 R1 => .inl ⟨s, (View.sc (Hh := _) (H := H1) R1.rp).str, line_of hl, k _ H1 own1 s1 ⟨R1.en, .str _, fun z => by cases z⟩⟩)
    · cases h
  · rename_i i fr1 e1 h1
    split at h
    · rename_i hl
      cases h
      refine we_of (pe_fmt pe_w) (ho A own env σ H _ fr1 env' r h1 _ fun v H1 own1 s1 R1 => .inr ⟨i, (View.sc (Hh := _) (H := H1) R1.rp).int, log2_lt hl, k _ H1 own1 s1 ⟨R1.en, .str _, fun z => by cases z⟩⟩)
    · cases h
  · cases h
/-- the parts joined -/
def joinF : List EF → Str → En → Option (Str × En)
  | [], acc, env => some (acc, env)
  | f :: fs, acc, env => match f env with
    | some (.str s, _, e) => if (acc ++ s).length ≤ 100000 then joinF fs (acc ++ s) e else none
    | _ => none
def fJoin (fs : List EF) : EF := fun env => match joinF fs Str.empty env with
  | some (s, e) => some (.str s, false, e)
  | none => none
inductive SJ (X : Cx) : List EF → List Expr → Prop
  | nil : SJ X [] []
  | cons {f : EF} {e : Expr} {fs : List EF} {es : List Expr} : SE X f e → SJ X fs es → SJ X (f :: fs) (e :: es)
theorem SJ.pj : ∀ {fs : List EF} {es : List Expr}, SJ X fs es → PJ X es (es.map (WE X))
  | _, _, .nil => .nil
  | _, _, .cons _ r => .cons pe_w r.pj
theorem SJ.read {A : Amb} {σ : L2.St} : ∀ {fs : List EF} {es : List Expr}, SJ X fs es → ∀ {own : Own} {env env' : En} {H : Hp} {acc out : Str}, EnvR X.K A own env σ H → joinF fs acc env = some (out, env') → ∀ {Q : Str → Hp → Prop},
    (∀ H' own', StpE A own H own' H' → EnvR X.K A own' env' σ H' → Q out H') → tJs (es.map (WE X)) acc σ H Q
  | _, _, .nil, own, env, env', H, acc, out, r, h, Q, k => by
    cases h
    exact k H own StpE.refl r
  | f :: fs, e :: es, .cons hf hr, own, env, env', H, acc, out, r, h, Q, k => by
    unfold joinF at h
    split at h
    · rename_i s fr e1 h1
      split at h
      · rename_i hl
        exact hf A own env σ H _ fr e1 r h1 _ fun v H1 own1 s1 R1 => ⟨s, (View.sc (Hh := _) (H := H1) R1.rp).str, line_of hl, hr.read R1.en h fun H2 own2 s2 R2 => k H2 own2 (s1.trans s2) R2⟩
      · cases h
    · cases h
theorem se_join {fs : List EF} {v1 v2 : Expr} {rest : List Expr} {pos} (h : SJ X fs (v1 :: v2 :: rest)) : SE X (fJoin fs) (.JoinedStr (v1 :: v2 :: rest) pos) := by
  refine ⟨?_⟩
  intro A own env σ H d fr env' r q Q k
  unfold fJoin at q
  split at q
  · rename_i s e h1
    cases q
    exact we_of (pe_joined h.pj) (h.read r h1 fun H' own' s' R => k _ H' own' s' ⟨R, .str _, fun z => by cases z⟩)
  · cases q
end
end Dz
/-! DzMore: slices, split, xs[i] += e, several names at once, constants of the text. -/
namespace Dz
open PySem L2
section
variable {X : Cx}
/-! ### slices -/
def cutD (xs : List D) (lo hi : Option Int) : List D := (xs.drop (HT.sIx xs.length 0 lo)).take (HT.sIx xs.length xs.length hi - HT.sIx xs.length 0 lo)
theorem RepL.cut {K : PySem.W.Frag} {H : Vw} {ds : List D} {vs : List V} (r : RepL K H ds vs) (lo hi : Option Int) : RepL K H (cutD ds lo hi) (cutV vs lo hi) := by
  unfold cutD cutV
  rw [← r.length]
  exact (r.drop _).take _
def pSl (d : D) (lo hi : Option Int) : Option (D × Bool) := match d with
  | .lst xs => some (.lst (cutD xs lo hi), true)
  | d => match d.asTup with
    | some xs => if HT.sIx xs.length 0 lo = 0 ∧ HT.sIx xs.length xs.length hi = xs.length then some (d, false) else some (.tup (cutD xs lo hi), false)
    | none => none
abbrev PF := En → Option (Option Int × En)
def WO (X : Cx) (e : Option Expr) : TO := fun σ H Q => ∃ t, PO X e t ∧ t σ H Q
theorem po_w {e : Option Expr} : PO X e (WO X e) := ⟨fun pins s σ H Q I ⟨t, p, h⟩ => p.run pins s σ H Q I h⟩
def SP2 (X : Cx) (f : PF) (e : Option Expr) : Prop := ∀ A own env σ H o env', EnvR X.K A own env σ H → f env = some (o, env') → ∀ Q : Option Int → Hp → Prop,
  (∀ H' own', StpE A own H own' H' → EnvR X.K A own' env' σ H' → Q o H') → WO X e σ H Q
def pfN : PF := fun env => some (none, env)
def pfS (f : EF) : PF := fun env => match f env with
  | some (.int i, _, e) => some (some i, e)
  | _ => none
theorem sp_none : SP2 X pfN none := by
  intro A own env σ H o env' r h Q k
  cases h
  exact ⟨_, po_none, k H own StpE.refl r⟩
theorem sp_some {f : EF} {e : Expr} (hf : SE X f e) : SP2 X (pfS f) (some e) := by
  intro A own env σ H o env' r h Q k
  unfold pfS at h
  split at h
  · rename_i i fr e1 h1
    cases h
    exact ⟨_, po_some pe_w, hf A own env σ H _ fr env' r h1 _ fun v H1 own1 s1 R1 => ⟨i, (View.sc (Hh := _) (H := H1) R1.rp).int, k H1 own1 s1 R1.en⟩⟩
  · cases h
def fSl (o : OF) (lo hi : PF) : EF := fun env => match o env with
  | some (op, e1) => match lo e1 with
    | some (l, e2) => match hi e2 with
      | some (h, e3) => match res e3 op with
        | some d => match pSl d l h with
          | some (y, fr) => some (y, fr, e3)
          | none => none
        | none => none
      | none => none
    | none => none
  | none => none
theorem se_sl {o : OF} {lo hi : PF} {e : Expr} {elo ehi : Option Expr} {p2 pos} (ho : SO X o e) (hl : SP2 X lo elo) (hh : SP2 X hi ehi) : SE X (fSl o lo hi) (.Subscript e (.Slice elo ehi none p2) pos) := by
  refine ⟨?_⟩
  intro A own env σ H d fr env' r h Q k
  unfold fSl at h
  split at h
  · rename_i op e1 h1
    split at h
    · rename_i l e2 h2
      split at h
      · rename_i u e3 h3
        split at h
        · rename_i d0 h4
          split at h
          · rename_i y fr0 h5
            cases h
            refine we_of (pe_slice (SlR.or sl_list sl_tupA) pe_w po_w po_w) (ho A own env σ H op e1 r h1 _ fun v H1 own1 s1 R1 o1 => hl A own1 e1 σ H1 l e2 R1 h2 _ fun H2 own2 s2 R2 => hh A own2 e2 σ H2 u env' R2 h3 _ fun H3 own3 s3 R3 => ?_)
            have vw := o1.step (s2.trans s3) R3 h4
            have g := give ((s1.trans s2).trans s3) R3 k
            unfold pSl at h5
            split at h5
            · cases h5
              obtain ⟨a, vs, rfl, g1, g2⟩ := vw.lst hd_sub
              exact .inl ⟨a, vs, rfl, .inl (.inl g1), fun p hp => g.new p _ hp (.lst (g2.cut l u))⟩
            · split at h5
              · rename_i xs hx
                have kk := vw.sh (asTup_mut hx)
                obtain ⟨a, vs, rfl, g1, g2⟩ := vw.tup hx hd_sub
                refine .inr ⟨a, vs, rfl, g1, fun z => ?_, fun z p hp => ?_⟩
                · rw [← g2.length] at z
                  rw [if_pos z] at h5
                  cases h5
                  exact g.old rfl _ kk
                · rw [← g2.length] at z
                  rw [if_neg z] at h5
                  cases h5
                  exact g.new p _ hp (.tup (g2.cut l u))
              · cases h5
          · cases h
        · cases h
      · cases h
    · cases h
  · cases h
/-! ### s.split(t) -/
def fSplit (o g : EF) : EF := fun env => match o env with
  | some (.str a, _, e1) => match g e1 with
    | some (.str b, _, e2) => if b.length ≠ 0 ∧ a.length + 2 ≤ 100000 then some (.lst ((Txt.split a b).map D.str), true, e2) else none
    | _ => none
  | _ => none
theorem rep_strs {K : PySem.W.Frag} {H : Vw} : ∀ ys : List Str, RepL K H (ys.map D.str) (ys.map V.str)
  | [] => .nil
  | y :: ys => .cons (.str y) (rep_strs ys)
theorem se_split {o g : EF} {e a : Expr} {apos pos : Pos} (ho : SE X o e) (hg : SE X g a) (hs : starEach [a] X.env = [(false, eval a X.env)]) (hbase : attributeBase e "split" X.env (eval e X.env) = eval e X.env) (hline : (apos.endLine == pos.line) = true) :
    SE X (fSplit o g) (.Call (.Attribute e "split" apos) [a] [] pos) := by
  refine ⟨?_⟩
  intro A own env σ H d fr env' r h Q k
  unfold fSplit at h
  split at h
  · rename_i x fr1 e1 h1
    split at h
    · rename_i y fr2 e2 h2
      split at h
      · rename_i hc
        cases h
        refine we_of (pe_split pe_w pe_w hs hbase hline) (ho A own env σ H _ fr1 e1 r h1 _ fun v H1 own1 s1 R1 => ⟨⟨x, (View.sc (Hh := _) (H := H1) R1.rp).str⟩, hg A own1 e1 σ H1 _ fr2 env' R1.en h2 _ fun u H2 own2 s2 R2 => ?_⟩)
        refine ⟨x, y, (View.sc (Hh := _) (H := H1) R1.rp).str, by rw [(View.sc (Hh := _) (H := H2) R2.rp).str], ?_, line_of hc.2, fun p hp => (give (s1.trans s2) R2.en k).new p _ hp (.lst (rep_strs _))⟩
        exact beq_eq_false_iff_ne.mpr hc.1
      · cases h
    · cases h
  · cases h
/-! ### xs[i] += e, xs owned -/
theorem get_list : PGet X (rIxL X.K) := by
  intro pins s σ H o i ov iv Q I ro ri h
  obtain ⟨p, xs, j, z, rfl, rfl, hq, he, q⟩ := h
  cases ro
  obtain ⟨t, rfl⟩ := ri
  obtain ⟨its, r, pl, hz⟩ := I.list hq
  obtain ⟨n, h1, h2, h3, h4, h5⟩ := atI_get he
  obtain ⟨w, ew, rw'⟩ := r.get h2
  have hl := r.length
  have hn := line63
  have fin : EP X pins σ Q w s := ⟨z, H, I, rw', q⟩
  by_cases h0 : 0 ≤ j
  · have hj : j.toNat = n := by
      rw [seqIndex_of h0 h5] at h1
      exact Option.some.inj h1
    exact wpAny_getItem_list pl.isList h0 (by omega) (by rw [hj]; simpa using ew) fin
  · have hj : (j + (its.toArray.size : Int)).toNat = n := by
      rw [seqIndex_neg (by omega) h4] at h1
      rw [List.size_toArray, ← hl]
      exact Option.some.inj h1
    exact wpAny_getItem_list_neg pl.isList (by omega) (by rw [List.size_toArray] <;> omega) (by omega) (by rw [hj]; simpa using ew) fin
def sAugL (i : Nat) (g f : EF) : SF := fun env => match ownL env i with
  | some _ => match g env with
    | some (.int j, _, e1) => match ownL e1 i with
      | some (xs, _) => match L2.atI xs j with
        | some (.int a) => match f e1 with
          | some (.int b, _, e2) => match ownL e2 i with
            | some (ys, fl) => match ixN ys.length j with
              | some n => some (.nx (e2.set i (some (.lst (ys.set n (.int (a + b))), fl))))
              | none => none
            | none => none
          | _ => none
        | _ => none
      | none => none
    | _ => none
  | none => none
theorem ss_augL {i : Nat} {x : Str} {g f : EF} {ix e : Expr} {p tpos pos} (hN : X.N[i]? = some x) (hv : Vis X.env.scope x) (hd1 : (x == ("__debug__" : Str)) = false) (hcd : (x == ("__classdict__" : Str)) = false) (hg : SE X g ix) (hf : SE X f e)
    (ha : ∀ ov iv new, augStore ix ov iv new = (do holding [new, ov, iv] (setItem ov iv new); release [new, ov, iv] []; pure .next)) : SS X (sAugL i g f) (.AugAssign (.Subscript (.Name x p) ix tpos) .Add e pos) := by
  refine ⟨?_⟩
  intro A own env σ H out r h D k
  unfold sAugL at h
  split at h
  · rename_i xf0 q00
    obtain ⟨xs0, f0⟩ := xf0
    obtain ⟨q0, hf0⟩ := ownL_some q00
    split at h
    · rename_i j fr1 e1 q1
      split at h
      · rename_i xs f1 q22
        obtain ⟨q2, hf1⟩ := ownL_some q22
        split at h
        · rename_i a q3
          split at h
          · rename_i b fr2 e2 q4
            split at h
            · rename_i ys fl q55
              obtain ⟨q5, hfl⟩ := ownL_some q55
              split at h
              · rename_i n hn
                cases h
                obtain ⟨o, h1, h2, t0⟩ := r.ow i _ f0 q0 hf0
                refine ws_of (ps_augS (pe_var hN hv hd1 hcd) pe_w get_list pe_w ip_add set_list ha) ⟨_, h2, hg A own env σ H _ fr1 e1 r q1 _ fun v H1 own1 s1 R1 => ?_⟩
                have hv1 : v = .int j := (View.sc (Hh := _) (H := H1) R1.rp).int
                obtain ⟨o1, h3, _, t1⟩ := R1.en.ow i _ f1 q2 hf1
                have eo := s1.dr i o1 h3
                rw [h1] at eo
                cases eo
                cases t1 with
                | lst z1 rr1 =>
                  rename_i vs1
                  obtain ⟨w, g1, g2⟩ := rr1.atI q3
                  have hw : w = .int a := (View.sc (Hh := _) (H := H1) g2).int
                  refine ⟨o, vs1, j, w, rfl, hv1, .inl (.inl z1), g1, ?_⟩
                  refine hf A own1 e1 σ H1 _ fr2 e2 R1.en q4 _ fun u H2 own2 s2 R2 => ?_
                  have hu : u = .int b := (View.sc (Hh := _) (H := H2) R2.rp).int
                  refine ⟨a, b, hw, hu, ?_⟩
                  obtain ⟨o2, h4, _, t2⟩ := R2.en.ow i _ fl q5 hfl
                  have eo2 := s2.dr i o2 h4
                  rw [h3] at eo2
                  cases eo2
                  cases t2 with
                  | lst z2 rr2 =>
                    rename_i vs2
                    refine ⟨o, vs2, j, n, rfl, hv1, z2, by rw [← rr2.length]; exact hn, ?_⟩
                    have r2 := R2.en.mut h4 q5 hfl (d' := .lst (ys.set n (.int (a + b)))) (.lst (rr2.set (.int (a + b)) n))
                    exact k σ _ own2 ((s1.trans s2).toStp.trans (Stp.mut R2.en h4)) r2
              · cases h
            · cases h
          · cases h
        · cases h
      · cases h
    · cases h
  · cases h
/-! ### a, b = x, y: two local names -/
def sPar (i j : Nat) (f g : EF) : SF := fun env => match f env with
  | some (x, _, e1) => match g e1 with
    | some (y, _, e2) => some (.nx ((e2.set i (some (x, .sh))).set j (some (y, .sh))))
    | none => none
  | none => none
theorem ss_par {i j : Nat} {x y : Str} {f g : EF} {a b : Expr} {px py pt pos : Pos} {kt k2 pt2} (hc : X.calm = true) (hN : X.N.Nodup) (hi : X.N[i]? = some x) (hj : X.N[j]? = some y) (hij : i ≠ j)
    (hx : X.env.scope.names.lookup x = some .local) (hy : X.env.scope.names.lookup y = some .local) (hf : SE X f a) (hg : SE X g b) (h1 : starEach [a, b] X.env = (false, eval a X.env) :: starEach [b] X.env) (h2 : starEach [b] X.env = (false, eval b X.env) :: starEach [] X.env)
    (hw : swappedStores [.Tuple [.Name x px, .Name y py] kt pt] (.Tuple [a, b] k2 pt2) X.env = pure (some [x, y]))
    (hs : swapsWithSole [.Tuple [.Name x px, .Name y py] kt pt] (.Tuple [a, b] k2 pt2) pos.line X.env = pure false) : SS X (sPar i j f g) (.Assign [.Tuple [.Name x px, .Name y py] kt pt] (.Tuple [a, b] k2 pt2) pos) := by
  refine ⟨?_⟩
  intro A own env σ H out r h D k
  unfold sPar at h
  split at h
  · rename_i dx fr1 e1 q1
    split at h
    · rename_i dy fr2 e2 q2
      cases h
      refine ws_of (ps_par hc hN hi hj hij hx hy (pa_cons pe_w (pa_cons pe_w pa_nil h2) h1) hw hs) (hf A own env σ H dx fr1 e1 r q1 _ fun v H1 own1 s1 R1 => hg A own1 e1 σ H1 dy fr2 e2 R1.en q2 _ fun u H2 own2 s2 R2 => ⟨v, u, rfl, ?_⟩)
      have m1 : ∀ {o : Own} {l : Nat} {d : Dz.D} {w : V}, Rep X.K (hd (hid A o) H2) d w → Rep X.K (hd (hid A (o.drop l)) H2) d w := fun q => q.mono (hd_mono (fun _ _ _ z => z) fun b u n _ z => n (hid_drop z))
      have r1 := R2.en.setSh (i := i) (m1 (R1.rp.mono s2.toStp.sub))
      have r2 := r1.setSh (i := j) (m1 (m1 R2.rp))
      exact k _ H2 _ ((s1.trans s2).toStp.trans (Stp.drop.trans Stp.drop)) r2
    · cases h
  · cases h
/-- three names, the second may own what is new -/
def sPar3 (i j l : Nat) (f g h : EF) : SF := fun env => match f env with
  | some (x, _, e1) => match g e1 with
    | some (y, fr, e2) => match h e2 with
      | some (z, _, e3) => if j < e3.sl.length then some (.nx (((e3.set i (some (x, .sh))).set l (some (z, .sh))).set j (some (y, if fr && y.mut then .ow else .sh)))) else none
      | none => none
    | none => none
  | none => none
theorem ss_par3 {i j l : Nat} {st : Stmt} {f g h : EF} {a b c : Expr} (hjl : j ≠ l) (hst : PS X st (tPar3 i j l (WA X [a, b, c]))) (hf : SE X f a) (hg : SE X g b) (hh : SE X h c)
    (h1 : starEach [a, b, c] X.env = (false, eval a X.env) :: starEach [b, c] X.env) (h2 : starEach [b, c] X.env = (false, eval b X.env) :: starEach [c] X.env) (h3 : starEach [c] X.env = (false, eval c X.env) :: starEach [] X.env) : SS X (sPar3 i j l f g h) st := by
  refine ⟨?_⟩
  intro A own env σ H out r hq D k
  unfold sPar3 at hq
  split at hq
  · rename_i dx fr1 e1 q1
    split at hq
    · rename_i dy fr2 e2 q2
      split at hq
      · rename_i dz fr3 e3 q3
        split at hq
        · rename_i hl
          cases hq
          refine ws_of hst (wa_of (pa_cons pe_w (pa_cons pe_w (pa_cons pe_w pa_nil h3) h2) h1) (hf A own env σ H dx fr1 e1 r q1 _ fun v H1 own1 s1 R1 => hg A own1 e1 σ H1 dy fr2 e2 R1.en q2 _ fun u H2 own2 s2 R2 => ?_))
          have m1 : ∀ {A : Amb} {H : Hp} {o : Own} {l : Nat} {d : Dz.D} {w : V}, Rep X.K (hd (hid A o) H) d w → Rep X.K (hd (hid A (o.drop l)) H) d w := fun q => q.mono (hd_mono (fun _ _ _ z => z) fun b u n _ z => n (hid_drop z))
          have set3 : ∀ {v u w : V}, ((σ.set i (some v)).set l (some w)).set j (some u) = ((σ.set i (some v)).set j (some u)).set l (some w) := fun {v u w} => List.set_comm _ _ (Ne.symm hjl)
          cases hm : (fr2 && dy.mut) with
          | true =>
            rw [hm, if_pos rfl] at k
            obtain ⟨g1, g2⟩ := Bool.and_eq_true_iff.mp hm
            obtain ⟨o, rfl, hn, ro, to⟩ := R2.nw g1 g2
            have nA : ¬ A o := fun z => by
              obtain ⟨u9, e9⟩ := R1.en.al o z
              rw [hn] at e9; cases e9
            refine hh (Plus A o) own2 e2 σ H2 dz fr3 e3 ro q3 _ fun w H3 own3 s3 R3 => ⟨v, .ref o, w, rfl, ?_⟩
            have nh1 : ∀ b x, ¬ hid A own1 b → H1 b = some x → ¬ hid (Plus A o) own2 b := fun b x n e z => by
              rcases z with (z | z) | ⟨i9, z⟩
              · exact n (.inl z)
              · rw [z, hn] at e; cases e
              · rcases s2.toStp.ow i9 b z with ⟨j9, z9⟩ | z9
                · exact n (.inr ⟨j9, z9⟩)
                · rw [z9] at e; cases e
            have sv : VSub (hd (hid A own1) H1) (hd (hid (Plus A o) own3) H3) := (hd_monoK (P' := hid (Plus A o) own2) (fun b x n e => s2.toStp.kp b x n e) nh1 s2.toStp.wl).trans s3.toStp.sub
            have r1 := R3.en.setSh (i := i) (m1 (R1.rp.mono sv))
            have r2 := r1.setSh (i := l) (m1 (m1 R3.rp))
            have t3 : Top X.K (hd (hid (Plus A o) ((own3.drop i).drop l)) H3) H3 dy o := to.mono (s3.toStp.sub.trans (hd_drop.trans hd_drop)) fun x e => by rw [s3.toStp.hi o (.inr rfl)]; exact e
            have r3 := r2.setOw (i := j) nA t3 (by rw [List.length_set, List.length_set]; exact hl)
            rw [set3] at r3
            refine k _ H3 _ ?_ r3
            exact Stp.put (s1.toStp.back hn) ((s1.trans s2).toStp.trans ((Stp.less s3.toStp).trans (Stp.drop.trans Stp.drop)))
          | false =>
            rw [hm, if_neg (by decide)] at k
            refine hh A own2 e2 σ H2 dz fr3 e3 R2.en q3 _ fun w H3 own3 s3 R3 => ⟨v, u, w, rfl, ?_⟩
            have r1 := R3.en.setSh (i := i) (m1 (R1.rp.mono (s2.trans s3).toStp.sub))
            have r2 := r1.setSh (i := l) (m1 (m1 R3.rp))
            have r3 := r2.setSh (i := j) (m1 (m1 (m1 (R2.rp.mono s3.toStp.sub))))
            rw [set3] at r3
            exact k _ H3 _ (((s1.trans s2).trans s3).toStp.trans (Stp.drop.trans (Stp.drop.trans Stp.drop))) r3
        · cases hq
      · cases hq
    · cases hq
  · cases hq
/-! ### constants of the text -/
theorem se_glob {x : Str} {v : V} {u : Value} {d : D} {pos : Pos} (hg : Gl X x) (hm : X.mg x = some u) (r : RelV v u) (hd1 : (x == ("__debug__" : Str)) = false) (q : ∀ H, Rep X.K H d v) : SE X (fCon d) (.Name x pos) := se_con (pe_glob hg hm r hd1) q
end
end Dz
/-! DzDict: dicts whose keys are all ints and texts, or all flat tuples of such. -/
namespace Dz
open PySem PyProof.Rows L2
/-! ### plain data -/
def keyK1 : D → Option Key
  | .int i => some (.inl i)
  | .str s => some (.inr s)
  | _ => none
def keyT1 : D → Option (List Key)
  | .tup xs => keysK xs
  | _ => none
def findD {κ : Type} [DecidableEq κ] : List κ → List D → κ → Option D
  | k :: kk, x :: xs, j => if k = j then some x else findD kk xs j
  | _, _, _ => none
/-- what stands at a key: none if it cannot be told, some none if no such key is there -/
def lookD (ks xs : List D) (y : D) : Option (Option D) := match ks with
  | [] => none
  | _ :: _ => match keysK ks, keyK1 y with
    | some kk, some k => some (findD kk xs k)
    | _, _ => match keysT ks, keyT1 y with
      | some kk, some k => some (findD kk xs k)
      | _, _ => none
section
variable {K : PySem.W.Frag} {H : Vw}
theorem keysK_vs : ∀ {ys : List D} {kk : List Key} {vs : List V}, keysK ys = some kk → RepL K H ys vs → vs = kk.map kV
  | [], _, _, e, r => by cases e; cases r; rfl
  | .int i :: ys, _, _, e, r => by
    simp only [keysK] at e
    obtain ⟨k2, e2, e3⟩ := Option.map_eq_some_iff.mp e
    subst e3
    cases r with
    | cons r1 r2 =>
      cases r1
      rw [keysK_vs e2 r2]
      rfl
  | .str i :: ys, _, _, e, r => by
    simp only [keysK] at e
    obtain ⟨k2, e2, e3⟩ := Option.map_eq_some_iff.mp e
    subst e3
    cases r with
    | cons r1 r2 =>
      cases r1
      rw [keysK_vs e2 r2]
      rfl
  | .non :: _, _, _, e, _ => by simp [keysK] at e
  | .bl _ :: _, _, _, e, _ => by simp [keysK] at e
  | .ty _ :: _, _, _, e, _ => by simp [keysK] at e
  | .tup _ :: _, _, _, e, _ => by simp [keysK] at e
  | .kup _ :: _, _, _, e, _ => by simp [keysK] at e
  | .lst _ :: _, _, _, e, _ => by simp [keysK] at e
  | .flz _ :: _, _, _, e, _ => by simp [keysK] at e
  | .dic _ _ :: _, _, _, e, _ => by simp [keysK] at e
  | .ins _ _ _ :: _, _, _, e, _ => by simp [keysK] at e
theorem keyK1_v {y : D} {k : Key} {v : V} (e : keyK1 y = some k) (r : Rep K H y v) : v = kV k := by
  cases y <;> simp only [keyK1] at e <;> cases e <;> cases r <;> rfl
theorem keyT1_v {y : D} {k : List Key} {v : V} (e : keyT1 y = some k) (r : Rep K H y v) : ∃ b, v = .ref b ∧ H b = some (.tup (k.map kV)) := by
  cases y <;> simp only [keyT1] at e <;> try cases e
  cases r with
  | tup h r => exact ⟨_, rfl, by rw [← keysK_vs e r]; exact h⟩
theorem keyK1_sh {y : D} {k : Key} (e : keyK1 y = some k) : y.mut = false := by
  cases y <;> first | rfl | cases e
theorem keyT1_sh {y : D} {k : List Key} (e : keyT1 y = some k) : y.mut = false := by
  cases y <;> first | rfl | cases e
theorem findD_val {κ : Type} [DecidableEq κ] : ∀ {kk : List κ} {vs : List V} {xs : List D} {k : κ}, kk.length = vs.length → RepL K H xs vs →
    (∀ d, findD kk xs k = some d → ∃ w, valV (kk.zip vs) k = some w ∧ Rep K H d w) ∧ (findD kk xs k = none → valV (kk.zip vs) k = none)
  | [], vs, xs, k, hl, r => by
    constructor
    · intro d e; simp [findD] at e
    · intro _; simp [valV]
  | k1 :: kk, [], xs, k, hl, r => by simp at hl
  | k1 :: kk, v :: vs, [], k, hl, r => by cases r
  | k1 :: kk, v :: vs, x :: xs, k, hl, r => by
    cases r with
    | cons r1 r2 =>
      by_cases e : k1 = k
      · constructor
        · intro d ed
          simp only [findD, if_pos e] at ed
          cases ed
          exact ⟨v, valV_pos (p := (k1, v)) e, r1⟩
        · intro ed
          simp only [findD, if_pos e] at ed
          cases ed
      · have q := findD_val (kk := kk) (vs := vs) (xs := xs) (k := k) (by simpa using hl) r2
        have z : valV ((k1, v) :: kk.zip vs) k = valV (kk.zip vs) k := valV_neg (p := (k1, v)) e
        rw [List.zip_cons_cons, z]
        simp only [findD, if_neg e]
        exact q
end
section
variable {K : PySem.W.Frag} {Hh : Vw} {H : Hp} {v u : V} {ks xs : List D}
theorem View.dic (h : View K Hh H (.dic ks xs) v) (e : Sub Hh H) : ∃ a vs, v = .ref a ∧ RepL K Hh xs vs ∧
    ((∃ kk : List Key, keysK ks = some kk ∧ kk.length = vs.length ∧ Rd H a (.dK (kk.zip vs)) ∧ kk.Nodup) ∨ ∃ kk : List (List Key), keysT ks = some kk ∧ kk.length = vs.length ∧ Rd H a (.dT (kk.zip vs)) ∧ kk.Nodup) := by
  cases h with
  | sc h => cases h with
    | dicK h1 h2 h3 h4 r => exact ⟨_, _, rfl, r, .inl ⟨_, h1, h2, e.rd h3, h4⟩⟩
    | dicT h1 h2 h3 h4 r => exact ⟨_, _, rfl, r, .inr ⟨_, h1, h2, e.rd h3, h4⟩⟩
  | ow _ h => cases h with
    | dicK h1 h2 h3 h4 r => exact ⟨_, _, rfl, r, .inl ⟨_, h1, h2, .inl h3, h4⟩⟩
    | dicT h1 h2 h3 h4 r => exact ⟨_, _, rfl, r, .inr ⟨_, h1, h2, .inl h3, h4⟩⟩
  | lkK h1 h2 h3 h4 r => exact ⟨_, _, rfl, r, .inl ⟨_, h1, h2, .inr ⟨_, h3⟩, h4⟩⟩
  | lkT h1 h2 h3 h4 r => exact ⟨_, _, rfl, r, .inr ⟨_, h1, h2, .inr ⟨_, h3⟩, h4⟩⟩
theorem keysKT {d : D} {ks : List D} {kk : List Key} {kt : List (List Key)} (h : keysK (d :: ks) = some kk) (h2 : keysT (d :: ks) = some kt) : False := by
  cases d <;> simp [keysK, keysT] at h h2
theorem look_get {y : D} {o : Option D} (h : View K Hh H (.dic ks xs) v) (hy : View K Hh H y u) (e : Sub Hh H) (q : lookD ks xs y = some o) :
    ∃ a o', v = .ref a ∧ DGet H a u o' ∧ (o = none → o' = none) ∧ ∀ d, o = some d → ∃ w, o' = some w ∧ Rep K Hh d w := by
  obtain ⟨a, vs, rfl, r, c⟩ := h.dic e
  unfold lookD at q
  split at q
  · cases q
  · rename_i d0 ks0
    split at q
    · rename_i kk k h1 h2
      cases q
      have ry := hy.sh (keyK1_sh h2)
      rcases c with ⟨k1, g1, g2, g3, g4⟩ | ⟨k1, g1, _⟩
      · rw [h1] at g1
        cases g1
        obtain ⟨z1, z2⟩ := findD_val (k := k) g2 r
        exact ⟨a, _, rfl, .inl ⟨_, k, g3, keyK1_v h2 ry, rfl⟩, z2, z1⟩
      · exact (keysKT h1 g1).elim
    · split at q
      · rename_i kk k h1 h2
        cases q
        have ry := hy.sh (keyT1_sh h2)
        rcases c with ⟨k1, g1, _⟩ | ⟨k1, g1, g2, g3, g4⟩
        · exact (keysKT g1 h1).elim
        · rw [h1] at g1
          cases g1
          obtain ⟨z1, z2⟩ := findD_val (k := k) g2 r
          obtain ⟨b, rfl, hb⟩ := keyT1_v h2 ry
          exact ⟨a, _, rfl, .inr ⟨_, k, b, g3, rfl, e _ _ hb, rfl⟩, z2, z1⟩
      · cases q
end
/-! ### d[k], k in d, len(d) -/
section
variable {X : Cx}
def rDGet : R2 := fun x y H Q => ∃ a v, x = .ref a ∧ DGet H a y (some v) ∧ Q v H
theorem ix_dget (hu : X.A.units + 1 < cLine) : IxR X rDGet := by
  intro value slice pins s σ H x y v u Q I rx ry h hs
  obtain ⟨a, r, rfl, g, q⟩ := h
  obtain rfl : v = Value.ref a := rx
  exact tail_any (dict_typeIs I g) slot_dict_getitem.lookup (d_getItem hu I g ry fun w' s' I' rw' => ⟨r, H, I', rw', q⟩) hs
def pDGet : Pr2 := fun x y => match x with
  | .dic ks xs => match lookD ks xs y with
    | some (some d) => some (d, false)
    | _ => none
  | _ => none
theorem p2_dget : P2 X rDGet pDGet := by
  intro Hh H x y v u d fr Q e vx vy q gv
  unfold pDGet at q
  split at q
  · rename_i ks xs
    split at q
    · rename_i d1 h1
      cases q
      obtain ⟨a, o', rfl, g, _, z⟩ := look_get vx vy e h1
      obtain ⟨w, rfl, rw'⟩ := z _ rfl
      exact ⟨a, w, rfl, g, gv.old rfl _ rw'⟩
    · cases q
  · cases q
def rDIn (neg : Bool) : R2 := fun x y H Q => ∃ a o, y = .ref a ∧ DGet H a x o ∧ Q (.bl (if neg then !o.isSome else o.isSome)) H
theorem op_din (hu : X.A.units + 1 < cLine) : OpR X (compareOp .In) (rDIn false) := by
  intro pins s σ H x y v u Q I rx ry h
  obtain ⟨a, o, rfl, g, q⟩ := h
  obtain rfl : u = Value.ref a := ry
  exact d_in hu I g rx fun s' I' => ⟨.bl o.isSome, H, I', rfl, q⟩
theorem op_dnotin (hu : X.A.units + 1 < cLine) : OpR X (compareOp .NotIn) (rDIn true) := by
  intro pins s σ H x y v u Q I rx ry h
  obtain ⟨a, o, rfl, g, q⟩ := h
  obtain rfl : u = Value.ref a := ry
  exact d_notIn hu I g rx fun s' I' => ⟨.bl (!o.isSome), H, I', rfl, q⟩
def pDIn (neg : Bool) : Pr2 := fun x y => match y with
  | .dic ks xs => match lookD ks xs x with
    | some o => some (.bl (if neg then !o.isSome else o.isSome), false)
    | _ => none
  | _ => none
theorem p2_din (neg : Bool) : P2 X (rDIn neg) (pDIn neg) := by
  intro Hh H x y v u d fr Q e vx vy q gv
  unfold pDIn at q
  split at q
  · rename_i ks xs
    split at q
    · rename_i o h1
      cases q
      obtain ⟨a, o', rfl, g, z1, z2⟩ := look_get vy vx e h1
      refine ⟨a, o', rfl, g, gv.old rfl _ ?_⟩
      cases o with
      | none => rw [z1 rfl]; exact .bl _
      | some d =>
        obtain ⟨w, rfl, _⟩ := z2 d rfl
        exact .bl _
    · cases q
  · cases q
/-- len of a dict -/
theorem len_raw {prog : Program} {w : World} {A : Around} {E : Value → Shared → Prop} {s : Shared} {d : Addr} {es : Array DictEntry} {ep : Nat} {Q : Value → Shared → Prop} (hd : (d == sysModules) = false) (hm : s.heap.DictRaw d es ep) (hfit : (es.size : Int) < 2 ^ 63)
    (h : Q (.int es.size (s.toks + 1)) { s with toks := s.toks + 1 + 1 }) : wpAny (model prog w) A (call (.builtin "len") [.ref d]) Q E s := by
  refine Calls.call_function_entry kind_len plain_len entry_len (args_len1 _) ?_
  unfold Builtin.«len»
  refine wpAny_bind (m := oneArg "len" _) (wpAny_pure ?_)
  refine wpAny_bind (m := callSpecial? (.ref d) (Str.ofString "__len__")) (wpAny_callSpecial?_slot (name := Str.ofString "__len__") hm.typeIs F.slot_dict_len (call_len_raw hd hm ?_))
  show wpAny _ _ _ _ _ { s with toks := s.toks + 1 }
  refine wpAny_bind (wpAny_holding (wpAny_pure ?_))
  refine wpAny_bind (wpAny_letGo ?_)
  show wpAny _ _ (if ((es.size : Nat) : Int) < 0 then _ else _) _ _ _
  rw [if_neg (by omega)]
  show wpAny _ _ (if ((es.size : Nat) : Int) ≥ 2 ^ 63 then _ else _) _ _ _
  rw [if_neg (by omega)]
  exact wpAny_bind (wpAny_mkInt (wpAny_pure ⟨_, rfl, h⟩))
def rLenD : List V → Hp → VK → Prop := fun xs H Q => ∃ a n, xs = [V.ref a] ∧ ((∃ kvs, Rd H a (.dK kvs) ∧ n = kvs.length) ∨ ∃ kvs, Rd H a (.dT kvs) ∧ n = kvs.length) ∧ Q (.int n) H
theorem call_lenDD : CallR X (.builtin "len") rLenD := by
  intro pins s σ H xs us Q I r h
  obtain ⟨a, n, rfl, c, q⟩ := h
  obtain ⟨u, rfl, ru⟩ := vals1 r
  cases ru
  rcases c with ⟨kvs, e, rfl⟩ | ⟨kvs, e, rfl⟩
  · exact d_len I e fun t s' I' => ⟨.int kvs.length, H, I', ⟨t, rfl⟩, q⟩
  · obtain ⟨z, hd, zs, rel, o, es, ep, h1, h2, h3, h4, _⟩ := dt_rd I.hok e
    have hl : es.size = kvs.length := by rw [size_of_entries h4, ← Paired.length rel]
    refine len_raw hd ⟨o, h1, h2, h3⟩ (by rw [hl]; rw [sizeLine_eq] at z; omega) ?_
    exact ⟨.int kvs.length, H, I.tok _, ⟨_, by rw [hl]⟩, q⟩
def pLenD : PrN := fun ds => match ds with
  | [.dic _ xs] => some (.int xs.length, false)
  | _ => none
theorem pn_lenD : PN X rLenD pLenD := by
  intro Hh H ds vs d fr Q e vx q g
  unfold pLenD at q
  split at q
  · rename_i ks xs
    cases q
    cases vx with
    | cons v1 v2 =>
      cases v2
      obtain ⟨a, us, rfl, r, c⟩ := v1.dic e
      have q2 := g.old rfl _ (.int (xs.length : Int))
      rcases c with ⟨kk, g1, g2, g3, g4⟩ | ⟨kk, g1, g2, g3, g4⟩
      · exact ⟨a, xs.length, rfl, .inl ⟨_, g3, by rw [List.length_zip, g2, r.length, Nat.min_self]⟩, q2⟩
      · exact ⟨a, xs.length, rfl, .inr ⟨_, g3, by rw [List.length_zip, g2, r.length, Nat.min_self]⟩, q2⟩
  · cases q
/-! ### d.get(k, z) -/
def fGet2 (o y z : OF) : EF := fun env => match o env with
  | some (p, e1) => match res e1 p with
    | some (.dic _ _) => match y e1 with
      | some (py, e2) => match z e2 with
        | some (pz, e3) => match res e3 p, res e3 py, res e3 pz with
          | some (.dic ks xs), some dy, some dz => match lookD ks xs dy with
            | some (some d) => some (d, false, e3)
            | some none => if dz.mut then none else some (dz, false, e3)
            | none => none
          | _, _, _ => none
        | none => none
      | none => none
    | _ => none
  | none => none
theorem View.isD {K : PySem.W.Frag} {Hh : Vw} {H : Hp} {v : V} {ks xs : List D} (h : View K Hh H (.dic ks xs) v) (e : Sub Hh H) : ∃ a, v = .ref a ∧ IsD H a := by
  obtain ⟨a, vs, rfl, r, c⟩ := h.dic e
  rcases c with ⟨kk, _, _, g, _⟩ | ⟨kk, _, _, g, _⟩
  · exact ⟨a, rfl, .inl ⟨_, g⟩⟩
  · exact ⟨a, rfl, .inr ⟨_, g⟩⟩
theorem se_get2 {o y z : OF} {e a b : Expr} {apos pos : Pos} (hu : X.A.units + 1 < cLine) (ho : SO X o e) (hy : SO X y a) (hz : SO X z b) (m : M2 X e "get" apos a b pos) : SE X (fGet2 o y z) (.Call (.Attribute e "get" apos) [a, b] [] pos) := by
  refine ⟨?_⟩
  intro A own env σ H d fr env' R h Q k
  unfold fGet2 at h
  split at h
  · rename_i p e1 h1
    split at h
    · rename_i k0 x0 g1
      split at h
      · rename_i py e2 h2
        split at h
        · rename_i pz e3 h3
          split at h
          · rename_i ks xs dy dz g2 g3 g4
            refine we_of (pe_dget2 hu pe_w pe_w pe_w m) (ho A own env σ H p e1 R h1 _ fun v H1 own1 s1 R1 o1 => ?_)
            obtain ⟨a0, rfl, isd⟩ := (o1.step StpE.refl R1 g1).isD hd_sub
            refine ⟨a0, rfl, isd, hy A own1 e1 σ H1 py e2 R1 h2 _ fun u H2 own2 s2 R2 o2 => hz A own2 e2 σ H2 pz e3 R2 h3 _ fun w H3 own3 s3 R3 o3 => ?_⟩
            have vx := o1.step (s2.trans s3) R3 g2
            have vy := o2.step s3 R3 g3
            have vz := o3.step StpE.refl R3 g4
            have st := (s1.trans s2).trans s3
            split at h
            · rename_i d1 h4
              cases h
              obtain ⟨a1, o', ea, g, _, q⟩ := look_get vx vy hd_sub h4
              cases ea
              obtain ⟨w1, rfl, rw'⟩ := q _ rfl
              exact ⟨_, g, k _ _ _ st ⟨R3, rw', fun z => by cases z⟩⟩
            · rename_i h4
              split at h
              · cases h
              · rename_i hm
                cases h
                obtain ⟨a1, o', ea, g, q, _⟩ := look_get vx vy hd_sub h4
                cases ea
                rw [q rfl] at g
                exact ⟨_, g, k _ _ _ st ⟨R3, vz.sh (by simpa using hm), fun z => by cases z⟩⟩
            · cases h
          · cases h
        · cases h
      · cases h
    · cases h
  · cases h
/-! ### a table of the module: texts to what stays -/
def tabD : List (Str × D) → Str → Option D
  | [], _ => none
  | (k, d) :: r, x => if k = x then some d else tabD r x
def fTab (t : List (Str × D)) (g : OF) : EF := fun env => match g env with
  | some (y, e1) => match res e1 y with
    | some (.str x) => match tabD t x with
      | some d => some (d, false, e1)
      | none => none
    | _ => none
  | none => none
/-- the module's dict at a says what t says -/
def TabOk (K : PySem.W.Frag) (w : World) (a : Addr) (t : List (Str × D)) : Prop := ∀ x d, tabD t x = some d → ∃ v, KDct K w a x v ∧ ∀ H, Rep K H d v
theorem se_tab {t : List (Str × D)} {x : Str} {a : Addr} {g : OF} {e : Expr} {p pos : Pos} (ht : TabOk X.K X.w a t) (hg : Gl X x) (hm : X.mg x = some (.ref a)) (hd1 : (x == ("__debug__" : Str)) = false) (hi : SO X g e) (hs : PlainIx e) : SE X (fTab t g) (.Subscript (.Name x p) e pos) := by
  refine ⟨?_⟩
  intro A own env σ H d fr env' R h Q k
  unfold fTab at h
  split at h
  · rename_i y e1 h1
    split at h
    · rename_i z g1
      split at h
      · rename_i d1 h2
        cases h
        refine we_of (pe_ix ix_kdict (pe_glob (v := .ref a) hg hm rfl hd1) pe_w hs) ?_
        refine hi A own env σ H y env' R h1 _ fun u H1 own1 s1 R1 o1 => ?_
        obtain ⟨v, kd, rp⟩ := ht z d h2
        exact ⟨a, z, v, rfl, (o1.step StpE.refl R1 g1).str, kd, k v H1 own1 s1 ⟨R1, rp _, fun z => by cases z⟩⟩
      · cases h
    · cases h
  · cases h
end
/-! ### an object that is hidden, written anew -/
section
variable {K : PySem.W.Frag} {A : Amb} {own own' : Own} {env : En} {σ : L2.St} {H H' : Hp} {p : Addr} {o : HO}
theorem sub_hid {P : Hid} (h : P p) : VSub (hd P H) (hd P (upd H p o)) := .updA h
theorem EnvR.updHid (r : EnvR K (Plus A p) own env σ H) (ho : ∀ xs, o ≠ .tup xs := by intro _ z; cases z) : EnvR K (Plus A p) own env σ (upd H p o) := r.updA (.inr rfl) ho
theorem Stp.updHid {H0 : Hp} (s : Stp A own H0 own' H) (hp : H0 p = none) (nA : ∀ b, A b → b ≠ p) : Stp A own H0 own' (upd H p o) := by
  refine ⟨fun b u n e => ?_, fun b hb => ?_, s.ow, fun b u e => ?_, s.wl, fun b od u e => ?_⟩
  · rw [upd_ne (ne_of_none e hp)]; exact s.kp b u n e
  · rw [upd_ne (nA b hb)]; exact s.hi b hb
  · rw [upd_ne (ne_of_none e hp)]; exact s.th b u e
  · rw [upd_ne (ne_of_none e hp)]; exact s.fz b od u e
/-- its end: what was made is the result -/
theorem res_new {H0 : Hp} {d : D} (hp : H0 p = none) (nA : ∀ b, A b → b ≠ p) (r : EnvR K (Plus A p) own env σ H) (e : H p = some o) (ob : Obj K (hd (hid (Plus A p) own) H) d o) : Res K A own env σ H0 H true d (.ref p) := by
  have nh : ¬ hid A own p := by
    rintro (z | ⟨j, z⟩)
    · exact nA p z rfl
    · exact r.sep j p z (.inr rfl)
  have sbl : VSub (hd (hid (Plus A p) own) H) (hd (hid A own) H) := hd_mono (fun _ _ _ z => z) fun b o n _ z => n (hid_plus z)
  exact ⟨r.less, (ob.top sbl e).rep (VSub.refl _) fun o' e' => hd_some.mpr ⟨nh, e'⟩, fun _ _ => ⟨p, rfl, hp, r, ob.top (VSub.refl _) e⟩⟩
end
/-! ### {k: v, ..} with keys that are ints or texts -/
theorem valV_of_not {κ : Type} [DecidableEq κ] {kvs : List (κ × V)} {k : κ} (h : ¬ k ∈ kvs.map (·.1)) : valV kvs k = none := by
  cases e : valV kvs k with
  | none => rfl
  | some v => exact absurd (valV_in e) h
theorem mergeK_app : ∀ {more acc : List (Key × V)}, ((acc ++ more).map (·.1)).Nodup → mergeK acc more = acc ++ more
  | [], acc, _ => by simp [mergeK]
  | (k, v) :: r, acc, h => by
    have h2 : ((acc ++ [(k, v)]) ++ r).map (·.1) = (acc ++ (k, v) :: r).map (·.1) := by simp
    have hk : ¬ k ∈ acc.map (·.1) := by
      rw [List.map_append, List.nodup_append] at h
      intro m
      exact h.2.2 k m k (by simp) rfl
    show mergeK (putK acc k v) r = acc ++ (k, v) :: r
    rw [putK_new v (valV_of_not hk), mergeK_app (by rw [h2]; exact h)]
    simp
theorem zip_pairs : ∀ {us : List (V × V)} {kk : List Key}, us.map (·.1) = kk.map kV → us = (kk.zip (us.map (·.2))).map fun kv => (kV kv.1, kv.2)
  | [], kk, h => by simp
  | (x, y) :: us, [], h => by simp at h
  | (x, y) :: us, k :: kk, h => by
    simp only [List.map_cons, List.cons.injEq] at h
    rw [List.map_cons, List.zip_cons_cons, List.map_cons, ← zip_pairs h.2, h.1]
section
variable {X : Cx}
inductive SJ2 (X : Cx) : List (EF × EF) → List (Option Expr) → List Expr → Prop
  | nil : SJ2 X [] [] []
  | cons {k v : EF} {kx vx : Expr} {ps : List (EF × EF)} {ks : List (Option Expr)} {vs : List Expr} : SE X k kx → SE X v vx → SJ2 X ps ks vs → SJ2 X ((k, v) :: ps) (some kx :: ks) (vx :: vs)
def trsOf (X : Cx) : List (Option Expr) → List Expr → List (TE × TE)
  | some k :: ks, v :: vs => (WE X k, WE X v) :: trsOf X ks vs
  | _, _ => []
def fPairs : List (EF × EF) → En → Option (List (D × D) × En)
  | [], env => some ([], env)
  | (k, v) :: r, env => match k env with
    | some (dk, _, e1) => match v e1 with
      | some (dv, _, e2) => match fPairs r e2 with
        | some (l, e3) => some ((dk, dv) :: l, e3)
        | none => none
      | none => none
    | none => none
theorem SJ2.pps {pos : Pos} {ps : List (EF × EF)} {ks : List (Option Expr)} {vs : List Expr} (h : SJ2 X ps ks vs) : PPs X pos ks vs (trsOf X ks vs) ∧ ks.all (·.isSome) = true ∧ ks.length = vs.length ∧ ks.length = ps.length := by
  induction h with
  | nil => exact ⟨pps_nil, rfl, rfl, rfl⟩
  | cons h1 h2 h3 ih => exact ⟨pps_cons pe_w pe_w ih.1, by simpa using ih.2.1, by simpa using ih.2.2.1, by simpa using ih.2.2.2⟩
theorem SJ2.run {ps : List (EF × EF)} {ks : List (Option Expr)} {vs : List Expr} (h : SJ2 X ps ks vs) : ∀ (A : Amb) (own : Own) (env : En) (σ : L2.St) (H : Hp) (l : List (D × D)) (env' : En), EnvR X.K A own env σ H → fPairs ps env = some (l, env') → ∀ Q : List (V × V) → Hp → Prop,
    (∀ us H' own', StpE A own H own' H' → EnvR X.K A own' env' σ H' → RepL X.K (hd (hid A own') H') (l.map (·.1)) (us.map (·.1)) → RepL X.K (hd (hid A own') H') (l.map (·.2)) (us.map (·.2)) → Q us H') → tPairs (trsOf X ks vs) σ H Q := by
  induction h with
  | nil =>
    intro A own env σ H l env' r e Q k
    cases e
    exact k [] H own StpE.refl r .nil .nil
  | cons h1 h2 h3 ih =>
    intro A own env σ H l env' r e Q k
    unfold fPairs at e
    split at e
    · rename_i dk f1 e1 q1
      split at e
      · rename_i dv f2 e2 q2
        split at e
        · rename_i l3 e3 q3
          cases e
          refine h1 A own env σ H dk f1 e1 r q1 _ fun x H1 own1 s1 R1 => h2 A own1 e1 σ H1 dv f2 e2 R1.en q2 _ fun y H2 own2 s2 R2 => ih A own2 e2 σ H2 l3 _ R2.en q3 _ fun us H3 own3 s3 R3 z1 z2 => ?_
          exact k ((x, y) :: us) H3 own3 ((s1.trans s2).trans s3) R3 (.cons (R1.rp.mono (s2.trans s3).toStp.sub) z1) (.cons (R2.rp.mono s3.toStp.sub) z2)
        · cases e
      · cases e
    · cases e
def fDisp (ps : List (EF × EF)) : EF := fun env => match fPairs ps env with
  | some (l, e1) => match keysK (l.map (·.1)) with
    | some kk => if kk.Nodup ∧ l.length ≤ 15 then some (.dic (l.map (·.1)) (l.map (·.2)), true, e1) else none
    | none => none
  | none => none
theorem se_disp {ps : List (EF × EF)} {ks : List (Option Expr)} {vs : List Expr} {pos : Pos} (h : SJ2 X ps ks vs) (h0 : ps ≠ []) (h15 : ps.length ≤ 15) : SE X (fDisp ps) (.Dict ks vs pos) := by
  refine ⟨?_⟩
  intro A own env σ H d fr env' R e Q k
  unfold fDisp at e
  split at e
  · rename_i l e1 q1
    split at e
    · rename_i kk q2
      split at e
      · rename_i hc
        cases e
        obtain ⟨g1, g2, g3, g4⟩ := h.pps (pos := pos)
        refine we_of (pe_disp g1 g2 g3 (fun z => h0 (List.eq_nil_of_length_eq_zero (by rw [← g4, z]; rfl))) (by rw [g4]; exact h15)) fun p hp => ?_
        have nA : ∀ b, A b → b ≠ p := fun b hb z => by
          obtain ⟨o, e⟩ := R.al b hb
          rw [z, hp] at e; cases e
        refine h.run (Plus A p) own env σ _ l _ (R.new (o := .dK []) hp) q1 _ fun us H2 own2 s2 R2 z1 z2 => ?_
        have hk := keysK_vs q2 z1
        have hl : kk.length = (us.map (·.2)).length := by
          have := congrArg List.length hk
          simpa using this.symm
        have hn : (kk.zip (us.map (·.2))).map (·.1) = kk := List.map_fst_zip (by rw [hl]; exact Nat.le_refl _)
        have hm : mergeK [] (kk.zip (us.map (·.2))) = kk.zip (us.map (·.2)) := by
          rw [mergeK_app (by rw [List.nil_append, hn]; exact hc.1)]
          rfl
        refine ⟨by rw [s2.toStp.hi p (.inr rfl)]; exact upd_same, kk.zip (us.map (·.2)), zip_pairs hk, ?_, ?_⟩
        · rw [List.length_zip, hl, Nat.min_self, ← z2.length, List.length_map]
          exact hc.2
        · have s3 : Stp A own H own2 H2 := (Stp.new R hp).trans (Stp.less s2.toStp)
          have hP : hid (Plus A p) own2 p := .inl (.inr rfl)
          refine k (.ref p) _ own2 ⟨s3.updHid hp nA, s2.dr⟩ (res_new hp nA R2.updHid upd_same ?_)
          rw [hm]
          exact .dicK q2 hl hc.1 (z2.mono (sub_hid hP))
      · cases e
    · cases e
  · cases e
/-- -i -/
def fNeg (f : EF) : EF := fun env => match f env with
  | some (.int i, _, e) => some (.int (-i), false, e)
  | _ => none
theorem se_neg {f : EF} {e : Expr} {pos : Pos} (hf : SE X f e) : SE X (fNeg f) (.UnaryOp .USub e pos) := by
  refine ⟨?_⟩
  intro A own env σ H d fr env' R h Q k
  unfold fNeg at h
  split at h
  · rename_i i fr1 e1 h1
    cases h
    refine we_of (pe_un un_neg pe_w) (hf A own env σ H _ fr1 _ R h1 _ fun v H1 own1 s1 R1 => ?_)
    exact ⟨i, (View.sc (Hh := _) (H := H1) R1.rp).int, k _ H1 own1 s1 ⟨R1.en, .int _, fun z => by cases z⟩⟩
  · cases h
end
end Dz
/-! DzGens: comprehensions with any number of clauses, of lists and of dicts: one rule for the loop of a clause, whatever follows its tests. -/
namespace Dz
open PySem PySem.Spec PyProof.Rows L2
/-- no raise -/
abbrev noX : Value → Shared → Prop := fun _ _ => False
/-- what follows the tests of clause n -/
def Rest (M : Model) (A : Around) (e : Expr) (n : Nat) (D : Addr) (env : Env) (Q : Shared → Prop) (s : Shared) : Prop :=
  match (clausesOf e)[n + 1]? with
  | some g => wpAny M A (eval g.iter env) (fun x s1 => wpAny M A (pyIter x) (fun it s2 => codeAny M A (.compStart e (n + 1) it (.ref D) env) (fun r s' => match r with
      | .ok _ => Q s'
      | .error _ => False) s2) noX s1) noX s
  | none => match e with
    | .ListComp elt _ _ _ => wpAny M A (eval elt env) (fun v s1 => wpAny M A (call (.builtin "list.append") [.ref D, v]) (fun _ s2 => Q s2) noX s1) noX s
    | .DictComp k v _ _ _ => wpAny M A (eval k env) (fun y s1 => wpAny M A (eval v env) (fun z s2 => wpAny M A (dictSet D y z) (fun _ s3 => Q s3) noX s2) noX s1) noX s
    | _ => False
/-- a list's or a dict's -/
def IsLD : Expr → Prop
  | .ListComp _ _ _ _ => True
  | .DictComp _ _ _ _ _ => True
  | _ => False
section
variable {prog : Program} {w : World} {A : Around} {R : Result → Shared → Prop} {s : Shared} {e tg iter : Expr} {ifs : List Expr} {n : Nat} {it : Value} {D : Addr} {env : Env}
theorem loop_of (hk : IsLD e) (hg : (clausesOf e)[n]? = some ⟨tg, iter, ifs, 0⟩) (hnx : ∀ g, (clausesOf e)[n + 1]? = some g → g.is_async = 0 ∧ ∀ x, foldedSetIterable g.iter env x = pure x) (I : Nat → Shared → Prop)
    (turn : ∀ m s, I m s → wpAny (model prog w) A (pyNext it) (fun r s1 => match r with
      | none => R (.ok .next) s1
      | some v => wpAny (model prog w) A (letOwnedTupleGo tg it v) (fun _ s2 => wpAny (model prog w) A (assign tg env v) (fun _ s3 =>
          wpAny (model prog w) A (forIn ifs true fun c r => if r = true then do let ok ← isTrue c env (eval c env); pure (ForInStep.yield ok) else pure (ForInStep.yield r)) (fun ok s4 =>
            if ok = true then Rest (model prog w) A e n D env (fun s' => ∃ k, k < m ∧ I k s') s4 else ∃ k, k < m ∧ I k s4) noX s3) noX s2) noX s1) noX s)
    (m : Nat) (h : I m s) : codeAny (model prog w) A (.compLoop e n it (.ref D) env) R s := by
  cases e <;> try exact hk.elim
  · rename_i elt gens scope pos
    have hg : gens[n]? = some ⟨tg, iter, ifs, 0⟩ := hg
    refine codeAny_loop rfl I (fun m s hI => ?_) m h
    show wpAny _ A ((compTurn (.ListComp elt gens scope pos) n it (.ref D) env).onRaise (fun x => do noteFrame x env; theTreesLotGoes x)) _ _ s
    refine wpAny_noted ?_
    unfold compTurn
    dsimp only
    rw [hg]
    dsimp only
    refine wpAny_bind (wpAny_standAt (wpAny_bind (wpAny_mono (turn m s hI) (fun r s1 h1 => ?_) fun _ _ z => z.elim)))
    cases r with
    | none => exact wpAny_pure h1
    | some v =>
      refine wpAny_bind (wpAny_mono h1 (fun _ s2 h2 => ?_) fun _ _ z => z.elim)
      refine wpAny_bind (wpAny_mono h2 (fun _ s3 h3 => wpAny_bind (wpAny_mono h3 (fun ok s4 h4 => ?_) fun _ _ z => z.elim)) fun _ _ z => z.elim)
      cases ok with
      | false => exact wpAny_pure ⟨rfl, h4⟩
      | true =>
        replace h4 : Rest (model prog w) A (.ListComp elt gens scope pos) n D env (fun s' => ∃ k, k < m ∧ I k s') s4 := h4
        unfold Rest at h4
        replace hnx : ∀ g, gens[n + 1]? = some g → g.is_async = 0 ∧ ∀ x, foldedSetIterable g.iter env x = pure x := hnx
        dsimp only [clausesOf] at h4
        cases hn : gens[n + 1]? with
        | none =>
          rw [hn] at h4
          exact wpAny_bind (wpAny_bind (wpAny_mono h4 (fun x s5 h5 => wpAny_bind (wpAny_mono h5 (fun _ s6 h6 => wpAny_pure (wpAny_pure ⟨rfl, h6⟩)) fun _ _ z => z.elim)) fun _ _ z => z.elim))
        | some g =>
          rw [hn] at h4
          obtain ⟨t1, i1, f1, a1⟩ := g
          obtain ⟨ha, hf⟩ := hnx _ hn
          have ha : a1 = 0 := ha
          subst ha
          refine wpAny_bind (wpAny_mono h4 (fun x s5 h5 => ?_) fun _ _ z => z.elim)
          refine wpAny_bind (wpAny_standAt (wpAny_bind (wpAny_of_eq (hf x) (wpAny_bind (wpAny_holding (wpAny_mono h5 (fun it1 s6 h6 => ?_) fun _ _ z => z.elim))))))
          refine wpAny_bind (wpAny_runOwn ?_)
          rw [Around.mark_none]
          refine codeAny_mono h6 fun r s' hr => ?_
          cases r with
          | ok f =>
            first
              | exact wpAny_pure ⟨rfl, hr⟩
              | exact wpAny_bind (wpAny_pure (wpAny_pure ⟨rfl, hr⟩))
          | error e => exact hr.elim
  · rename_i kx vx gens scope pos
    have hg : gens[n]? = some ⟨tg, iter, ifs, 0⟩ := hg
    refine codeAny_loop rfl I (fun m s hI => ?_) m h
    show wpAny _ A ((compTurn (.DictComp kx vx gens scope pos) n it (.ref D) env).onRaise (fun x => do noteFrame x env; theTreesLotGoes x)) _ _ s
    refine wpAny_noted ?_
    unfold compTurn
    dsimp only
    rw [hg]
    dsimp only
    refine wpAny_bind (wpAny_standAt (wpAny_bind (wpAny_mono (turn m s hI) (fun r s1 h1 => ?_) fun _ _ z => z.elim)))
    cases r with
    | none => exact wpAny_pure h1
    | some v =>
      refine wpAny_bind (wpAny_mono h1 (fun _ s2 h2 => ?_) fun _ _ z => z.elim)
      refine wpAny_bind (wpAny_mono h2 (fun _ s3 h3 => wpAny_bind (wpAny_mono h3 (fun ok s4 h4 => ?_) fun _ _ z => z.elim)) fun _ _ z => z.elim)
      cases ok with
      | false => exact wpAny_pure ⟨rfl, h4⟩
      | true =>
        replace h4 : Rest (model prog w) A (.DictComp kx vx gens scope pos) n D env (fun s' => ∃ k, k < m ∧ I k s') s4 := h4
        unfold Rest at h4
        replace hnx : ∀ g, gens[n + 1]? = some g → g.is_async = 0 ∧ ∀ x, foldedSetIterable g.iter env x = pure x := hnx
        dsimp only [clausesOf] at h4
        cases hn : gens[n + 1]? with
        | none =>
          rw [hn] at h4
          exact wpAny_bind (wpAny_bind (wpAny_mono h4 (fun y s5 h5 => wpAny_bind (wpAny_holding (wpAny_mono h5 (fun z s6 h6 => wpAny_bind (wpAny_standAt (wpAny_holding (wpAny_mono h6 (fun _ s7 h7 => wpAny_pure ⟨rfl, h7⟩) fun _ _ z => z.elim)))) fun _ _ z => z.elim))) fun _ _ z => z.elim))
        | some g =>
          rw [hn] at h4
          obtain ⟨t1, i1, f1, a1⟩ := g
          obtain ⟨ha, hf⟩ := hnx _ hn
          have ha : a1 = 0 := ha
          subst ha
          refine wpAny_bind (wpAny_mono h4 (fun x s5 h5 => ?_) fun _ _ z => z.elim)
          refine wpAny_bind (wpAny_standAt (wpAny_bind (wpAny_of_eq (hf x) (wpAny_bind (wpAny_holding (wpAny_mono h5 (fun it1 s6 h6 => ?_) fun _ _ z => z.elim))))))
          refine wpAny_bind (wpAny_runOwn ?_)
          rw [Around.mark_none]
          refine codeAny_mono h6 fun r s' hr => ?_
          cases r with
          | ok f =>
            first
              | exact wpAny_pure ⟨rfl, hr⟩
              | exact wpAny_bind (wpAny_pure (wpAny_pure ⟨rfl, hr⟩))
          | error e => exact hr.elim
theorem start_of (hk : IsLD e) (hg : (clausesOf e)[n]? = some ⟨tg, iter, ifs, 0⟩) (h0 : codeAny (model prog w) A (.compLoop e n it (.ref D) env) R s)
    (h : wpAny (model prog w) A (pyIter it) (fun it' s' => codeAny (model prog w) A (.compLoop e n it' (.ref D) env) R s') noX s) : codeAny (model prog w) A (.compStart e n it (.ref D) env) R s := by
  cases e <;> try exact hk.elim
  all_goals
    refine codeAny_of_tree ?_
    show wpAny _ _ ((compStart _ n it (.ref D) env).onRaise (fun x => do noteFrame x env; standAt theWindowsPlace)) _ _ s
    refine wpAny_notedAt ?_
    unfold compStart
    rw [hg]
    show wpAny _ _ (ask >>= _) _ _ s
    refine wpAny_bind (wpAny_askSetting (wpAny_ite ?_))
    split
    · first
        | exact wpAny_bind (wpAny_pure (wpAny_pure (And.intro rfl h0)))
        | exact wpAny_pure (And.intro rfl h0)
    · first
        | exact wpAny_bind (wpAny_rule (wpAny_bind (wpAny_standAt (wpAny_bind (wpAny_mono h (fun it' s' h' => wpAny_pure (And.intro rfl h')) fun _ _ x => x.elim)))))
        | (refine wpAny_bind (wpAny_rule ?_); show wpAny _ _ (standAt iter.pos >>= _) _ _ s; exact wpAny_bind (wpAny_standAt (wpAny_bind (wpAny_mono h (fun it' s' h' => wpAny_pure (And.intro rfl h')) fun _ _ x => x.elim))))
end
/-! ### the loop of a clause, read -/
abbrev TB := L2.St → Hp → (Hp → Prop) → Prop
def tLoop (J : It) (g : TG) (tt : TT) (tb : TB) (vs : List Nat) (σ : L2.St) (H : Hp) (Q : Hp → Prop) : Prop := ∃ W : Nat → Nat → Hp → Prop, (∃ m, W 0 m H) ∧ ∀ i m H, W i m H →
  (J.stop i H ∧ Q H) ∨ (J.go i H ∧ ∃ Nx : Hp → Prop, (∀ H', Nx H' → ∃ m', m' < m ∧ W (i + 1) m' H') ∧ ∀ x H', J.yld i H x H' → g x (wipe σ vs) H' fun σ2 H2 => wipe σ2 vs = wipe σ vs ∧ tt σ2 H2 fun b H3 => if b = true then tb σ2 H3 Nx else Nx H3)
section
variable {X : Cx} {s0 : Shared} {H0 : Hp} {scope : Scope} {ce : Env} {fp0 : List Addr} {e : Expr} {D : Addr}
/-- what follows the tests of clause n, read -/
def PB (Y : Cx) (e : Expr) (n : Nat) (D : Addr) (vs : List Nat) (tb : TB) : Prop := ∀ (pins : List (Addr × PySem.Obj)) (s : Shared) (σ : L2.St) (H : Hp) (Nx : Hp → Prop), Inv Y pins σ H s → tb σ H Nx →
  Rest (model Y.prog Y.w) Y.A e n D Y.env (fun s' => ∃ H', Inv Y pins (wipe σ vs) H' s' ∧ Nx H') s
theorem Rest.mono {M : Model} {A : Around} {n : Nat} {env : Env} {Q Q' : Shared → Prop} {s : Shared} (h : Rest M A e n D env Q s) (k : ∀ s, Q s → Q' s) : Rest M A e n D env Q' s := by
  unfold Rest at h ⊢
  cases hg : (clausesOf e)[n + 1]? with
  | some g =>
    rw [hg] at h
    refine wpAny_mono h (fun x s1 h1 => wpAny_mono h1 (fun it s2 h2 => codeAny_mono h2 fun r s' hr => ?_) fun _ _ z => z) fun _ _ z => z
    cases r with
    | ok f => exact k _ hr
    | error e => exact hr
  | none =>
    rw [hg] at h
    cases e <;> first
      | exact wpAny_mono h (fun v s1 h1 => wpAny_mono h1 (fun _ s2 h2 => k _ h2) fun _ _ z => z) fun _ _ z => z
      | exact wpAny_mono h (fun v s1 h1 => wpAny_mono h1 (fun _ s2 h2 => wpAny_mono h2 (fun _ s3 h3 => k _ h3) fun _ _ z => z) fun _ _ z => z) fun _ _ z => z
      | exact h.elim
/-- the loop of clause n -/
theorem run_loop {Y : Cx} (hxe : Y.xe = noX) (hc : Y.calm = true) {n : Nat} {tg iter : Expr} {ifs : List Expr} {vs vs' : List Nat} {g : TG} {tt : TT} {tb : TB} (hk : IsLD e) (hg : (clausesOf e)[n]? = some ⟨tg, iter, ifs, 0⟩)
    (hnx : ∀ g, (clausesOf e)[n + 1]? = some g → g.is_async = 0 ∧ ∀ x, foldedSetIterable g.iter Y.env x = pure x) (pg : PG Y tg g) (pt : PTs Y ifs tt) (pb : PB Y e n D vs' tb) (hv : ∀ i ∈ vs', i ∈ vs)
    {pins : List (Addr × PySem.Obj)} {s : Shared} {σ : L2.St} {H : Hp} {it : Addr} {fp : List Addr} {tn : Nat → Heap → Prop} {J : It} {Q : Hp → Prop} (I : Inv Y pins σ H s) (T : Turn Y.prog Y.w Y.K tg J fp it tn) (st : tn 0 s.heap) (f : ∀ b ∈ fp, FpOk Y pins H b)
    (h : tLoop J g tt tb vs σ H Q) : codeAny (model Y.prog Y.w) Y.A (.compStart e n (.ref it) (.ref D) Y.env) (fun r s' => match r with
      | .ok r => r = .next ∧ ∃ H', Inv Y pins (wipe σ vs) H' s' ∧ Q H'
      | .error _ => False) s := by
  obtain ⟨W, ⟨m0, w0⟩, turn⟩ := h
  have stat : ∀ {H' : Hp}, (∀ b ∈ fp, H' b = none) → ∀ b ∈ fp, FpOk Y pins H' b := fun hn b hb => ⟨hn b hb, (f b hb).2⟩
  have loop : codeAny (model Y.prog Y.w) Y.A (.compLoop e n (.ref it) (.ref D) Y.env) (fun r s' => match r with
      | .ok r => r = .next ∧ ∃ H', Inv Y pins (wipe σ vs) H' s' ∧ Q H'
      | .error _ => False) s := by
    refine loop_of hk hg hnx (fun k s' => ∃ j H', Inv Y pins (wipe σ vs) H' s' ∧ tn j s'.heap ∧ (∀ b ∈ fp, H' b = none) ∧ W j k H') ?_ m0 ⟨0, H, I.weak (wipe_length _ _) (fun j v e => (wipe_some e).1), st, fun b hb => (f b hb).1, w0⟩
    rintro k s1 ⟨j, H1, I1, st1, n1, w1⟩
    rcases turn j k H1 w1 with ⟨stop, q⟩ | ⟨go, Nx, hNx, step⟩
    · refine wpAny_mono (T.done Y rfl rfl rfl hc j _ s1 (wipe σ vs) H1 noX I1 (stat n1) st1 stop) (fun r s2 ⟨hr, I2⟩ => ?_) fun _ _ z => z
      subst hr
      exact ⟨rfl, H1, I2, q⟩
    · refine wpAny_mono (T.item Y rfl rfl rfl hc j _ s1 (wipe σ vs) H1 noX I1 (stat n1) st1 go) (fun r s2 ⟨u, hr, h2⟩ => ?_) fun _ _ z => z
      subst hr
      refine wpAny_mono h2 (fun _ s3 ⟨x, H3, I3, r3, y3, st3, n3⟩ => ?_) fun _ _ z => z
      have I3' := I3.pinned (stat n3) (T.obj _ _ st3)
      have hpg := pg.run _ s3 (wipe σ vs) H3 x u _ I3' r3 (step x H3 y3)
      rw [hxe] at hpg
      refine wpAny_mono hpg (fun _ s4 ⟨σ4, H4, I4, hw4, q4⟩ => ?_) fun _ _ z => z
      have hpt := pt.run _ s4 σ4 H4 _ I4 q4
      rw [hxe] at hpt
      refine wpAny_mono hpt (fun b s5 ⟨H5, I5, q5⟩ => ?_) fun _ _ z => z
      have fin : ∀ {σ' : L2.St} {s' : Shared} {H' : Hp}, Inv Y (pins ++ pinsAt fp s3.heap) σ' H' s' → σ'.length = (wipe σ vs).length → (∀ (j : Nat) v, (wipe σ vs)[j]? = some (some v) → σ'[j]? = some (some v)) → Nx H' →
          ∃ m, m < k ∧ ∃ j H', Inv Y pins (wipe σ vs) H' s' ∧ tn j s'.heap ∧ (∀ b ∈ fp, H' b = none) ∧ W j m H' := fun {σ' s' H'} I' hl hkk nx => by
        obtain ⟨m', hm, w'⟩ := hNx H' nx
        have pin' : ∀ b ∈ fp, ∀ o, s3.heap.get? b = some o → s'.heap.get? b = some o ∧ H' b = none := fun b hb o e =>
          let z := I'.pin (b, o) (List.mem_append_right _ (List.mem_append_right _ (mem_pinsAt hb e)))
          ⟨z.1, z.2.1⟩
        refine ⟨m', hm, j + 1, H', I'.unpinned.weak hl.symm hkk, T.keep _ _ _ st3 fun b hb o e => (pin' b hb o e).1, fun b hb => ?_, w'⟩
        obtain ⟨o, e, _⟩ := T.obj _ _ st3 b hb
        exact (pin' b hb o e).2
      have hl4 : σ4.length = (wipe σ vs).length := by rw [← hw4, wipe_length]
      have hk4 : ∀ (j : Nat) v, (wipe σ vs)[j]? = some (some v) → σ4[j]? = some (some v) := fun j v e => by
        rw [← hw4] at e
        exact (wipe_some e).1
      cases b with
      | false =>
        simp only [Bool.false_eq_true, if_false] at q5 ⊢
        exact fin I5 hl4 hk4 q5
      | true =>
        simp only [if_true] at q5 ⊢
        refine (pb _ s5 σ4 H5 Nx I5 q5).mono fun s6 ⟨H6, I6, nx⟩ => fin I6 (by rw [wipe_length]; exact hl4) (fun j v e => ?_) nx
        rw [← hw4] at e
        obtain ⟨e1, e2⟩ := wipe_some e
        rw [wipe_out fun z => e2 (hv j z)]
        exact e1
  exact start_of hk hg loop (T.self Y.A 0 _ _ _ st loop)
/-- a further clause -/
def tNext (wi : TI) (g : TG) (tt : TT) (tb : TB) (vs : List Nat) : TB := fun σ H Nx => wi σ H fun J H1 => tLoop J g tt tb vs σ H1 Nx
theorem pb_next {Y : Cx} (hxe : Y.xe = noX) (hc : Y.calm = true) {n : Nat} {tg iter : Expr} {ifs : List Expr} {vs vs' : List Nat} {wi : TI} {g : TG} {tt : TT} {tb : TB} (hk : IsLD e) (hg : (clausesOf e)[n + 1]? = some ⟨tg, iter, ifs, 0⟩)
    (hnx : ∀ g, (clausesOf e)[n + 1 + 1]? = some g → g.is_async = 0 ∧ ∀ x, foldedSetIterable g.iter Y.env x = pure x) (hi : PI Y tg iter wi) (pg : PG Y tg g) (pt : PTs Y ifs tt) (pb : PB Y e (n + 1) D vs' tb) (hv : ∀ i ∈ vs', i ∈ vs) :
    PB Y e n D vs (tNext wi g tt tb vs) := by
  intro pins s σ H Nx I h
  unfold Rest
  rw [hg]
  have q := hi.run pins s σ H _ I h
  rw [hxe] at q
  refine wpAny_mono q (fun x s1 h1 => wpAny_mono h1 (fun itv s2 h2 => ?_) fun _ _ z => z) fun _ _ z => z
  obtain ⟨it, fp, tn, J, H2, e2, I2, T, st2, f2, q2⟩ := h2
  subst e2
  refine codeAny_mono (run_loop hxe hc hk hg hnx pg pt pb hv I2 T st2 f2 q2) fun r s' hr => ?_
  cases r with
  | ok r => exact hr.2
  | error e => exact hr
/-- the item of a list -/
def tItem (te : TE) (D : Addr) : TB := fun σ H Nx => te σ H fun y H1 => ∃ acc, H1 D = some (.lst acc) ∧ acc.length < sizeLine ∧ Nx (upd H1 D (.lst (acc ++ [y])))
theorem pb_item {Y : Cx} (hxe : Y.xe = noX) {n : Nat} {elt : Expr} {gens : List Comprehension} {sc : Scope} {pos : Pos} {te : TE} (hn : gens[n + 1]? = none) (he : PE Y elt te) : PB Y (.ListComp elt gens sc pos) n D [] (tItem te D) := by
  intro pins s σ H Nx I h
  unfold Rest
  dsimp only [clausesOf]
  rw [hn]
  have q := he.run pins s σ H _ I h
  rw [hxe] at q
  refine wpAny_mono q (fun v s1 ⟨y, H1, I1, r1, acc, hD, hz, nx⟩ => ?_) fun _ _ z => z
  exact app_ok I1 hD hz r1 fun s2 I2 => ⟨_, I2, nx⟩
/-- the item of a dict -/
def tPair (tk tv : TE) (D : Addr) : TB := fun σ H Nx => tk σ H fun y H1 => tv σ H1 fun z H2 => ∃ H3, DPut H2 D y z H3 ∧ Nx H3
/-- d[k] = v by a comprehension -/
theorem d_dictSetP {Y : Cx} (hu : Y.A.units + 1 < cLine) {pins : List (Addr × PySem.Obj)} {σ : L2.St} {H H' : Hp} {s : Shared} {E : Value → Shared → Prop} {a : Addr} {y v : V} {u r : Value} {Q : Unit → Shared → Prop} (I : Inv Y pins σ H s) (g : DPut H a y v H') (ry : RelV y u) (rv : RelV v r)
    (h : ∀ s', Inv Y pins σ H' s' → Q () s') : wpAny (model Y.prog Y.w) Y.A (dictSet a u r) Q E s := by
  rcases g with ⟨kvs, k, e, ey, l, eH⟩ | ⟨kvs, k, b, e, ey, eb, l, eH⟩
  · subst ey eH
    exact d_dictSet I e l ry rv h
  · subst ey eH
    cases (show u = Value.ref b from ry)
    obtain ⟨z, hd, xs, rel, dd⟩ := dt_of I.hok e
    have hz : xs.length ≤ sizeLine := by rw [← Paired.length rel]; exact z
    have hl : (putK kvs k v).length ≤ sizeLine := by have := length_putK kvs k v; omega
    refine wpAny_dictSet_heap (hsz := hz) (Nat.lt_of_succ_lt hu) (key_of I.hok eb) dd fun h' dd' hs => h _ ?_
    obtain ⟨q, es, ep, hq, h2, h3, h4, _, h5⟩ := dd'
    refine d_write I (by rw [e]; exact True.intro) hs ⟨q, hq⟩ ⟨hl, hd, _, (rel.put k eb rv).keeps fun c ys ec => ?_, q, es, ep, hq, h2, h3, h4, h5⟩
    rw [upd_ne (ne_of ec e (fun z => nomatch z))]
    exact ec
theorem pb_pair {Y : Cx} (hxe : Y.xe = noX) (hu : Y.A.units + 1 < cLine) {n : Nat} {kx vx : Expr} {gens : List Comprehension} {sc : Scope} {pos : Pos} {tk tv : TE} (hn : gens[n + 1]? = none) (hk : PE Y kx tk) (hv : PE Y vx tv) : PB Y (.DictComp kx vx gens sc pos) n D [] (tPair tk tv D) := by
  intro pins s σ H Nx I h
  unfold Rest
  dsimp only [clausesOf]
  rw [hn]
  have q := hk.run pins s σ H _ I h
  rw [hxe] at q
  refine wpAny_mono q (fun y s1 ⟨y', H1, I1, r1, h1⟩ => ?_) fun _ _ z => z
  have q := hv.run pins s1 σ H1 _ I1 h1
  rw [hxe] at q
  refine wpAny_mono q (fun z s2 ⟨z', H2, I2, r2, H3, hp, nx⟩ => ?_) fun _ _ z => z
  exact d_dictSetP hu I2 hp r1 r2 fun s3 I3 => ⟨_, I3, nx⟩
/-! ### the whole comprehension -/
/-- what the result is at first -/
structure NewAcc (new : Sem Value) (ob : HO) : Prop where
  run : ∃ o : PySem.Obj, (∀ (M : Model) (A : Around) (E : Value → Shared → Prop) (s : Shared) (Q : Value → Shared → Prop), Q (.ref s.heap.objs.size) { s with heap := s.heap.push o } → wpAny M A new Q E s) ∧
    ∀ (P : Program) (w : World) (H : Hp) (h : Heap), sysModules < h.objs.size → ObjOk P w H (h.push o) h.objs.size ob
theorem new_list : NewAcc (newList []) (.lst []) := by
  refine ⟨{ cls := .type "list", data := .seq ([] : List Value).toArray }, fun M A E s Q h => wpAny_newObj_type h (by show 0 ≤ sizeLine; decide), fun P w H h _ => ⟨Nat.zero_le _, [], 0, .nil, ?_⟩⟩
  exact Heap.get?_push_size _ rfl
theorem new_dictK : NewAcc newDict (.dK []) := ⟨{ cls := .type "dict", data := .dict #[] }, fun M A E s Q h => wpAny_newObj_type h, fun P w H h hb => dk_empty h hb⟩
theorem new_dictT : NewAcc newDict (.dT []) := ⟨{ cls := .type "dict", data := .dict #[] }, fun M A E s Q h => wpAny_newObj_type h, fun P w H h hb => dt_empty h hb⟩
abbrev ceOf (X : Cx) (scope : Scope) (s : Shared) : Env := compEnvC scope (cellsFrom (s.heap.objs.size + 1) scope.names (cloFrom X.env.cells scope.names [])) s.heap.objs.size X.env
theorem core_g {pins : List (Addr × PySem.Obj)} {s : Shared} {σ : L2.St} {H : Hp} {Q : VK} {tg iter : Expr} {ifs : List Expr} {gs : List Comprehension} {own : List (Str × Nat)} {vs' : List Nat} {pos' : Pos} {wi : TI} {g : TG} {tt : TT} {tb : Addr → TB} {new : Sem Value} {ob : HO} {use : Option (Value → Sem Unit)} {Qf : Value → Shared → Prop}
    (hc : X.calm = true) (hN : X.N.Nodup) (I : Inv X pins σ H s) (hk : IsLD e) (hcl : clausesOf e = ⟨tg, iter, ifs, 0⟩ :: gs) (hi : PI X tg iter wi) (ok : BlkOk X.N X.env.scope scope own) (na : NewAcc new ob)
    (hs : ∀ x, foldedSetIterable iter X.env x = pure x) (hnx : ∀ env g, (clausesOf e)[0 + 1]? = some g → g.is_async = 0 ∧ ∀ x, foldedSetIterable g.iter env x = pure x)
    (hg : AtBlk X scope fun Y => PG Y tg g) (ht : AtBlk X scope fun Y => PTs Y ifs tt) (hb : ∀ D, AtBlk X scope fun Y => PB Y e 0 D vs' (tb D)) (hv : ∀ i ∈ vs', i ∈ own.map (·.2))
    (h : wi σ H fun J H1 => ∀ D, H1 D = none → tLoop J g tt (tb D) (own.map (·.2)) (wipe σ (own.map (·.2))) (upd H1 D ob) (fun H' => Q (.ref D) H'))
    (hRR : ∀ D C s' m H', Inv X pins σ H' s' → Q (.ref D) H' → s'.heap.Ns C m → FpOk X pins H' C → compPost (model X.prog X.w) X.A X.xe use Qf (.ref D) C (.ok .next) s') :
    wpAny (model X.prog X.w) X.A (comprehension e scope X.env pos' new false (eval iter X.env) use) Qf X.xe s := by
  have hfree : ∀ y ∈ scope.names, y.2 = .free → ∃ c, X.env.cells.lookup y.1 = some c := fun y hy e => by
    rcases ok.free y hy e with k | k
    · exact I.ok.has _ (.inl k)
    · exact I.ok.has _ (.inr k)
  obtain ⟨o, hnew, hob⟩ := na.run
  refine wpAny_comprehension_free (use := use) hcl hs (closure_ok hfree) ok.kind (fun y hy e => by rw [ok.uniq y hy, e]) (thn (hi.run pins s σ H _ I h) fun xv s1 hx => thn hx fun itv s2 h2 => ?_)
  obtain ⟨it, fp, tn, J, H2, e2, I2, T, st2, f2, q⟩ := h2
  subst e2
  refine hnew _ _ _ _ _ (newEnv_comp ?_)
  generalize hD : s2.heap.objs.size = D
  have hDn : H2 D = none := I2.hok.fresh (Nat.le_of_eq hD)
  replace q := q D hDn
  have I3 : Inv X pins σ (upd H2 D ob) { s2 with heap := s2.heap.push o } := by
    refine I2.laid (t' := s2.toks) (fun b u e => Heap.get?_push_of_some _ e) (Nat.le_of_eq hD) ?_
    rw [← hD]
    exact hob _ _ _ _ I2.big
  generalize hs3 : ({ s2 with heap := s2.heap.push o } : Shared) = s3 at I3
  have h3 : s3.heap = s2.heap.push o := by rw [← hs3]
  have f3 : ∀ b ∈ fp, FpOk X pins (upd H2 D ob) b ∧ b < s3.heap.objs.size := fun b hb => by
    obtain ⟨u, eu, _⟩ := T.obj _ _ st2 b hb
    have hlt := Heap.lt_size eu
    refine ⟨⟨?_, (f2 b hb).2⟩, by rw [h3, Heap.size_push]; exact Nat.lt_succ_of_lt hlt⟩
    rw [upd_ne (by rw [← hD]; exact Nat.ne_of_lt hlt)]
    exact (f2 b hb).1
  have st3 : tn 0 s3.heap := T.keep _ _ _ st2 fun b _ u e => by rw [h3]; exact Heap.get?_push_of_some _ e
  have I4 := block_start I3 ok hN f3
  have nfp : ∀ b ∈ fp, (upd H2 D ob) b = none := fun b hb => (f3 b hb).1.1
  show codeAny _ _ (.compStart e 0 (.ref it) (.ref D) (ceOf X scope s3)) (compPost (model X.prog X.w) X.A X.xe use Qf (.ref D) s3.heap.objs.size) { s3 with heap := pushCells (s3.heap.push { cls := .type "dict", data := .dict #[] }) scope.names }
  generalize hH3 : upd H2 D ob = H3 at I3 I4 f3 nfp q
  generalize hs4 : ({ s3 with heap := pushCells (s3.heap.push { cls := .type "dict", data := .dict #[] }) scope.names } : Shared) = s4 at I4 ⊢
  have st4 : tn 0 s4.heap := T.keep _ _ _ st3 fun b _ o e => by rw [← hs4]; exact pushCells_keeps _ _ _ _ (Heap.get?_push_of_some _ e)
  have f4 : ∀ b ∈ fp, FpOk (X.blk s3 H3 scope (ceOf X scope s3) fp) [] H3 b := fun b hb =>
    ⟨nfp b hb, (I4.ok.exf b hb).1, I4.ok.exfs b hb, .inl hb, fun x c e => (I4.ok.exf b hb).2 x c e, fun p hp => absurd (show p ∈ ([] : List (Addr × PySem.Obj)) ++ [] from hp) (by simp)⟩
  have hg0 : (clausesOf e)[0]? = some ⟨tg, iter, ifs, 0⟩ := by rw [hcl]; rfl
  refine codeAny_mono (run_loop (Y := X.blk s3 H3 scope (ceOf X scope s3) fp) rfl hc hk hg0 (hnx _) (hg _ _ _ _ _) (ht _ _ _ _ _) (hb D _ _ _ _ _) hv I4 T st4 f4 q) fun r s6 hr => ?_
  cases r with
  | error e => exact hr.elim
  | ok r =>
    obtain ⟨rfl, H5, I6, qq⟩ := hr
    have I7 : Inv X pins σ H5 s6 := I3.call' (ch := fp) I6.os I6.base I6.hok I6.bare fun b hb => ⟨(f3 b hb).1.2.2.2.1, (f3 b hb).1.2.1, (f3 b hb).1.2.2.2.2.1, (f3 b hb).1.2.2.2.2.2⟩
    have nC : H5 s3.heap.objs.size = none := I6.free
    obtain ⟨m, hn, _⟩ := I6.loc
    exact hRR D s3.heap.objs.size s6 m H5 I7 qq hn (I3.fpOk (Nat.le_refl _) nC)
end
end Dz
/-! DzGen2: comprehensions with any number of clauses over plain data. -/
namespace Dz
open PySem L2
/-! ### a step that may write the result Dl -/
structure StpD (A : Amb) (Dl : Addr) (own : Own) (H : Hp) (own' : Own) (H' : Hp) : Prop where
  kp : ∀ b o, ¬ hid (Plus A Dl) own b → H b = some o → Kp o (H' b)
  hi : ∀ b, A b → H' b = H b
  ow : ∀ i a, own' i = some a → (∃ j, own j = some a) ∨ H a = none
  th : ∀ b o, H b = some o → ∃ o', H' b = some o'
  dr : ∀ (i : Nat) a, own' i = some a → own i = some a
  wl : ∀ (j : Nat) a, own (.inr j) = some a → own' (.inr j) = some a
  fz : ∀ b od u, H b = some (.frz od u) → H' b = some (.frz od u)
section
variable {A : Amb} {Dl : Addr} {own own1 own2 : Own} {H H1 H2 : Hp}
theorem StpD.refl : StpD A Dl own H own H := ⟨fun _ _ _ h => .inl h, fun _ _ => rfl, fun i _ h => .inl ⟨i, h⟩, fun _ o h => ⟨o, h⟩, fun _ _ h => h, fun _ _ h => h, fun _ _ _ h => h⟩
theorem StpD.of (s : StpE (Plus A Dl) own H own1 H1) : StpD A Dl own H own1 H1 := ⟨s.toStp.kp, fun b h => s.toStp.hi b (.inl h), s.toStp.ow, s.toStp.th, s.dr, s.toStp.wl, s.toStp.fz⟩
theorem StpD.nh (s : StpD A Dl own H own1 H1) {b : Addr} {o : HO} (n : ¬ hid (Plus A Dl) own b) (e : H b = some o) : ¬ hid (Plus A Dl) own1 b := by
  rintro (h | ⟨i, h⟩)
  · exact n (.inl h)
  · rcases s.ow i b h with ⟨j, z⟩ | z
    · exact n (.inr ⟨j, z⟩)
    · rw [z] at e; cases e
theorem StpD.trans (s : StpD A Dl own H own1 H1) (t : StpD A Dl own1 H1 own2 H2) : StpD A Dl own H own2 H2 where
  kp := fun b o n e => (s.kp b o n e).trans fun u eu => t.kp b u (s.nh n e) eu
  hi := fun b h => (t.hi b h).trans (s.hi b h)
  ow := fun i a h => by
    rcases t.ow i a h with ⟨j, z⟩ | z
    · exact s.ow j a z
    · right
      cases q : H a with
      | none => rfl
      | some o =>
        obtain ⟨o', e⟩ := s.th a o q
        rw [z] at e; cases e
  th := fun b o e => let ⟨o1, e1⟩ := s.th b o e; t.th b o1 e1
  dr := fun i a h => s.dr i a (t.dr i a h)
  wl := fun j a h => t.wl j a (s.wl j a h)
  fz := fun b od u e => t.fz b od u (s.fz b od u e)
theorem StpD.sub (s : StpD A Dl own H own1 H1) : VSub (hd (hid (Plus A Dl) own) H) (hd (hid (Plus A Dl) own1) H1) := hd_monoK s.kp (fun _ _ n e => s.nh n e) s.wl
theorem StpD.put {o : HO} (s : StpD A Dl own H own1 H1) (nA : ¬ A Dl) (e : ∃ u, H1 Dl = some u ∧ ∀ od u', u ≠ .frz od u') : StpD A Dl own H own1 (L2.upd H1 Dl o) := by
  refine ⟨fun b u n e => ?_, fun b hb => ?_, s.ow, fun b u e2 => ?_, s.dr, s.wl, fun b od u e2 => ?_⟩
  · rw [upd_ne (fun z => n (.inl (.inr z)))]; exact s.kp b u n e
  · rw [upd_ne (fun z => nA (by rw [← z]; exact hb))]; exact s.hi b hb
  · by_cases hz : b = Dl
    · exact ⟨o, by rw [hz]; exact upd_same⟩
    · rw [upd_ne hz]; exact s.th b u e2
  · have q := s.fz b od u e2
    rw [upd_ne (fun z => by
      obtain ⟨w, e3, e4⟩ := e
      rw [z, e3] at q
      exact e4 od u (Option.some.inj q))]
    exact q
/-- the result was new -/
theorem StpD.back {ob : HO} (hn : H Dl = none) (nA : ¬ A Dl) (s : StpD A Dl own (L2.upd H Dl ob) own1 H1) : StpE A own H own1 H1 := by
  refine ⟨⟨fun b o n e => ?_, fun b hb => ?_, fun i a h => ?_, fun b o e => ?_, s.wl, fun b od u e => ?_⟩, s.dr⟩
  · have hb : b ≠ Dl := fun z => by rw [z, hn] at e; cases e
    refine s.kp b o ?_ (by rw [upd_ne hb]; exact e)
    rintro ((z | z) | z)
    · exact n (.inl z)
    · exact hb z
    · exact n (.inr z)
  · have hz : b ≠ Dl := fun z => nA (by rw [← z]; exact hb)
    rw [s.hi b hb, upd_ne hz]
  · rcases s.ow i a h with z | z
    · exact .inl z
    · right
      by_cases hz : a = Dl
      · rw [hz]; exact hn
      · rw [upd_ne hz] at z; exact z
  · have hb : b ≠ Dl := fun z => by rw [z, hn] at e; cases e
    exact s.th b o (by rw [upd_ne hb]; exact e)
  · have hb : b ≠ Dl := fun z => by rw [z, hn] at e; cases e
    exact s.fz b od u (by rw [upd_ne hb]; exact e)
end
/-! ### the result so far -/
inductive AK where
  | l | k | t
def AK.ob : AK → HO
  | .l => .lst []
  | .k => .dK []
  | .t => .dT []
def AK.ok : AK → HO → Prop
  | .l, o => ∃ us, o = .lst us
  | .k, o => ∃ kvs, o = .dK kvs
  | .t, o => ∃ kvs, o = .dT kvs
def AK.nil : AK → D
  | .l => .lst []
  | _ => .dic [] []
theorem Obj.mono {K : PySem.W.Frag} {Hh Hh' : Vw} {d : D} {o : HO} (h : Obj K Hh d o) (e : VSub Hh Hh') : Obj K Hh' d o := by
  cases h with
  | tup r => exact .tup (r.mono e)
  | lst r => exact .lst (r.mono e)
  | dicK h1 h2 h3 r => exact .dicK h1 h2 h3 (r.mono e)
  | dicT h1 h2 h3 r => exact .dicT h1 h2 h3 (r.mono e)
  | ins h1 r => exact .ins h1 (r.mono e)
def Acc (K : PySem.W.Frag) (A : Amb) (own : Own) (H : Hp) (Dl : Addr) (kd : AK) (d : D) : Prop := ∃ o, H Dl = some o ∧ Obj K (hd (hid (Plus A Dl) own) H) d o ∧ kd.ok o
theorem Acc.step {K : PySem.W.Frag} {A : Amb} {own own1 : Own} {H H1 : Hp} {Dl : Addr} {kd : AK} {d : D} (a : Acc K A own H Dl kd d) (s : StpE (Plus A Dl) own H own1 H1) : Acc K A own1 H1 Dl kd d := by
  obtain ⟨o, h1, h2, h3⟩ := a
  exact ⟨o, by rw [s.toStp.hi Dl (.inr rfl)]; exact h1, h2.mono s.toStp.sub, h3⟩
theorem AK.start {K : PySem.W.Frag} {A : Amb} {own : Own} {H : Hp} {Dl : Addr} (kd : AK) : Acc K A own (L2.upd H Dl kd.ob) Dl kd kd.nil := by
  cases kd with
  | l => exact ⟨_, upd_same, .lst .nil, ⟨_, rfl⟩⟩
  | k => exact ⟨_, upd_same, .dicK (kk := []) (vs := []) rfl rfl List.nodup_nil .nil, ⟨_, rfl⟩⟩
  | t => exact ⟨_, upd_same, .dicT (kk := []) (vs := []) rfl rfl List.nodup_nil .nil, ⟨_, rfl⟩⟩
abbrev QF := En → D → Option (En × D)
/-- the loop of a clause -/
def lcG (vs : List Nat) (g : GF) (t : TF) (q : QF) : List D → En → D → Option (En × D)
  | [], env, acc => some (wipeE env vs, acc)
  | d :: ds, env, acc => match g d (wipeE env vs) with
    | some e1 => match t e1 with
      | some (true, e2) => match q e2 acc with
        | some (e3, acc') => lcG vs g t q ds e3 acc'
        | none => none
      | some (false, e2) => lcG vs g t q ds e2 acc
      | none => none
    | none => none
section
variable {X : Cx} {scope : Scope} {e : Expr}
def BPB (X : Cx) (scope : Scope) (e : Expr) (n : Nat) (Dl : Addr) (vs : List Nat) : TB := fun σ H Nx => AtBlk X scope fun Y => ∀ pins s, Inv Y pins σ H s → Rest (model Y.prog Y.w) Y.A e n Dl Y.env (fun s' => ∃ H', Inv Y pins (L2.wipe σ vs) H' s' ∧ Nx H') s
theorem pb_b {n : Nat} {Dl : Addr} {vs : List Nat} : AtBlk X scope fun Y => PB Y e n Dl vs (BPB X scope e n Dl vs) := fun s H C cl fp pins s' σ H' Nx I h => h s H C cl fp pins s' I
def BI (X : Cx) (scope : Scope) (tg iter : Expr) : TI := fun σ H R => AtBlk X scope fun Y => WI Y tg iter σ H R
theorem pi_b {tg iter : Expr} : AtBlk X scope fun Y => PI Y tg iter (BI X scope tg iter) := fun s H C cl fp => ⟨fun pins s' σ H' R I h => (pi_w).run pins s' σ H' R I (h s H C cl fp)⟩
theorem pg_b {tg : Expr} : AtBlk X scope fun Y => PG Y tg (BG X scope tg) := fun s H C cl fp => ⟨fun pins s' σ H Q' u Q I rv h => h s _ C cl fp pins s' u I rv⟩
theorem pts_b {ifs : List Expr} : AtBlk X scope fun Y => PTs Y ifs (BT X scope ifs) := fun s H C cl fp => ⟨fun pins s' σ H' Q I h => by
  obtain ⟨tt, p, q⟩ := h s H C cl fp
  exact p.run pins s' σ _ Q I q⟩
/-- what follows the tests, over plain data -/
def SQ_ (X : Cx) (scope : Scope) (e : Expr) (n : Nat) (vs : List Nat) (kd : AK) (q : QF) : Prop := ∀ (Dl : Addr) (A : Amb) (own : Own) (env : En) (σ : L2.St) (H : Hp) (acc : D) (env' : En) (acc' : D), ¬ A Dl → EnvR X.K (Plus A Dl) own env σ H → Acc X.K A own H Dl kd acc → q env acc = some (env', acc') → ∀ Nx : Hp → Prop,
  (∀ H' own', StpD A Dl own H own' H' → EnvR X.K (Plus A Dl) own' env' (L2.wipe σ vs) H' → Acc X.K A own' H' Dl kd acc' → Nx H') → BPB X scope e n Dl vs σ H Nx
structure SQ (X : Cx) (scope : Scope) (e : Expr) (n : Nat) (vs : List Nat) (kd : AK) (q : QF) : Prop where
  run : SQ_ X scope e n vs kd q
instance coe_SQ {X : Cx} {scope : Scope} {e : Expr} {n : Nat} {vs : List Nat} {kd : AK} {q : QF} : CoeFun (SQ X scope e n vs kd q) (fun _ => SQ_ X scope e n vs kd q) := ⟨fun h => h.run⟩
theorem wipe_sub {σ : L2.St} {vs vs' : List Nat} (h : sublist vs' vs = true) : L2.wipe (L2.wipe σ vs') vs = L2.wipe σ vs := wipe_eq_of (fun j hj => wipe_out fun z => hj (sublist_mem h z)) (wipe_length σ vs')
theorem loop_read {n : Nat} {js vs vs' : List Nat} {g : GF} {t : TF} {q : QF} {kd : AK} {tg : Expr} {ifs : List Expr} (hg : AtBlk X scope fun Y => SG Y js g tg) (ht : AtBlk X scope fun Y => STs Y t ifs) (hq : SQ X scope e n vs' kd q) (hjs : sublist js vs = true) (hvv : sublist vs' vs = true)
    {A : Amb} {Dl : Addr} {own : Own} {env env2 : En} {σ : L2.St} {H : Hp} {J : It} {ds : List D} {src : Vw → Hp → Prop} {acc acc2 : D} {Q : Hp → Prop} (nA : ¬ A Dl) (r : EnvR X.K (Plus A Dl) own (wipeE env vs) (L2.wipe σ vs) H) (fr : ∀ i, i ∈ vs → ∀ a, own i ≠ some a)
    (w1 : Wk X.K J ds src) (q1 : src (hd (hid (Plus A Dl) own) H) H) (ac : Acc X.K A own H Dl kd acc) (h : lcG vs g t q ds env acc = some (env2, acc2))
    (k : ∀ H' own', StpD A Dl own H own' H' → EnvR X.K (Plus A Dl) own' env2 (L2.wipe σ vs) H' → Acc X.K A own' H' Dl kd acc2 → Q H') : tLoop J (BG X scope tg) (BT X scope ifs) (BPB X scope e n Dl vs') vs σ H Q := by
  refine ⟨fun i m H' => m = ds.length - i ∧ i ≤ ds.length ∧ ∃ own' env' acc', StpD A Dl own H own' H' ∧ EnvR X.K (Plus A Dl) own' (wipeE env' vs) (L2.wipe σ vs) H' ∧ Acc X.K A own' H' Dl kd acc' ∧ lcG vs g t q (ds.drop i) env' acc' = some (env2, acc2),
    ⟨ds.length, by simp, Nat.zero_le _, own, env, acc, StpD.refl, r, ac, h⟩, ?_⟩
  rintro i m H' ⟨rfl, hle, own', env', acc', s', r', a', h'⟩
  have q' := w1.mono _ _ _ _ q1 s'.sub s'.fz
  by_cases hlt : i < ds.length
  · have hd1 : ds[i]? = some ds[i] := List.getElem?_eq_getElem hlt
    refine .inr ⟨w1.go _ H' i q' hd_sub hlt, fun H3 => ∃ own3 env3 acc3, StpD A Dl own H own3 H3 ∧ EnvR X.K (Plus A Dl) own3 (wipeE env3 vs) (L2.wipe σ vs) H3 ∧ Acc X.K A own3 H3 Dl kd acc3 ∧ lcG vs g t q (ds.drop (i + 1)) env3 acc3 = some (env2, acc2),
      fun H3 z => ⟨ds.length - (i + 1), by omega, rfl, hlt, z⟩, fun x H3 y => ?_⟩
    obtain ⟨r3, s3, z2⟩ := w1.item r' q' y hd1
    rw [drop_cons hd1] at h'
    unfold lcG at h'
    split at h'
    · rename_i ea h5
      intro s0 H0 C cl fp
      refine hg s0 H0 C cl fp (Plus A Dl) own' (wipeE env' vs) (L2.wipe σ vs) H3 ds[i] ea x r3 z2 h5 _ fun σ4 own4 s4 r4 o4 l4 => ?_
      have wq : L2.wipe σ4 vs = L2.wipe σ vs := (wipe_eq_of (fun j hj => o4 j fun z => hj (sublist_mem hjs z)) l4).trans wipe_wipe
      refine ⟨wq, ?_⟩
      have st4 : StpE (Plus A Dl) own' H' own4 H3 := s3.trans s4
      split at h'
      · rename_i eb h6
        intro s0 H0 C cl fp
        refine ht s0 H0 C cl fp (Plus A Dl) own4 ea σ4 H3 true eb r4 h6 _ fun H5 own5 s5 r5 => ?_
        rw [if_pos rfl]
        have st5 := st4.trans s5
        split at h'
        · rename_i ec acc3 h7
          refine hq Dl A own5 eb σ4 H5 acc' ec acc3 nA r5 (a'.step st5) h7 _ fun H6 own6 s6 r6 a6 => ?_
          have st6 : StpD A Dl own H own6 H6 := s'.trans ((StpD.of st5).trans s6)
          refine ⟨own6, ec, acc3, st6, ?_, a6, h'⟩
          have rw6 := r6.wipeN (vs := vs) fun i hi a e => fr i hi a (st6.dr i a e)
          rw [wipe_sub hvv, wq] at rw6
          exact rw6
        · cases h'
      · rename_i eb h6
        intro s0 H0 C cl fp
        refine ht s0 H0 C cl fp (Plus A Dl) own4 ea σ4 H3 false eb r4 h6 _ fun H5 own5 s5 r5 => ?_
        rw [if_neg (by decide)]
        have st5 := st4.trans s5
        have st6 : StpD A Dl own H own5 H5 := s'.trans (StpD.of st5)
        refine ⟨own5, eb, acc', st6, ?_, a'.step st5, h'⟩
        have rw5 := r5.wipeN (vs := vs) fun i hi a e => fr i hi a (st6.dr i a e)
        rw [wq] at rw5
        exact rw5
      · cases h'
    · cases h'
  · have e : i = ds.length := by omega
    subst e
    rw [List.drop_length] at h'
    cases h'
    exact .inl ⟨w1.stop _ H' q' hd_sub, k H' own' s' r' a'⟩
/-- an item of a list -/
def qItem (f : EF) : QF := fun env acc => match acc with
  | .lst ys => match f env with
    | some (y, _, e1) => if ys.length < 100000 then some (e1, .lst (ys ++ [y])) else none
    | none => none
  | _ => none
theorem sq_item {n : Nat} {elt : Expr} {gens : List Comprehension} {sc : Scope} {pos : Pos} {f : EF} (hn : gens[n + 1]? = none) (he : AtBlk X scope fun Y => SE Y f elt) : SQ X scope (.ListComp elt gens sc pos) n [] .l (qItem f) := by
  refine ⟨?_⟩
  intro Dl A own env σ H acc env' acc' nA r a h Nx k
  unfold qItem at h
  split at h
  · rename_i ys
    split at h
    · rename_i y fr e1 h1
      split at h
      · rename_i hl
        cases h
        intro s0 H0 C cl fp pins s I
        refine pb_item (Y := X.blk s0 H0 scope (compEnvC scope cl C X.env) fp) (te := WE (X.blk s0 H0 scope (compEnvC scope cl C X.env) fp) elt) rfl hn pe_w pins s σ H Nx I ?_
        refine he s0 H0 C cl fp (Plus A Dl) own env σ H y fr _ r h1 _ fun v H1 own1 s1 R1 => ?_
        obtain ⟨o, hD, ob, us, rfl⟩ := a.step s1
        cases ob with
        | lst rr =>
          have hP : hid (Plus A Dl) own1 Dl := .inl (.inr rfl)
          exact ⟨us, hD, by rw [← rr.length]; exact Nat.lt_of_lt_of_le hl (by decide), k _ own1 ((StpD.of s1).put nA ⟨_, hD, fun _ _ z => by cases z⟩) R1.en.updHid ⟨_, upd_same, .lst ((rr.append (.cons R1.rp .nil)).mono (sub_hid hP)), ⟨_, rfl⟩⟩⟩
      · cases h
    · cases h
  · cases h
/-- a new pair of a dict -/
def putDD (kd : AK) (ks xs : List D) (k v : D) : Option (List D × List D) := match kd with
  | .l => none
  | .k => match keyK1 k, keysK ks with
    | some j, some kk => if kk.any (fun x => decide (x = j)) then none else some (ks ++ [k], xs ++ [v])
    | _, _ => none
  | .t => match keyT1 k, keysT ks with
    | some j, some kk => if kk.any (fun x => decide (x = j)) then none else some (ks ++ [k], xs ++ [v])
    | _, _ => none
theorem keysK_app : ∀ {ks : List D} {kk : List Key} {k : D} {j : Key}, keysK ks = some kk → keyK1 k = some j → keysK (ks ++ [k]) = some (kk ++ [j])
  | [], kk, k, j, h, h2 => by
    cases h
    cases k <;> simp [keyK1] at h2 <;> subst h2 <;> rfl
  | d :: ks, kk, k, j, h, h2 => by
    cases d <;> simp only [keysK] at h <;> try cases h
    all_goals
      obtain ⟨k2, e2, e3⟩ := Option.map_eq_some_iff.mp h
      subst e3
      simp only [List.cons_append, keysK, keysK_app e2 h2, Option.map_some]
theorem keysT_app : ∀ {ks : List D} {kk : List (List Key)} {k : D} {j : List Key}, keysT ks = some kk → keyT1 k = some j → keysT (ks ++ [k]) = some (kk ++ [j])
  | [], kk, k, j, h, h2 => by
    cases h
    cases k <;> simp only [keyT1] at h2 <;> try cases h2
    simp only [List.nil_append, keysT, h2, Option.map_some]
  | d :: ks, kk, k, j, h, h2 => by
    cases d <;> simp only [keysT] at h <;> try cases h
    split at h
    · rename_i k2 e2
      obtain ⟨k3, e3, e4⟩ := Option.map_eq_some_iff.mp h
      subst e4
      simp only [List.cons_append, keysT, e2, keysT_app e3 h2, Option.map_some]
    · cases h
def qPair (kd : AK) (fk fv : EF) : QF := fun env acc => match acc with
  | .dic ks xs => match fk env with
    | some (k, _, e1) => match fv e1 with
      | some (v, _, e2) => if xs.length < 100000 then match putDD kd ks xs k v with
          | some (ks2, xs2) => some (e2, .dic ks2 xs2)
          | none => none
        else none
      | none => none
    | none => none
  | _ => none
theorem sq_pair {n : Nat} {kx vx : Expr} {gens : List Comprehension} {sc : Scope} {pos : Pos} {kd : AK} {fk fv : EF} (hu : X.A.units + 1 < cLine) (hn : gens[n + 1]? = none) (hk : AtBlk X scope fun Y => SE Y fk kx) (hv : AtBlk X scope fun Y => SE Y fv vx) :
    SQ X scope (.DictComp kx vx gens sc pos) n [] kd (qPair kd fk fv) := by
  refine ⟨?_⟩
  intro Dl A own env σ H acc env' acc' nA r a h Nx kont
  unfold qPair at h
  split at h
  · rename_i ks xs
    split at h
    · rename_i k fr1 e1 h1
      split at h
      · rename_i v fr2 e2 h2
        split at h
        · rename_i hl
          split at h
          · rename_i ks2 xs2 h3
            cases h
            intro s0 H0 C cl fp pins s I
            refine pb_pair (Y := X.blk s0 H0 scope (compEnvC scope cl C X.env) fp) (tk := WE (X.blk s0 H0 scope (compEnvC scope cl C X.env) fp) kx) (tv := WE (X.blk s0 H0 scope (compEnvC scope cl C X.env) fp) vx) rfl hu hn pe_w pe_w pins s σ H Nx I ?_
            refine hk s0 H0 C cl fp (Plus A Dl) own env σ H k fr1 e1 r h1 _ fun x H1 own1 s1 R1 => ?_
            refine hv s0 H0 C cl fp (Plus A Dl) own1 e1 σ H1 v fr2 _ R1.en h2 _ fun y H2 own2 s2 R2 => ?_
            have st := s1.trans s2
            obtain ⟨o, hD, ob, hko⟩ := a.step st
            have rk : Rep X.K (hd (hid (Plus A Dl) own2) H2) k x := R1.rp.mono s2.toStp.sub
            have hP : hid (Plus A Dl) own2 Dl := .inl (.inr rfl)
            have fin := fun (o : HO) (acc' : D) (ob : Obj X.K (hd (hid (Plus A Dl) own2) H2) acc' o) (ok : kd.ok o) => (⟨o, upd_same, ob.mono (sub_hid hP), ok⟩ : Acc X.K A own2 (L2.upd H2 Dl o) Dl kd acc')
            unfold putDD at h3
            split at h3
            · cases h3
            · split at h3
              · rename_i j kk g1 g2
                split at h3
                · cases h3
                · rename_i hnj0
                  have hnj : ¬ j ∈ kk := fun m => hnj0 (List.any_eq_true.mpr ⟨j, m, decide_eq_true rfl⟩)
                  cases h3
                  obtain ⟨kvs, rfl⟩ := hko
                  cases ob with
                  | @dicK kk' vs _ _ z1 z2 z3 z4 =>
                    rw [g2] at z1
                    cases z1
                    have hnew : valV (kk.zip vs) j = none := valV_of_not (by rw [List.map_fst_zip (by rw [z2]; exact Nat.le_refl _)]; exact hnj)
                    refine ⟨_, .inl ⟨_, j, hD, keyK1_v g1 rk, ?_, rfl⟩, kont _ own2 ((StpD.of st).put nA ⟨_, hD, fun _ _ z => by cases z⟩) R2.en.updHid ?_⟩
                    · rw [List.length_zip, z2, Nat.min_self, ← z4.length]; exact Nat.lt_of_lt_of_le hl (by decide)
                    · rw [putK_new y hnew]
                      have hz : kk.zip vs ++ [(j, y)] = (kk ++ [j]).zip (vs ++ [y]) := by rw [List.zip_append z2]; rfl
                      rw [hz]
                      exact fin _ _ (.dicK (keysK_app g2 g1) (by rw [List.length_append, List.length_append, z2]; rfl) (nd_snoc z3 hnj) (z4.append (.cons R2.rp .nil))) ⟨_, rfl⟩
              · cases h3
            · split at h3
              · rename_i j kk g1 g2
                split at h3
                · cases h3
                · rename_i hnj0
                  have hnj : ¬ j ∈ kk := fun m => hnj0 (List.any_eq_true.mpr ⟨j, m, decide_eq_true rfl⟩)
                  cases h3
                  obtain ⟨kvs, rfl⟩ := hko
                  cases ob with
                  | @dicT kk' vs _ _ z1 z2 z3 z4 =>
                    rw [g2] at z1
                    cases z1
                    have hnew : valV (kk.zip vs) j = none := valV_of_not (by rw [List.map_fst_zip (by rw [z2]; exact Nat.le_refl _)]; exact hnj)
                    obtain ⟨b, rfl, hb⟩ := keyT1_v g1 rk
                    refine ⟨_, .inr ⟨_, j, b, hD, rfl, hd_sub _ _ hb, ?_, rfl⟩, kont _ own2 ((StpD.of st).put nA ⟨_, hD, fun _ _ z => by cases z⟩) R2.en.updHid ?_⟩
                    · rw [List.length_zip, z2, Nat.min_self, ← z4.length]; exact Nat.lt_of_lt_of_le hl (by decide)
                    · rw [putK_new y hnew]
                      have hz : kk.zip vs ++ [(j, y)] = (kk ++ [j]).zip (vs ++ [y]) := by rw [List.zip_append z2]; rfl
                      rw [hz]
                      exact fin _ _ (.dicT (keysT_app g2 g1) (by rw [List.length_append, List.length_append, z2]; rfl) (nd_snoc z3 hnj) (z4.append (.cons R2.rp .nil))) ⟨_, rfl⟩
              · cases h3
          · cases h
        · cases h
      · cases h
    · cases h
  · cases h
/-- a further clause -/
def qNext (fi : IF) (g : GF) (t : TF) (q : QF) (vs : List Nat) : QF := fun env acc => match fi env with
  | some (ds, e1) => if freeE e1 vs then lcG vs g t q ds e1 acc else none
  | none => none
theorem sq_next {n : Nat} {tg iter : Expr} {ifs : List Expr} {js vs vs' : List Nat} {kd : AK} {fi : IF} {g : GF} {t : TF} {q : QF} (hc : X.calm = true) (hk : IsLD e) (hg1 : (clausesOf e)[n + 1]? = some ⟨tg, iter, ifs, 0⟩)
    (hf : ∀ env g, (clausesOf e)[n + 1 + 1]? = some g → g.is_async = 0 ∧ ∀ x, foldedSetIterable g.iter env x = pure x) (hi : AtBlk X scope fun Y => SI Y fi tg iter) (hg : AtBlk X scope fun Y => SG Y js g tg) (ht : AtBlk X scope fun Y => STs Y t ifs)
    (hq : SQ X scope e (n + 1) vs' kd q) (hjs : sublist js vs = true) (hvv : sublist vs' vs = true) : SQ X scope e n vs kd (qNext fi g t q vs) := by
  refine ⟨?_⟩
  intro Dl A own env σ H acc env' acc' nA r a h Nx k
  unfold qNext at h
  split at h
  · rename_i ds e1 h1
    split at h
    · rename_i hfr
      intro s0 H0 C cl fp pins s I
      refine pb_next (Y := X.blk s0 H0 scope (compEnvC scope cl C X.env) fp) rfl hc hk hg1 (hf _) (pi_b s0 H0 C cl fp) (pg_b s0 H0 C cl fp) (pts_b s0 H0 C cl fp) (pb_b s0 H0 C cl fp) (fun i hi => sublist_mem hvv hi) pins s σ H Nx I ?_
      intro s1 H1' C1 cl1 fp1
      refine hi s1 H1' C1 cl1 fp1 (Plus A Dl) own env σ H ds e1 r h1 _ fun J H1 own1 src s1 r1 w1 q1 => ?_
      have fr1 := r1.free hfr
      exact loop_read hg ht hq hjs hvv nA (r1.wipeN fr1) fr1 w1 q1 (a.step s1) h fun H' own' sD r' a' => k H' own' ((StpD.of s1).trans sD) r' a'
    · cases h
  · cases h
/-- the whole -/
def fG (vs : List Nat) (kd : AK) (fi : IF) (g : GF) (t : TF) (q : QF) : EF := fun env => match fi env with
  | some (ds, e1) => if freeE e1 vs then match lcG vs g t q ds e1 kd.nil with
    | some (e2, acc) => some (acc, true, backE e1 e2 vs)
    | none => none
    else none
  | none => none
/-- an iterable, at one place -/
def SIat (X : Cx) (f : IF) (tg iter : Expr) (A : Amb) (own : Own) (env : En) (σ : L2.St) (H : Hp) : Prop := ∀ ds env', f env = some (ds, env') → ∀ R : It → Hp → Prop,
  (∀ J H' own' src, StpE A own H own' H' → EnvR X.K A own' env' σ H' → Wk X.K J ds src → src (hd (hid A own') H') H' → R J H') → WI X tg iter σ H R
theorem SI.at {f : IF} {tg iter : Expr} (h : SI X f tg iter) {A : Amb} {own : Own} {env : En} {σ : L2.St} {H : Hp} (r : EnvR X.K A own env σ H) : SIat X f tg iter A own env σ H := fun ds env' e R k => h A own env σ H ds env' r e R k
theorem fG_read {tg iter : Expr} {ifs : List Expr} {js vs vs' : List Nat} {kd : AK} {fi : IF} {g : GF} {t : TF} {q : QF} (hg : AtBlk X scope fun Y => SG Y js g tg) (ht : AtBlk X scope fun Y => STs Y t ifs) (hq : SQ X scope e 0 vs' kd q) (hjs : sublist js vs = true) (hvv : sublist vs' vs = true)
    {A : Amb} {own : Own} {env env' : En} {σ : L2.St} {H : Hp} {d : D} {fr : Bool} (hi : SIat X fi tg iter A own env σ H) (r : EnvR X.K A own env σ H) (h : fG vs kd fi g t q env = some (d, fr, env')) {Q : VK}
    (k : ∀ v H' own', StpE A own H own' H' → Res X.K A own' env' σ H H' fr d v → Q v H') :
    WI X tg iter σ H fun J H1 => ∀ Dl, H1 Dl = none → tLoop J (BG X scope tg) (BT X scope ifs) (BPB X scope e 0 Dl vs') vs (L2.wipe σ vs) (L2.upd H1 Dl kd.ob) (fun H' => Q (.ref Dl) H') := by
  unfold fG at h
  split at h
  · rename_i ds e1 h1
    split at h
    · rename_i hfr
      split at h
      · rename_i e2 acc h2
        cases h
        refine hi ds e1 h1 _ fun J H1 own1 src s1 r1 w1 q1 Dl hDl => ?_
        have nA : ¬ A Dl := fun hb => by
          obtain ⟨o, e⟩ := r1.al _ hb
          rw [hDl] at e; cases e
        have fr1 := r1.free hfr
        have rD := r1.new (o := kd.ob) hDl (by intro _ z; cases kd <;> cases z)
        have sb1 : VSub (hd (hid A own1) H1) (hd (hid (Plus A Dl) own1) (L2.upd H1 Dl kd.ob)) := hd_mono (fun b u _ z => sub_new hDl b u z) fun b u n e => by
          rintro ((z | z) | z)
          · exact n (.inl z)
          · exact absurd z (ne_of_none e hDl)
          · exact n (.inr z)
        refine loop_read hg ht hq hjs hvv nA (by rw [wipe_wipe]; exact rD.wipeN fr1) fr1 w1 (w1.mono _ _ _ _ q1 sb1 fun b od u z => sub_new hDl b _ z) (AK.start kd) h2 fun H' own' sD r' a' => ?_
        rw [wipe_wipe] at r'
        have fr' : ∀ i, i ∈ vs → ∀ a, own' i ≠ some a := fun i hi a e => fr1 i hi a (sD.dr i a e)
        have rb := r1.back fr' hfr (sb1.trans sD.sub) r'
        obtain ⟨o, hD, ob, _⟩ := a'
        exact k (.ref Dl) H' own' (s1.trans (StpD.back hDl nA sD)) (res_new (s1.toStp.back hDl) (fun b hb z => nA (by rw [← z]; exact hb)) rb hD ob)
      · cases h
    · cases h
  · cases h
/-! ### as an expression, as a statement -/
inductive FoldOk : List Comprehension → Prop
  | nil : FoldOk []
  | cons {t i : Expr} {ifs : List Expr} {gs : List Comprehension} : (∀ env x, foldedSetIterable i env x = pure x) → FoldOk gs → FoldOk (⟨t, i, ifs, 0⟩ :: gs)
theorem FoldOk.at : ∀ {gens : List Comprehension} (h : FoldOk gens) (n : Nat) (env : Env) (g : Comprehension), gens[n]? = some g → g.is_async = 0 ∧ ∀ x, foldedSetIterable g.iter env x = pure x
  | _, .nil, n, env, g, e => by simp at e
  | _, .cons h1 h2, 0, env, g, e => by
    simp at e
    subst e
    exact ⟨rfl, h1 env⟩
  | _, .cons h1 h2, n + 1, env, g, e => FoldOk.at h2 n env g (by simpa using e)
/-- what is made at first -/
def accOf : Expr → Sem Value
  | .ListComp _ _ _ _ => newList []
  | _ => newDict
def AccFor : Expr → AK → Prop
  | .ListComp _ _ _ _, .l => True
  | .DictComp _ _ _ _ _, .k => True
  | .DictComp _ _ _ _ _, .t => True
  | _, _ => False
theorem AccFor.new {kd : AK} (h : AccFor e kd) : NewAcc (accOf e) kd.ob := by
  cases e <;> cases kd <;> first | exact h.elim | exact new_list | exact new_dictK | exact new_dictT
theorem AccFor.ld {kd : AK} (h : AccFor e kd) : IsLD e := by
  cases e <;> cases kd <;> first | exact h.elim | trivial
def scOf : Expr → Scope → Prop
  | .ListComp _ _ sc _, s => sc = s
  | .DictComp _ _ _ sc _, s => sc = s
  | _, _ => False
theorem eval_comp {env : Env} {tg iter : Expr} {ifs : List Expr} {gs : List Comprehension} (hk : IsLD e) (hcl : clausesOf e = ⟨tg, iter, ifs, 0⟩ :: gs) (hsc : scOf e scope) : ∃ pos, eval e env = comprehension e scope env pos (accOf e) false (eval iter env) none := by
  cases e <;> try exact hk.elim
  · rename_i elt gens sc pos
    cases hsc
    have hcl : gens = _ := hcl
    subst hcl
    exact ⟨_, eval_ListComp _ _ _ _⟩
  · rename_i kx vx gens sc pos
    cases hsc
    have hcl : gens = _ := hcl
    subst hcl
    exact ⟨_, arm_eval_DictComp _ _ _ _ _ _⟩
theorem use_comp {env : Env} {use : Value → Sem Unit} {tg iter : Expr} {ifs : List Expr} {gs : List Comprehension} (hk : IsLD e) (hcl : clausesOf e = ⟨tg, iter, ifs, 0⟩ :: gs) (hsc : scOf e scope) : ∃ pos, evalThenUse e env use = (do let _ ← comprehension e scope env pos (accOf e) false (eval iter env) (some use)) := by
  cases e <;> try exact hk.elim
  · rename_i elt gens sc pos
    cases hsc
    have hcl : gens = _ := hcl
    subst hcl
    exact ⟨_, rfl⟩
  · rename_i kx vx gens sc pos
    cases hsc
    have hcl : gens = _ := hcl
    subst hcl
    exact ⟨_, rfl⟩
theorem we_g {own1 : List (Str × Nat)} {tg iter : Expr} {ifs : List Expr} {gs : List Comprehension} {js vs' : List Nat} {kd : AK} {fi : IF} {g : GF} {t : TF} {q : QF} (hc : X.calm = true) (hN : X.N.Nodup) (hkd : AccFor e kd) (hcl : clausesOf e = ⟨tg, iter, ifs, 0⟩ :: gs) (hsc : scOf e scope) (hf : FoldOk (⟨tg, iter, ifs, 0⟩ :: gs))
    (ok : BlkOk X.N X.env.scope scope own1) (hg : AtBlk X scope fun Y => SG Y js g tg) (ht : AtBlk X scope fun Y => STs Y t ifs) (hq : SQ X scope e 0 vs' kd q) (hjs : sublist js (own1.map (·.2)) = true) (hvv : sublist vs' (own1.map (·.2)) = true)
    {A : Amb} {own : Own} {env env' : En} {σ : L2.St} {H : Hp} {d : D} {fr : Bool} (hi : SIat X fi tg iter A own env σ H) (r : EnvR X.K A own env σ H) (h : fG (own1.map (·.2)) kd fi g t q env = some (d, fr, env')) {Q : VK} (k : ∀ v H' own', StpE A own H own' H' → Res X.K A own' env' σ H H' fr d v → Q v H') : WE X e σ H Q := by
  intro pins s I
  obtain ⟨pos, he⟩ := eval_comp (env := X.env) hkd.ld hcl hsc
  rw [he]
  refine core_g hc hN I hkd.ld hcl pi_w ok hkd.new ((hf.at 0 X.env _ rfl).2) (fun env g hgg => hf.at 1 env g (by rw [← hcl]; exact hgg)) pg_b pts_b (fun D => pb_b) (fun i hi => sublist_mem hvv hi) (fG_read hg ht hq hjs hvv hi r h k) fun D C s' m H' I' q hn f => ⟨m, hn, fun h'' sb => ?_⟩
  obtain ⟨f0, f1, f2, f3, f4, f5⟩ := f
  exact ⟨.ref D, H', I'.turned (t' := s'.toks) (fun b o hb e => (sb.2 b hb).trans e) f0 f1 f3 f4 f5, rfl, q⟩
theorem se_g {own1 : List (Str × Nat)} {tg iter : Expr} {ifs : List Expr} {gs : List Comprehension} {js vs' : List Nat} {kd : AK} {fi : IF} {g : GF} {t : TF} {q : QF} (hc : X.calm = true) (hN : X.N.Nodup) (hkd : AccFor e kd) (hcl : clausesOf e = ⟨tg, iter, ifs, 0⟩ :: gs) (hsc : scOf e scope) (hf : FoldOk (⟨tg, iter, ifs, 0⟩ :: gs))
    (ok : BlkOk X.N X.env.scope scope own1) (hi : SI X fi tg iter) (hg : AtBlk X scope fun Y => SG Y js g tg) (ht : AtBlk X scope fun Y => STs Y t ifs) (hq : SQ X scope e 0 vs' kd q) (hjs : sublist js (own1.map (·.2)) = true) (hvv : sublist vs' (own1.map (·.2)) = true) :
    SE X (fG (own1.map (·.2)) kd fi g t q) e := ⟨fun A own env σ H d fr env' r h Q k => we_g hc hN hkd hcl hsc hf ok hg ht hq hjs hvv (hi.at r) r h k⟩
/-- kept by a name of the def: on one line with it -/
theorem ws_setG {i : Nat} {y : Str} {py spos : Pos} {tg iter : Expr} {ifs : List Expr} {gs : List Comprehension} {f : EF} (hN : X.N.Nodup) (hy : X.N[i]? = some y) (hyl : X.env.scope.names.lookup y = some .local) (hsw : swapsWith e (some (.Name y py)) spos.line X.env = pure true) (hk : IsLD e) (hcl : clausesOf e = ⟨tg, iter, ifs, 0⟩ :: gs) (hsc : scOf e scope)
    {A : Amb} {own : Own} {env : En} {σ : L2.St} {H : Hp}
    (hf : ∀ d fr env', f env = some (d, fr, env') → ∀ (Q : VK), (∀ v H' own', StpE A own H own' H' → Res X.K A own' env' σ H H' fr d v → Q v H') → ∀ pins s pos (use : Value → Sem Unit) (Qf : Value → Shared → Prop), Inv X pins σ H s →
      (∀ D C s' m H', Inv X pins σ H' s' → Q (.ref D) H' → s'.heap.Ns C m → FpOk X pins H' C → compPost (model X.prog X.w) X.A X.xe (some use) Qf (.ref D) C (.ok .next) s') → wpAny (model X.prog X.w) X.A (comprehension e scope X.env pos (accOf e) false (eval iter X.env) (some use)) Qf X.xe s)
    {out : Out} (r : EnvR X.K A own env σ H) (h : sSet i f env = some out) {D : Ends} (k : Fol X.K A own H D out) : WS X (.Assign [.Name y py] e spos) D σ H := by
  unfold sSet at h
  split at h
  · rename_i d fr e1 h1
    split at h
    · rename_i hl
      cases h
      intro pins s I
      rw [exec_Assign_Name_used _ _ _ _ hsw]
      obtain ⟨pos, he⟩ := use_comp (env := X.env) (use := assign (.Name y py) X.env) hk hcl hsc
      rw [he]
      refine wpAny_bind (wpAny_standAt (wpAny_bind ?_))
      refine wpAny_bind (thn (hf d fr e1 h1 (fun v H1 => ∃ own2 σ2, σ2 = σ.set i (some v) ∧ Stp A own H own2 H1 ∧ EnvR X.K A own2 (e1.set i (some (d, if fr && d.mut then .ow else .sh))) σ2 H1) (fun v H1 own1 s1 R1 => ?_) pins s pos _ (fun _ s' => SP X pins D .next s') I fun L C s' m H' I' q hn f => ?_) fun _ s' hq => wpAny_pure (wpAny_pure hq))
      · obtain ⟨own2, s2, r2⟩ := R1.put s1.toStp r.al hl
        exact ⟨own2, _, rfl, s2, r2⟩
      · obtain ⟨own2, σ2, rfl, s2, r2⟩ := q
        show wpAny _ _ (assign (.Name y py) X.env (.ref L)) _ _ _
        refine wpAny_assign_Name (store_ok2 (v := V.ref L) I' hN hy (.inl hyl) rfl (fun s2' I2 ⟨a, sb, ha⟩ => ?_) (.inr hyl))
        obtain ⟨f0, f1, f2, f3, f4, f5⟩ := f
        have haC : C ≠ a := by
          rcases ha with z | z
          · rw [z]; exact f1
          · exact fun e => f4 y a z e.symm
        refine ⟨m, hn.sameBut sb haC, fun h3 sb3 => ?_⟩
        exact ⟨_, H', I2.turned (t' := s2'.toks) (fun b o hb e => (sb3.2 b hb).trans e) f0 f1 f3 f4 f5, k _ H' own2 s2 r2⟩
    · cases h
  · cases h
theorem ss_setG {i : Nat} {y : Str} {py spos : Pos} {tg iter : Expr} {ifs : List Expr} {gs : List Comprehension} {f : EF} (hN : X.N.Nodup) (hy : X.N[i]? = some y) (hyl : X.env.scope.names.lookup y = some .local) (hsw : swapsWith e (some (.Name y py)) spos.line X.env = pure true) (hk : IsLD e) (hcl : clausesOf e = ⟨tg, iter, ifs, 0⟩ :: gs) (hsc : scOf e scope)
    (hf : ∀ A own env σ H d fr env', EnvR X.K A own env σ H → f env = some (d, fr, env') → ∀ (Q : VK), (∀ v H' own', StpE A own H own' H' → Res X.K A own' env' σ H H' fr d v → Q v H') → ∀ pins s pos (use : Value → Sem Unit) (Qf : Value → Shared → Prop), Inv X pins σ H s →
      (∀ D C s' m H', Inv X pins σ H' s' → Q (.ref D) H' → s'.heap.Ns C m → FpOk X pins H' C → compPost (model X.prog X.w) X.A X.xe (some use) Qf (.ref D) C (.ok .next) s') → wpAny (model X.prog X.w) X.A (comprehension e scope X.env pos (accOf e) false (eval iter X.env) (some use)) Qf X.xe s) :
    SS X (sSet i f) (.Assign [.Name y py] e spos) := ⟨fun A own env σ H out r h D k => ws_setG hN hy hyl hsw hk hcl hsc (fun d fr env' h1 => hf A own env σ H d fr env' r h1) r h k⟩
theorem g_useAt {own1 : List (Str × Nat)} {tg iter : Expr} {ifs : List Expr} {gs : List Comprehension} {js vs' : List Nat} {kd : AK} {fi : IF} {g : GF} {t : TF} {q : QF} (hc : X.calm = true) (hN : X.N.Nodup) (hkd : AccFor e kd) (hcl : clausesOf e = ⟨tg, iter, ifs, 0⟩ :: gs) (hsc : scOf e scope) (hf : FoldOk (⟨tg, iter, ifs, 0⟩ :: gs))
    (ok : BlkOk X.N X.env.scope scope own1) (hg : AtBlk X scope fun Y => SG Y js g tg) (ht : AtBlk X scope fun Y => STs Y t ifs) (hq : SQ X scope e 0 vs' kd q) (hjs : sublist js (own1.map (·.2)) = true) (hvv : sublist vs' (own1.map (·.2)) = true)
    {A : Amb} {own : Own} {env : En} {σ : L2.St} {H : Hp} (hi : SIat X fi tg iter A own env σ H) (r : EnvR X.K A own env σ H) :
    ∀ d fr env', fG (own1.map (·.2)) kd fi g t q env = some (d, fr, env') → ∀ (Q : VK), (∀ v H' own', StpE A own H own' H' → Res X.K A own' env' σ H H' fr d v → Q v H') → ∀ pins s pos (use : Value → Sem Unit) (Qf : Value → Shared → Prop), Inv X pins σ H s →
      (∀ D C s' m H', Inv X pins σ H' s' → Q (.ref D) H' → s'.heap.Ns C m → FpOk X pins H' C → compPost (model X.prog X.w) X.A X.xe (some use) Qf (.ref D) C (.ok .next) s') → wpAny (model X.prog X.w) X.A (comprehension e scope X.env pos (accOf e) false (eval iter X.env) (some use)) Qf X.xe s := by
  intro d fr env' h Q k pins s pos use Qf I hRR
  exact core_g hc hN I hkd.ld hcl pi_w ok hkd.new ((hf.at 0 X.env _ rfl).2) (fun env g hgg => hf.at 1 env g (by rw [← hcl]; exact hgg)) pg_b pts_b (fun D => pb_b) (fun i hi => sublist_mem hvv hi) (fG_read hg ht hq hjs hvv hi r h k) hRR
theorem g_use {own1 : List (Str × Nat)} {tg iter : Expr} {ifs : List Expr} {gs : List Comprehension} {js vs' : List Nat} {kd : AK} {fi : IF} {g : GF} {t : TF} {q : QF} (hc : X.calm = true) (hN : X.N.Nodup) (hkd : AccFor e kd) (hcl : clausesOf e = ⟨tg, iter, ifs, 0⟩ :: gs) (hsc : scOf e scope) (hf : FoldOk (⟨tg, iter, ifs, 0⟩ :: gs))
    (ok : BlkOk X.N X.env.scope scope own1) (hi : SI X fi tg iter) (hg : AtBlk X scope fun Y => SG Y js g tg) (ht : AtBlk X scope fun Y => STs Y t ifs) (hq : SQ X scope e 0 vs' kd q) (hjs : sublist js (own1.map (·.2)) = true) (hvv : sublist vs' (own1.map (·.2)) = true) :
    ∀ A own env σ H d fr env', EnvR X.K A own env σ H → fG (own1.map (·.2)) kd fi g t q env = some (d, fr, env') → ∀ (Q : VK), (∀ v H' own', StpE A own H own' H' → Res X.K A own' env' σ H H' fr d v → Q v H') → ∀ pins s pos (use : Value → Sem Unit) (Qf : Value → Shared → Prop), Inv X pins σ H s →
      (∀ D C s' m H', Inv X pins σ H' s' → Q (.ref D) H' → s'.heap.Ns C m → FpOk X pins H' C → compPost (model X.prog X.w) X.A X.xe (some use) Qf (.ref D) C (.ok .next) s') → wpAny (model X.prog X.w) X.A (comprehension e scope X.env pos (accOf e) false (eval iter X.env) (some use)) Qf X.xe s :=
  fun A own env σ H d fr env' r h => g_useAt hc hN hkd hcl hsc hf ok hg ht hq hjs hvv (hi.at r) r d fr env' h
/-- on one line with its name -/
theorem sw_trueD {kx vx : Expr} {gs : List Comprehension} {sc : Scope} {pos py : Pos} {y : Str} {l : Nat} {env : Env} (hk : env.scope.kind = .function) (hy : env.scope.names.lookup y = some .local) (hl : (py.line == pos.line) = true)
    (ha : (sc.names.any fun (n, k) => n == y && (k == .local || k == .cell)) = false) : swapsWith (.DictComp kx vx gs sc pos) (some (.Name y py)) l env = pure true := by
  have h1 : env.kindOf y = some .local := hy
  have h2 : env.blockKind = .function := by unfold Env.blockKind; rw [hk]; rfl
  unfold swapsWith
  simp only [h2, h1, ha, Expr.pos, hl]
  rfl
/-- one or the other kind of keys -/
def fAlt (f g : EF) : EF := fun env => match f env with
  | some r => some r
  | none => g env
theorem se_alt {f g : EF} {e : Expr} (hf : SE X f e) (hg : SE X g e) : SE X (fAlt f g) e := by
  refine ⟨?_⟩
  intro A own env σ H d fr env' r h Q k
  unfold fAlt at h
  split at h
  · rename_i z h1
    cases h
    exact hf A own env σ H d fr env' r h1 Q k
  · exact hg A own env σ H d fr env' r h Q k
end
end Dz
/-! SzLock: a dict whose keys are walked is locked for ever: it is shared, and nobody changes it. -/
namespace Dz
open PySem L2
theorem IsDic.mut {u : HO} (h : IsDic u) : Mut (some u) := by cases u <;> first | exact h.elim | trivial
/-- a dict that stands may be locked behind an expression -/
theorem we_ghost {X : Cx} {e : Expr} {σ : St} {H : Hp} {Q : VK} (h : WE X e σ H fun v H1 => Q v H1 ∨ ∃ d u, H1 d = some u ∧ IsDic u ∧ ∀ od, Q v (upd H1 d (.frz od u))) : WE X e σ H Q := fun pins s I => thn (h pins s I) fun u s' ⟨v, H', I', r, q⟩ => by
  rcases q with q | ⟨d, w, hd, hw, q⟩
  · exact ⟨v, H', I', r, q⟩
  · obtain ⟨od, I2⟩ := I'.lock hd hw.mut
    exact ⟨v, _, I2, r, q od⟩
section
variable {K : PySem.W.Frag} {A : Amb} {own : Own} {env : En} {σ : L2.St} {H : Hp} {d : Addr} {u : HO} {od : PySem.Obj}
theorem kp_lock (h : H d = some u) (hu : IsDic u) {b : Addr} {o : HO} (e : H b = some o) : Kp o (upd H d (.frz od u) b) := by
  by_cases hb : b = d
  · subst hb
    rw [h] at e
    cases e
    exact .inr ⟨hu, od, upd_same⟩
  · exact .inl (by rw [upd_ne hb]; exact e)
theorem VSub.lock {P : Hid} (h : H d = some u) (hu : IsDic u) : VSub (hd P H) (hd P (upd H d (.frz od u))) := hd_monoK (fun b o _ e => kp_lock h hu e) fun _ _ n _ => n
theorem EnvR.lock (r : EnvR K A own env σ H) (h : H d = some u) (hu : IsDic u) (n : ¬ hid A own d) : EnvR K A own env σ (upd H d (.frz od u)) where
  sh := fun i x hi => let ⟨v, h1, h2⟩ := r.sh i x hi; ⟨v, h1, h2.mono (.lock (P := hid A own) h hu)⟩
  ow := fun i x f hi hf => let ⟨a, h1, h2, h3⟩ := r.ow i x f hi hf; ⟨a, h1, h2, h3.mono (.lock (P := hid A own) h hu) fun o z => by rw [upd_ne (fun q => n (by rw [← q]; exact .inr ⟨_, h1⟩))]; exact z⟩
  no := r.no
  bo := r.bo
  ce := fun j x hi => let ⟨a, h1, h3⟩ := r.ce j x hi; ⟨a, h1, h3.mono (.lock (P := hid A own) h hu) fun o z => by rw [upd_ne (fun q => n (by rw [← q]; exact .inr ⟨_, h1⟩))]; exact z⟩
  cn := r.cn
  inj := r.inj
  sep := r.sep
  al := fun b hb => by rw [upd_ne (fun q => n (by rw [← q]; exact .inl hb))]; exact r.al b hb
  len := r.len
  nt := fun b hb xs z => r.nt b hb xs (by rw [upd_ne (fun q => n (by rw [← q]; exact hb))] at z; exact z)
theorem StpE.lock (h : H d = some u) (hu : IsDic u) (n : ¬ hid A own d) : StpE A own H own (upd H d (.frz od u)) where
  kp := fun b o _ e => kp_lock h hu e
  hi := fun b hb => upd_ne (fun q => n (by rw [← q]; exact .inl hb))
  ow := fun i a e => .inl ⟨i, e⟩
  th := fun b o e => (kp_lock h hu e).some
  wl := fun _ _ h => h
  fz := fun b o w e => (kp_lock h hu e).get fun z => z
  dr := fun _ _ h => h
end
/-! ### the walk -/
theorem keysK_rep {K : PySem.W.Frag} {H : Vw} : ∀ {ks : List D} {kk : List Key}, keysK ks = some kk → RepL K H ks (kk.map kV)
  | [], _, e => by cases e; exact .nil
  | .int i :: ks, _, e => by
    simp only [keysK] at e
    obtain ⟨k2, e2, e3⟩ := Option.map_eq_some_iff.mp e
    subst e3
    exact .cons (.int i) (keysK_rep e2)
  | .str i :: ks, _, e => by
    simp only [keysK] at e
    obtain ⟨k2, e2, e3⟩ := Option.map_eq_some_iff.mp e
    subst e3
    exact .cons (.str i) (keysK_rep e2)
  | .non :: _, _, e => by simp [keysK] at e
  | .bl _ :: _, _, e => by simp [keysK] at e
  | .ty _ :: _, _, e => by simp [keysK] at e
  | .tup _ :: _, _, e => by simp [keysK] at e
  | .kup _ :: _, _, e => by simp [keysK] at e
  | .lst _ :: _, _, e => by simp [keysK] at e
  | .flz _ :: _, _, e => by simp [keysK] at e
  | .dic _ _ :: _, _, e => by simp [keysK] at e
  | .ins _ _ _ :: _, _, e => by simp [keysK] at e
theorem keysT_get {ks : List D} {kk : List (List Key)} (h : keysT ks = some kk) : ks.length = kk.length ∧ ∀ (i : Nat) (d : D) (k : List Key), ks[i]? = some d → kk[i]? = some k → ∃ xs, d = .tup xs ∧ keysK xs = some k := by
  induction ks generalizing kk with
  | nil => cases h; exact ⟨rfl, fun i d k e _ => by simp at e⟩
  | cons d0 ks ih =>
    cases d0 <;> simp only [keysT] at h <;> try cases h
    rename_i xs
    split at h
    · rename_i k0 e0
      obtain ⟨k2, e2, e3⟩ := Option.map_eq_some_iff.mp h
      subst e3
      obtain ⟨h1, h2⟩ := ih e2
      refine ⟨by simp [h1], fun i d k q1 q2 => ?_⟩
      cases i with
      | zero =>
        simp at q1 q2
        subst q1 q2
        exact ⟨xs, rfl, e0⟩
      | succ i => exact h2 i d k (by simpa using q1) (by simpa using q2)
    · cases h
theorem wk_keys {K : PySem.W.Frag} {d : Addr} {od : PySem.Obj} {ks : List D} {kk : List Key} {vs : List V} (h1 : keysK ks = some kk) (h2 : kk.length = vs.length) : Wk K (Itk d od (kk.zip vs)) ks (fun _ H => H d = some (.frz od (.dK (kk.zip vs)))) := by
  have hl : (kk.zip vs).length = ks.length := by rw [List.length_zip, ← h2, Nat.min_self, (keysK_rep (K := K) (H := ⟨fun _ => none, fun _ => none⟩) h1).length, List.length_map]
  exact {
    mono := fun Hv H Hv' H' h _ z => z _ _ _ h
    stop := fun Hv H h s => ⟨h, by rw [hl]; exact Nat.le_refl _⟩
    go := fun Hv H i h s hi => ⟨h, by rw [hl]; exact hi⟩
    yld := fun Hv H i x H' dd h s _ ⟨e, k, v, y, ex⟩ hd1 => by
      subst e
      obtain ⟨z1, z2⟩ := List.getElem?_zip_eq_some.mp y
      obtain ⟨w, w1, w2⟩ := (keysK_rep (K := K) (H := Hv) h1).get hd1
      rw [List.getElem?_map, z1] at w1
      cases w1
      exact .inl ⟨rfl, by rw [ex]; exact w2⟩ }
theorem wk_keysT {K : PySem.W.Frag} {d : Addr} {od : PySem.Obj} {ks : List D} {kk : List (List Key)} {vs : List V} (h1 : keysT ks = some kk) (h2 : kk.length = vs.length) : Wk K (Itkt d od (kk.zip vs)) ks (fun _ H => H d = some (.frz od (.dT (kk.zip vs)))) := by
  obtain ⟨hl1, hg⟩ := keysT_get h1
  have hl : (kk.zip vs).length = ks.length := by rw [List.length_zip, ← h2, Nat.min_self, hl1]
  exact {
    mono := fun Hv H Hv' H' h _ z => z _ _ _ h
    stop := fun Hv H h s => ⟨h, by rw [hl]; exact Nat.le_refl _⟩
    go := fun Hv H i h s hi => ⟨h, by rw [hl]; exact hi⟩
    yld := fun Hv H i x H' dd h s nt ⟨e, k, v, q, y, ex, hq⟩ hd1 => by
      subst e
      obtain ⟨z1, z2⟩ := List.getElem?_zip_eq_some.mp y
      obtain ⟨xs, rfl, hx⟩ := hg i dd k hd1 z1
      exact .inl ⟨rfl, by rw [ex]; exact .tup (nt _ _ hq) (keysK_rep hx)⟩ }
/-- over a list, a tuple, the keys of a dict -/
def iSqD (f : EF) : IF := fun env => match f env with
  | some (.lst xs, _, e) => some (xs, e)
  | some (.flz xs, _, e) => some (xs, e)
  | some (.dic ks _, _, e) => some (ks, e)
  | some (d, _, e) => match d.asTup with
    | some xs => some (xs, e)
    | none => none
  | _ => none
section
variable {X : Cx}
theorem si_sqD {f : EF} {tg iter : Expr} (hf : SE X f iter) : SI X (iSqD f) tg iter := by
  refine ⟨?_⟩
  intro A own env σ H ds env' r h R k
  by_cases hd : ∃ ks xs fr e1, f env = some (.dic ks xs, fr, e1)
  · obtain ⟨ks, xs, fr, e1, h1⟩ := hd
    unfold iSqD at h
    rw [h1] at h
    cases h
    refine ⟨_, pi_keys pe_w, we_ghost (hf A own env σ H _ fr env' r h1 _ fun v H1 own1 s1 R1 => ?_)⟩
    have rp := R1.rp
    cases rp with
    | @dicK a kk vs _ _ g1 g2 g3 g4 g5 =>
      rcases g3 with g3 | ⟨od, g3⟩
      · obtain ⟨n, z⟩ := hd_some.mp g3
        exact .inr ⟨a, _, z, trivial, fun od => ⟨a, od, rfl, .inl ⟨_, upd_same, k _ _ own1 _ (s1.trans (.lock z trivial n)) (R1.en.lock z trivial n) (wk_keys g1 g2) upd_same⟩⟩⟩
      · obtain ⟨n, z⟩ := hd_some.mp g3
        exact .inl ⟨a, od, rfl, .inl ⟨_, z, k _ _ own1 _ s1 R1.en (wk_keys g1 g2) z⟩⟩
    | @dicT a kk vs _ _ g1 g2 g3 g4 g5 =>
      rcases g3 with g3 | ⟨od, g3⟩
      · obtain ⟨n, z⟩ := hd_some.mp g3
        exact .inr ⟨a, _, z, trivial, fun od => ⟨a, od, rfl, .inr ⟨_, upd_same, k _ _ own1 _ (s1.trans (.lock z trivial n)) (R1.en.lock z trivial n) (wk_keysT g1 g2) upd_same⟩⟩⟩
      · obtain ⟨n, z⟩ := hd_some.mp g3
        exact .inl ⟨a, od, rfl, .inr ⟨_, z, k _ _ own1 _ s1 R1.en (wk_keysT g1 g2) z⟩⟩
  · refine si_sq hf A own env σ H ds env' r ?_ R k
    rw [← h]
    unfold iSq iSqD
    cases q : f env with
    | none => rfl
    | some p =>
      obtain ⟨d, fr, e1⟩ := p
      cases d <;> first | rfl | exact absurd ⟨_, _, _, _, q⟩ hd
end
section
variable {X : Cx}
/-- one reading or the other -/
def sAlt (f g : SF) : SF := fun env => match f env with
  | some r => some r
  | none => g env
theorem ss_alt {f g : SF} {st : Stmt} (hf : SS X f st) (hg : SS X g st) : SS X (sAlt f g) st := by
  refine ⟨?_⟩
  intro A own env σ H out r h D k
  unfold sAlt at h
  split at h
  · rename_i z h1
    cases h
    exact hf A own env σ H _ r h1 D k
  · exact hg A own env σ H out r h D k
end
end Dz
/-! DzSort: sorted of a list of tuples whose first items are texts, no two of them alike. -/
namespace Dz
open PySem PyProof.Rows L2
/-- v is a tuple whose first item is the text k -/
def FstTx (h : Heap) (v : Value) (k : Str) : Prop := ∃ (a : Addr) (o : PySem.Obj) (xs : Array Value) (n : Nat) (t : Tok), v = .ref a ∧ h.get? a = some o ∧ o.cls = .type "tuple" ∧ o.data = .seq xs n ∧ xs[0]? = some (.str k t)
theorem FstTx.keeps {h h' : Heap} {v : Value} {k : Str} (x : FstTx h v k) (q : ∀ b o, h.get? b = some o → o.cls = .type "tuple" → h'.get? b = some o) : FstTx h' v k := by
  obtain ⟨a, o, xs, n, t, e, ho, hc, hd, hx⟩ := x
  exact ⟨a, o, xs, n, t, e, q a o ho hc, hc, hd, hx⟩
def ltS (x y : Str) : Bool := decide (x.cps.toList < y.cps.toList)
theorem ltS_swo {α : Type} (k : α → Str) : SrtO.Swo fun x y => ltS (k x) (k y) := by
  refine ⟨fun x y h => ?_, fun x y z h1 h2 => ?_⟩
  · have a := of_decide_eq_true h
    exact decide_eq_false (List.lt_asymm a)
  · have a := of_decide_eq_false h1
    have b := of_decide_eq_false h2
    refine decide_eq_false ?_
    rw [List.not_lt] at a b ⊢
    exact List.le_trans a b
theorem firsts_tx {h : Heap} {k : Value → Str} : ∀ {vs : List Value}, (∀ v ∈ vs, FstTx h v (k v)) → ∃ fs, PySem.W.KatTups h vs fs ∧ fs.length = vs.length ∧ ∀ f ∈ fs, ∃ x t, f = Value.str x t
  | [], _ => ⟨[], PySem.W.KatTups.nil, rfl, fun f hf => nomatch hf⟩
  | v :: vs, h1 => by
    obtain ⟨a, o, xs, n, t, e, ho, hc, hd, hx⟩ := h1 v List.mem_cons_self
    obtain ⟨fs, k1, hl, hi⟩ := firsts_tx (vs := vs) fun u hu => h1 u (List.mem_cons_of_mem _ hu)
    subst e
    refine ⟨_ :: fs, PySem.W.KatTups.cons ho hc hd hx k1, by rw [List.length_cons, List.length_cons, hl], fun f hf => ?_⟩
    rcases List.mem_cons.mp hf with rfl | hf
    · exact ⟨_, t, rfl⟩
    · exact hi f hf
section
variable {prog : Program} {w : World} {A : Around} {E : Value → Shared → Prop} {s : Shared}
theorem kat_same {b fin : Bool} {Q : Bool → Shared → Prop} (h : Q fin s) : ∀ (l : List Value) (i : Nat), PySem.W.KatLex prog w A b fin Q (l.zip l) i s
  | [], i => PySem.W.kat_nil h
  | v :: l, i => PySem.W.kat_cons (SeqAt.EqAt.same v prog w _ _ (PySem.W.kat_yes (kat_same h l (i + 1))))
theorem tx_cmp {vs : List Value} {k : Value → Str} (hp : ∀ v ∈ vs, FstTx s.heap v (k v)) (hd : ∀ v ∈ vs, ∀ u ∈ vs, k v = k u → v = u) : SrtO.Cmp prog w A s (tuples' true) (fun p => p.1 ∈ vs) (SrtO.lt2 fun v u => ltS (k v) (k u)) := by
  intro p q hm hm'
  have h1 := hp _ hm
  have h2 := hp _ hm'
  have h3 := hd _ hm _ hm'
  show wpAny (model prog w) A (keyLt' (tuples' true) p.1 q.1) (fun r s' => s' = s ∧ r = ltS (k p.1) (k q.1)) (fun _ _ => False) s
  generalize p.1 = v at h1 h3 ⊢
  generalize q.1 = u at h2 h3 ⊢
  by_cases hk : k v = k u
  · have e := h3 hk
    subst e
    obtain ⟨a, o, xs, n, t, rfl, ho, hc, hdat, hx⟩ := h1
    refine PySem.W.kat_lt ho hdat ho hdat (kat_same ⟨rfl, ?_⟩ _ _)
    have z : ltS (k (Value.ref a)) (k (Value.ref a)) = false := (ltS_swo (fun x : Value => k x)).refl (Value.ref a)
    rw [z]
    exact decide_eq_false (Nat.lt_irrefl _)
  · generalize k v = x at h1 hk ⊢
    generalize k u = y at h2 hk ⊢
    obtain ⟨a, o, xs, n, t, rfl, ho, hc, hdat, hx⟩ := h1
    obtain ⟨a', o', xs', n', t', rfl, ho', hc', hdat', hx'⟩ := h2
    refine PySem.W.kat_lt ho hdat ho' hdat' ?_
    obtain ⟨l, hl⟩ : ∃ l, xs.toList = .str x t :: l := by
      cases hz : xs.toList with
      | nil =>
        rw [← Array.getElem?_toList, hz] at hx
        simp at hx
      | cons b l =>
        rw [← Array.getElem?_toList, hz] at hx
        simp at hx
        rw [hx]
        exact ⟨l, rfl⟩
    obtain ⟨l', hl'⟩ : ∃ l, xs'.toList = .str y t' :: l := by
      cases hz : xs'.toList with
      | nil =>
        rw [← Array.getElem?_toList, hz] at hx'
        simp at hx'
      | cons b l =>
        rw [← Array.getElem?_toList, hz] at hx'
        simp at hx'
        rw [hx']
        exact ⟨l, rfl⟩
    rw [hl, hl', List.zip_cons_cons]
    refine PySem.W.kat_cons (SeqAt.EqAt.str_str x t y t' prog w _ _ ?_)
    refine PySem.W.kat_go (fun e1 => ?_) (fun e1 => ?_)
    · exact absurd (eq_of_beq e1) hk
    · exact PySem.W.kat_no (oneLt_str ⟨rfl, rfl⟩)
theorem tx_sortable {a : Addr} {vs : List Value} {k : Value → Str} (h0 : 0 < vs.length) (hp : ∀ v ∈ vs, FstTx s.heap v (k v)) (hd : ∀ v ∈ vs, ∀ u ∈ vs, k v = k u → v = u) (ha : ∀ o, s.heap.get? a = some o → o.cls ≠ .type "tuple") : SrtO.SortableO prog w A s a vs fun v u => ltS (k v) (k u) := by
  intro h' keep
  have hp' : ∀ v ∈ vs, FstTx h' v (k v) := fun v hm => (hp v hm).keeps fun b o e c => keep b o (fun z => by subst z; exact ha o e c) e
  obtain ⟨fs, h1, h2, h3⟩ := firsts_tx hp'
  refine ⟨tuples' true, fun Q E hq => ?_, tx_cmp hp' hd⟩
  refine PySem.W.kat_kind (T := .type "str") h1 (by omega) (fun f hm => ?_) (by rfl) ?_
  · obtain ⟨x, t, rfl⟩ := h3 f hm
    exact PySem.W.Looks.now
  · have e : (Value.type "str" != Value.type "tuple") = true := by first | decide +kernel | rfl | decide
    rw [e]
    exact hq
theorem sorted_tx {l : Addr} {vs : List Value} {k : Value → Str} {Q : Value → Shared → Prop} (hl : s.heap.IsList l vs.toArray) (hz : vs.length ≤ sizeLine) (hp : ∀ v ∈ vs, FstTx s.heap v (k v)) (hd : ∀ v ∈ vs, ∀ u ∈ vs, k v = k u → v = u)
    (h : ∀ (h' : Heap) (d : Addr) (out : List Value), SrtO.Srtd (fun v u => ltS (k v) (k u)) out → SrtO.Stb (fun v u => ltS (k v) (k u)) out vs → (∀ b o, s.heap.get? b = some o → h'.get? b = some o) → s.heap.objs.size ≤ d → (∃ n, h'.get? d = some (seqObj "list" out.toArray n)) → Q (.ref d) { s with heap := h' }) :
    wpAny (model prog w) A (call (.builtin "sorted") [.ref l]) Q E s := by
  refine SrtO.sorted_ord (ltS_swo k) hl hz (fun h2 h₁ a ha kk => ?_) fun out hs hb => ?_
  · refine tx_sortable (s := { s with heap := h₁ }) (by omega) (fun v hm => (hp v hm).keeps fun b o e _ => (kk b o e).2) hd fun o e => ?_
    have e' := e.symm.trans ha
    cases e'
    intro c
    exact absurd (Value.type.inj c) (by decide)
  · exact h _ _ out hs hb (fun b o e => sortedAll_old e) (Nat.le_succ _) (sortedAll_at s.heap vs out.toArray)
end
/-! ### by values -/
/-- the first text of the tuple at v -/
def kV0 (H : Hp) : V → Str
  | .ref a => match H a with
    | some (.tup (.str s :: _)) => s
    | _ => ⟨#[]⟩
  | _ => ⟨#[]⟩
theorem kV0_at {H : Hp} {a : Addr} {s : Str} {more : List V} (h : H a = some (.tup (.str s :: more))) : kV0 H (.ref a) = s := by
  show (match H a with
    | some (.tup (.str s :: _)) => s
    | _ => ⟨#[]⟩) = s
  rw [h]
def rSortT (K : PySem.W.Frag) : List V → Hp → VK → Prop := fun vs H Q => ∃ (a : Addr) (xs : List V), vs = [V.ref a] ∧ SqL K H a xs ∧ (∀ x ∈ xs, ∃ t s more, x = V.ref t ∧ H t = some (.tup (.str s :: more))) ∧ (∀ x ∈ xs, ∀ y ∈ xs, kV0 H x = kV0 H y → x = y) ∧
  ∀ ys p, SrtO.Srtd (fun x y => ltS (kV0 H x) (kV0 H y)) ys → ys.Perm xs → H p = none → Q (.ref p) (upd H p (.lst ys))
section
variable {X : Cx}
theorem cr_sortT : CallR X (.builtin "sorted") (rSortT X.K) := by
  intro pins s σ H vs us Q I r h
  obtain ⟨a, xs, rfl, hs, hx, hinj, q⟩ := h
  obtain ⟨its, rv, hl, hz⟩ := I.list hs
  obtain ⟨u, rfl, ru⟩ := vals1 r
  obtain rfl : u = Value.ref a := ru
  obtain ⟨e1, e2⟩ := refs_back rv fun x m => by
    obtain ⟨t, s, more, e, _⟩ := hx x m
    exact ⟨t, e⟩
  refine sorted_tx (k := fun u => kV0 H (backV u)) hl.isList (by rw [← rv.length]; exact hz) (fun v hv => ?_) (fun v hv u hu hk => ?_) fun h' d out h1 h2 kp hd hn => ?_
  · obtain ⟨t, rfl⟩ := e2 v hv
    have hm : V.ref t ∈ xs := by rw [e1]; exact List.mem_map.mpr ⟨_, hv, rfl⟩
    obtain ⟨t', s', more, e, ht⟩ := hx _ hm
    cases e
    obtain ⟨_, its2, r2, o, ho, hc, n, hd⟩ := I.hok _ _ ht
    have hk : kV0 H (V.ref t) = s' := kV0_at ht
    cases r2 with
    | cons r3 r4 =>
      obtain ⟨tk, rfl⟩ := r3
      refine ⟨t, o, _, n, tk, rfl, ho, hc, hd, ?_⟩
      show _ = some (Value.str (kV0 H (V.ref t)) tk)
      rw [hk]
      simp
  · obtain ⟨t, rfl⟩ := e2 v hv
    obtain ⟨t', rfl⟩ := e2 u hu
    have m1 : V.ref t ∈ xs := by rw [e1]; exact List.mem_map.mpr ⟨_, hv, rfl⟩
    have m2 : V.ref t' ∈ xs := by rw [e1]; exact List.mem_map.mpr ⟨_, hu, rfl⟩
    have := hinj _ m1 _ m2 hk
    cases this
    rfl
  · have h3 : ∀ u ∈ out, ∃ a, u = Value.ref a := fun u hu => e2 u (h2.perm.mem_iff.mp hu)
    obtain ⟨n, hn⟩ := hn
    have hb : (out.map backV).Perm xs := by
      rw [e1]
      exact h2.perm.map backV
    refine ⟨.ref d, upd H d (.lst (out.map backV)), I.laid (t' := s.toks) kp hd ⟨?_, out, n, vals_back h3, hn⟩, rfl, q _ d (SrtO.srtd_map h1) hb (I.hok.fresh hd)⟩
    rw [hb.length_eq]
    exact hz
end
/-! ### over plain data -/
def fstS : D → Option Str
  | .tup (.str s :: _) => some s
  | _ => none
def keyD (d : D) : Str := (fstS d).getD ⟨#[]⟩
def insD (x : D) : List D → List D
  | [] => [x]
  | y :: l => if ltS (keyD x) (keyD y) then x :: y :: l else y :: insD x l
def sortD : List D → List D
  | [] => []
  | x :: l => insD x (sortD l)
/-- the same of pairs -/
def insP (x : D × V) : List (D × V) → List (D × V)
  | [] => [x]
  | y :: l => if ltS (keyD x.1) (keyD y.1) then x :: y :: l else y :: insP x l
def sortP : List (D × V) → List (D × V)
  | [] => []
  | x :: l => insP x (sortP l)
theorem insP_fst (x : D × V) : ∀ l : List (D × V), (insP x l).map (·.1) = insD x.1 (l.map (·.1))
  | [] => rfl
  | y :: l => by
    unfold insP
    rw [List.map_cons]
    unfold insD
    split
    · rfl
    · rw [List.map_cons, insP_fst x l]
theorem sortP_fst : ∀ l : List (D × V), (sortP l).map (·.1) = sortD (l.map (·.1))
  | [] => rfl
  | x :: l => by
    unfold sortP
    rw [insP_fst, sortP_fst l]
    rfl
theorem insP_perm (x : D × V) : ∀ l : List (D × V), (insP x l).Perm (x :: l)
  | [] => List.Perm.refl _
  | y :: l => by
    unfold insP
    split
    · exact List.Perm.refl _
    · exact ((insP_perm x l).cons y).trans (List.Perm.swap x y l)
theorem sortP_perm : ∀ l : List (D × V), (sortP l).Perm l
  | [] => List.Perm.refl _
  | x :: l => (insP_perm x (sortP l)).trans ((sortP_perm l).cons x)
theorem insP_srtd (x : D × V) : ∀ {l : List (D × V)}, SrtO.Srtd (fun a b : D × V => ltS (keyD a.1) (keyD b.1)) l → SrtO.Srtd (fun a b : D × V => ltS (keyD a.1) (keyD b.1)) (insP x l)
  | [], _ => List.pairwise_singleton _ _
  | y :: l, h => by
    have O := ltS_swo (fun a : D × V => keyD a.1)
    unfold insP
    split
    · rename_i hxy
      refine List.pairwise_cons.mpr ⟨fun z hz => ?_, h⟩
      have a1 := O.lt_all h hxy z hz
      exact O.asym _ _ a1
    · rename_i hxy
      refine List.pairwise_cons.mpr ⟨fun z hz => ?_, insP_srtd x (List.pairwise_cons.mp h).2⟩
      rcases List.mem_cons.mp ((insP_perm x l).mem_iff.mp hz) with e | hz
      · rw [e]
        simpa using hxy
      · exact SrtO.srtd_head h z hz
theorem sortP_srtd : ∀ l : List (D × V), SrtO.Srtd (fun a b : D × V => ltS (keyD a.1) (keyD b.1)) (sortP l)
  | [] => List.Pairwise.nil
  | x :: l => insP_srtd x (sortP_srtd l)
/-- sorted by keys that differ: one list -/
theorem srtd_uniq {α : Type} {k : α → Str} : ∀ {l m : List α}, SrtO.Srtd (fun x y => ltS (k x) (k y)) l → SrtO.Srtd (fun x y => ltS (k x) (k y)) m → l.Perm m → (∀ x ∈ l, ∀ y ∈ l, k x = k y → x = y) → l = m
  | [], m, _, _, p, _ => (List.Perm.eq_nil p.symm).symm
  | x :: l, [], _, _, p, _ => absurd p.length_eq (by simp)
  | x :: l, y :: m, hl, hm, p, hk => by
    have h1 : ltS (k x) (k y) = false := by
      rcases List.mem_cons.mp (p.mem_iff.mp (List.mem_cons_self (a := x) (l := l))) with e | hx
      · rw [e]
        exact (ltS_swo k).refl y
      · exact SrtO.srtd_head hm x hx
    have hy : y ∈ x :: l := p.mem_iff.mpr List.mem_cons_self
    have h2 : ltS (k y) (k x) = false := by
      rcases List.mem_cons.mp hy with e | hy
      · rw [e]
        exact (ltS_swo k).refl x
      · exact SrtO.srtd_head hl y hy
    have e : k x = k y := by
      have a := of_decide_eq_false h1
      have b := of_decide_eq_false h2
      rw [List.not_lt] at a b
      have c := List.le_antisymm b a
      have c2 : (k x).cps = (k y).cps := Array.toList_inj.mp c
      cases hkx : k x
      cases hky : k y
      rw [hkx, hky] at c2
      exact congrArg Str.mk c2
    have e := hk x List.mem_cons_self y hy e
    subst e
    rw [srtd_uniq (List.pairwise_cons.mp hl).2 (List.pairwise_cons.mp hm).2 p.cons_inv fun a ha b hb => hk a (List.mem_cons_of_mem _ ha) b (List.mem_cons_of_mem _ hb)]
def noDup : List Str → Bool
  | [] => true
  | x :: l => !l.any (fun y => decide (y = x)) && noDup l
def pSortT : PrN := fun ds => match ds with
  | [d] => match d with
    | .lst xs => if xs.all (fun x => (fstS x).isSome) && noDup (xs.map keyD) then some (.lst (sortD xs), true) else none
    | _ => none
  | _ => none
theorem fstS_rep {K : PySem.W.Frag} {Hh : Vw} {H : Hp} {d : D} {v : V} (h : (fstS d).isSome = true) (r : Rep K Hh d v) (e : Sub Hh H) : ∃ a more, v = .ref a ∧ H a = some (.tup (.str (keyD d) :: more)) := by
  unfold fstS at h
  split at h
  · rename_i s l
    cases r with
    | tup h1 r1 =>
      cases r1 with
      | cons r2 r3 =>
        cases r2
        exact ⟨_, _, rfl, e _ _ h1⟩
  · cases h
theorem noDup_get : ∀ {l : List Str}, noDup l = true → ∀ {i j : Nat} {x : Str}, l[i]? = some x → l[j]? = some x → i = j
  | [], _, i, j, x, e, _ => by simp at e
  | y :: l, h, i, j, x, e1, e2 => by
    unfold noDup at h
    obtain ⟨h1, h2⟩ := Bool.and_eq_true_iff.mp h
    have h1 : ∀ z ∈ l, z ≠ y := fun z hz e => by
      have : l.any (fun w => decide (w = y)) = true := List.any_eq_true.mpr ⟨z, hz, decide_eq_true e⟩
      rw [this] at h1
      cases h1
    cases i with
    | zero =>
      cases j with
      | zero => rfl
      | succ j =>
        simp at e1 e2
        exact absurd e1.symm (h1 x (List.mem_of_getElem? e2))
    | succ i =>
      cases j with
      | zero =>
        simp at e1 e2
        exact absurd e2.symm (h1 x (List.mem_of_getElem? e1))
      | succ j => exact congrArg Nat.succ (noDup_get h2 (i := i) (j := j) (x := x) (by simpa using e1) (by simpa using e2))
theorem RepL.pairs {K : PySem.W.Frag} {H : Vw} : ∀ {ds : List D} {vs : List V}, RepL K H ds vs → ∀ p ∈ ds.zip vs, Rep K H p.1 p.2
  | _, _, .nil, p, hp => by simp at hp
  | _, _, .cons h r, p, hp => by
    rcases List.mem_cons.mp hp with e | hp
    · rw [e]; exact h
    · exact RepL.pairs r p hp
theorem RepL.of_pairs {K : PySem.W.Frag} {H : Vw} : ∀ {l : List (D × V)}, (∀ p ∈ l, Rep K H p.1 p.2) → RepL K H (l.map (·.1)) (l.map (·.2))
  | [], _ => .nil
  | p :: l, h => .cons (h p List.mem_cons_self) (RepL.of_pairs fun q hq => h q (List.mem_cons_of_mem _ hq))
section
variable {X : Cx}
theorem pn_sortT : PN X (rSortT X.K) pSortT := by
  intro Hh H ds vs d fr Q e vx q g
  unfold pSortT at q
  split at q
  · split at q
    · rename_i xs
      split at q
      · rename_i hc
        obtain ⟨c1, c2⟩ := Bool.and_eq_true_iff.mp hc
        cases q
        cases vx with
        | cons v1 v2 =>
          cases v2
          obtain ⟨a, us, rfl, hl, rr⟩ := v1.lst e
          have at1 : ∀ (i : Nat) (v : V), us[i]? = some v → ∃ x, xs[i]? = some x ∧ Rep X.K Hh x v ∧ ∃ t more, v = .ref t ∧ H t = some (.tup (.str (keyD x) :: more)) ∧ kV0 H v = keyD x := fun i v hv => by
            obtain ⟨x, h1, h2⟩ := rr.get' hv
            have hs : (fstS x).isSome = true := List.all_eq_true.mp c1 x (List.mem_of_getElem? h1)
            obtain ⟨t, more, rfl, ht⟩ := fstS_rep hs h2 e
            exact ⟨x, h1, h2, t, more, rfl, ht, kV0_at ht⟩
          refine ⟨a, us, rfl, .inl (.inl hl), fun v hv => ?_, fun v hv u hu hk => ?_, fun ys p hs hp hn => ?_⟩
          · obtain ⟨i, hi⟩ := List.getElem?_of_mem hv
            obtain ⟨x, _, _, t, more, h1, h2, _⟩ := at1 i v hi
            exact ⟨t, _, more, h1, h2⟩
          · obtain ⟨i, hi⟩ := List.getElem?_of_mem hv
            obtain ⟨j, hj⟩ := List.getElem?_of_mem hu
            obtain ⟨x, x1, _, _, _, _, _, x2⟩ := at1 i v hi
            obtain ⟨y, y1, _, _, _, _, _, y2⟩ := at1 j u hj
            rw [x2, y2] at hk
            have hij : i = j := noDup_get c2 (x := keyD x) (by rw [List.getElem?_map, x1]; rfl) (by rw [List.getElem?_map, y1, hk]; rfl)
            rw [hij, hj] at hi
            cases hi
            rfl
          · -- the pairs, sorted alike
            have hlen := rr.length
            have hz1 : (xs.zip us).map (·.1) = xs := List.map_fst_zip (by rw [hlen]; exact Nat.le_refl _)
            have hz2 : (xs.zip us).map (·.2) = us := List.map_snd_zip (by rw [hlen]; exact Nat.le_refl _)
            have hkey : ∀ z ∈ xs.zip us, kV0 H z.2 = keyD z.1 := fun z hz => by
              obtain ⟨i, hi⟩ := List.getElem?_of_mem hz
              obtain ⟨z1, z2⟩ := List.getElem?_zip_eq_some.mp hi
              obtain ⟨x, x1, _, _, _, _, _, x2⟩ := at1 i z.2 z2
              rw [z1] at x1
              cases x1
              exact x2
            have hp1 := sortP_perm (xs.zip us)
            have hs1 : SrtO.Srtd (fun x y => ltS (kV0 H x) (kV0 H y)) ((sortP (xs.zip us)).map (·.2)) := by
              refine SrtO.srtd_map (f := fun z : D × V => z.2) (lt := fun x y => ltS (kV0 H x) (kV0 H y)) ?_
              refine (sortP_srtd (xs.zip us)).imp_of_mem fun {y z} hy hz h => ?_
              show ltS (kV0 H z.2) (kV0 H y.2) = false
              rw [hkey y (hp1.mem_iff.mp hy), hkey z (hp1.mem_iff.mp hz)]
              exact h
            have hp2 : ys.Perm ((sortP (xs.zip us)).map (·.2)) := by
              have := hp1.map (·.2)
              rw [hz2] at this
              exact hp.trans this.symm
            have heq := srtd_uniq hs hs1 hp2 fun v hv u hu hk => by
              obtain ⟨i, hi⟩ := List.getElem?_of_mem (hp.mem_iff.mp hv)
              obtain ⟨j, hj⟩ := List.getElem?_of_mem (hp.mem_iff.mp hu)
              obtain ⟨x, x1, _, _, _, _, _, x2⟩ := at1 i v hi
              obtain ⟨y, y1, _, _, _, _, _, y2⟩ := at1 j u hj
              rw [x2, y2] at hk
              have hij : i = j := noDup_get c2 (x := keyD x) (by rw [List.getElem?_map, x1]; rfl) (by rw [List.getElem?_map, y1, hk]; rfl)
              rw [hij, hj] at hi
              cases hi
              rfl
            subst heq
            have hd1 : (sortP (xs.zip us)).map (·.1) = sortD xs := by rw [sortP_fst, hz1]
            refine g.new p _ hn (.lst ?_)
            rw [← hd1]
            exact RepL.of_pairs fun z hz => RepL.pairs rr z (hp1.mem_iff.mp hz)
      · cases q
    · cases q
  · cases q
end
end Dz
/-! DzWords: the rules with their side conditions filled. -/
namespace Dz
open PySem PyProof.Rows L2
/-- what is known of a def, over every base -/
structure CalF (P : Program) (w : World) (K : PySem.W.Frag) (mg : Str → Option Value) (base : Heap) (k : Nat) (f : Addr) (n : Nat) (run : Run) : Prop where
  ex : ∃ fd ps, FnOk P w K mg base CX0 k f fd ps (spE K n run) ∧ Binds K fd ps [] ∧ ps.length = n
  kp : PySem.W.keepIn K (.ref f) = true
  ok : ∀ st args d st' args', run st args = some (d, st', args') → args'.map (·.2) = args.map (·.2)
theorem CalF.cal {X : Cx} {k : Nat} {f : Addr} {n : Nat} {run : Run} (c : CalF X.prog X.w X.K X.mg X.base k f n run) : Cal X k f n run := ⟨c.ex, c.kp, c.ok⟩
theorem fins_map {e : En} : ∀ {args : List Arg} {i : Nat} {l : List Arg}, fins e args i = some l → l.map (·.2) = args.map (·.2)
  | [], _, _, h => by cases h; rfl
  | (d0, .sh) :: r, k, l, h => by
    unfold fins at h
    split at h
    · rename_i l2 h2
      cases h
      rw [List.map_cons, List.map_cons, fins_map h2]
    · cases h
  | (d0, .ow) :: r, k, l, h => by cases h
  | (d0, .bo) :: r, k, l, h => by
    unfold fins at h
    split at h
    · split at h
      · rename_i l2 h2
        cases h
        rw [List.map_cons, List.map_cons, fins_map h2]
      · cases h
    · cases h
theorem runB_ok {n : Nat} {b : SF} : ∀ st args d st' args', runB n b st args = some (d, st', args') → args'.map (·.2) = args.map (·.2) := fun st args d st' args' h => by
  unfold runB at h
  split at h
  · split at h
    · rename_i l h2
      cases h
      exact fins_map h2
    · cases h
  · split at h
    · rename_i l h2
      cases h
      exact fins_map h2
    · cases h
  · cases h
/-- THE RULE: a def whose body is b -/
theorem calF {P : Program} {w : World} {K : PySem.W.Frag} {mg : Str → Option Value} {base : Heap} {x qual : Str} {params : Arguments} {body : List Stmt} {scope : Scope} {f : Addr} {N ps : List Str} {k : Nat} {b : SF}
    (F : ∃ fd, FunD K x qual params body scope [] [] f fd) (S : FnScope N ps scope)
    (hbind : ∀ (kV doc pm : Value) (an : Option Addr) (cdv ct : Value) (us : List Value), us.length = ps.length → bindArgs (PySem.W.fnOf x qual params body scope .none kV doc pm an cdv ct) ⟨us, []⟩ = pure (ps.zip us))
    (hb : ∀ (cdv : Value) (A : Around) (outer : List Env) (s : Shared) (H : Hp) (E : XK), Room k (A.deeper (envOfC qual scope s.heap.objs.size f cdv)) → SB (cxOf CX0 P w K mg base N qual scope f cdv A outer s H E).nox b body) :
    CalF P w K mg base (k + 1) f ps.length (runB N.length b) := by
  obtain ⟨fd, F⟩ := F
  exact ⟨⟨fd, ps, fnE F S hb, F.bindsN hbind, rfl⟩, F.kp, runB_ok⟩
section
variable {X : Cx}
theorem ev (i : Nat) {x : Str} {pos : Pos} (hN : X.N[i]? = some x := by rfl) (hv : Vis X.env.scope x := by first | exact Or.inl rfl | exact Or.inr (Or.inl rfl) | exact Or.inr (Or.inr rfl)) (hd1 : (x == ("__debug__" : Str)) = false := by decide) (hcd : (x == ("__classdict__" : Str)) = false := by decide) : SE X (fVar i) (.Name x pos) := se_var hN hv hd1 hcd
theorem ov (i : Nat) {x : Str} {pos : Pos} (hN : X.N[i]? = some x := by rfl) (hv : Vis X.env.scope x := by first | exact Or.inl rfl | exact Or.inr (Or.inl rfl) | exact Or.inr (Or.inr rfl)) (hd1 : (x == ("__debug__" : Str)) = false := by decide) (hcd : (x == ("__classdict__" : Str)) = false := by decide) : SO X (oVar i) (.Name x pos) := so_var hN hv hd1 hcd
/-- an item that is not starred -/
def plainE : Expr → Bool
  | .Starred _ _ => false
  | _ => true
theorem star1 {e : Expr} {es : List Expr} {env : Env} (h : plainE e = true) : starEach (e :: es) env = (false, eval e env) :: starEach es env := by
  cases e <;> first | rfl | cases h
theorem star2 {e : Expr} {p : Pos} {es : List Expr} {env : Env} : starEach (.Starred e p :: es) env = (true, eval e env) :: starEach es env := rfl
theorem plain_any {pos : Pos} {env : Env} : ∀ {es : List Expr}, es.all plainE = true → (backTo pos (starEach es env)).any (·.1) = false
  | [], _ => rfl
  | e :: es, h => by
    rw [List.all_cons, Bool.and_eq_true] at h
    rw [star1 h.1]
    have := plain_any (pos := pos) (env := env) (es := es) h.2
    unfold backTo at this ⊢
    rw [List.map_cons, List.any_cons, this]
    rfl
theorem ac {f : EF} {g : AF} {e : Expr} {es : List Expr} (hf : SE X f e) (hg : SA X g es) (hs : plainE e = true := by rfl) : SA X (aCons f g) (e :: es) := sa_cons hf hg (star1 hs)
theorem acS {o : OF} {g : AF} {e : Expr} {p : Pos} {es : List Expr} (ho : SO X o e) (hg : SA X g es) : SA X (aStar o g) (.Starred e p :: es) := sa_star ho hg star2
theorem lc {f : OF} {g : LF} {e : Expr} {es : List Expr} (hf : SO X f e) (hg : SL X g es) (hs : plainE e = true := by rfl) : SL X (lCons f g) (e :: es) := sl_cons hf hg (star1 hs)
/-- operators -/
theorem e_add {f g : OF} {a b : Expr} {pos : Pos} (hf : SO X f a) (hg : SO X g b) : SE X (fOp2 pAdd f g) (.BinOp a .Add b pos) := se_bin op_addA p2_add hf hg
theorem e_sub {f g : OF} {a b : Expr} {pos : Pos} (hf : SO X f a) (hg : SO X g b) : SE X (fOp2 pSub f g) (.BinOp a .Sub b pos) := se_bin op_sub p2_sub hf hg
theorem e_mul {f g : OF} {a b : Expr} {pos : Pos} (hf : SO X f a) (hg : SO X g b) : SE X (fOp2 pMul f g) (.BinOp a .Mult b pos) := se_bin op_mul p2_mul hf hg
theorem e_fdiv {f g : OF} {a b : Expr} {pos : Pos} (hf : SO X f a) (hg : SO X g b) : SE X (fOp2 pFdiv f g) (.BinOp a .FloorDiv b pos) := se_bin op_fdiv p2_fdiv hf hg
theorem e_mod {f g : OF} {a b : Expr} {pos : Pos} (hf : SO X f a) (hg : SO X g b) : SE X (fOp2 pMod f g) (.BinOp a .Mod b pos) := se_bin op_mod p2_mod hf hg
theorem e_pow {f g : OF} {a b : Expr} {pos : Pos} (hf : SO X f a) (hg : SO X g b) : SE X (fOp2 pPow f g) (.BinOp a .Pow b pos) := se_bin op_pow p2_pow hf hg
theorem e_ix {f g : OF} {a b : Expr} {pos : Pos} (hf : SO X f a) (hg : SO X g b) (hs : PlainIx b := by intro _ _; rfl) : SE X (fOp2 pIx f g) (.Subscript a b pos) := se_ix ix_A p2_ix hf hg hs
theorem room65 {k : Nat} {A : Around} (r : Room (k + 1) A) : A.units + 65 < cLine := by have := r.un; omega
theorem room1 {k : Nat} {A : Around} (r : Room (k + 1) A) : A.units + 1 < cLine := by have := r.un; omega
def pIxD : Pr2 := por pIx pDGet
theorem e_ixD {k : Nat} (hr : Room (k + 1) X.A) {f g : OF} {a b : Expr} {pos : Pos} (hf : SO X f a) (hg : SO X g b) (hs : PlainIx b := by intro _ _; rfl) : SE X (fOp2 pIxD f g) (.Subscript a b pos) := se_ix (IxR.or ix_A (ix_dget (room1 hr))) (P2.or p2_ix p2_dget) hf hg hs
theorem e_tab {t : List (Str × D)} {x : Str} {a : Addr} {g : OF} {e : Expr} {p pos : Pos} (ht : TabOk X.K X.w a t) (hm : X.mg x = some (.ref a)) (hi : SO X g e) (hg : Gl X x := by rfl) (hd1 : (x == ("__debug__" : Str)) = false := by decide) (hs : PlainIx e := by intro _ _; rfl) : SE X (fTab t g) (.Subscript (.Name x p) e pos) := se_tab ht hg hm hd1 hi hs
theorem e_get2 {k : Nat} (hr : Room (k + 1) X.A) {o y z : OF} {e a b : Expr} {apos pos : Pos} (ho : SO X o e) (hy : SO X y a) (hz : SO X z b) (h1 : attributeBase e "get" X.env (eval e X.env) = eval e X.env := by rfl)
    (h2 : ((backTo pos (starEach [a, b] X.env)).all (fun x => !x.1) && (backToKw pos (keywordEach [] X.env)).all (fun x => x.1.isSome) && decide (([a, b] : List Expr).length + ([] : List Keyword).length + (if ([] : List Keyword).isEmpty then 0 else 1) < 30)) = true := by rfl)
    (h3 : (apos.endLine == pos.line) = true := by rfl) (h4 : backTo pos (starEach [a, b] X.env) = [(false, eval a X.env), (false, eval b X.env)] := by rfl) : SE X (fGet2 o y z) (.Call (.Attribute e "get" apos) [a, b] [] pos) := se_get2 (room1 hr) ho hy hz ⟨h1, h2, h3, h4⟩
theorem e_disp {ps : List (EF × EF)} {ks : List (Option Expr)} {vs : List Expr} {pos : Pos} (h : SJ2 X ps ks vs) (h0 : ps ≠ [] := by intro z; cases z) (h15 : ps.length ≤ 15 := by decide) : SE X (fDisp ps) (.Dict ks vs pos) := se_disp h h0 h15
/-- comparisons, as values (e_) and as tests (t_) -/
theorem e_eq {k : Nat} (hr : Room k X.A) {f g : OF} {a b : Expr} {pos : Pos} (hf : SO X f a) (hg : SO X g b) : SE X (fOp2 (pEqv false) f g) (.Compare a [.Eq] [b] pos) := se_cmp (op_eqD hr.units) p2_eq hf hg (nomark _)
theorem e_ne {k : Nat} (hr : Room k X.A) {f g : OF} {a b : Expr} {pos : Pos} (hf : SO X f a) (hg : SO X g b) : SE X (fOp2 (pEqv true) f g) (.Compare a [.NotEq] [b] pos) := se_cmp (op_neD hr.units) p2_ne hf hg (nomark _)
theorem e_lt {f g : OF} {a b : Expr} {pos : Pos} (hf : SO X f a) (hg : SO X g b) : SE X (fOp2 pLt f g) (.Compare a [.Lt] [b] pos) := se_cmp op_lt p2_lt hf hg (nomark _)
theorem e_le {f g : OF} {a b : Expr} {pos : Pos} (hf : SO X f a) (hg : SO X g b) : SE X (fOp2 pLe f g) (.Compare a [.LtE] [b] pos) := se_cmp op_le p2_le hf hg (nomark _)
theorem e_gt {f g : OF} {a b : Expr} {pos : Pos} (hf : SO X f a) (hg : SO X g b) : SE X (fOp2 pGt f g) (.Compare a [.Gt] [b] pos) := se_cmp op_gt p2_gt hf hg (nomark _)
theorem e_ge {f g : OF} {a b : Expr} {pos : Pos} (hf : SO X f a) (hg : SO X g b) : SE X (fOp2 pGe f g) (.Compare a [.GtE] [b] pos) := se_cmp op_ge p2_ge hf hg (nomark _)
def pIn : Pr2 := por (por (pInT false) (pInL false)) (pDIn false)
def pNotIn : Pr2 := por (por (pInT true) (pInL true)) (pDIn true)
theorem e_in {k : Nat} (hr : Room (k + 1) X.A) {f g : OF} {a b : Expr} {pos : Pos} (hf : SO X f a) (hg : SO X g b) (hm : behindInMarks .In b = false := by rfl) : SE X (fOp2 pIn f g) (.Compare a [.In] [b] pos) := se_cmp (OpR.or (OpR.or op_in_seq (op_inD (room65 hr))) (op_din (room1 hr))) (P2.or (P2.or (p2_inT false) p2_inL) (p2_din false)) hf hg hm
theorem e_notin {k : Nat} (hr : Room (k + 1) X.A) {f g : OF} {a b : Expr} {pos : Pos} (hf : SO X f a) (hg : SO X g b) (hm : behindInMarks .NotIn b = false := by rfl) : SE X (fOp2 pNotIn f g) (.Compare a [.NotIn] [b] pos) := se_cmp (OpR.or (OpR.or op_notIn_seq (op_notInD (room65 hr))) (op_dnotin (room1 hr))) (P2.or (P2.or (p2_inT true) p2_ninL) (p2_din true)) hf hg hm
theorem t_eq {k : Nat} (hr : Room k X.A) {f g : OF} {a b : Expr} {pos : Pos} (hf : SO X f a) (hg : SO X g b) : ST X (tCp (fOp2 (pEqv false) f g)) (.Compare a [.Eq] [b] pos) := st_rel (op_eqD hr.units) p2_eq hf hg (nomark _)
theorem t_ne {k : Nat} (hr : Room k X.A) {f g : OF} {a b : Expr} {pos : Pos} (hf : SO X f a) (hg : SO X g b) : ST X (tCp (fOp2 (pEqv true) f g)) (.Compare a [.NotEq] [b] pos) := st_rel (op_neD hr.units) p2_ne hf hg (nomark _)
theorem t_lt {f g : OF} {a b : Expr} {pos : Pos} (hf : SO X f a) (hg : SO X g b) : ST X (tCp (fOp2 pLt f g)) (.Compare a [.Lt] [b] pos) := st_rel op_lt p2_lt hf hg (nomark _)
theorem t_le {f g : OF} {a b : Expr} {pos : Pos} (hf : SO X f a) (hg : SO X g b) : ST X (tCp (fOp2 pLe f g)) (.Compare a [.LtE] [b] pos) := st_rel op_le p2_le hf hg (nomark _)
theorem t_gt {f g : OF} {a b : Expr} {pos : Pos} (hf : SO X f a) (hg : SO X g b) : ST X (tCp (fOp2 pGt f g)) (.Compare a [.Gt] [b] pos) := st_rel op_gt p2_gt hf hg (nomark _)
theorem t_ge {f g : OF} {a b : Expr} {pos : Pos} (hf : SO X f a) (hg : SO X g b) : ST X (tCp (fOp2 pGe f g)) (.Compare a [.GtE] [b] pos) := st_rel op_ge p2_ge hf hg (nomark _)
theorem t_in {k : Nat} (hr : Room (k + 1) X.A) {f g : OF} {a b : Expr} {pos : Pos} (hf : SO X f a) (hg : SO X g b) (hm : behindInMarks .In b = false := by rfl) : ST X (tCp (fOp2 pIn f g)) (.Compare a [.In] [b] pos) := st_rel (OpR.or (OpR.or op_in_seq (op_inD (room65 hr))) (op_din (room1 hr))) (P2.or (P2.or (p2_inT false) p2_inL) (p2_din false)) hf hg hm
theorem t_notin {k : Nat} (hr : Room (k + 1) X.A) {f g : OF} {a b : Expr} {pos : Pos} (hf : SO X f a) (hg : SO X g b) (hm : behindInMarks .NotIn b = false := by rfl) : ST X (tCp (fOp2 pNotIn f g)) (.Compare a [.NotIn] [b] pos) := st_rel (OpR.or (OpR.or op_notIn_seq (op_notInD (room65 hr))) (op_dnotin (room1 hr))) (P2.or (P2.or (p2_inT true) p2_ninL) (p2_din true)) hf hg hm
/-- any other expression's truth -/
theorem t_of {f : OF} {e : Expr} (hf : SO X f e) (he : ∀ whole, isTrue e X.env whole = (do let v ← whole; standAt e.pos; holding [v] (truthy v)) := by intro _; rfl) : ST X (tOf f) e := st_of hf he
/-! built-ins by name -/
section
variable {x : Str} {p pos : Pos} {a b : Expr} {es : List Expr} {f : LF}
theorem e_len (hm : X.mg "len" = none) (hf : SL X f [a]) (hg : Gl X "len" := by rfl) (he : plainE a = true := by rfl) : SE X (fPrim (porN pLen pLenD) f) (.Call (.Name "len" p) [a] [] pos) := se_prim hf (PN.or pn_len pn_lenD) (pe_callB (CallR.or call_len_seq call_lenDD) hg hm PySem.boot_len pa_w (by decide) (by decide) (star1 he))
theorem e_list (hm : X.mg "list" = none) (hf : SL X f [a]) (hg : Gl X "list" := by rfl) (he : plainE a = true := by rfl) : SE X (fPrim pList f) (.Call (.Name "list" p) [a] [] pos) := se_prim hf pn_list (pe_callTy call_list_of hg hm (by decide +kernel) pa_w (by decide) (by decide) (star1 he))
theorem e_tuple (hm : X.mg "tuple" = none) (hf : SL X f [a]) (hg : Gl X "tuple" := by rfl) (he : plainE a = true := by rfl) : SE X (fPrim pTuple f) (.Call (.Name "tuple" p) [a] [] pos) := se_prim hf pn_tuple (pe_callTy call_tuple_of hg hm (by decide +kernel) pa_w (by decide) (by decide) (star1 he))
theorem e_int (hm : X.mg "int" = none) (hf : SL X f [a]) (hg : Gl X "int" := by rfl) (he : plainE a = true := by rfl) : SE X (fPrim pInt f) (.Call (.Name "int" p) [a] [] pos) := se_prim hf pn_int (pe_callTy call_int1 hg hm (by decide +kernel) pa_w (by decide) (by decide) (star1 he))
theorem e_str (hm : X.mg "str" = none) (hf : SL X f [a]) (hg : Gl X "str" := by rfl) (he : plainE a = true := by rfl) : SE X (fPrim pStrI f) (.Call (.Name "str" p) [a] [] pos) := se_prim hf pn_strI (pe_callTy call_str_int hg hm (by decide +kernel) pa_w (by decide) (by decide) (star1 he))
theorem e_max (hc : X.calm = true) (hm : X.mg "max" = none) (hf : SL X f [a, b]) (hg : Gl X "max" := by rfl) (he : plainE a = true := by rfl) (hpl : plainE b = true := by rfl) : SE X (fPrim pMax f) (.Call (.Name "max" p) [a, b] [] pos) := se_prim hf pn_max (pe_callB (call_max2 hc) hg hm (by decide +kernel) pa_w (by decide) (by decide) (star1 he) (plain_any (es := [b]) (by simp [hpl])))
theorem e_min (hc : X.calm = true) (hm : X.mg "min" = none) (hf : SL X f [a, b]) (hg : Gl X "min" := by rfl) (he : plainE a = true := by rfl) (hpl : plainE b = true := by rfl) : SE X (fPrim pMin f) (.Call (.Name "min" p) [a, b] [] pos) := se_prim hf pn_min (pe_callB (call_min2 hc) hg hm (by decide +kernel) pa_w (by decide) (by decide) (star1 he) (plain_any (es := [b]) (by simp [hpl])))
theorem e_all (hc : X.calm = true) (hm : X.mg "all" = none) (hf : SL X f [a]) (hg : Gl X "all" := by rfl) (he : plainE a = true := by rfl) : SE X (fPrim pAll f) (.Call (.Name "all" p) [a] [] pos) := se_prim hf pn_all (pe_callB (cr_all hc) hg hm (by decide +kernel) pa_w (by decide) (by decide) (star1 he))
theorem e_sorted (hm : X.mg "sorted" = none) (hf : SL X f [a]) (hg : Gl X "sorted" := by rfl) (he : plainE a = true := by rfl) : SE X (fPrim pSortT f) (.Call (.Name "sorted" p) [a] [] pos) := se_prim hf pn_sortT (pe_callB cr_sortT hg hm (by decide +kernel) pa_w (by decide) (by decide) (star1 he))
theorem e_any (hc : X.calm = true) (hm : X.mg "any" = none) (hf : SL X f [a]) (hg : Gl X "any" := by rfl) (he : plainE a = true := by rfl) : SE X (fPrim pAny f) (.Call (.Name "any" p) [a] [] pos) := se_prim hf pn_any (pe_callB (cr_any hc) hg hm (by decide +kernel) pa_w (by decide) (by decide) (star1 he))
end
/-! own defs -/
theorem e_glob {x : Str} {a : Addr} {d : D} {pos : Pos} (hm : X.mg x = some (.ref a)) (q : ∀ H, Rep X.K H d (.ref a)) (hg : Gl X x := by rfl) (hd1 : (x == ("__debug__" : Str)) = false := by decide) : SE X (fCon d) (.Name x pos) := se_glob (v := .ref a) hg hm rfl hd1 q
theorem e_call {k n : Nat} {fa : Addr} {run : Run} {x : Str} {p pos : Pos} {f : LF} {e : Expr} {es : List Expr} (c : CalF X.prog X.w X.K X.mg X.base k fa n run) (hr : Room k X.A) (hm : X.mg x = some (.ref fa)) (hf : SL X f (e :: es)) (hg : Gl X x := by rfl) (hdb : (x == ("__debug__" : Str)) = false := by decide)
    (he : plainE e = true := by rfl) (hpl : es.all plainE = true := by rfl) : SE X (fCall n run f) (.Call (.Name x p) (e :: es) [] pos) := se_call c.cal hr hg hm hf hdb (star1 he) (plain_any hpl)
theorem e_call0 {k n : Nat} {fa : Addr} {run : Run} {x : Str} {p pos : Pos} (c : CalF X.prog X.w X.K X.mg X.base k fa n run) (hr : Room k X.A) (hm : X.mg x = some (.ref fa)) (hg : Gl X x := by rfl) (hdb : (x == ("__debug__" : Str)) = false := by decide) : SE X (fCall n run lNil) (.Call (.Name x p) [] [] pos) := se_call0 c.cal hr hg hm rfl hdb
/-- statements -/
theorem s_set (i : Nat) {x : Str} {f : EF} {e : Expr} {pos pos'} (hN : X.N.Nodup) (hf : SE X f e) (hi : X.N[i]? = some x := by rfl) (hx : Loc X.env.scope x := by first | exact Or.inl rfl | exact Or.inr rfl) (hs : swapsWith e (some (.Name x pos')) pos.line X.env = pure false := by rfl) (hfn : X.fn x = true ∨ X.env.scope.names.lookup x = some .local := by first | exact Or.inl rfl | exact Or.inr rfl) :
    SS X (sSet i f) (.Assign [.Name x pos'] e pos) := ss_set hN hi hx hf hs hfn
theorem s_expr {f : EF} {e : Expr} {pos} (hf : SE X f e) (hs : swapsWith e none pos.line X.env = pure false := by rfl) : SS X (sEx f) (.Expr e pos) := ss_expr hf hs
theorem g_nm (i : Nat) {x : Str} {pos} (hN : X.N.Nodup) (hi : X.N[i]? = some x := by rfl) (hx : Loc X.env.scope x := by first | exact Or.inl rfl | exact Or.inr rfl) (hf : X.fn x = true ∨ X.env.scope.names.lookup x = some .local := by first | exact Or.inl rfl | exact Or.inr rfl) : SG X [i] (gNm i) (.Name x pos) := sg_name hN hi hx hf
theorem g_cons {js ks : List Nat} {g : GF} {gs : GsF} {e : Expr} {es : List Expr} (hg : SG X js g e) (hgs : SGs X ks gs es) (hs : (assignEach (e :: es) X.env).map (·.2) = assign e X.env :: (assignEach es X.env).map (·.2) := by rfl) : SGs X (js ++ ks) (gsCons g gs) (e :: es) := sgs_cons hg hgs hs
theorem gs_len0 : ∀ xs env env', gsNil xs env = some env' → xs.length = 0 := fun xs env env' h => by
  cases xs with
  | nil => rfl
  | cons _ _ => cases h
theorem gs_lenS {g : GF} {gs : GsF} {n : Nat} (h : ∀ xs env env', gs xs env = some env' → xs.length = n) : ∀ xs env env', gsCons g gs xs env = some env' → xs.length = n + 1 := fun xs env env' h2 => by
  cases xs with
  | nil => cases h2
  | cons d r =>
    have h3 : (match g d env with
      | some e => gs r e
      | none => none) = some env' := h2
    split at h3
    · exact congrArg Nat.succ (h _ _ _ h3)
    · cases h3
theorem g_tup {js : List Nat} {gs : GsF} {es : List Expr} {kk pos} (hc : X.calm = true) (hgs : SGs X js gs es) (hlen : ∀ xs env env', gs xs env = some env' → xs.length = es.length) (hn : (assignEach es X.env).length = es.length := by rfl) (hst : (assignEach es X.env).findIdx? (·.1) = none := by rfl) : SG X js (gTp gs) (.Tuple es kk pos) := sg_tup hc hgs hn hst hlen
theorem s_asg {js : List Nat} {g : GF} {f : EF} {tg e : Expr} {pos} (hg : SG X js g tg) (hf : SE X f e) (hs : swapsWithSole [tg] e pos.line X.env = pure false := by rfl) (hw : swappedStores [tg] e X.env = pure none := by rfl)
    (h1 : (assignEach [tg] X.env).map (·.2) = [assign tg X.env] := by rfl) : SS X (sAsg g f) (.Assign [tg] e pos) := ss_asg hg hf hs hw h1
theorem s_app (i : Nat) {x : Str} {f : EF} {e : Expr} {p apos cpos pos : Pos} (hf : SE X f e) (hN : X.N[i]? = some x := by rfl) (hv : Vis X.env.scope x := by first | exact Or.inl rfl | exact Or.inr (Or.inl rfl) | exact Or.inr (Or.inr rfl)) (hd1 : (x == ("__debug__" : Str)) = false := by decide) (hcd : (x == ("__classdict__" : Str)) = false := by decide)
    (hfew : ((backTo cpos (starEach [e] X.env)).all (fun x => !x.1) && (backToKw cpos (keywordEach [] X.env)).all (fun x => x.1.isSome) && decide (([e] : List Expr).length + ([] : List Keyword).length + (if ([] : List Keyword).isEmpty then 0 else 1) < 30)) = true := by rfl)
    (hline : (apos.endLine == cpos.line) = true := by rfl) (hs : starEach [e] X.env = (false, eval e X.env) :: starEach [] X.env := by rfl) (hbase : attributeBase (.Name x p) "append" X.env (eval (.Name x p) X.env) = eval (.Name x p) X.env := by rfl) (hsw : swapsWith (.Call (.Attribute (.Name x p) "append" apos) [e] [] cpos) none pos.line X.env = pure false := by rfl) :
    SS X (sApp i f) (.Expr (.Call (.Attribute (.Name x p) "append" apos) [e] [] cpos) pos) :=
  ss_app hf (ps_expr (pe_bm PySem.F.plainAttrs_list PySem.F.slot_list_append PySem.F.type_list_append mt_append (pe_var hN hv hd1 hcd) (pa_cons pe_w pa_nil hs) hbase hfew hline hs) hsw)
theorem s_stL (i : Nat) {x : Str} {g f : EF} {e ix : Expr} {p tpos pos : Pos} (hf : SE X f e) (hg : SE X g ix) (hN : X.N[i]? = some x := by rfl) (hv : Vis X.env.scope x := by first | exact Or.inl rfl | exact Or.inr (Or.inl rfl) | exact Or.inr (Or.inr rfl)) (hd1 : (x == ("__debug__" : Str)) = false := by decide) (hcd : (x == ("__classdict__" : Str)) = false := by decide)
    (hs : swapsWithSole [.Subscript (.Name x p) ix tpos] e pos.line X.env = pure false := by rfl) (hw : swappedStores [.Subscript (.Name x p) ix tpos] e X.env = pure none := by rfl) (h1 : (assignEach [.Subscript (.Name x p) ix tpos] X.env).map (·.2) = [assign (.Subscript (.Name x p) ix tpos) X.env] := by rfl)
    (ha : ∀ v, assign (.Subscript (.Name x p) ix tpos) X.env v = (do
      let ov ← holding [v] (eval (.Name x p) X.env)
      let iv ← holding [v, ov] (eval ix X.env)
      standAt tpos
      holding [v, ov, iv] (setItem ov iv v)
      release [v, ov, iv] []) := by intro _; rfl) : SS X (sStL i g f) (.Assign [.Subscript (.Name x p) ix tpos] e pos) :=
  ss_stL hf hg (ps_asg pe_w (pg_sub (pe_var hN hv hd1 hcd) pe_w set_list ha) hs hw h1)
theorem s_augL (i : Nat) {x : Str} {g f : EF} {ix e : Expr} {p tpos pos} (hg : SE X g ix) (hf : SE X f e) (hN : X.N[i]? = some x := by rfl) (hv : Vis X.env.scope x := by first | exact Or.inl rfl | exact Or.inr (Or.inl rfl) | exact Or.inr (Or.inr rfl)) (hd1 : (x == ("__debug__" : Str)) = false := by decide) (hcd : (x == ("__classdict__" : Str)) = false := by decide)
    (ha : ∀ ov iv new, augStore ix ov iv new = (do holding [new, ov, iv] (setItem ov iv new); release [new, ov, iv] []; pure .next) := by intros; rfl) : SS X (sAugL i g f) (.AugAssign (.Subscript (.Name x p) ix tpos) .Add e pos) := ss_augL hN hv hd1 hcd hg hf ha
theorem s_for {js : List Nat} {f : IF} {g : GF} {b : SF} {tg iter : Expr} {body : List Stmt} {pos} (hp : PassesOwn (model X.prog X.w) X.A X.env X.xe) (hc : X.calm = true) (hf : SI X f tg iter) (hg : SG X js g tg) (hb : SB X b body) (hs : ∀ x, foldedSetIterable iter X.env x = pure x := by intro _; rfl) : SS X (sFor f g b) (.For tg iter body [] pos) := ss_for hp hc hf hg hb hs
theorem i_r1 {f : EF} {tg a : Expr} {p pos : Pos} (hm : X.mg "range" = none) (hf : SE X f a) (hg : Gl X "range" := by rfl) (hs : starEach [a] X.env = [(false, eval a X.env)] := by rfl) : SI X (iR1 f) tg (.Call (.Name "range" p) [a] [] pos) := si_r1 hg hm hf hs
theorem i_r2 {f g : EF} {tg a b : Expr} {p pos : Pos} (hm : X.mg "range" = none) (hf : SE X f a) (hgg : SE X g b) (hg : Gl X "range" := by rfl) (hs : starEach [a, b] X.env = [(false, eval a X.env), (false, eval b X.env)] := by rfl) (hs2 : starEach [b] X.env = [(false, eval b X.env)] := by rfl) : SI X (iR2 f g) tg (.Call (.Name "range" p) [a, b] [] pos) := si_r2 hg hm hf hgg hs hs2
/-- comprehensions -/
theorem e_lc (own1 : List (Str × Nat)) {js : List Nat} {fi : IF} {g : GF} {t : TF} {f : EF} {scope : Scope} {elt tg iter : Expr} {ifs : List Expr} {pos : Pos} (hc : X.calm = true) (hN : X.N.Nodup) (ok : BlkOk X.N X.env.scope scope own1)
    (hi : SI X fi tg iter) (hg : AtBlk X scope fun Y => SG Y js g tg) (ht : AtBlk X scope fun Y => STs Y t ifs) (he : AtBlk X scope fun Y => SE Y f elt) (hjs : sublist js (own1.map (·.2)) = true := by rfl) (hs : ∀ x, foldedSetIterable iter X.env x = pure x := by intro _; rfl) :
    SE X (fLc (own1.map (·.2)) fi g t f) (.ListComp elt [⟨tg, iter, ifs, 0⟩] scope pos) := se_lc hc hN hi ok hg ht he hjs hs
theorem s_setLc (i : Nat) {y : Str} {py : Pos} (own1 : List (Str × Nat)) {js : List Nat} {fi : IF} {g : GF} {t : TF} {f : EF} {scope : Scope} {elt tg iter : Expr} {ifs : List Expr} {pos spos : Pos} (hc : X.calm = true) (hN : X.N.Nodup) (ok : BlkOk X.N X.env.scope scope own1)
    (hsw : swapsWith (.ListComp elt [⟨tg, iter, ifs, 0⟩] scope pos) (some (.Name y py)) spos.line X.env = pure true)
    (hi : SI X fi tg iter) (hg : AtBlk X scope fun Y => SG Y js g tg) (ht : AtBlk X scope fun Y => STs Y t ifs) (he : AtBlk X scope fun Y => SE Y f elt) (hy : X.N[i]? = some y := by rfl) (hyl : X.env.scope.names.lookup y = some .local := by rfl) (hjs : sublist js (own1.map (·.2)) = true := by rfl) (hs : ∀ x, foldedSetIterable iter X.env x = pure x := by intro _; rfl) :
    SS X (sSet i (fLc (own1.map (·.2)) fi g t f)) (.Assign [.Name y py] (.ListComp elt [⟨tg, iter, ifs, 0⟩] scope pos) spos) := ss_setLc hc hN hy hyl hsw hi ok hg ht he hjs hs
/-! comprehensions of several clauses, of dicts -/
theorem q_item {scope sc : Scope} {n : Nat} {elt : Expr} {gens : List Comprehension} {pos : Pos} {f : EF} (he : AtBlk X scope fun Y => SE Y f elt) (hn : gens[n + 1]? = none := by rfl) : SQ X scope (.ListComp elt gens sc pos) n [] .l (qItem f) := sq_item hn he
theorem q_pair {k0 : Nat} (hr : Room (k0 + 1) X.A) {scope sc : Scope} {n : Nat} {kx vx : Expr} {gens : List Comprehension} {pos : Pos} {kd : AK} {fk fv : EF} (hk : AtBlk X scope fun Y => SE Y fk kx) (hv : AtBlk X scope fun Y => SE Y fv vx) (hn : gens[n + 1]? = none := by rfl) : SQ X scope (.DictComp kx vx gens sc pos) n [] kd (qPair kd fk fv) := sq_pair (room1 hr) hn hk hv
theorem q_next {scope : Scope} {e : Expr} {n : Nat} {tg iter : Expr} {ifs : List Expr} {js vs vs' : List Nat} {kd : AK} {fi : IF} {g : GF} {t : TF} {q : QF} (hc : X.calm = true) (hi : AtBlk X scope fun Y => SI Y fi tg iter) (hg : AtBlk X scope fun Y => SG Y js g tg) (ht : AtBlk X scope fun Y => STs Y t ifs) (hq : SQ X scope e (n + 1) vs' kd q)
    (hg1 : (clausesOf e)[n + 1]? = some ⟨tg, iter, ifs, 0⟩ := by rfl) (hk : IsLD e := by trivial) (hf : FoldOk (clausesOf e) := by repeat (first | exact FoldOk.nil | refine FoldOk.cons (by intro _ _; rfl) ?_)) (hjs : sublist js vs = true := by rfl) (hvv : sublist vs' vs = true := by rfl) : SQ X scope e n vs kd (qNext fi g t q vs) :=
  sq_next hc hk hg1 (fun env g h => hf.at _ env g h) hi hg ht hq hjs hvv
theorem e_gl (own1 : List (Str × Nat)) {scope : Scope} {elt tg iter : Expr} {ifs : List Expr} {gs : List Comprehension} {pos : Pos} {js vs' : List Nat} {fi : IF} {g : GF} {t : TF} {q : QF} (hc : X.calm = true) (hN : X.N.Nodup) (ok : BlkOk X.N X.env.scope scope own1)
    (hi : SI X fi tg iter) (hg : AtBlk X scope fun Y => SG Y js g tg) (ht : AtBlk X scope fun Y => STs Y t ifs) (hq : SQ X scope (.ListComp elt (⟨tg, iter, ifs, 0⟩ :: gs) scope pos) 0 vs' .l q)
    (hf : FoldOk (⟨tg, iter, ifs, 0⟩ :: gs) := by repeat (first | exact FoldOk.nil | refine FoldOk.cons (by intro _ _; rfl) ?_)) (hjs : sublist js (own1.map (·.2)) = true := by rfl) (hvv : sublist vs' (own1.map (·.2)) = true := by rfl) :
    SE X (fG (own1.map (·.2)) .l fi g t q) (.ListComp elt (⟨tg, iter, ifs, 0⟩ :: gs) scope pos) := se_g (kd := .l) hc hN trivial rfl rfl hf ok hi hg ht hq hjs hvv
theorem e_gd (own1 : List (Str × Nat)) {scope : Scope} {kx vx tg iter : Expr} {ifs : List Expr} {gs : List Comprehension} {pos : Pos} {js vs' vs'' : List Nat} {fi : IF} {g : GF} {t : TF} {q q' : QF} (hc : X.calm = true) (hN : X.N.Nodup) (ok : BlkOk X.N X.env.scope scope own1)
    (hi : SI X fi tg iter) (hg : AtBlk X scope fun Y => SG Y js g tg) (ht : AtBlk X scope fun Y => STs Y t ifs) (hq : SQ X scope (.DictComp kx vx (⟨tg, iter, ifs, 0⟩ :: gs) scope pos) 0 vs' .k q) (hq' : SQ X scope (.DictComp kx vx (⟨tg, iter, ifs, 0⟩ :: gs) scope pos) 0 vs'' .t q')
    (hf : FoldOk (⟨tg, iter, ifs, 0⟩ :: gs) := by repeat (first | exact FoldOk.nil | refine FoldOk.cons (by intro _ _; rfl) ?_)) (hjs : sublist js (own1.map (·.2)) = true := by rfl) (hvv : sublist vs' (own1.map (·.2)) = true := by rfl) (hvv' : sublist vs'' (own1.map (·.2)) = true := by rfl) :
    SE X (fAlt (fG (own1.map (·.2)) .k fi g t q) (fG (own1.map (·.2)) .t fi g t q')) (.DictComp kx vx (⟨tg, iter, ifs, 0⟩ :: gs) scope pos) := se_alt (se_g (kd := .k) hc hN trivial rfl rfl hf ok hi hg ht hq hjs hvv) (se_g (kd := .t) hc hN trivial rfl rfl hf ok hi hg ht hq' hjs hvv')
theorem s_setGl (i : Nat) {y : Str} {py spos : Pos} (own1 : List (Str × Nat)) {scope : Scope} {elt tg iter : Expr} {ifs : List Expr} {gs : List Comprehension} {pos : Pos} {js vs' : List Nat} {fi : IF} {g : GF} {t : TF} {q : QF} (hc : X.calm = true) (hN : X.N.Nodup) (ok : BlkOk X.N X.env.scope scope own1)
    (hsw : swapsWith (.ListComp elt (⟨tg, iter, ifs, 0⟩ :: gs) scope pos) (some (.Name y py)) spos.line X.env = pure true)
    (hi : SI X fi tg iter) (hg : AtBlk X scope fun Y => SG Y js g tg) (ht : AtBlk X scope fun Y => STs Y t ifs) (hq : SQ X scope (.ListComp elt (⟨tg, iter, ifs, 0⟩ :: gs) scope pos) 0 vs' .l q) (hy : X.N[i]? = some y := by rfl) (hyl : X.env.scope.names.lookup y = some .local := by rfl)
    (hf : FoldOk (⟨tg, iter, ifs, 0⟩ :: gs) := by repeat (first | exact FoldOk.nil | refine FoldOk.cons (by intro _ _; rfl) ?_)) (hjs : sublist js (own1.map (·.2)) = true := by rfl) (hvv : sublist vs' (own1.map (·.2)) = true := by rfl) :
    SS X (sSet i (fG (own1.map (·.2)) .l fi g t q)) (.Assign [.Name y py] (.ListComp elt (⟨tg, iter, ifs, 0⟩ :: gs) scope pos) spos) := ss_setG hN hy hyl hsw trivial rfl rfl (g_use (kd := .l) hc hN trivial rfl rfl hf ok hi hg ht hq hjs hvv)
theorem s_setGd (i : Nat) {y : Str} {py spos : Pos} (own1 : List (Str × Nat)) {scope : Scope} {kx vx tg iter : Expr} {ifs : List Expr} {gs : List Comprehension} {pos : Pos} {js vs' vs'' : List Nat} {fi : IF} {g : GF} {t : TF} {q q' : QF} (hc : X.calm = true) (hN : X.N.Nodup) (ok : BlkOk X.N X.env.scope scope own1)
    (hsw : swapsWith (.DictComp kx vx (⟨tg, iter, ifs, 0⟩ :: gs) scope pos) (some (.Name y py)) spos.line X.env = pure true)
    (hi : SI X fi tg iter) (hg : AtBlk X scope fun Y => SG Y js g tg) (ht : AtBlk X scope fun Y => STs Y t ifs) (hq : SQ X scope (.DictComp kx vx (⟨tg, iter, ifs, 0⟩ :: gs) scope pos) 0 vs' .k q) (hq' : SQ X scope (.DictComp kx vx (⟨tg, iter, ifs, 0⟩ :: gs) scope pos) 0 vs'' .t q') (hy : X.N[i]? = some y := by rfl) (hyl : X.env.scope.names.lookup y = some .local := by rfl)
    (hf : FoldOk (⟨tg, iter, ifs, 0⟩ :: gs) := by repeat (first | exact FoldOk.nil | refine FoldOk.cons (by intro _ _; rfl) ?_)) (hjs : sublist js (own1.map (·.2)) = true := by rfl) (hvv : sublist vs' (own1.map (·.2)) = true := by rfl) (hvv' : sublist vs'' (own1.map (·.2)) = true := by rfl) :
    SS X (sSet i (fAlt (fG (own1.map (·.2)) .k fi g t q) (fG (own1.map (·.2)) .t fi g t q'))) (.Assign [.Name y py] (.DictComp kx vx (⟨tg, iter, ifs, 0⟩ :: gs) scope pos) spos) :=
  ss_setG hN hy hyl hsw trivial rfl rfl fun A own env σ H d fr env' r h => by
    unfold fAlt at h
    split at h
    · rename_i z h1
      cases h
      exact g_use (e := .DictComp kx vx (⟨tg, iter, ifs, 0⟩ :: gs) scope pos) (kd := .k) hc hN trivial rfl rfl hf ok hi hg ht hq hjs hvv A own env σ H d fr env' r h1
    · exact g_use (e := .DictComp kx vx (⟨tg, iter, ifs, 0⟩ :: gs) scope pos) (kd := .t) hc hN trivial rfl rfl hf ok hi hg ht hq' hjs hvv' A own env σ H d fr env' r h
/-! own classes -/
/-- which attributes are the instances' own -/
def atP (l : List (Str × List Str)) : Str → Str → Bool := fun C f => l.any fun p => p.1 == C && p.2.contains f
def AtOk (K : PySem.W.Frag) (l : List (Str × List Str)) : Prop := ∀ C f, atP l C f = true → Cls K (He.ga K C) ∧ NoAttr K (He.ga K C) f
/-- which method a class has, by name -/
def mtP : List (Str × Str × Nat × Run) → Str → Str → Option (Nat × Run)
  | [], _, _ => none
  | (C, m, n, run) :: r, C', m' => if C = C' ∧ m = m' then some (n, run) else mtP r C' m'
def MtOk (P : Program) (w : World) (K : PySem.W.Frag) (mg : Str → Option Value) (base : Heap) (k : Nat) (l : List (Str × Str × Nat × Run)) : Prop := ∀ C m n run, mtP l C m = some (n, run) → Cls K (He.ga K C) ∧ ∃ g, Meth K (He.ga K C) m g ∧ CalF P w K mg base k g n run
theorem e_att {l : List (Str × List Str)} {f : Str} {o : OF} {e : Expr} {pos : Pos} (h : AtOk X.K l) (ho : SO X o e) (hb : attributeBase e f X.env (eval e X.env) = eval e X.env := by rfl) : SE X (fAtt (atP l) f o) (.Attribute e f pos) := se_att h ho hb
theorem s_fld (i : Nat) {l : List (Str × List Str)} {x f : Str} {g : EF} {e : Expr} {p pos pos' : Pos} (h : AtOk X.K l) (hg : SE X g e) (hN : X.N[i]? = some x := by rfl) (hv : Vis X.env.scope x := by first | exact Or.inl rfl | exact Or.inr (Or.inl rfl) | exact Or.inr (Or.inr rfl)) (hd1 : (x == ("__debug__" : Str)) = false := by decide) (hcd : (x == ("__classdict__" : Str)) = false := by decide)
    (hs : swapsWith e (some (.Attribute (.Name x p) f pos')) pos.line X.env = pure false := by rfl) : SS X (sFldS (atP l) i f g) (.Assign [.Attribute (.Name x p) f pos'] e pos) := ss_fld h hN hv hd1 hcd hg hs
theorem e_makeC {k n : Nat} {fa : Addr} {run : Run} {x C : Str} {p pos : Pos} {f : LF} {e : Expr} {es : List Expr} (c : CalF X.prog X.w X.K X.mg X.base k fa n run) (M : Mk X.K (He.ga X.K C) fa) (hr : Room (k + 1) X.A) (hm : X.mg x = some (.ref (He.ga X.K C))) (hf : SL X f (e :: es)) (hg : Gl X x := by rfl) (hdb : (x == ("__debug__" : Str)) = false := by decide)
    (he : plainE e = true := by rfl) (hpl : es.all plainE = true := by rfl) : SE X (fMakeC C n run f) (.Call (.Name x p) (e :: es) [] pos) := se_makeC c.cal M hr hg hm hf hdb (star1 he) (plain_any hpl)
theorem e_make {k n : Nat} {fa : Addr} {run : Run} {x C : Str} {p pos : Pos} {f : LF} {e : Expr} {es : List Expr} (c : CalF X.prog X.w X.K X.mg X.base k fa n run) (M : Mk X.K (He.ga X.K C) fa) (hr : Room (k + 1) X.A) (hm : X.mg x = some (.ref (He.ga X.K C))) (hf : SL X f (e :: es)) (hg : Gl X x := by rfl) (hdb : (x == ("__debug__" : Str)) = false := by decide)
    (he : plainE e = true := by rfl) (hpl : es.all plainE = true := by rfl) : SE X (fMake C n run f) (.Call (.Name x p) (e :: es) [] pos) := se_make c.cal M hr hg hm hf hdb (star1 he) (plain_any hpl)
theorem e_meth {k : Nat} {l : List (Str × Str × Nat × Run)} {m : Str} {pl : Sem Bool} {o : Expr} {fo : OF} {f : LF} {e : Expr} {es : List Expr} {apos pos : Pos} (h : MtOk X.prog X.w X.K X.mg X.base k l) (hr : Room k X.A) (ho : SO X fo o) (hf : SL X f (e :: es)) (he : plainE e = true := by rfl) (hpl : es.all plainE = true := by rfl)
    (ht : eval (.Call (.Attribute o m apos) (e :: es) [] pos) X.env = (do
      let ov ← eval o X.env
      standAt apos.atName
      let (f, first) ← holding [ov] (getMethod ov m pl)
      callWith pos f first (backTo pos (starEach (e :: es) X.env)) (backToKw pos (keywordEach [] X.env))) := by rfl) : SE X (fMeth (mtP l) m fo f) (.Call (.Attribute o m apos) (e :: es) [] pos) :=
  se_meth (fun C n run q => let ⟨h1, g, h2, h3⟩ := h C m n run q; ⟨h1, g, h2, h3.cal⟩) hr ho hf (star1 he) (plain_any hpl) ht
theorem e_meth0 {k : Nat} {l : List (Str × Str × Nat × Run)} {m : Str} {pl : Sem Bool} {o : Expr} {fo : OF} {apos pos : Pos} (h : MtOk X.prog X.w X.K X.mg X.base k l) (hr : Room k X.A) (ho : SO X fo o)
    (ht : eval (.Call (.Attribute o m apos) [] [] pos) X.env = (do
      let ov ← eval o X.env
      standAt apos.atName
      let (f, first) ← holding [ov] (getMethod ov m pl)
      callWith pos f first (backTo pos (starEach [] X.env)) (backToKw pos (keywordEach [] X.env))) := by rfl) : SE X (fMeth (mtP l) m fo lNil) (.Call (.Attribute o m apos) [] [] pos) :=
  se_meth0 (fun C n run q => let ⟨h1, g, h2, h3⟩ := h C m n run q; ⟨h1, g, h2, h3.cal⟩) hr ho ht
end
end Dz
/-! DzOwn: what never runs (its evaluator says none); is None; chains of comparisons. -/
namespace Dz
open PySem PyProof.Rows L2
section
variable {X : Cx}
/-! ### what never runs -/
def sNo : SF := fun _ => none
def fNo : EF := fun _ => none
def tNo : TF := fun _ => none
theorem ss_no {st : Stmt} : SS X sNo st := ⟨fun _ _ _ _ _ _ _ h => by cases h⟩
theorem se_no {e : Expr} : SE X fNo e := ⟨fun _ _ _ _ _ _ _ _ _ h => by cases h⟩
theorem st_no {e : Expr} : ST X tNo e := ⟨fun _ _ _ _ _ _ _ _ h => by cases h⟩
def bNo : SF := fun _ => none
theorem sb_no {st : List Stmt} : SB X bNo st := ⟨fun _ _ _ _ _ _ _ h => by cases h⟩
/-! ### is None -/
def D.isN : D → Bool
  | .non => true
  | _ => false
theorem Rep.isN {K : PySem.W.Frag} {H : Vw} {d : D} {v : V} (h : Rep K H d v) : decide (v = .non) = d.isN := by
  cases h <;> first | rfl | (exact decide_eq_false fun z => nomatch z)
theorem View.isN {K : PySem.W.Frag} {Hh : Vw} {H : Hp} {d : D} {v : V} (h : View K Hh H d v) : decide (v = .non) = d.isN := by
  cases h with
  | sc h => exact h.isN
  | ow m t => cases t <;> exact decide_eq_false fun z => nomatch z
  | lkK => exact decide_eq_false fun z => nomatch z
  | lkT => exact decide_eq_false fun z => nomatch z
def pIsN (neg : Bool) : Pr2 := fun x y => match y with
  | .non => some (.bl (if neg then !x.isN else x.isN), false)
  | _ => none
theorem p2_isN : P2 X (fun x y H Q => y = .non ∧ Q (.bl (decide (x = .non))) H) (pIsN false) := by
  intro Hh H x y v u d fr Q e vx vy q g
  unfold pIsN at q
  split at q
  · cases q
    exact ⟨vy.non, g.old rfl _ (by rw [vx.isN]; exact .bl _)⟩
  · cases q
theorem p2_notN : P2 X (fun x y H Q => y = .non ∧ Q (.bl (!decide (x = .non))) H) (pIsN true) := by
  intro Hh H x y v u d fr Q e vx vy q g
  unfold pIsN at q
  split at q
  · cases q
    exact ⟨vy.non, g.old rfl _ (by rw [vx.isN]; exact .bl _)⟩
  · cases q
theorem e_isN {f g : OF} {a b : Expr} {pos : Pos} (hf : SO X f a) (hg : SO X g b) (hm : behindInMarks .Is b = false := by rfl) : SE X (fOp2 (pIsN false) f g) (.Compare a [.Is] [b] pos) := se_cmp op_isN p2_isN hf hg hm
theorem e_notN {f g : OF} {a b : Expr} {pos : Pos} (hf : SO X f a) (hg : SO X g b) (hm : behindInMarks .IsNot b = false := by rfl) : SE X (fOp2 (pIsN true) f g) (.Compare a [.IsNot] [b] pos) := se_cmp op_notN p2_notN hf hg hm
theorem t_isN {f g : OF} {a b : Expr} {pos : Pos} (hf : SO X f a) (hg : SO X g b) (hm : behindInMarks .Is b = false := by rfl) : ST X (tCp (fOp2 (pIsN false) f g)) (.Compare a [.Is] [b] pos) := st_rel op_isN p2_isN hf hg hm
theorem t_notN {f g : OF} {a b : Expr} {pos : Pos} (hf : SO X f a) (hg : SO X g b) (hm : behindInMarks .IsNot b = false := by rfl) : ST X (tCp (fOp2 (pIsN true) f g)) (.Compare a [.IsNot] [b] pos) := st_rel op_notN p2_notN hf hg hm
/-! ### a < b < c -/
def fChain (p p' : Pr2) (f g h : OF) : EF := fun env => match f env with
  | some (x, e1) => match g e1 with
    | some (y, e2) => match res e2 x, res e2 y with
      | some dx, some dy => match p dx dy with
        | some (.bl true, _) => match h e2 with
          | some (z, e3) => match res e3 y, res e3 z with
            | some dy', some dz => match p' dy' dz with
              | some (d, fr) => some (d, fr, e3)
              | none => none
            | _, _ => none
          | none => none
        | some (.bl false, _) => some (.bl false, false, e2)
        | _ => none
      | _, _ => none
    | none => none
  | none => none
theorem Give.bl {K : PySem.W.Frag} {Hh : Vw} {H : Hp} {fr : Bool} {b : Bool} {Q : VK} (h : Q (.bl b) H) : Give K Hh H fr (.bl b) Q where
  old := fun _ v r => by cases r; exact h
  new := fun p o _ r => by cases r
theorem se_chain {op op' : CmpOp} {r r' : R2} {p p' : Pr2} {f g h : OF} {a b c : Expr} {pos : Pos} (ho : OpR X (compareOp op) r) (ho' : OpR X (compareOp op') r') (hp : P2 X r p) (hp' : P2 X r' p') (hf : SO X f a) (hg : SO X g b) (hh : SO X h c)
    (hm : lastMarks [op, op'] [b, c] = false := by with_unfolding_all rfl) : SE X (fChain p p' f g h) (.Compare a [op, op'] [b, c] pos) := by
  refine ⟨?_⟩
  intro A own env σ H d fr env' R q Q k
  unfold fChain at q
  split at q
  case h_2 => cases q
  rename_i x e1 h1
  split at q
  case h_2 => cases q
  rename_i y e2 h2
  split at q
  case h_2 => cases q
  rename_i dx dy hx hy
  split at q
  · rename_i fr0 hpp
    split at q
    case h_2 => cases q
    rename_i z e3 h3
    split at q
    case h_2 => cases q
    rename_i dy' dz hy' hz
    split at q
    case h_2 => cases q
    rename_i d' fr' hpp'
    cases q
    refine we_of (pe_chain ho ho' pe_w pe_w pe_w hm) (hf A own env σ H x e1 R h1 _ fun v H1 own1 s1 R1 o1 => hg A own1 e1 σ H1 y e2 R1 h2 _ fun u H2 own2 s2 R2 o2 => ?_)
    refine hp _ H2 dx dy v u _ fr0 _ hd_sub (o1.step s2 R2 hx) (o2.step StpE.refl R2 hy) hpp (Give.bl ⟨true, rfl, ?_⟩)
    rw [if_pos rfl]
    refine hh A own2 e2 σ H2 z env' R2 h3 _ fun w H3 own3 s3 R3 o3 => ?_
    exact hp' _ H3 dy' dz u w d fr Q hd_sub (o2.step s3 R3 hy') (o3.step StpE.refl R3 hz) hpp' (give ((s1.trans s2).trans s3) R3 k)
  · rename_i fr0 hpp
    cases q
    refine we_of (pe_chain ho ho' pe_w pe_w pe_w hm) (hf A own env σ H x e1 R h1 _ fun v H1 own1 s1 R1 o1 => hg A own1 e1 σ H1 y env' R1 h2 _ fun u H2 own2 s2 R2 o2 => ?_)
    refine hp _ H2 dx dy v u _ fr0 _ hd_sub (o1.step s2 R2 hx) (o2.step StpE.refl R2 hy) hpp (Give.bl ⟨false, rfl, ?_⟩)
    rw [if_neg (fun z => nomatch z)]
    exact (give (s1.trans s2) R2 k).old rfl _ (.bl _)
  · cases q
theorem st_chain {op op' : CmpOp} {r r' : R2} {p p' : Pr2} {f g h : OF} {a b c : Expr} {pos : Pos} (ho : OpR X (compareOp op) r) (ho' : OpR X (compareOp op') r') (hp : P2 X r p) (hp' : P2 X r' p') (hf : SO X f a) (hg : SO X g b) (hh : SO X h c)
    (hm : lastMarks [op, op'] [b, c] = false := by with_unfolding_all rfl) : ST X (tCp (fChain p p' f g h)) (.Compare a [op, op'] [b, c] pos) := by
  refine ⟨?_⟩
  intro A own env σ H bb env' R q0 Q k
  unfold tCp at q0
  split at q0
  case h_2 => cases q0
  rename_i b0 fr e4 q
  cases q0
  unfold fChain at q
  split at q
  case h_2 => cases q
  rename_i x e1 h1
  split at q
  case h_2 => cases q
  rename_i y e2 h2
  split at q
  case h_2 => cases q
  rename_i dx dy hx hy
  split at q
  · rename_i fr0 hpp
    split at q
    case h_2 => cases q
    rename_i z e3 h3
    split at q
    case h_2 => cases q
    rename_i dy' dz hy' hz
    split at q
    case h_2 => cases q
    rename_i d' fr' hpp'
    cases q
    refine wt_of (pt_chain ho ho' pe_w pe_w pe_w hm) (hf A own env σ H x e1 R h1 _ fun v H1 own1 s1 R1 o1 => hg A own1 e1 σ H1 y e2 R1 h2 _ fun u H2 own2 s2 R2 o2 => ?_)
    refine hp _ H2 dx dy v u _ fr0 _ hd_sub (o1.step s2 R2 hx) (o2.step StpE.refl R2 hy) hpp (Give.bl ⟨true, rfl, ?_⟩)
    rw [if_pos rfl]
    refine hh A own2 e2 σ H2 z env' R2 h3 _ fun w H3 own3 s3 R3 o3 => ?_
    exact hp' _ H3 dy' dz u w _ fr _ hd_sub (o2.step s3 R3 hy') (o3.step StpE.refl R3 hz) hpp' (Give.bl ⟨bb, rfl, k H3 own3 ((s1.trans s2).trans s3) R3⟩)
  · rename_i fr0 hpp
    cases q
    refine wt_of (pt_chain ho ho' pe_w pe_w pe_w hm) (hf A own env σ H x e1 R h1 _ fun v H1 own1 s1 R1 o1 => hg A own1 e1 σ H1 y env' R1 h2 _ fun u H2 own2 s2 R2 o2 => ?_)
    refine hp _ H2 dx dy v u _ fr0 _ hd_sub (o1.step s2 R2 hx) (o2.step StpE.refl R2 hy) hpp (Give.bl ⟨false, rfl, ?_⟩)
    rw [if_neg (fun z => nomatch z)]
    exact ⟨false, rfl, k H2 own2 (s1.trans s2) R2⟩
  · cases q
end
end Dz
/-! DzIsi: isinstance with built-in classes, tuples of them, own classes. -/
namespace Dz
open PySem PyProof.Rows L2
/-- a built-in type's name -/
def D.tn : D → Option String
  | .non => some "NoneType"
  | .bl _ => some "bool"
  | .int _ => some "int"
  | .str _ => some "str"
  | .tup _ => some "tuple"
  | .kup _ => some "tuple"
  | .lst _ => some "list"
  | .flz _ => some "list"
  | _ => none
section
variable {K : PySem.W.Frag} {Hh : Vw} {H : Hp} {v : V} {d : D}
theorem tyx_seqT {a : Addr} {vs : List V} (h : SqT K H a vs) : TyX K H (.ref a) (.type "tuple") := by
  rcases h with (h | ⟨o, h⟩) | ⟨o, its, n, h, c, _⟩
  · exact .base (.tup h)
  · exact .fTuple h
  · exact .kTuple h c
theorem tyx_seqL {a : Addr} {vs : List V} (h : SqL K H a vs) : TyX K H (.ref a) (.type "list") := by
  rcases h with (h | ⟨o, h⟩) | ⟨o, its, n, h, c, _⟩
  · exact .base (.lst h)
  · exact .base (.frz h)
  · exact .kList h c
theorem View.tyx {n : String} (h : View K Hh H d v) (e : Sub Hh H) (q : d.tn = some n) : TyX K H v (.type n) := by
  cases d with
  | non => cases q; rw [h.non]; exact .base .non
  | bl b => cases q; rw [h.bl]; exact .base (.bl b)
  | int i => cases q; rw [h.int]; exact .base (.int i)
  | str s => cases q; rw [h.str]; exact .base (.str s)
  | tup xs => cases q; obtain ⟨a, vs, rfl, h1, _⟩ := h.tup rfl e; exact tyx_seqT h1
  | kup xs => cases q; obtain ⟨a, vs, rfl, h1, _⟩ := h.tup rfl e; exact tyx_seqT h1
  | lst xs => cases q; obtain ⟨a, vs, rfl, h1, _⟩ := h.lst e; exact .base (.lst h1)
  | flz xs => cases q; obtain ⟨a, vs, rfl, h1, _⟩ := h.flz e; exact tyx_seqL h1
  | _ => cases q
end
def tnames : List String := ["NoneType", "bool", "int", "str", "tuple", "list"]
def tcls : List String := ["bool", "int", "str", "tuple", "list", "dict"]
/-- of a type among tnames, a class among tcls -/
def isiB (t c : String) : Bool := t == c || (t == "bool" && c == "int")
theorem isiB_ok {K : PySem.W.Frag} : ∀ t ∈ tnames, ∀ c ∈ tcls, PySem.W.kitOne K (.type t) (.type c) = some (isiB t c) := fun t ht c hc => kit_ty (by
  revert t c
  decide +kernel)
theorem tn_mem {d : D} {n : String} (q : d.tn = some n) : n ∈ tnames := by
  cases d <;> cases q <;> decide
/-- the names of a tuple of classes -/
def tyNames : List D → Option (List String)
  | [] => some []
  | .ty n :: r => if tcls.contains n then (tyNames r).map (n :: ·) else none
  | _ => none
def pIsi : PrN := fun ds => match ds with
  | [x, .ty n] => match x.tn with
    | some t => if tcls.contains n then some (.bl (isiB t n), false) else none
    | none => none
  | [x, .tup cs] => match x.tn, tyNames cs with
    | some t, some ns => some (.bl (ns.any (isiB t)), false)
    | _, _ => none
  | _ => none
theorem tyNames_ok {K : PySem.W.Frag} {H : Vw} {t : String} (ht : t ∈ tnames) : ∀ {cs : List D} {ns : List String} {vs : List V}, tyNames cs = some ns → RepL K H cs vs → ∃ us, Paired ClsV vs us ∧ PySem.W.kitAny K (.type t) us = some (ns.any (isiB t))
  | [], ns, vs, q, r => by
    cases q
    cases r
    exact ⟨[], .nil, kitAny_nil⟩
  | .ty n :: cs, ns, vs, q, r => by
    unfold tyNames at q
    split at q
    · rename_i hn
      obtain ⟨ns', q1, rfl⟩ := Option.map_eq_some_iff.mp q
      cases r with
      | cons r1 r2 =>
        cases r1
        obtain ⟨us, p1, p2⟩ := tyNames_ok ht q1 r2
        refine ⟨.type n :: us, .cons (.ty n) p1, ?_⟩
        have hn2 : n ∈ tcls := by simpa using hn
        refine kitAny_cons (isiB_ok t ht n hn2) (fun hb => ?_) (fun hb => ?_)
        · rw [List.any_cons, hb, Bool.false_or]; exact p2
        · rw [List.any_cons, hb, Bool.true_or]
    · cases q
  | .non :: cs, ns, vs, q, r => by cases q
  | .bl _ :: cs, ns, vs, q, r => by cases q
  | .int _ :: cs, ns, vs, q, r => by cases q
  | .str _ :: cs, ns, vs, q, r => by cases q
  | .tup _ :: cs, ns, vs, q, r => by cases q
  | .kup _ :: cs, ns, vs, q, r => by cases q
  | .lst _ :: cs, ns, vs, q, r => by cases q
  | .flz _ :: cs, ns, vs, q, r => by cases q
  | .dic _ _ :: cs, ns, vs, q, r => by cases q
  | .ins _ _ _ :: cs, ns, vs, q, r => by cases q
section
variable {X : Cx}
def rIsiA (K : PySem.W.Frag) : List V → Hp → VK → Prop := fun xs H Q => rIsi K xs H Q ∨ rIsiT K xs H Q
theorem call_isiA : CallR X (.builtin "isinstance") (rIsiA X.K) := by
  intro pins s σ H xs us Q I r h
  rcases h with h | h
  · exact call_isi pins s σ H xs us Q I r h
  · exact call_isiT pins s σ H xs us Q I r h
theorem pn_isi : PN X (rIsiA X.K) pIsi := by
  intro Hh H ds vs d fr Q e vx q g
  unfold pIsi at q
  split at q
  · rename_i x n
    split at q
    · rename_i t ht
      split at q
      · rename_i hn
        cases q
        cases vx with
        | cons v1 v2 => cases v2 with
          | cons v3 v4 =>
            cases v4
            have hn2 : n ∈ tcls := by simpa using hn
            have hc := v3.sh rfl
            cases hc
            exact .inl ⟨_, _, .type t, .type n, isiB t n, rfl, .ty n, v1.tyx e ht, isiB_ok t (tn_mem ht) n hn2, g.old rfl _ (.bl _)⟩
      · cases q
    · cases q
  · rename_i x cs
    split at q
    · rename_i t ns ht hns
      cases q
      cases vx with
      | cons v1 v2 => cases v2 with
        | cons v3 v4 =>
          cases v4
          obtain ⟨a, us, rfl, h1, h2⟩ := v3.tupS e
          obtain ⟨ws, p1, p2⟩ := tyNames_ok (tn_mem ht) hns h2
          exact .inr ⟨_, a, us, .type t, ws, _, rfl, h1, p1, v1.tyx e ht, p2, g.old rfl _ (.bl _)⟩
    · cases q
  · cases q
theorem e_isi {p pos : Pos} {a b : Expr} {f : LF} (hm : X.mg "isinstance" = none) (hf : SL X f [a, b]) (hg : Gl X "isinstance" := by rfl) (he : plainE a = true := by rfl) (hpl : plainE b = true := by rfl) : SE X (fPrim pIsi f) (.Call (.Name "isinstance" p) [a, b] [] pos) :=
  se_prim hf pn_isi (pe_callB call_isiA hg hm (by decide +kernel) pa_w (by decide) (by decide) (star1 he) (plain_any (es := [b]) (by simp [hpl])))
/-! ### own classes -/
/-- the class of an instance among the classes of the program: cls tells (class, other class) pairs; tn0: what is none of a built-in kind -/
structure IsiOk (K : PySem.W.Frag) (sub : Str → Str → Option Bool) (own : Str → Bool) : Prop where
  ins : ∀ C C' b, sub C C' = some b → C8.InsC K (He.ga K C) ∧ PySem.W.kitOne K (.ref (He.ga K C)) (.ref (He.ga K C')) = some b
  blt : ∀ C, own C = true → ∀ t ∈ tnames, PySem.W.kitOne K (.type t) (.ref (He.ga K C)) = some false
def fIsiO (sub : Str → Str → Option Bool) (own : Str → Bool) (C : Str) (o : OF) : EF := fun env => match o env with
  | some (op, e1) => match res e1 op with
    | some (.ins C1 _ _) => match sub C1 C with
      | some b => some (.bl b, false, e1)
      | none => none
    | some d => if d.tn.isSome && own C then some (.bl false, false, e1) else none
    | none => none
  | none => none
theorem tyx_ins {K : PySem.W.Frag} {H : Hp} {a dx C : Addr} {fs : List (Str × V)} (c : C8.InsC K C) (h : H a = some (.ins C dx fs)) : TyX K H (.ref a) (.ref C) := .base (.ins h c.cl c.ha c.hn c.htk c.hm)
theorem e_isiO {sub : Str → Str → Option Bool} {own : Str → Bool} {C x : Str} {o : OF} {e : Expr} {p p2 pos : Pos} (hi : IsiOk X.K sub own) (hb : X.mg "isinstance" = none) (hm : X.mg x = some (.ref (He.ga X.K C))) (ho : SO X o e)
    (hgb : Gl X "isinstance" := by rfl) (hg : Gl X x := by rfl) (hd1 : (x == ("__debug__" : Str)) = false := by decide) (he : plainE e = true := by rfl) : SE X (fIsiO sub own C o) (.Call (.Name "isinstance" p) [e, .Name x p2] [] pos) := by
  refine ⟨?_⟩
  intro A own1 env σ H d fr env' R h Q k
  have pc : PE X (.Name x p2) (tC (.ref (He.ga X.K C))) := pe_glob (v := .ref (He.ga X.K C)) hg hm rfl hd1
  refine we_of (pe_callB call_isi hgb hb (by decide +kernel) (pa_cons pe_w (pa_cons pc pa_nil rfl) (star1 he)) (by decide) (by decide) (star1 he) (plain_any (es := [.Name x p2]) rfl)) ?_
  unfold fIsiO at h
  split at h
  case h_2 => cases h
  rename_i op e1 h1
  split at h
  · rename_i C1 ns ds h2
    split at h
    · rename_i b hs
      cases h
      refine ho A own1 env σ H op env' R h1 _ fun v H1 own2 s1 R1 o1 => ?_
      obtain ⟨q1, q2⟩ := hi.ins C1 C b hs
      obtain ⟨a, dx, fs, rfl, g1, _, _⟩ := (o1.step StpE.refl R1 h2).ins hd_sub
      exact ⟨_, _, .ref (He.ga X.K C1), .ref (He.ga X.K C), b, rfl, .own _, tyx_ins q1 g1, q2, k _ H1 own2 s1 ⟨R1, .bl b, fun z => by cases z⟩⟩
    · cases h
  · rename_i d0 hne h2
    split at h
    · rename_i hc
      cases h
      obtain ⟨c1, c2⟩ := Bool.and_eq_true_iff.mp hc
      obtain ⟨t, ht⟩ := Option.isSome_iff_exists.mp c1
      refine ho A own1 env σ H op env' R h1 _ fun v H1 own2 s1 R1 o1 => ?_
      exact ⟨_, _, .type t, .ref (He.ga X.K C), false, rfl, .own _, (o1.step StpE.refl R1 h2).tyx hd_sub ht, hi.blt C c2 t (tn_mem ht), k _ H1 own2 s1 ⟨R1, .bl false, fun z => by cases z⟩⟩
    · cases h
  · cases h
/-- the name of a built-in class -/
theorem e_ty {x : Str} {n : String} {p : Pos} (hm : X.mg x = none) (hv : bootBuiltins x = some (.type n)) (hg : Gl X x := by rfl) (hn : x ≠ "__name__" := by decide) (hd : (x == ("__debug__" : Str)) = false := by decide) : SE X (fCon (.ty n)) (.Name x p) := se_con (pe_bltn hg hm hv (v := .ty n) rfl hn hd) fun _ => .ty n
end
end Dz
/-! DzTru: truth by an own __bool__, bool(x), == by an own __eq__. -/
namespace Dz
open PySem PyProof.Rows L2
section
variable {X : Cx}
/-- a def's call from within a built-in or an operator -/
theorem call_here {A : Around} {k n : Nat} {f : Addr} {run : Run} {pins : List (Addr × PySem.Obj)} {s : Shared} {σ : L2.St} {H : Hp} {vs : List V} {us : List Value} {Q : VK} (hA : A.frames = X.A.frames) (hr : Room k A) (c : Cal X k f n run)
    (I : Inv X pins σ H s) (rv : Vals vs us) (h : spE X.K n run vs H Q E0) : wpAny (model X.prog X.w) A (call (.ref f) us) (EP X pins σ Q) X.xe s := by
  obtain ⟨fd, ps, F, hb, hl⟩ := c.ex
  have e0 : Env0 X.prog X.w X.K X.mg X.base A X.stack s H := by
    have e := I.env0
    exact ⟨by rw [hA]; exact e.frames, e.mod, e.bs, e.bsz, e.funs, e.frf, e.hok, e.bare⟩
  have hlen := F.len _ _ _ _ h
  refine wpAny_call (codeAny_mono (F.run A X.stack s H ⟨us, []⟩ us vs Q E0 hr e0 (by
    have := hb s us I.kIn (by rw [List.append_nil, ← rv.length, hlen])
    simpa using this) rv h) fun r s' hq => ?_)
  cases r with
  | error e => exact pass0 pins σ H s e s' I hq
  | ok fl =>
    cases fl with
    | ret w =>
      exact I.after hq
    | next => exact False.elim hq
    | brk => exact False.elim hq
    | cont => exact False.elim hq
/-! ### truth by an own __bool__ -/
def rTruO (X : Cx) (k : Nat) : V → Hp → (Bool → Hp → Prop) → Prop := fun x H Q => (∃ b, TruV X.K x H b ∧ Q b H) ∨ ∃ a C dx fs g run, x = .ref a ∧ H a = some (.ins C dx fs) ∧ Meth X.K C "__bool__" g ∧ Cal X k g 1 run ∧ spE X.K 1 run [x] H (fun z H' => ∃ b, z = .bl b ∧ Q b H') E0
theorem tru_own {A : Around} {k : Nat} {pins : List (Addr × PySem.Obj)} {s : Shared} {σ : L2.St} {H : Hp} {Q : Bool → Hp → Prop} {a C dx g : Addr} {fs : List (Str × V)} {run : Run} (hA : A.frames = X.A.frames) (hr : Room k A) (I : Inv X pins σ H s)
    (ha : H a = some (.ins C dx fs)) (m : Meth X.K C "__bool__" g) (c : Cal X k g 1 run) (h : spE X.K 1 run [.ref a] H (fun z H' => ∃ b, z = .bl b ∧ Q b H') E0) : wpAny (model X.prog X.w) A (truthy (.ref a)) (TP X pins σ Q) X.xe s := by
  obtain ⟨mA, J, _⟩ := ins_get I.hok ha
  obtain ⟨od, J, _⟩ := J.look
  obtain ⟨m0, hF⟩ := I.fr
  refine PySem.W.truthy_K hF I.ok.mod.kin J m.at_ m.fn (wpAny_mono (call_here hA hr c I (show Vals [V.ref a] [Value.ref a] from .cons rfl .nil) h) (fun r s' q => ?_) fun _ _ x => x)
  obtain ⟨z, H', I', rz, b, ez, q⟩ := q
  subst ez
  cases rz
  exact ⟨H', I', q⟩
theorem tr_own {k : Nat} (hr : Room k X.A) : TruR X (rTruO X k) := by
  intro pins s σ H x v Q I rx h
  rcases h with h | ⟨a, C, dx, fs, g, run, rfl, ha, m, c, h⟩
  · exact tru_ok pins s σ H x v Q I rx h
  · cases rx
    exact tru_own rfl hr I ha m c h
/-- an operand's truth, also of an instance with an own __bool__ -/
def tOfO (l : List (Str × Str × Nat × Run)) (f : OF) : TF := fun env => match f env with
  | some (o, e1) => match res e1 o with
    | some (.ins C _ _) => match mtP l C "__bool__", argsOf e1 [o] with
      | some (1, run), some args => match run e1.st args with
        | some (.bl b, st', args') => some (b, (putBack e1 [o] args').sto st')
        | _ => none
      | _, _ => none
    | some d => match d.tru with
      | some b => some (b, e1)
      | none => none
    | none => none
  | none => none
theorem st_ofO {k : Nat} {l : List (Str × Str × Nat × Run)} {f : OF} {e : Expr} (hmt : MtOk X.prog X.w X.K X.mg X.base k l) (hr : Room k X.A) (hf : SO X f e) (he : ∀ whole, isTrue e X.env whole = (do let v ← whole; standAt e.pos; holding [v] (truthy v)) := by intro _; rfl) : ST X (tOfO l f) e := by
  refine ⟨?_⟩
  intro A own env σ H b env' R h Q kk
  unfold tOfO at h
  split at h
  case h_2 => cases h
  rename_i o e1 h1
  refine wt_of (pt_truthR pe_w (tr_own hr) he) (hf A own env σ H o e1 R h1 _ fun v H1 own1 s1 R1 o1 => ?_)
  split at h
  · rename_i C ns ds h2
    split at h
    · rename_i run args h3 h4
      split at h
      · rename_i b' st' args' h5
        cases h
        obtain ⟨c1, g, c2, c3⟩ := hmt C _ 1 run h3
        obtain ⟨a, dx, fs, rfl, g1, _, _⟩ := (o1.step StpE.refl R1 h2).ins hd_sub
        refine .inr ⟨a, _, dx, fs, g, run, rfl, g1, c2, c3.cal, ?_⟩
        refine call_sp R1 (.cons o1 .nil) h4 ?_ h5 (c3.ok _ _ _ _ _ h5) rfl fun v H' own2 s _ r q => ?_
        · cases o with
          | inl d => exact List.nodup_nil
          | inr i => exact List.nodup_cons.mpr ⟨fun z => (nomatch z), List.nodup_nil⟩
        · cases q
          exact ⟨b, rfl, kk H' own2 (s1.trans s) r⟩
      · cases h
    · cases h
  · rename_i d hne hd
    split at h
    · rename_i b' hb
      cases h
      exact .inl ⟨b, (o1.step StpE.refl R1 hd).tru hd_sub hb, kk H1 own1 s1 R1⟩
    · cases h
  · cases h
/-! ### bool(x) -/
theorem meets_bool {prog : Program} {w : World} (x : Value) : MeetsIn prog w (Builtin.«bool.__new__» ⟨[.type "bool", x], []⟩) (fun A R s => wpAny (model prog w) A.in1 (truthy x) (fun b s' => R (.ok (.ret (.bool b))) s') (fun e s' => R (.error e) s') s) :=
  .of_wp fun A R s hs => by
    obtain ⟨hp, g, d, tk, os⟩ := s
    have f1 := F.conv_sub_bool
    repeat (any_goals (first | assumption | wp_step))
    refine wpAny_mono (show wpAny _ _ (truthy x) _ _ _ from hs) (fun b s' q => ?_) (fun _ _ z => z)
    exact wpAny_pure ⟨_, rfl, q⟩
theorem call_bool_any {prog : Program} {w : World} {A : Around} {E : Value → Shared → Prop} {s : Shared} {x : Value} {Q : Value → Shared → Prop} (h : wpAny (model prog w) A.in1.in1 (truthy x) (fun b s' => Q (.bool b) s') E s) : wpAny (model prog w) A (call (.type "bool") [x]) Q E s :=
  callType_newIn F.called_bool F.newNe_bool (F.typeCall_bool_1 x) (F.newCall_bool_1 x) (fun obj => F.args_object_init_2 obj x) F.entry_bool_new (meets_bool x) (show wpAny _ _ (truthy x) _ _ _ from wpAny_mono h (fun b s' q => ⟨rfl, q⟩) (fun _ _ z => z))
def rBoolO (X : Cx) (k : Nat) : List V → Hp → VK → Prop := fun xs H Q => ((∃ i, xs = [.int i] ∧ Q (.bl (i != 0)) H) ∨ ∃ k, xs = [.bl k] ∧ Q (.bl k) H) ∨
  ∃ a C dx fs g run, xs = [.ref a] ∧ H a = some (.ins C dx fs) ∧ Meth X.K C "__bool__" g ∧ Cal X k g 1 run ∧ spE X.K 1 run [.ref a] H (fun z H' => ∃ b, z = .bl b ∧ Q (.bl b) H') E0
theorem call_boolO {k : Nat} (hr : Room (k + 2) X.A) : CallR X (.type "bool") (rBoolO X k) := by
  intro pins s σ H xs us Q I r h
  rcases h with h | ⟨a, C, dx, fs, g, run, rfl, ha, m, c, h⟩
  · exact call_bool1 pins s σ H xs us Q I r h
  · obtain ⟨u, rfl, ru⟩ := vals1 r
    cases ru
    refine call_bool_any (wpAny_mono (tru_own (Q := fun b H' => Q (.bl b) H') (A := X.A.in1.in1) rfl hr.in1.in1 I ha m c h) (fun b s' q => ?_) fun _ _ x => x)
    obtain ⟨H', I', q⟩ := q
    exact ⟨.bl b, H', I', rfl, q⟩
def fBoolO (l : List (Str × Str × Nat × Run)) (f : OF) : EF := fun env => match f env with
  | some (o, e1) => match res e1 o with
    | some (.ins C _ _) => match mtP l C "__bool__", argsOf e1 [o] with
      | some (1, run), some args => match run e1.st args with
        | some (.bl b, st', args') => some (.bl b, false, (putBack e1 [o] args').sto st')
        | _ => none
      | _, _ => none
    | some (.bl b) => some (.bl b, false, e1)
    | some (.int i) => some (.bl (i != 0), false, e1)
    | _ => none
  | none => none
theorem wa_one {e : Expr} {σ : L2.St} {H : Hp} {Q : List V → Hp → Prop} (he : plainE e = true) (h : WE X e σ H fun v H' => Q [v] H') : WA X [e] σ H Q := wa_of (pa_cons pe_w pa_nil (star1 he)) h
theorem e_bool {k : Nat} {l : List (Str × Str × Nat × Run)} {f : OF} {a : Expr} {p pos : Pos} (hmt : MtOk X.prog X.w X.K X.mg X.base k l) (hr : Room (k + 2) X.A) (hm : X.mg "bool" = none) (hf : SO X f a) (hg : Gl X "bool" := by rfl) (he : plainE a = true := by rfl) : SE X (fBoolO l f) (.Call (.Name "bool" p) [a] [] pos) := by
  refine ⟨?_⟩
  intro A own env σ H d fr env' R h Q kk
  unfold fBoolO at h
  split at h
  case h_2 => cases h
  rename_i o e1 h1
  refine we_of (pe_callTy (call_boolO hr) hg hm (by decide +kernel) pa_w (by decide) (by decide) (star1 he)) (wa_one he (hf A own env σ H o e1 R h1 _ fun v H1 own1 s1 R1 o1 => ?_))
  split at h
  · rename_i C ns ds h2
    split at h
    · rename_i run args h3 h4
      split at h
      · rename_i b' st' args' h5
        cases h
        obtain ⟨c1, g, c2, c3⟩ := hmt C _ 1 run h3
        obtain ⟨a, dx, fs, rfl, g1, _, _⟩ := (o1.step StpE.refl R1 h2).ins hd_sub
        refine .inr ⟨a, _, dx, fs, g, run, rfl, g1, c2, c3.cal, ?_⟩
        refine call_sp R1 (.cons o1 .nil) h4 ?_ h5 (c3.ok _ _ _ _ _ h5) rfl fun v H' own2 s _ r q => ?_
        · cases o with
          | inl d => exact List.nodup_nil
          | inr i => exact List.nodup_cons.mpr ⟨fun z => (nomatch z), List.nodup_nil⟩
        · cases q
          exact ⟨b', rfl, kk _ H' own2 (s1.trans s) ⟨r, .bl b', fun z => by cases z⟩⟩
      · cases h
    · cases h
  · rename_i b hd
    cases h
    have q := (o1.step StpE.refl R1 hd).bl
    subst q
    exact .inl (.inr ⟨b, rfl, kk _ H1 own1 s1 ⟨R1, .bl b, fun z => by cases z⟩⟩)
  · rename_i i hd
    cases h
    have q := (o1.step StpE.refl R1 hd).int
    subst q
    exact .inl (.inl ⟨i, rfl, kk _ H1 own1 s1 ⟨R1, .bl _, fun z => by cases z⟩⟩)
  · cases h
/-! ### == by an own __eq__ -/
/-- the other's type doesn't go first -/
def rEqO (X : Cx) (k : Nat) : R2 := fun x y H Q => ∃ a C dx fs g run t, x = .ref a ∧ H a = some (.ins C dx fs) ∧ Meth X.K C "__eq__" g ∧ Cal X k g 2 run ∧ TyX X.K H y t ∧ PySem.W.notFirst X.K C t = true ∧ spE X.K 2 run [.ref a, y] H (fun z H' => ∃ b, z = .bl b ∧ Q (.bl b) H') E0
theorem tyx_looks {pins : List (Addr × PySem.Obj)} {s : Shared} {σ : L2.St} {H : Hp} {y : V} {v t : Value} (I : Inv X pins σ H s) (ry : RelV y v) (h : TyX X.K H y t) : PySem.W.Looks (model X.prog X.w) s.heap (typeOf v) t := by
  obtain ⟨P, Z, p, hx⟩ := kit_of I ry h
  exact Z.ty _ _ I.kIn p
theorem op_eqO {k : Nat} (hr : Room k X.A) : OpR X (compareOp .Eq) (rEqO X k) := by
  intro pins s σ H x y v u Q I rx ry h
  obtain ⟨a, C, dx, fs, g, run, t, rfl, ha, m, c, ty, nf, h⟩ := h
  cases rx
  show wpAny (model X.prog X.w) X.A (richCompare .Eq (.ref a) u) (EP X pins σ Q) X.xe s
  obtain ⟨mA, J, _⟩ := ins_get I.hok ha
  obtain ⟨od, J, _⟩ := J.look
  obtain ⟨m0, hF⟩ := I.fr
  refine PySem.W.cmp_K (op := .Eq) hr.units0 hF I.ok.mod.kin J (tyx_looks I ry ty) nf m.at_ m.fn (wpAny_mono (call_here rfl hr c I (show Vals [V.ref a, y] [Value.ref a, u] from .cons rfl (.cons ry .nil)) h) (fun r s' q => ?_) fun _ _ x => x)
  obtain ⟨z, H', I', rz, b, ez, q⟩ := q
  subst ez
  cases rz
  exact ⟨.bl b, H', I', rfl, q⟩
end
end Dz
/-! DzNe: != by an own __eq__ (object's __ne__); the two as expressions and tests. -/
namespace PySem.W
open PySem PySem.Calls PyProof.Rows Builtin
section
variable {prog : Program} {w : World} {A : Around} {E : Value → Shared → Prop} {s : Shared} {K : Frag} {x C L f : Addr} {h₀ : Heap} {m : Str → Option Value} {ox : Obj} {od : Option Obj} {b tb : Value}
theorem ne_bind (self : Value) : bindSpecial (.builtin "object.__ne__") self = pure (.builtin "object.__ne__", [self]) := F.cmp_object.ne.bind self
theorem ifBound_ne {args : List Value} {Q : Option Value → Shared → Prop} (X : K.In s.heap) (I : InstAt s.heap x ox C od) (hs : findIn K (.ref C) "__ne__" = some (some (.builtin "object.__ne__")))
    (h : wpAny (model prog w) A (call (.builtin "object.__ne__") (.ref x :: args)) (fun v => Q (some v)) E s) : wpAny (model prog w) A (callSpecialIfBound? (.ref x) "__ne__" args) Q E s := by
  simp only [callSpecialIfBound?, bindSpecialIfBound?]
  refine wpAny_holding (wpAny_bind (wpAny_bind (wpAny_bind (I.type.here ((looks_findIn X hs).here ?_)))))
  simp only [ne_bind]
  refine wpAny_bind (wpAny_askSetting (wpAny_ite ?_))
  have fin : wpAny (model prog w) A (call (.builtin "object.__ne__") ([.ref x] ++ args) >>= fun v => pure (some v)) Q E s := wpAny_bind (wpAny_mono h (fun v s' h' => wpAny_pure h') fun _ _ h' => h')
  split
  · exact wpAny_bind (wpAny_pure (wpAny_pure fin))
  · exact wpAny_tryCatch (wpAny_bind (wpAny_pure (wpAny_pure fin)))
theorem check_ne {rest : List Value} {Q : Unit → Shared → Prop} (X : K.In s.heap) (I : InstAt s.heap x ox C od) (hm : mroIn K C (.type "object") = some true) (ha : argsOk "object.__ne__" ⟨.ref x :: rest, []⟩) (hq : Q () s) :
    wpAny (model prog w) A (checkBuiltinCall "object.__ne__" ⟨.ref x :: rest, []⟩) Q E s := by
  simp only [checkBuiltinCall, F.cmpKind_ne, F.cmpSplit_ne]
  refine wpAny_bind ?_
  refine wpAny_bind (I.type.here ((looks_mroIn X hm).here ?_))
  simp only [Bool.not_true, Bool.false_eq_true, if_false]
  cases hsig : Manifest.signature? "object.__ne__" with
  | none => exact wpAny_pure hq
  | some sig =>
    simp only [argsOk, hsig] at ha
    have h2 : Bind.checkArgs "object.__ne__" sig ⟨.ref x :: rest, []⟩ = pure () := ha
    show wpAny _ A (Bind.checkArgs "object.__ne__" sig ⟨.ref x :: rest, []⟩) Q E _
    rw [h2]
    exact wpAny_pure hq
/-- object's __ne__: not what the own __eq__ answers -/
theorem objNe_K (hu : A.units < cLine) (X : K.In s.heap) (I : InstAt s.heap x ox C od) (he : findIn K (.ref C) "__eq__" = some (some (.ref f))) (hf : isFn K (.ref f) = true) {Q : Fin → Shared → Prop}
    (hcall : wpAny (model prog w) A (call (.ref f) [.ref x, b]) (fun v s' => ∃ k, v = .bool k ∧ Q (.done (.ret (.bool (!k)))) s') E s) :
    wpAny (model prog w) A (Builtin.«object.__ne__» ⟨[.ref x, b], []⟩) Q E s := by
  obtain ⟨hp, g, d, t, os⟩ := s
  unfold Builtin.«object.__ne__»
  repeat (first
    | with_reducible refine wpAny_cRoomFor hu ?_
    | (refine wpAny_bind (m := callSpecialIfBound? (.ref x) (Str.ofString "__eq__") [b])
        (ifBound_K X I he hf (wpAny_mono hcall (fun r s' hr => by
          obtain ⟨k, rfl, hq⟩ := hr
          repeat (first | exact hq | exact wpAny_pure hq | exact wpAny_truthy_bool hq | (refine wpAny_bind (m := truthy (.bool _)) (wpAny_truthy_bool ?_)) | wp_step)) fun _ _ e => e)))
    | wp_step)
theorem call_ne (hu : A.units + 1 < cLine) (X : K.In s.heap) (I : InstAt s.heap x ox C od) (hm : mroIn K C (.type "object") = some true) (he : findIn K (.ref C) "__eq__" = some (some (.ref f))) (hf : isFn K (.ref f) = true) {Q : Value → Shared → Prop}
    (hcall : wpAny (model prog w) A.in1 (call (.ref f) [.ref x, b]) (fun v s' => ∃ k, v = .bool k ∧ Q (.bool (!k)) s') E s) :
    wpAny (model prog w) A (call (.builtin "object.__ne__") [.ref x, b]) Q E s := by
  refine wpAny_call (codeAny_call_builtin F.cmp_object.ne.plain F.cmpEntry_ne (check_ne X I hm (F.cmpArgs_ne _ _) (objNe_K (A := A.in1) hu X I he hf (wpAny_mono hcall (fun v s' hv => ?_) fun _ _ e => e))))
  obtain ⟨k, rfl, hq⟩ := hv
  first | exact ⟨k, rfl, hq⟩ | exact ⟨k, rfl, wpAny_pure hq⟩
theorem ne_K {Q : Value → Shared → Prop} (hu : A.units + 1 < cLine) (F : Fr h₀ L s.heap m) (X₀ : K.In h₀) (I : InstAt s.heap x ox C od) (hb : Looks (model prog w) s.heap (typeOf b) tb) (hn : notFirst K C tb = true)
    (hs : findIn K (.ref C) "__ne__" = some (some (.builtin "object.__ne__"))) (hm : mroIn K C (.type "object") = some true) (he : findIn K (.ref C) "__eq__" = some (some (.ref f))) (hf : isFn K (.ref f) = true)
    (h : wpAny (model prog w) A.in1 (call (.ref f) [.ref x, b]) (fun v s' => ∃ k, v = .bool k ∧ Q (.bool (!k)) s') E s) : wpAny (model prog w) A (richCompare .NotEq (.ref x) b) Q E s := by
  have X := X₀.keeps F.keep
  have one : wpAny (model prog w) A (tryCompare (.ref x) "__ne__" b) (fun r s' => ∃ v, r = some v ∧ Q v s') E s := by
    unfold tryCompare
    refine wpAny_bind (ifBound_ne X I hs (call_ne hu X I hm he hf (wpAny_mono h (fun v s' hv => ?_) fun _ _ e => e)))
    obtain ⟨k, rfl, hq⟩ := hv
    exact ⟨k, rfl, wpAny_pure ⟨_, rfl, hq⟩⟩
  unfold richCompare
  simp only [oneThing_ref]
  refine wpAny_holding (wpAny_bind (wpAny_cRoomFor (Nat.lt_of_succ_lt hu) ?_))
  refine wpAny_bind (I.type.here (wpAny_bind (hb.here ?_)))
  split
  · rename_i q
    have e : subIn K tb (.ref C) = some false := by
      rcases Bool.or_eq_true_iff.mp hn with e | e
      · rw [beq_iff_eq.mp e] at q; simp at q
      · exact beq_iff_eq.mp e
    refine wpAny_bind ((looks_subIn X e).here ?_)
    simp only [Bool.false_eq_true, if_false]
    refine wpAny_bind (wpAny_mono one (fun r s' z => ?_) fun _ _ e => e)
    obtain ⟨v, rfl, hq⟩ := z
    exact wpAny_pure hq
  · refine wpAny_bind (wpAny_pure ?_)
    simp only [Bool.false_eq_true, if_false]
    refine wpAny_bind (wpAny_mono one (fun r s' z => ?_) fun _ _ e => e)
    obtain ⟨v, rfl, hq⟩ := z
    exact wpAny_pure hq
end
end PySem.W
namespace Dz
open PySem PyProof.Rows L2
section
variable {X : Cx}
/-- facts of a class with an own __eq__, and of those beside it -/
structure EqOk (K : PySem.W.Frag) (nfo : Str → Str → Bool) (nfb : Str → Bool) : Prop where
  ins : ∀ C C', nfo C C' = true → C8.InsC K (He.ga K C') ∧ PySem.W.notFirst K (He.ga K C) (.ref (He.ga K C')) = true
  blt : ∀ C, nfb C = true → ∀ t ∈ tnames, PySem.W.notFirst K (He.ga K C) (.type t) = true
  ne : ∀ C, nfb C = true → PySem.W.findIn K (.ref (He.ga K C)) "__ne__" = some (some (.builtin "object.__ne__")) ∧ PySem.W.mroIn K (He.ga K C) (.type "object") = some true
def nfD (nfo : Str → Str → Bool) (nfb : Str → Bool) (C : Str) : D → Bool
  | .ins C' _ _ => nfb C && nfo C C'
  | d => nfb C && d.tn.isSome
theorem nfD_ok {K : PySem.W.Frag} {Hh : Vw} {H : Hp} {nfo : Str → Str → Bool} {nfb : Str → Bool} {C : Str} {d : D} {v : V} (e : EqOk K nfo nfb) (h : View K Hh H d v) (s : Sub Hh H) (q : nfD nfo nfb C d = true) : nfb C = true ∧ ∃ t, TyX K H v t ∧ PySem.W.notFirst K (He.ga K C) t = true := by
  have key : (nfb C && d.tn.isSome) = true → nfb C = true ∧ ∃ t, TyX K H v t ∧ PySem.W.notFirst K (He.ga K C) t = true := fun z => by
    obtain ⟨z1, z2⟩ := Bool.and_eq_true_iff.mp z
    obtain ⟨n, hn⟩ := Option.isSome_iff_exists.mp z2
    exact ⟨z1, _, h.tyx s hn, e.blt C z1 n (tn_mem hn)⟩
  cases d with
  | ins C' ns xs =>
    obtain ⟨z1, z2⟩ := Bool.and_eq_true_iff.mp q
    obtain ⟨a, dx, fs, rfl, g1, _, _⟩ := h.ins s
    obtain ⟨i1, i2⟩ := e.ins C C' z2
    exact ⟨z1, _, tyx_ins i1 g1, i2⟩
  | _ => exact key q
def rNeO (X : Cx) (k : Nat) : R2 := fun x y H Q => ∃ a C dx fs g run t, x = .ref a ∧ H a = some (.ins C dx fs) ∧ Meth X.K C "__eq__" g ∧ Cal X k g 2 run ∧ TyX X.K H y t ∧ PySem.W.notFirst X.K C t = true ∧
  PySem.W.findIn X.K (.ref C) "__ne__" = some (some (.builtin "object.__ne__")) ∧ PySem.W.mroIn X.K C (.type "object") = some true ∧ spE X.K 2 run [.ref a, y] H (fun z H' => ∃ b, z = .bl b ∧ Q (.bl (!b)) H') E0
theorem op_neO {k : Nat} (hr : Room (k + 1) X.A) : OpR X (compareOp .NotEq) (rNeO X k) := by
  intro pins s σ H x y v u Q I rx ry h
  obtain ⟨a, C, dx, fs, g, run, t, rfl, ha, m, c, ty, nf, hs, hm, h⟩ := h
  cases rx
  show wpAny (model X.prog X.w) X.A (richCompare .NotEq (.ref a) u) (EP X pins σ Q) X.xe s
  obtain ⟨mA, J, _⟩ := ins_get I.hok ha
  obtain ⟨od, J, _⟩ := J.look
  obtain ⟨m0, hF⟩ := I.fr
  refine PySem.W.ne_K (room1 hr) hF I.ok.mod.kin J (tyx_looks I ry ty) nf hs hm m.at_ m.fn (wpAny_mono (call_here (A := X.A.in1) rfl hr.in1 c I (show Vals [V.ref a, y] [Value.ref a, u] from .cons rfl (.cons ry .nil)) h) (fun r s' q => ?_) fun _ _ x => x)
  obtain ⟨z, H', I', rz, b, ez, q⟩ := q
  subst ez
  cases rz
  exact ⟨b, rfl, .bl (!b), H', I', rfl, q⟩
/-- x == y, x != y: by an own __eq__ of x's class, else as of plain data -/
noncomputable def fEqO (neg : Bool) (l : List (Str × Str × Nat × Run)) (nfo : Str → Str → Bool) (nfb : Str → Bool) (f g : OF) : EF := fun env => match f env with
  | some (x, e1) => match g e1 with
    | some (y, e2) => match res e2 x, res e2 y with
      | some (.ins C _ _), some dy => if nfD nfo nfb C dy && decide ((lent [x, y]).Nodup) then match mtP l C "__eq__", argsOf e2 [x, y] with
        | some (2, run), some args => match run e2.st args with
          | some (.bl b, st', args') => some (.bl (if neg then !b else b), false, (putBack e2 [x, y] args').sto st')
          | _ => none
        | _, _ => none
        else none
      | some dx, some dy => match pEqv neg dx dy with
        | some (d, fr) => some (d, fr, e2)
        | none => none
      | _, _ => none
    | none => none
  | none => none
def rEqA (X : Cx) (k : Nat) : R2 := fun x y H Q => (rEq x y H Q ∨ rEqD X.K x y H Q) ∨ rEqO X k x y H Q
def rNeA (X : Cx) (k : Nat) : R2 := fun x y H Q => (rNe x y H Q ∨ rNeD X.K x y H Q) ∨ rNeO X k x y H Q
theorem op_eqA {k : Nat} (hr : Room (k + 1) X.A) : OpR X (compareOp .Eq) (rEqA X k) := OpR.or (OpR.or op_eq (op_eqD hr.units)) (op_eqO (hr.mono (Nat.le_succ k)))
theorem op_neA {k : Nat} (hr : Room (k + 1) X.A) : OpR X (compareOp .NotEq) (rNeA X k) := OpR.or (OpR.or op_ne (op_neD hr.units)) (op_neO hr)
theorem lent2 {x y : Opn} (h : decide ((lent [x, y]).Nodup) = true) : (lent [x, y]).Nodup := of_decide_eq_true h
/-- what stands behind the two operands -/
theorem eqO_run {k : Nat} {neg : Bool} {l : List (Str × Str × Nat × Run)} {nfo : Str → Str → Bool} {nfb : Str → Bool} {A : Amb} {own2 : Own} {e2 : En} {σ : L2.St} {H2 : Hp} {x y : Opn} {v u : V} {Q : VK} {r : R2}
    (hmt : MtOk X.prog X.w X.K X.mg X.base k l) (he : EqOk X.K nfo nfb) (hr : r = if neg then rNeA X k else rEqA X k)
    (o1 : OpOk X.K A own2 H2 x v) (o2 : OpOk X.K A own2 H2 y u) (R2 : EnvR X.K A own2 e2 σ H2) {C : Str} {ns : List Str} {ds : List D} {dy : D} (hx : res e2 x = some (.ins C ns ds)) (hy : res e2 y = some dy)
    (hc : (nfD nfo nfb C dy && decide ((lent [x, y]).Nodup)) = true) {run : Run} {args args' : List Arg} {st' : List D} {b : Bool} (h3 : mtP l C "__eq__" = some (2, run)) (h4 : argsOf e2 [x, y] = some args) (h5 : run e2.st args = some (.bl b, st', args'))
    (kk : ∀ H' own3, StpE A own2 H2 own3 H' → EnvR X.K A own3 ((putBack e2 [x, y] args').sto st') σ H' → Q (.bl (if neg then !b else b)) H') : r v u H2 Q := by
  obtain ⟨c1, g, c2, c3⟩ := hmt C _ 2 run h3
  obtain ⟨z1, z2⟩ := Bool.and_eq_true_iff.mp hc
  have vx := o1.step StpE.refl R2 hx
  have vy := o2.step StpE.refl R2 hy
  obtain ⟨a, dx, fs, rfl, g1, _, _⟩ := vx.ins hd_sub
  obtain ⟨nb, t, ty, nf⟩ := nfD_ok he vy hd_sub z1
  subst hr
  cases neg with
  | false =>
    refine .inr ⟨a, _, dx, fs, g, run, t, rfl, g1, c2, c3.cal, ty, nf, ?_⟩
    refine call_sp R2 (.cons o1 (.cons o2 .nil)) h4 (lent2 z2) h5 (c3.ok _ _ _ _ _ h5) rfl fun w H' own3 s _ r q => ?_
    cases q
    exact ⟨b, rfl, kk H' own3 s r⟩
  | true =>
    obtain ⟨n1, n2⟩ := he.ne C nb
    refine .inr ⟨a, _, dx, fs, g, run, t, rfl, g1, c2, c3.cal, ty, nf, n1, n2, ?_⟩
    refine call_sp R2 (.cons o1 (.cons o2 .nil)) h4 (lent2 z2) h5 (c3.ok _ _ _ _ _ h5) rfl fun w H' own3 s _ r q => ?_
    cases q
    exact ⟨b, rfl, kk H' own3 s r⟩
theorem OpOk.stp {K : PySem.W.Frag} {A : Amb} {own own' : Own} {H H' : Hp} {o : Opn} {v : V} {env : En} {σ : L2.St} (h : OpOk K A own H o v) (s : StpE A own H own' H') (r : EnvR K A own' env σ H') (q : (res env o).isSome) : OpOk K A own' H' o v := h.keep s r q
/-- an operator over two operands, told once for the value and for the test -/
def Rel2 (X : Cx) (r : R2) (F : EF) (a b : Expr) : Prop := ∀ A own env σ H d fr env', EnvR X.K A own env σ H → F env = some (d, fr, env') → ∀ Q : VK,
  (∀ v H' own', StpE A own H own' H' → Res X.K A own' env' σ H H' fr d v → Q v H') → tOp r (WE X a) (WE X b) σ H Q
theorem Rel2.se {r : R2} {F : EF} {a b : Expr} {op : CmpOp} {pos : Pos} (h : Rel2 X r F a b) (ho : OpR X (compareOp op) r) (hm : behindInMarks op b = false) : SE X F (.Compare a [op] [b] pos) :=
  ⟨fun A own env σ H d fr env' R q Q k => we_of (pe_cmpR ho pe_w pe_w hm) (h A own env σ H d fr env' R q Q k)⟩
theorem Rel2.st {r : R2} {F : EF} {a b : Expr} {op : CmpOp} {pos : Pos} (h : Rel2 X r F a b) (ho : OpR X (compareOp op) r) (hm : behindInMarks op b = false) : ST X (tCp F) (.Compare a [op] [b] pos) := by
  refine ⟨?_⟩
  intro A own env σ H c env' R q Q k
  unfold tCp at q
  split at q
  · rename_i b' fr e1 h1
    cases q
    exact wt_of (pt_cmpR ho pe_w pe_w hm) (h A own env σ H _ fr env' R h1 _ fun v H1 own1 s1 R1 => ⟨c, (View.sc (Hh := _) (H := H1) R1.rp).bl, k H1 own1 s1 R1.en⟩)
  · cases q
theorem rel_eqO {k : Nat} {neg : Bool} {l : List (Str × Str × Nat × Run)} {nfo : Str → Str → Bool} {nfb : Str → Bool} {f g : OF} {a b : Expr} {r : R2} (hmt : MtOk X.prog X.w X.K X.mg X.base k l) (heq : EqOk X.K nfo nfb) (hrr : r = if neg then rNeA X k else rEqA X k)
    (hf : SO X f a) (hg : SO X g b) : Rel2 X r (fEqO neg l nfo nfb f g) a b := by
  intro A own env σ H d fr env' R h Q kk
  unfold fEqO at h
  split at h
  case h_2 => cases h
  rename_i x e1 h1
  split at h
  case h_2 => cases h
  rename_i y e2 h2
  refine hf A own env σ H x e1 R h1 _ fun v H1 own1 s1 R1 o1 => hg A own1 e1 σ H1 y e2 R1 h2 _ fun u H2 own2 s2 R2 o2 => ?_
  split at h
  · rename_i C ns ds dy hx hy
    split at h
    case isFalse => cases h
    rename_i hc
    split at h
    · rename_i run args h3 h4
      split at h
      · rename_i b' st' args' h5
        cases h
        exact eqO_run hmt heq hrr (o1.stp s2 R2 (by rw [hx]; rfl)) o2 R2 hx hy hc h3 h4 h5 fun H' own3 s r => kk _ H' own3 ((s1.trans s2).trans s) ⟨r, .bl _, fun z => by cases z⟩
      · cases h
    · cases h
  · rename_i dx dy hne hx hy
    split at h
    · rename_i d' fr' hp
      cases h
      have q := give (s1.trans s2) R2 kk
      subst hrr
      cases neg with
      | false => exact .inl (.inr (p2_eq _ H2 dx dy v u d fr Q hd_sub (o1.step s2 R2 hx) (o2.step StpE.refl R2 hy) hp q))
      | true => exact .inl (.inr (p2_ne _ H2 dx dy v u d fr Q hd_sub (o1.step s2 R2 hx) (o2.step StpE.refl R2 hy) hp q))
    · cases h
  · cases h
section
variable {k : Nat} {l : List (Str × Str × Nat × Run)} {nfo : Str → Str → Bool} {nfb : Str → Bool} {f g : OF} {a b : Expr} {pos : Pos} (hmt : MtOk X.prog X.w X.K X.mg X.base k l) (heq : EqOk X.K nfo nfb) (hr : Room (k + 1) X.A) (hf : SO X f a) (hg : SO X g b)
include hmt heq hr hf hg
theorem e_eqO : SE X (fEqO false l nfo nfb f g) (.Compare a [.Eq] [b] pos) := (rel_eqO hmt heq rfl hf hg).se (op_eqA hr) (nomark _)
theorem e_neO : SE X (fEqO true l nfo nfb f g) (.Compare a [.NotEq] [b] pos) := (rel_eqO hmt heq rfl hf hg).se (op_neA hr) (nomark _)
theorem t_eqO : ST X (tCp (fEqO false l nfo nfb f g)) (.Compare a [.Eq] [b] pos) := (rel_eqO hmt heq rfl hf hg).st (op_eqA hr) (nomark _)
theorem t_neO : ST X (tCp (fEqO true l nfo nfb f g)) (.Compare a [.NotEq] [b] pos) := (rel_eqO hmt heq rfl hf hg).st (op_neA hr) (nomark _)
end
end
end Dz
/-! DzMix: x += e, abs, sum. -/
namespace Dz
open PySem PyProof.Rows L2
section
variable {X : Cx}
/-- x += e of ints -/
def sAugI (i : Nat) (f : EF) : SF := fun env => match env.sl[i]? with
  | some (some (.int a, .sh)) => match f env with
    | some (.int b, _, e) => if i < e.sl.length then some (.nx (put i (.int (a + b)) false e)) else none
    | _ => none
  | _ => none
theorem ss_augI {i : Nat} {x : Str} {f : EF} {e : Expr} {pos' pos : Pos} (hN : X.N.Nodup) (hi : X.N[i]? = some x) (hx : Loc X.env.scope x) (hf : SE X f e) (hfn : X.fn x = true ∨ X.env.scope.names.lookup x = some .local) : SS X (sAugI i f) (.AugAssign (.Name x pos') .Add e pos) := by
  refine ⟨?_⟩
  intro A own env σ H out r h D k
  unfold sAugI at h
  split at h
  · rename_i a q0
    split at h
    · rename_i b fr e1 q1
      split at h
      · rename_i hl
        cases h
        obtain ⟨v, g1, g2⟩ := r.sh i _ q0
        cases g2
        refine ws_of (ps_aug hN hi hx pe_w ip_add hfn) ⟨_, g1, hf A own env σ H _ fr e1 r q1 _ fun w H1 own1 s1 R1 => ?_⟩
        have hw : w = .int b := (View.sc (Hh := _) (H := H1) R1.rp).int
        subst hw
        have R2 : Res X.K A own1 e1 σ H H1 false (.int (a + b)) (.int (a + b)) := ⟨R1.en, .int _, fun z => by cases z⟩
        obtain ⟨own2, s2, r2⟩ := R2.put s1.toStp r.al hl
        exact ⟨a, b, rfl, rfl, k _ H1 own2 s2 r2⟩
      · cases h
    · cases h
  · cases h
/-- xs += ys of lists, xs owned by slot i -/
def sAugX (i : Nat) (f : OF) : SF := fun env => match ownL env i with
  | some _ => match f env with
    | some (o, e) => match res e o, ownL e i with
      | some (.lst ys), some (xs, fl) => if xs.length + ys.length < 100000 then some (.nx (e.set i (some (.lst (xs ++ ys), fl)))) else none
      | _, _ => none
    | none => none
  | none => none
theorem ss_augX {i : Nat} {x : Str} {f : OF} {e : Expr} {pos' pos : Pos} (hN : X.N.Nodup) (hi : X.N[i]? = some x) (hx : Loc X.env.scope x) (hf : SO X f e) (hfn : X.fn x = true ∨ X.env.scope.names.lookup x = some .local) : SS X (sAugX i f) (.AugAssign (.Name x pos') .Add e pos) := by
  refine ⟨?_⟩
  intro A own env σ H out r h D k
  unfold sAugX at h
  split at h
  · rename_i xf0 q00
    obtain ⟨xs0, f0⟩ := xf0
    obtain ⟨q0, hf0⟩ := ownL_some q00
    split at h
    · rename_i o e1 q1
      split at h
      · rename_i ys xs fl q3 q22
        obtain ⟨q2, hfl⟩ := ownL_some q22
        split at h
        · rename_i hl
          cases h
          obtain ⟨a, h1, h2, t0⟩ := r.ow i _ f0 q0 hf0
          refine ws_of (ps_aug hN hi hx pe_w iop_ext hfn) ⟨_, h2, hf A own env σ H o e1 r q1 _ fun w H1 own1 s1 R1 o1 => ?_⟩
          obtain ⟨a', h3, h4, t⟩ := R1.ow i _ fl q2 hfl
          have ea := s1.dr i a' h3
          rw [h1] at ea
          cases ea
          obtain ⟨b, us, rfl, g1, g2⟩ := (o1.step StpE.refl R1 q3).lst hd_sub
          cases t with
          | lst z rr =>
            rename_i vs
            refine ⟨a, b, vs, us, rfl, rfl, z, g1, ?_, ?_⟩
            · rw [← rr.length, ← g2.length]
              exact line_of (Nat.le_of_lt hl)
            · have es : σ.set i (some (V.ref a)) = σ := set_self h4
              show D.nx (σ.set i (some (V.ref a))) _
              rw [es]
              exact k σ _ own1 (s1.toStp.trans (Stp.mut R1 h3)) (R1.mut h3 q2 hfl (.lst (rr.append g2)))
        · cases h
      · cases h
    · cases h
  · cases h
def sAlt2 (f g : SF) : SF := fun env => match f env with
  | some o => some o
  | none => g env
theorem ss_alt2 {f g : SF} {st : Stmt} (hf : SS X f st) (hg : SS X g st) : SS X (sAlt2 f g) st := by
  refine ⟨?_⟩
  intro A own env σ H out r h D k
  unfold sAlt2 at h
  split at h
  · rename_i o q
    cases h
    exact hf A own env σ H _ r q D k
  · exact hg A own env σ H out r h D k
theorem s_aug (i : Nat) {x : Str} {f : EF} {g : OF} {e : Expr} {pos' pos : Pos} (hN : X.N.Nodup) (hf : SE X f e) (hg : SO X g e) (hi : X.N[i]? = some x := by rfl) (hx : Loc X.env.scope x := by first | exact Or.inl rfl | exact Or.inr rfl) (hfn : X.fn x = true ∨ X.env.scope.names.lookup x = some .local := by first | exact Or.inl rfl | exact Or.inr rfl) :
    SS X (sAlt2 (sAugI i f) (sAugX i g)) (.AugAssign (.Name x pos') .Add e pos) := ss_alt2 (ss_augI hN hi hx hf hfn) (ss_augX hN hi hx hg hfn)
/-! ### abs, sum -/
def pAbs : PrN := fun ds => match ds with
  | [.int i] => some (.int (if i < 0 then -i else i), false)
  | _ => none
theorem pn_abs : PN X (fun xs H Q => ∃ i, xs = [.int i] ∧ Q (.int (if i < 0 then -i else i)) H) pAbs := by
  intro Hh H ds vs d fr Q e vx q g
  unfold pAbs at q
  split at q
  · rename_i i
    cases q
    cases vx with
    | cons v1 v2 =>
      cases v2
      have := v1.int
      subst this
      exact ⟨i, rfl, g.old rfl _ (.int _)⟩
  · cases q
def intsD : List D → Option (List Int)
  | [] => some []
  | .int i :: r => (intsD r).map (i :: ·)
  | _ => none
theorem intsD_vs {K : PySem.W.Frag} {H : Vw} : ∀ {ds : List D} {ns : List Int} {vs : List V}, intsD ds = some ns → RepL K H ds vs → vs = ns.map V.int
  | [], _, _, q, r => by cases q; cases r; rfl
  | .int i :: ds, _, _, q, r => by
    obtain ⟨ns, q1, rfl⟩ := Option.map_eq_some_iff.mp (show (intsD ds).map (i :: ·) = some _ from q)
    cases r with
    | cons r1 r2 =>
      cases r1
      rw [intsD_vs q1 r2]
      rfl
  | .non :: _, _, _, q, _ => by cases q
  | .bl _ :: _, _, _, q, _ => by cases q
  | .str _ :: _, _, _, q, _ => by cases q
  | .ty _ :: _, _, _, q, _ => by cases q
  | .tup _ :: _, _, _, q, _ => by cases q
  | .kup _ :: _, _, _, q, _ => by cases q
  | .lst _ :: _, _, _, q, _ => by cases q
  | .flz _ :: _, _, _, q, _ => by cases q
  | .dic _ _ :: _, _, _, q, _ => by cases q
  | .ins _ _ _ :: _, _, _, q, _ => by cases q
def pSum : PrN := fun ds => match ds with
  | [.lst xs] => match intsD xs with
    | some ns => some (.int ns.sum, false)
    | none => none
  | _ => none
theorem pn_sum : PN X (rSum X.K) pSum := by
  intro Hh H ds vs d fr Q e vx q g
  unfold pSum at q
  split at q
  · rename_i xs
    split at q
    · rename_i ns hn
      cases q
      cases vx with
      | cons v1 v2 =>
        cases v2
        obtain ⟨a, us, rfl, h1, r⟩ := v1.lst e
        have := intsD_vs hn r
        subst this
        exact ⟨a, ns, rfl, .inl (.inl h1), g.old rfl _ (.int _)⟩
    · cases q
  · cases q
section
variable {p pos : Pos} {a : Expr} {f : LF}
theorem e_abs (hm : X.mg "abs" = none) (hf : SL X f [a]) (hg : Gl X "abs" := by rfl) (he : plainE a = true := by rfl) : SE X (fPrim pAbs f) (.Call (.Name "abs" p) [a] [] pos) := se_prim hf pn_abs (pe_callB call_abs hg hm (by decide +kernel) pa_w (by decide) (by decide) (star1 he))
theorem e_sum (hc : X.calm = true) (hm : X.mg "sum" = none) (hf : SL X f [a]) (hg : Gl X "sum" := by rfl) (he : plainE a = true := by rfl) : SE X (fPrim pSum f) (.Call (.Name "sum" p) [a] [] pos) := se_prim hf pn_sum (pe_callB (cr_sum hc) hg hm (by decide +kernel) pa_w (by decide) (by decide) (star1 he))
end
end
end Dz
/-! DzDef: defs with defaults: what is not written at a call is given by them. -/
namespace Dz
open PySem PyProof.Rows L2
structure CalFD (P : Program) (w : World) (K : PySem.W.Frag) (mg : Str → Option Value) (base : Heap) (k : Nat) (f : Addr) (n : Nat) (dd : List D) (run : Run) : Prop where
  ex : ∃ fd ps dvs ds, FnOk P w K mg base CX0 k f fd ps (spE K n run) ∧ Binds K fd ps ds ∧ Vals dvs ds ∧ ps.length = n ∧ ∀ Hh, RepL K Hh dd dvs
  kp : PySem.W.keepIn K (.ref f) = true
  ok : ∀ st args d st' args', run st args = some (d, st', args') → args'.map (·.2) = args.map (·.2)
/-- THE RULE: a def with defaults dvs, the last of them (from the j-th on) not written -/
theorem calFD {P : Program} {w : World} {K : PySem.W.Frag} {mg : Str → Option Value} {base : Heap} {x qual : Str} {params : Arguments} {body : List Stmt} {scope : Scope} {f : Addr} {N ps : List Str} {k : Nat} {b : SF} {dvs : List V} {dd : List D}
    (F : ∃ fd, FunD K x qual params body scope dvs [] f fd) (S : FnScope N ps scope) (n j : Nat) (hd : dvs ≠ []) (hn : n + (dvs.length - j) = ps.length)
    (hbind : ∀ (T : Addr) (kV doc pm : Value) (an : Option Addr) (cdv ct : Value) (us its : List Value), us.length = n → its.length = dvs.length →
      ∃ k, bindArgs (PySem.W.fnOf x qual params body scope (.ref T) kV doc pm an cdv ct) ⟨us, []⟩ = seqItems? (.ref T) >>= k ∧ k (some its.toArray) = pure (ps.zip (us ++ its.drop j)))
    (hdd : ∀ Hh, RepL K Hh dd (dvs.drop j))
    (hb : ∀ (cdv : Value) (A : Around) (outer : List Env) (s : Shared) (H : Hp) (E : XK), Room k (A.deeper (envOfC qual scope s.heap.objs.size f cdv)) → SB (cxOf CX0 P w K mg base N qual scope f cdv A outer s H E).nox b body) :
    CalFD P w K mg base (k + 1) f ps.length dd (runB N.length b) := by
  obtain ⟨fd, F⟩ := F
  obtain ⟨ds, h1, h2⟩ := F.binds1 n j hd hn hbind
  exact ⟨⟨fd, ps, dvs.drop j, ds, fnE F S hb, h2, h1, rfl, hdd⟩, F.kp, runB_ok⟩
def lApp (dd : List D) (f : LF) : LF := fun env => match f env with
  | some (os, e1) => some (os ++ dd.map Sum.inl, e1)
  | none => none
theorem OpsOk.app {K : PySem.W.Frag} {A : Amb} {own : Own} {H : Hp} {dd : List D} {dvs : List V} (r : RepL K (hd (hid A own) H) dd dvs) : ∀ {os : List Opn} {vs : List V}, OpsOk K A own H os vs → OpsOk K A own H (os ++ dd.map Sum.inl) (vs ++ dvs)
  | _, _, .nil => by
    have key : ∀ {dd : List D} {dvs : List V}, RepL K (hd (hid A own) H) dd dvs → OpsOk K A own H (dd.map Sum.inl) dvs := by
      intro dd
      induction dd with
      | nil => intro dvs r; cases r; exact .nil
      | cons d dd ih => intro dvs r; cases r with | cons q1 q2 => exact .cons q1 (ih q2)
    exact key r
  | _, _, .cons h t => .cons h (OpsOk.app r t)
section
variable {X : Cx} {k n : Nat} {fa : Addr} {run : Run} {x m C : Str} {p pos apos : Pos} {dd : List D}
theorem e_callD {f : LF} {e : Expr} {es : List Expr} (c : CalFD X.prog X.w X.K X.mg X.base k fa n dd run) (hr : Room k X.A) (hm : X.mg x = some (.ref fa)) (hf : SL X f (e :: es)) (hg : Gl X x := by rfl) (hdb : (x == ("__debug__" : Str)) = false := by decide)
    (he : plainE e = true := by rfl) (hpl : es.all plainE = true := by rfl) : SE X (fCall n run (lApp dd f)) (.Call (.Name x p) (e :: es) [] pos) := by
  refine ⟨?_⟩
  intro A own env σ H d fr env' R h Q kk
  obtain ⟨fd, ps, dvs, ds, F, hb, hv, hl, hdd⟩ := c.ex
  unfold fCall lApp at h
  split at h
  · rename_i os' e1' h1'
    split at h1'
    · rename_i os e1 h1
      cases h1'
      split at h
      · rename_i hc
        split at h
        · rename_i args ha
          split at h
          · rename_i d' st' args' hrun
            cases h
            refine we_of (pe_call F hr hg hm c.kp hb hv pass0 pa_w hdb (star1 he) (plain_any hpl)) (hf A own env σ H os _ R h1 _ fun vs H1 own1 s1 R1 O1 => ?_)
            have O2 := OpsOk.app (hdd (hd (hid A own1) H1)) O1
            exact call_sp R1 O2 ha hc.2 hrun (c.ok _ _ _ _ _ hrun) (by rw [← O2.length]; exact hc.1) fun v H' own2 s _ r q => kk v H' own2 (s1.trans s) ⟨r, q, fun z => by cases z⟩
          · cases h
        · cases h
      · cases h
    · cases h1'
  · cases h
theorem lApp_read {f : LF} {es : List Expr} {dvs : List V} (hf : SL X f es) (hdd : ∀ Hh, RepL X.K Hh dd dvs) {A : Amb} {own : Own} {env : En} {σ : L2.St} {H : Hp} (R : EnvR X.K A own env σ H) : ∀ os e1, lApp dd f env = some (os, e1) → ∀ Q' : List V → Hp → Prop, (∀ vs H' own', StpE A own H own' H' → EnvR X.K A own' e1 σ H' → OpsOk X.K A own' H' os (vs ++ dvs) → Q' vs H') → WA X es σ H Q' := fun os e1 h Q' k' => by
  unfold lApp at h
  split at h
  · rename_i os0 e0 h1
    cases h
    exact hf A own env σ H os0 _ R h1 Q' fun vs H' own' s r o => k' vs H' own' s r (OpsOk.app (hdd _) o)
  · cases h
theorem e_makeD {f : LF} {e : Expr} {es : List Expr} (c : CalFD X.prog X.w X.K X.mg X.base k fa n dd run) (M : Mk X.K (He.ga X.K C) fa) (hr : Room (k + 1) X.A) (hm : X.mg x = some (.ref (He.ga X.K C))) (hf : SL X f (e :: es)) (hg : Gl X x := by rfl) (hdb : (x == ("__debug__" : Str)) = false := by decide)
    (he : plainE e = true := by rfl) (hpl : es.all plainE = true := by rfl) : SE X (fMake C n run (lApp dd f)) (.Call (.Name x p) (e :: es) [] pos) := by
  refine ⟨?_⟩
  intro A own env σ H d fr env' R h Q kk
  obtain ⟨fd, ps, dvs, ds, F, hb, hv, hl, hdd⟩ := c.ex
  exact we_of (pe_make M F hr hg hm hb hv pass0 pa_w hdb (star1 he) (plain_any hpl)) (show WA X (e :: es) σ H _ from fMake_read R h c.ok (lApp_read hf hdd R) kk)
theorem e_makeCD {f : LF} {e : Expr} {es : List Expr} (c : CalFD X.prog X.w X.K X.mg X.base k fa n dd run) (M : Mk X.K (He.ga X.K C) fa) (hr : Room (k + 1) X.A) (hm : X.mg x = some (.ref (He.ga X.K C))) (hf : SL X f (e :: es)) (hg : Gl X x := by rfl) (hdb : (x == ("__debug__" : Str)) = false := by decide)
    (he : plainE e = true := by rfl) (hpl : es.all plainE = true := by rfl) : SE X (fMakeC C n run (lApp dd f)) (.Call (.Name x p) (e :: es) [] pos) := by
  refine ⟨?_⟩
  intro A own env σ H d fr env' R h Q kk
  obtain ⟨fd, ps, dvs, ds, F, hb, hv, hl, hdd⟩ := c.ex
  exact we_of (pe_make M F hr hg hm hb hv pass0 pa_w hdb (star1 he) (plain_any hpl)) (show WA X (e :: es) σ H _ from fMakeC_read R h c.ok (lApp_read hf hdd R) kk)
end
end Dz
/-! DzSet: {}, d[k] = v for an owned dict, in an empty dict. -/
namespace Dz
open PySem PyProof.Rows L2
section
variable {X : Cx} {pins : List (Addr × PySem.Obj)} {σ : L2.St} {H : Hp} {s : Shared} {a : Addr}
/-- an empty dict of any kind -/
def EmpD (H : Hp) (a : Addr) : Prop := H a = some (.dK []) ∨ H a = some (.dT [])
theorem emp_of (I : Inv X pins σ H s) (e : EmpD H a) : (a == sysModules) = false ∧ ∃ o es ep, s.heap.get? a = some o ∧ o.ExactDict ∧ o.data = .dict es ep ∧ es.toList = [] := by
  rcases e with e | e
  · obtain ⟨_, hd, vs, r, o, es, ep, h1, h2, h3, _, h5, _⟩ := (show ObjOk X.prog X.w H s.heap a (.dK []) from I.hok a _ e)
    cases r
    cases hes : es.toList with
    | nil => exact ⟨hd, o, es, ep, h1, h2, h3, hes⟩
    | cons x xs => rw [hes] at h5; cases h5
  · obtain ⟨_, hd, xs, r, o, es, ep, h1, h2, h3, h4, _⟩ := (show ObjOk X.prog X.w H s.heap a (.dT []) from I.hok a _ e)
    cases r
    exact ⟨hd, o, es, ep, h1, h2, h3, h4⟩
theorem EmpD.mut (e : EmpD H a) : Mut (H a) := by
  rcases e with e | e <;> (rw [e]; exact True.intro)
theorem retagT (I : Inv X pins σ H s) (e : EmpD H a) : Inv X pins σ (upd H a (.dT [])) s := by
  obtain ⟨hd, o, es, ep, h1, h2, h3, h4⟩ := emp_of I e
  exact I.write (x := a) (e := a) (h' := s.heap) (t' := s.toks) e.mut (.inl rfl) (fun b u _ q => q) ⟨o, h1⟩ ⟨Nat.zero_le _, hd, [], .nil, o, es, ep, h1, h2, h3, h4, List.nodup_nil⟩
theorem retagK (I : Inv X pins σ H s) (e : EmpD H a) : Inv X pins σ (upd H a (.dK [])) s := by
  obtain ⟨hd, o, es, ep, h1, h2, h3, h4⟩ := emp_of I e
  have he : es = #[] := by
    cases es with
    | mk l => simp at h4; subst h4; rfl
  subst he
  have hk := (Heap.DictOf.new (knd := mixKind X.prog X.w) s.heap)
  obtain ⟨o2, es2, ep2, g1, g2, g3, g4, g5, g6⟩ := hk
  rw [Heap.get?_push_size _ rfl] at g1
  cases g1
  cases g3
  exact I.write (x := a) (e := a) (h' := s.heap) (t' := s.toks) e.mut (.inl rfl) (fun b u _ q => q) ⟨o, h1⟩ ⟨Nat.zero_le _, hd, [], .nil, o, #[], ep, h1, h2, h3, g4, g5, g6⟩
/-- d[y] = v, d perhaps empty and of another kind -/
def DPutE (H : Hp) (a : Addr) (y v : V) (H' : Hp) : Prop := DPut H a y v H' ∨ (EmpD H a ∧ ((∃ k, y = kV k ∧ H' = upd H a (.dK [(k, v)])) ∨ ∃ k b, y = .ref b ∧ b ≠ a ∧ H b = some (.tup (List.map kV k)) ∧ H' = upd H a (.dT [(k, v)])))
theorem set_dictE {X : Cx} (hu : X.A.units + 1 < cLine) : PSet X (fun o i v H Q => ∃ a H', o = .ref a ∧ DPutE H a i v H' ∧ Q H') := by
  intro pins s σ H o i v ov iv u Q I ro ri rv h
  obtain ⟨a, H', eo, g, q⟩ := h
  subst eo
  cases (show ov = Value.ref a from ro)
  rcases g with g | ⟨e, ⟨k, ey, eH⟩ | ⟨k, b, ey, hne, eb, eH⟩⟩
  · exact d_setItem hu I g ri rv fun s' I' => ⟨H', I', q⟩
  · subst ey eH
    have g : DPut (upd H a (.dK [])) a (kV k) v (upd H a (.dK [(k, v)])) := .inl ⟨[], k, upd_same, rfl, by decide, by rw [upd_upd]; rfl⟩
    exact d_setItem hu (retagK I e) g ri rv fun s' I' => ⟨_, I', q⟩
  · subst ey eH
    have g : DPut (upd H a (.dT [])) a (.ref b) v (upd H a (.dT [(k, v)])) := .inr ⟨[], k, b, upd_same, rfl, by rw [upd_ne hne]; exact eb, by decide, by rw [upd_upd]; rfl⟩
    exact d_setItem hu (retagT I e) g ri rv fun s' I' => ⟨_, I', q⟩
/-! ### plain data -/
def repD {κ : Type} [DecidableEq κ] : List κ → List D → κ → D → List D
  | k :: kk, x :: xs, j, d => if k = j then d :: xs else x :: repD kk xs j d
  | _, _, _, _ => []
def hasK {κ : Type} [DecidableEq κ] : List κ → κ → Bool
  | [], _ => false
  | k :: kk, j => if k = j then true else hasK kk j
theorem hasK_mem {κ : Type} [DecidableEq κ] {j : κ} : ∀ {kk : List κ}, hasK kk j = true ↔ j ∈ kk
  | [] => by simp [hasK]
  | k :: kk => by
    unfold hasK
    by_cases e : k = j
    · rw [if_pos e]; simp [e]
    · rw [if_neg e, hasK_mem (kk := kk), List.mem_cons]
      exact ⟨.inr, fun z => z.elim (fun q => absurd q.symm e) id⟩
def putDic (ks xs : List D) (y d : D) : Option (List D × List D) := match keyK1 y with
  | some k => match keysK ks with
    | some kk => if hasK kk k then some (ks, repD kk xs k d) else some (ks ++ [y], xs ++ [d])
    | none => none
  | none => match keyT1 y with
    | some k => match keysT ks with
      | some kk => if hasK kk k then some (ks, repD kk xs k d) else some (ks ++ [y], xs ++ [d])
      | none => none
    | none => none
def repV {κ : Type} [DecidableEq κ] : List κ → List V → κ → V → List V
  | k :: kk, x :: xs, j, d => if k = j then d :: xs else x :: repV kk xs j d
  | _, _, _, _ => []
theorem repV_length {κ : Type} [DecidableEq κ] : ∀ {kk : List κ} {vs : List V} {j : κ} {v : V}, kk.length = vs.length → (repV kk vs j v).length = vs.length
  | [], vs, _, _, h => by cases vs with | nil => rfl | cons => cases h
  | _ :: _, [], _, _, h => by cases h
  | k :: kk, x :: xs, j, d, h => by
    unfold repV
    split
    · rfl
    · exact congrArg Nat.succ (repV_length (by simpa using h))
theorem repD_rep {κ : Type} [DecidableEq κ] {K : PySem.W.Frag} {H : Vw} {d : D} {v : V} (q : Rep K H d v) : ∀ {kk : List κ} {xs : List D} {vs : List V} {j : κ}, RepL K H xs vs → RepL K H (repD kk xs j d) (repV kk vs j v)
  | [], _, _, _, _ => by unfold repD repV; exact .nil
  | _ :: _, [], _, _, r => by cases r; unfold repD repV; exact .nil
  | k :: kk, x :: xs, _, j, r => by
    cases r with
    | cons r1 r2 =>
      unfold repD repV
      by_cases e : k = j
      · rw [if_pos e, if_pos e]; exact .cons q r2
      · rw [if_neg e, if_neg e]; exact .cons r1 (repD_rep q r2)
theorem map_out {κ : Type} [DecidableEq κ] {j : κ} {v : V} : ∀ {l : List (κ × V)}, j ∉ l.map (·.1) → l.map (fun p => if p.1 = j then (p.1, v) else p) = l
  | [], _ => rfl
  | p :: l, h => by
    rw [List.map_cons, List.mem_cons, not_or] at h
    rw [List.map_cons, if_neg (fun z => h.1 z.symm), map_out h.2]
theorem zip_fst {κ : Type} : ∀ {kk : List κ} {vs : List V}, kk.length = vs.length → (kk.zip vs).map (·.1) = kk
  | [], _, _ => rfl
  | _ :: _, [], h => by cases h
  | k :: kk, v :: vs, h => by rw [List.zip_cons_cons, List.map_cons, zip_fst (by simpa using h)]
theorem putK_zip_in {κ : Type} [DecidableEq κ] {j : κ} {v : V} {kk : List κ} {vs : List V} (hl : kk.length = vs.length) (nd : kk.Nodup) (hin : j ∈ kk) : putK (kk.zip vs) j v = kk.zip (repV kk vs j v) := by
  unfold putK
  have ha : ((kk.zip vs).any fun kv => decide (kv.1 = j)) = true := by
    rw [List.any_eq_true]
    have hm : j ∈ (kk.zip vs).map (·.1) := by rw [zip_fst hl]; exact hin
    obtain ⟨p, hp, e⟩ := List.mem_map.mp hm
    exact ⟨p, hp, decide_eq_true e⟩
  rw [if_pos ha]
  clear ha hin
  induction kk generalizing vs with
  | nil => rfl
  | cons k kk ih =>
    cases vs with
    | nil => cases hl
    | cons x xs =>
      obtain ⟨n1, n2⟩ := List.nodup_cons.mp nd
      have hl2 : kk.length = xs.length := by simpa using hl
      unfold repV
      rw [List.zip_cons_cons, List.map_cons]
      dsimp only
      by_cases e : k = j
      · rw [if_pos e, if_pos e, List.zip_cons_cons, map_out (by rw [zip_fst hl2, ← e]; exact n1)]
      · rw [if_neg e, if_neg e, List.zip_cons_cons, ih hl2 n2]
theorem putK_zip_out {κ : Type} [DecidableEq κ] {j : κ} {v : V} {kk : List κ} {vs : List V} (hl : kk.length = vs.length) (hin : j ∉ kk) : putK (kk.zip vs) j v = (kk ++ [j]).zip (vs ++ [v]) := by
  unfold putK
  have ha : ¬ ((kk.zip vs).any fun kv => decide (kv.1 = j)) = true := by
    rw [List.any_eq_true]
    rintro ⟨p, hp, e⟩
    have hm : p.1 ∈ (kk.zip vs).map (·.1) := List.mem_map_of_mem hp
    rw [zip_fst hl, of_decide_eq_true e] at hm
    exact hin hm
  rw [if_neg ha, List.zip_append hl]
  rfl
theorem keysK_snoc {y : D} {k : Key} (e : keyK1 y = some k) : ∀ {ks : List D} {kk : List Key}, keysK ks = some kk → keysK (ks ++ [y]) = some (kk ++ [k])
  | [], _, h => by
    cases h
    cases y <;> cases e <;> rfl
  | .int i :: ks, _, h => by
    obtain ⟨k2, e2, rfl⟩ := Option.map_eq_some_iff.mp (show (keysK ks).map (Sum.inl i :: ·) = some _ from h)
    show (keysK (ks ++ [y])).map (Sum.inl i :: ·) = _
    rw [keysK_snoc e e2]; rfl
  | .str i :: ks, _, h => by
    obtain ⟨k2, e2, rfl⟩ := Option.map_eq_some_iff.mp (show (keysK ks).map (Sum.inr i :: ·) = some _ from h)
    show (keysK (ks ++ [y])).map (Sum.inr i :: ·) = _
    rw [keysK_snoc e e2]; rfl
  | .non :: _, _, h => by cases h
  | .bl _ :: _, _, h => by cases h
  | .ty _ :: _, _, h => by cases h
  | .tup _ :: _, _, h => by cases h
  | .kup _ :: _, _, h => by cases h
  | .lst _ :: _, _, h => by cases h
  | .flz _ :: _, _, h => by cases h
  | .dic _ _ :: _, _, h => by cases h
  | .ins _ _ _ :: _, _, h => by cases h
theorem keysT_snoc {y : D} {k : List Key} (e : keyT1 y = some k) : ∀ {ks : List D} {kk : List (List Key)}, keysT ks = some kk → keysT (ks ++ [y]) = some (kk ++ [k])
  | [], _, h => by
    cases h
    cases y <;> simp only [keyT1] at e <;> try cases e
    rename_i xs
    show (match keysK xs with | some k => (keysT []).map (k :: ·) | none => none) = _
    rw [e]; rfl
  | .tup xs :: ks, _, h => by
    have h2 : (match keysK xs with | some k => (keysT ks).map (k :: ·) | none => none) = some _ := h
    split at h2
    · rename_i k0 e0
      obtain ⟨k2, e2, rfl⟩ := Option.map_eq_some_iff.mp h2
      show (match keysK xs with | some k => (keysT (ks ++ [y])).map (k :: ·) | none => none) = _
      rw [e0, keysT_snoc e e2]; rfl
    · cases h2
  | .non :: _, _, h => by cases h
  | .bl _ :: _, _, h => by cases h
  | .int _ :: _, _, h => by cases h
  | .str _ :: _, _, h => by cases h
  | .ty _ :: _, _, h => by cases h
  | .kup _ :: _, _, h => by cases h
  | .lst _ :: _, _, h => by cases h
  | .flz _ :: _, _, h => by cases h
  | .dic _ _ :: _, _, h => by cases h
  | .ins _ _ _ :: _, _, h => by cases h
theorem keysK_nodup_snoc {κ : Type} {kk : List κ} {k : κ} (nd : kk.Nodup) (h : k ∉ kk) : (kk ++ [k]).Nodup := by
  rw [List.nodup_append]
  exact ⟨nd, List.nodup_cons.mpr ⟨fun z => (nomatch z), List.nodup_nil⟩, fun a ha b hb z => by
    rw [List.mem_singleton] at hb
    subst hb
    subst z
    exact h ha⟩
theorem nil_of_both {ks : List D} {kk : List Key} {kt : List (List Key)} (h : keysK ks = some kk) (h2 : keysT ks = some kt) : ks = [] := by
  cases ks with
  | nil => rfl
  | cons d ks => exact (keysKT h h2).elim
theorem putDic_ok {K : PySem.W.Frag} {Hh : Vw} {H : Hp} {ks xs ks' xs' : List D} {a : Addr} {y d : D} {u v : V} (t : Top K Hh H (.dic ks xs) a) (ry : Rep K Hh y u) (e : Sub Hh H) (rv : Rep K Hh d v) (q : putDic ks xs y d = some (ks', xs')) (hl : xs.length < 100000) :
    ∃ o', DPutE H a u v (upd H a o') ∧ Obj K Hh (.dic ks' xs') o' := by
  unfold putDic at q
  split at q
  · rename_i k hk
    split at q
    · rename_i kk hkk
      have eu : u = kV k := keyK1_v hk ry
      subst eu
      cases t with
      | dicK h1 h2 h3 h4 r =>
        rename_i vs
        rw [h1] at hkk
        cases hkk
        have hz : (kk.zip vs).length < sizeLine := by
          rw [List.length_zip, h2, Nat.min_self, ← r.length]
          exact Nat.lt_of_lt_of_le hl (by decide)
        split at q
        · rename_i hin
          cases q
          refine ⟨.dK (kk.zip (repV kk vs k v)), .inl (.inl ⟨_, k, h3, rfl, hz, ?_⟩), .dicK h1 (by rw [repV_length h2]; exact h2) h4 (repD_rep rv r)⟩
          rw [putK_zip_in h2 h4 (hasK_mem.mp hin)]
        · rename_i hin
          cases q
          have hni : k ∉ kk := fun z => hin (hasK_mem.mpr z)
          refine ⟨.dK ((kk ++ [k]).zip (vs ++ [v])), .inl (.inl ⟨_, k, h3, rfl, hz, ?_⟩), .dicK (keysK_snoc hk h1) (by rw [List.length_append, List.length_append, h2]; rfl) (keysK_nodup_snoc h4 hni) (r.append (.cons rv .nil))⟩
          rw [putK_zip_out h2 hni]
      | dicT h1 h2 h3 h4 r =>
        have en := nil_of_both hkk h1
        subst en
        cases h1
        cases hkk
        rename_i vs
        cases vs with
        | cons => cases h2
        | nil =>
          cases r
          have q2 : some ([y], [d]) = some (ks', xs') := q
          cases q2
          exact ⟨.dK [(k, v)], .inr ⟨.inr h3, .inl ⟨k, rfl, rfl⟩⟩, .dicK (kk := [k]) (vs := [v]) (keysK_snoc hk (ks := []) rfl) rfl (List.nodup_cons.mpr ⟨fun z => (nomatch z), List.nodup_nil⟩) (.cons rv .nil)⟩
    · cases q
  · split at q
    · rename_i k hk
      split at q
      · rename_i kk hkk
        obtain ⟨b, eu, hb⟩ := keyT1_v hk ry
        subst eu
        have hbH := e _ _ hb
        cases t with
        | dicT h1 h2 h3 h4 r =>
          rename_i vs
          rw [h1] at hkk
          cases hkk
          have hz : (kk.zip vs).length < sizeLine := by
            rw [List.length_zip, h2, Nat.min_self, ← r.length]
            exact Nat.lt_of_lt_of_le hl (by decide)
          split at q
          · rename_i hin
            cases q
            refine ⟨.dT (kk.zip (repV kk vs k v)), .inl (.inr ⟨_, k, b, h3, rfl, hbH, hz, ?_⟩), .dicT h1 (by rw [repV_length h2]; exact h2) h4 (repD_rep rv r)⟩
            rw [putK_zip_in h2 h4 (hasK_mem.mp hin)]
          · rename_i hin
            cases q
            have hni : k ∉ kk := fun z => hin (hasK_mem.mpr z)
            refine ⟨.dT ((kk ++ [k]).zip (vs ++ [v])), .inl (.inr ⟨_, k, b, h3, rfl, hbH, hz, ?_⟩), .dicT (keysT_snoc hk h1) (by rw [List.length_append, List.length_append, h2]; rfl) (keysK_nodup_snoc h4 hni) (r.append (.cons rv .nil))⟩
            rw [putK_zip_out h2 hni]
        | dicK h1 h2 h3 h4 r =>
          have en := nil_of_both h1 hkk
          subst en
          cases h1
          cases hkk
          rename_i vs
          cases vs with
          | cons => cases h2
          | nil =>
            cases r
            have q2 : some ([y], [d]) = some (ks', xs') := q
            cases q2
            exact ⟨.dT [(k, v)], .inr ⟨.inl h3, .inr ⟨k, b, rfl, ne_of hbH h3 (fun z => nomatch z), hbH, rfl⟩⟩, .dicT (kk := [k]) (vs := [v]) (keysT_snoc hk (ks := []) rfl) rfl (List.nodup_cons.mpr ⟨fun z => (nomatch z), List.nodup_nil⟩) (.cons rv .nil)⟩
      · cases q
    · cases q
def ownD (env : En) (i : Nat) : Option (List D × List D × Fl) := match env.sl[i]? with
  | some (some (_, .sh)) => none
  | some (some (.dic ks xs, f)) => some (ks, xs, f)
  | _ => none
theorem ownD_some {env : En} {i : Nat} {ks xs : List D} {f : Fl} (h : ownD env i = some (ks, xs, f)) : env.sl[i]? = some (some (.dic ks xs, f)) ∧ f ≠ .sh := by
  unfold ownD at h
  split at h
  · cases h
  · rename_i ys zs f2 hf e
    cases h
    exact ⟨e, fun z => hf z⟩
  · cases h
/-- x[y] = d, the dict owned by slot i -/
def sStD (i : Nat) (g f : EF) : SF := fun env => match f env with
  | some (d, _, e) => match ownD e i with
    | some _ => match g e with
      | some (y, _, e2) => match ownD e2 i with
        | some (ks, xs, fl) => if xs.length < 100000 then match putDic ks xs y d with
          | some (ks', xs') => some (.nx (e2.set i (some (.dic ks' xs', fl))))
          | none => none
          else none
        | none => none
      | _ => none
    | none => none
  | none => none
theorem ss_stD {X : Cx} {i : Nat} {x : Str} {g f : EF} {e ix : Expr} {p tpos pos : Pos} (hu : X.A.units + 1 < cLine) (hN : X.N[i]? = some x) (hv : Vis X.env.scope x) (hd1 : (x == ("__debug__" : Str)) = false) (hcd : (x == ("__classdict__" : Str)) = false) (hf : SE X f e) (hg : SE X g ix)
    (hst : ∀ te ti, PE X e te → PE X ix ti → PS X (.Assign [.Subscript (.Name x p) ix tpos] e pos) (tAsg te (gSub (tVar i) ti fun o i v H Q => ∃ a H', o = .ref a ∧ DPutE H a i v H' ∧ Q H'))) : SS X (sStD i g f) (.Assign [.Subscript (.Name x p) ix tpos] e pos) := by
  refine ⟨?_⟩
  intro A own env σ H out r h D k
  unfold sStD at h
  split at h
  case h_2 => cases h
  rename_i d fr e1 q1
  split at h
  case h_2 => cases h
  rename_i z0 q2
  obtain ⟨ks0, xs0, f0⟩ := z0
  obtain ⟨q2, hf0⟩ := ownD_some q2
  split at h
  case h_2 => cases h
  rename_i y fr2 e2 q3
  split at h
  case h_2 => cases h
  rename_i ks xs fl q4
  obtain ⟨q4, hfl⟩ := ownD_some q4
  split at h
  case isFalse => cases h
  rename_i hl
  split at h
  case h_2 => cases h
  rename_i ks' xs' q5
  cases h
  refine ws_of (hst _ _ pe_w pe_w) (hf A own env σ H d fr e1 r q1 _ fun v H1 own1 s1 R1 => ?_)
  obtain ⟨a, h1, h2, t0⟩ := R1.en.ow i _ f0 q2 hf0
  refine ⟨_, h2, hg A own1 e1 σ H1 y fr2 e2 R1.en q3 _ fun u H2 own2 s2 R2 => ?_⟩
  obtain ⟨a', h3, h4, t⟩ := R2.en.ow i _ fl q4 hfl
  have ea := s2.dr i a' h3
  rw [h1] at ea
  cases ea
  obtain ⟨o', g1, g2⟩ := putDic_ok t R2.rp hd_sub (R1.rp.mono s2.toStp.sub) q5 hl
  exact ⟨a, _, rfl, g1, k σ _ own2 ((s1.trans s2).toStp.trans (Stp.mut R2.en h3)) (R2.en.mut h3 q4 hfl g2 (g2.nt rfl))⟩
/-! ### {} -/
def fNewD : EF := fun env => some (.dic [] [], true, env)
theorem se_newD {X : Cx} {pos : Pos} : SE X fNewD (.Dict [] [] pos) := by
  refine ⟨?_⟩
  intro A own env σ H d fr env' R h Q k
  cases h
  exact we_of pe_dnewK fun p hp => (give StpE.refl R k).new p _ hp (.dicK (kk := []) (vs := []) rfl rfl List.nodup_nil .nil)
/-! ### in an empty dict -/
def EmpR (H : Hp) (a : Addr) : Prop := Rd H a (.dK []) ∨ Rd H a (.dT [])
section
variable {X : Cx} {pins : List (Addr × PySem.Obj)} {σ : L2.St} {H : Hp} {s : Shared} {a : Addr}
theorem emp_raw (I : Inv X pins σ H s) (e : EmpR H a) : (a == sysModules) = false ∧ s.heap.DictOf (mixKind X.prog X.w) a [] ∧ s.heap.DictOfH (tupleKind (mixKind X.prog X.w)) a [] := by
  have key : (a == sysModules) = false ∧ ∃ o es ep, s.heap.get? a = some o ∧ o.ExactDict ∧ o.data = .dict es ep ∧ es.toList = [] := by
    rcases e with e | e
    · obtain ⟨_, hd, vs, r, o, es, ep, h1, h2, h3, _, h5, _⟩ := (show ObjOk X.prog X.w H s.heap a (.dK []) from e.ok I.hok)
      cases r
      cases hes : es.toList with
      | nil => exact ⟨hd, o, es, ep, h1, h2, h3, hes⟩
      | cons x xs => rw [hes] at h5; cases h5
    · obtain ⟨_, hd, xs, r, o, es, ep, h1, h2, h3, h4, _⟩ := (show ObjOk X.prog X.w H s.heap a (.dT []) from e.ok I.hok)
      cases r
      exact ⟨hd, o, es, ep, h1, h2, h3, h4⟩
  obtain ⟨hd, o, es, ep, h1, h2, h3, h4⟩ := key
  have he : es = #[] := by
    cases es with
    | mk l => simp at h4; subst h4; rfl
  subst he
  obtain ⟨o2, es2, ep2, g1, g2, g3, g4, g5, g6⟩ := (Heap.DictOf.new (knd := mixKind X.prog X.w) s.heap)
  rw [Heap.get?_push_size _ rfl] at g1
  cases g1
  cases g3
  exact ⟨hd, ⟨o, #[], ep, h1, h2, h3, g4, g5, g6⟩, ⟨o, #[], ep, h1, h2, h3, rfl, (fun _ z => nomatch z), List.nodup_nil⟩⟩
def rDIn0 (neg : Bool) : R2 := fun x y H Q => ∃ a, y = .ref a ∧ EmpR H a ∧ ((∃ k, x = kV k) ∨ ∃ k b, x = .ref b ∧ H b = some (.tup (List.map kV k))) ∧ Q (.bl neg) H
theorem op_din0 (hu : X.A.units + 1 < cLine) : OpR X (compareOp .In) (rDIn0 false) := by
  intro pins s σ H x y v u Q I rx ry h
  obtain ⟨a, rfl, e, c, q⟩ := h
  obtain rfl : u = Value.ref a := ry
  obtain ⟨hd, d1, d2⟩ := emp_raw I e
  rcases c with ⟨k, rfl⟩ | ⟨k, b, rfl, hb⟩
  · exact wpAny_in_of (kV_is rx) hd d1.mapOf ⟨.bl false, H, I.tok _, rfl, q⟩
  · cases rx
    exact wpAny_in_heap (tupleKind_room_in1 hu) (key_of I.hok hb) hd d2 ⟨.bl false, H, I.tok _, rfl, q⟩
theorem op_dnotin0 (hu : X.A.units + 1 < cLine) : OpR X (compareOp .NotIn) (rDIn0 true) := by
  intro pins s σ H x y v u Q I rx ry h
  obtain ⟨a, rfl, e, c, q⟩ := h
  obtain rfl : u = Value.ref a := ry
  obtain ⟨hd, d1, d2⟩ := emp_raw I e
  rcases c with ⟨k, rfl⟩ | ⟨k, b, rfl, hb⟩
  · exact wpAny_notIn_of (kV_is rx) hd d1.mapOf ⟨.bl true, H, I.tok _, rfl, q⟩
  · cases rx
    exact wpAny_notIn_heap (tupleKind_room_in1 hu) (key_of I.hok hb) hd d2 ⟨.bl true, H, I.tok _, rfl, q⟩
def pDIn0 (neg : Bool) : Pr2 := fun x y => match y with
  | .dic [] [] => if (keyK1 x).isSome || (keyT1 x).isSome then some (.bl neg, false) else none
  | _ => none
theorem View.emp {K : PySem.W.Frag} {Hh : Vw} {H : Hp} {v : V} (h : View K Hh H (.dic [] []) v) (e : Sub Hh H) : ∃ a, v = .ref a ∧ EmpR H a := by
  obtain ⟨a, vs, rfl, r, c⟩ := h.dic e
  cases r
  rcases c with ⟨kk, h1, _, h3, _⟩ | ⟨kk, h1, _, h3, _⟩
  · cases h1; exact ⟨a, rfl, .inl h3⟩
  · cases h1; exact ⟨a, rfl, .inr h3⟩
theorem p2_din0 (neg : Bool) : P2 X (rDIn0 neg) (pDIn0 neg) := by
  intro Hh H x y v u d fr Q e vx vy q gv
  unfold pDIn0 at q
  split at q
  · split at q
    · rename_i hc
      cases q
      obtain ⟨a, rfl, em⟩ := vy.emp e
      refine ⟨a, rfl, em, ?_, gv.old rfl _ (.bl _)⟩
      rcases Bool.or_eq_true_iff.mp hc with hc | hc
      · obtain ⟨k, hk⟩ := Option.isSome_iff_exists.mp hc
        exact .inl ⟨k, keyK1_v hk (vx.sh (keyK1_sh hk))⟩
      · obtain ⟨k, hk⟩ := Option.isSome_iff_exists.mp hc
        obtain ⟨b, rfl, hb⟩ := keyT1_v hk (vx.sh (keyT1_sh hk))
        exact .inr ⟨k, b, rfl, e _ _ hb⟩
    · cases q
  · cases q
/-! ### words -/
noncomputable def pInE : Pr2 := por pIn (pDIn0 false)
noncomputable def pNotInE : Pr2 := por pNotIn (pDIn0 true)
section
variable {k : Nat} {f g : OF} {a b : Expr} {pos : Pos}
theorem e_inE (hr : Room (k + 1) X.A) (hf : SO X f a) (hg : SO X g b) (hm : behindInMarks .In b = false := by rfl) : SE X (fOp2 pInE f g) (.Compare a [.In] [b] pos) := se_cmp (OpR.or (OpR.or (OpR.or op_in_seq (op_inD (room65 hr))) (op_din (room1 hr))) (op_din0 (room1 hr))) (P2.or (P2.or (P2.or (p2_inT false) p2_inL) (p2_din false)) (p2_din0 false)) hf hg hm
theorem e_notinE (hr : Room (k + 1) X.A) (hf : SO X f a) (hg : SO X g b) (hm : behindInMarks .NotIn b = false := by rfl) : SE X (fOp2 pNotInE f g) (.Compare a [.NotIn] [b] pos) := se_cmp (OpR.or (OpR.or (OpR.or op_notIn_seq (op_notInD (room65 hr))) (op_dnotin (room1 hr))) (op_dnotin0 (room1 hr))) (P2.or (P2.or (P2.or (p2_inT true) p2_ninL) (p2_din true)) (p2_din0 true)) hf hg hm
theorem t_inE (hr : Room (k + 1) X.A) (hf : SO X f a) (hg : SO X g b) (hm : behindInMarks .In b = false := by rfl) : ST X (tCp (fOp2 pInE f g)) (.Compare a [.In] [b] pos) := st_rel (OpR.or (OpR.or (OpR.or op_in_seq (op_inD (room65 hr))) (op_din (room1 hr))) (op_din0 (room1 hr))) (P2.or (P2.or (P2.or (p2_inT false) p2_inL) (p2_din false)) (p2_din0 false)) hf hg hm
theorem t_notinE (hr : Room (k + 1) X.A) (hf : SO X f a) (hg : SO X g b) (hm : behindInMarks .NotIn b = false := by rfl) : ST X (tCp (fOp2 pNotInE f g)) (.Compare a [.NotIn] [b] pos) := st_rel (OpR.or (OpR.or (OpR.or op_notIn_seq (op_notInD (room65 hr))) (op_dnotin (room1 hr))) (op_dnotin0 (room1 hr))) (P2.or (P2.or (P2.or (p2_inT true) p2_ninL) (p2_din true)) (p2_din0 true)) hf hg hm
end
/-- x[y] = d: of a list, of a dict -/
theorem s_st2 (i : Nat) {x : Str} {g f : EF} {e ix : Expr} {p tpos pos : Pos} {k : Nat} (hr : Room (k + 1) X.A) (hf : SE X f e) (hg : SE X g ix) (hN : X.N[i]? = some x := by rfl) (hv : Vis X.env.scope x := by first | exact Or.inl rfl | exact Or.inr (Or.inl rfl) | exact Or.inr (Or.inr rfl)) (hd1 : (x == ("__debug__" : Str)) = false := by decide) (hcd : (x == ("__classdict__" : Str)) = false := by decide)
    (hs : swapsWithSole [.Subscript (.Name x p) ix tpos] e pos.line X.env = pure false := by rfl) (hw : swappedStores [.Subscript (.Name x p) ix tpos] e X.env = pure none := by rfl) (h1 : (assignEach [.Subscript (.Name x p) ix tpos] X.env).map (·.2) = [assign (.Subscript (.Name x p) ix tpos) X.env] := by rfl)
    (ha : ∀ v, assign (.Subscript (.Name x p) ix tpos) X.env v = (do
      let ov ← holding [v] (eval (.Name x p) X.env)
      let iv ← holding [v, ov] (eval ix X.env)
      standAt tpos
      holding [v, ov, iv] (setItem ov iv v)
      release [v, ov, iv] []) := by intro _; rfl) : SS X (sAlt2 (sStL i g f) (sStD i g f)) (.Assign [.Subscript (.Name x p) ix tpos] e pos) :=
  ss_alt2 (ss_stL hf hg (ps_asg pe_w (pg_sub (pe_var hN hv hd1 hcd) pe_w set_list ha) hs hw h1))
    (ss_stD (room1 hr) hN hv hd1 hcd hf hg fun _ _ h2 h3 => ps_asg h2 (pg_sub (pe_var hN hv hd1 hcd) h3 (set_dictE (room1 hr)) ha) hs hw h1)
end
end
end Dz
/-! DzIt: enumerate(xs), zip(xs, ys), walked by a tuple of targets; xs[::-1]. -/
namespace Dz
open PySem PyProof.Rows L2
def enD : Nat → List D → List D
  | _, [] => []
  | i, x :: r => .tup [.int i, x] :: enD (i + 1) r
theorem enD_length : ∀ {n : Nat} {xs : List D}, (enD n xs).length = xs.length
  | _, [] => rfl
  | n, x :: r => congrArg Nat.succ (enD_length (n := n + 1) (xs := r))
theorem enD_get : ∀ {n i : Nat} {xs : List D} {d : D}, (enD n xs)[i]? = some d → ∃ x, xs[i]? = some x ∧ d = .tup [.int ((n + i : Nat) : Int), x]
  | _, _, [], _, h => by simp [enD] at h
  | n, 0, x :: r, d, h => by
    simp [enD] at h
    exact ⟨x, rfl, h.symm⟩
  | n, i + 1, x :: r, d, h => by
    obtain ⟨y, h1, h2⟩ := enD_get (n := n + 1) (i := i) (xs := r) (d := d) (by simpa [enD] using h)
    exact ⟨y, by simpa using h1, by rw [h2, show n + 1 + i = n + (i + 1) by omega]⟩
theorem wk_enum {K : PySem.W.Frag} {a : Addr} {ds : List D} : Wk K (Ite K a) (enD 0 ds) (fun (H : Vw) _ => ∃ vs, SqL K H a vs ∧ RepL K H ds vs) where
  mono := fun _ _ _ _ ⟨vs, h1, h2⟩ s _ => ⟨vs, s.sqL h1, h2.mono s⟩
  stop := fun Hv H ⟨vs, h1, h2⟩ s => ⟨vs, s.sqL h1, Nat.le_of_eq (by rw [enD_length]; exact h2.length.symm)⟩
  go := fun Hv H i ⟨vs, h1, h2⟩ s hi => ⟨vs, vs[i]'(by rw [← h2.length, ← enD_length (n := 0)]; exact hi), s.sqL h1, List.getElem?_eq_getElem _⟩
  yld := fun Hv H i x H' d ⟨vs, h1, h2⟩ s _ ⟨T, y, ev, hT, eH, hy⟩ hd1 => by
    obtain ⟨z, h3, rfl⟩ := enD_get hd1
    obtain ⟨v, h4, h5⟩ := h2.get h3
    have q := hy vs (s.sqL h1)
    rw [h4] at q
    cases q
    refine .inr ⟨T, _, ev, hT, eH, .tup (.cons ?_ (.cons h5 .nil))⟩
    rw [Nat.zero_add]
    exact .int _
def zpD : List D → List D → List D
  | x :: xs, y :: ys => .tup [x, y] :: zpD xs ys
  | _, _ => []
theorem zpD_length : ∀ {xs ys : List D}, (zpD xs ys).length = min xs.length ys.length
  | [], _ => by simp [zpD]
  | _ :: _, [] => by simp [zpD]
  | x :: xs, y :: ys => by
    rw [zpD, List.length_cons, zpD_length, List.length_cons, List.length_cons]
    omega
theorem zpD_get : ∀ {i : Nat} {xs ys : List D} {d : D}, (zpD xs ys)[i]? = some d → ∃ x y, xs[i]? = some x ∧ ys[i]? = some y ∧ d = .tup [x, y]
  | _, [], _, _, h => by simp [zpD] at h
  | _, _ :: _, [], _, h => by simp [zpD] at h
  | 0, x :: xs, y :: ys, d, h => by
    simp [zpD] at h
    exact ⟨x, y, rfl, rfl, h.symm⟩
  | i + 1, x :: xs, y :: ys, d, h => by
    obtain ⟨p, q, h1, h2, h3⟩ := zpD_get (i := i) (xs := xs) (ys := ys) (d := d) (by simpa [zpD] using h)
    exact ⟨p, q, by simpa using h1, by simpa using h2, h3⟩
theorem wk_zipL {K : PySem.W.Frag} {a b : Addr} {ds es : List D} : Wk K (Itz K a b) (zpD ds es) (fun (H : Vw) _ => ∃ vs us, SqL K H a vs ∧ SqL K H b us ∧ RepL K H ds vs ∧ RepL K H es us) where
  mono := fun _ _ _ _ ⟨vs, us, h1, h2, h3, h4⟩ s _ => ⟨vs, us, s.sqL h1, s.sqL h2, h3.mono s, h4.mono s⟩
  stop := fun Hv H ⟨vs, us, h1, h2, h3, h4⟩ s => ⟨vs, us, s.sqL h1, s.sqL h2, by rw [zpD_length, h3.length, h4.length]; omega⟩
  go := fun Hv H i ⟨vs, us, h1, h2, h3, h4⟩ s hi => by
    rw [zpD_length, h3.length, h4.length] at hi
    exact ⟨vs, us, vs[i]'(by omega), us[i]'(by omega), s.sqL h1, s.sqL h2, List.getElem?_eq_getElem _, List.getElem?_eq_getElem _⟩
  yld := fun Hv H i x H' d ⟨vs, us, h1, h2, h3, h4⟩ s _ ⟨T, p, q, ev, hT, eH, hp, hq⟩ hd1 => by
    obtain ⟨z, z2, g1, g2, rfl⟩ := zpD_get hd1
    obtain ⟨v, k1, k2⟩ := h3.get g1
    obtain ⟨u, k3, k4⟩ := h4.get g2
    have e1 := hp vs (s.sqL h1)
    have e2 := hq us (s.sqL h2)
    rw [k1] at e1
    rw [k3] at e2
    cases e1
    cases e2
    exact .inr ⟨T, _, ev, hT, eH, .tup (.cons k2 (.cons k4 .nil))⟩
theorem wk_zipT {K : PySem.W.Frag} {a b : Addr} {ds es : List D} : Wk K (RZ.ItzT K a b) (zpD ds es) (fun (H : Vw) _ => ∃ vs us, SqT K H a vs ∧ SqT K H b us ∧ RepL K H ds vs ∧ RepL K H es us) where
  mono := fun _ _ _ _ ⟨vs, us, h1, h2, h3, h4⟩ s _ => ⟨vs, us, s.sqT h1, s.sqT h2, h3.mono s, h4.mono s⟩
  stop := fun Hv H ⟨vs, us, h1, h2, h3, h4⟩ s => ⟨vs, us, s.sqT h1, s.sqT h2, by rw [zpD_length, h3.length, h4.length]; omega⟩
  go := fun Hv H i ⟨vs, us, h1, h2, h3, h4⟩ s hi => by
    rw [zpD_length, h3.length, h4.length] at hi
    exact ⟨vs, us, vs[i]'(by omega), us[i]'(by omega), s.sqT h1, s.sqT h2, List.getElem?_eq_getElem _, List.getElem?_eq_getElem _⟩
  yld := fun Hv H i x H' d ⟨vs, us, h1, h2, h3, h4⟩ s _ ⟨T, p, q, ev, hT, eH, hp, hq⟩ hd1 => by
    obtain ⟨z, z2, g1, g2, rfl⟩ := zpD_get hd1
    obtain ⟨v, k1, k2⟩ := h3.get g1
    obtain ⟨u, k3, k4⟩ := h4.get g2
    have e1 := hp vs (s.sqT h1)
    have e2 := hq us (s.sqT h2)
    rw [k1] at e1
    rw [k3] at e2
    cases e1
    cases e2
    exact .inr ⟨T, _, ev, hT, eH, .tup (.cons k2 (.cons k4 .nil))⟩
section
variable {X : Cx}
def iEn (f : AF) : IF := fun env => match f env with
  | some ([.lst xs], e) => some (enD 0 xs, e)
  | _ => none
theorem si_en {f : AF} {e : Expr} {elts : List Expr} {kk : Nat} {tpos p pos : Pos} (hm : X.mg "enumerate" = none) (hf : SA X f [e]) (hg : Gl X "enumerate" := by rfl) (hs : plainE e = true := by rfl) : SI X (iEn f) (.Tuple elts kk tpos) (.Call (.Name "enumerate" p) [e] [] pos) := by
  refine ⟨?_⟩
  intro A own env σ H ds env' r h R k
  unfold iEn at h
  split at h
  · rename_i xs e1 h1
    cases h
    refine ⟨_, pi_enum hg hm pa_w (star1 hs), hf A own env σ H _ env' r h1 _ fun vs H1 own1 s1 R1 o1 => ?_⟩
    cases o1 with
    | cons q1 q2 =>
      cases q2
      cases q1 with
      | lst g1 g2 => exact ⟨_, _, rfl, .inl (.inl (hd_sub _ _ g1)), k _ H1 own1 _ s1 R1 wk_enum ⟨_, .inl (.inl g1), g2⟩⟩
  · cases h
def iZp (f : AF) : IF := fun env => match f env with
  | some ([.lst xs, .lst ys], e) => some (zpD xs ys, e)
  | some ([x, y], e) => match x.asTup, y.asTup with
    | some xs, some ys => some (zpD xs ys, e)
    | _, _ => none
  | _ => none
theorem si_zp {f : AF} {e e2 : Expr} {elts : List Expr} {kk : Nat} {tpos p pos : Pos} (hm : X.mg "zip" = none) (hf : SA X f [e, e2]) (hg : Gl X "zip" := by rfl) (hs : plainE e = true := by rfl) (hs2 : plainE e2 = true := by rfl) : SI X (iZp f) (.Tuple elts kk tpos) (.Call (.Name "zip" p) [e, e2] [] pos) := by
  refine ⟨?_⟩
  intro A own env σ H ds env' r h R k
  unfold iZp at h
  refine ⟨_, RZ.pi_zipA hg hm pa_w (star1 hs) (plain_any (es := [e2]) (by simp [hs2])), ?_⟩
  split at h
  · rename_i xs ys e1 h1
    cases h
    refine hf A own env σ H _ env' r h1 _ fun vs H1 own1 s1 R1 o1 => ?_
    cases o1 with
    | cons q1 q2 => cases q2 with
      | cons q3 q4 =>
        cases q4
        cases q1 with
        | lst g1 g2 => cases q3 with
          | lst g3 g4 => exact ⟨_, _, _, _, rfl, .inl ⟨.inl (.inl (hd_sub _ _ g1)), .inl (.inl (hd_sub _ _ g3)), k _ H1 own1 _ s1 R1 wk_zipL ⟨_, _, .inl (.inl g1), .inl (.inl g3), g2, g4⟩⟩⟩
  · rename_i x y e1 hne h1
    split at h
    · rename_i xs ys hx hy
      cases h
      refine hf A own env σ H _ env' r h1 _ fun vs H1 own1 s1 R1 o1 => ?_
      cases o1 with
      | cons q1 q2 => cases q2 with
        | cons q3 q4 =>
          cases q4
          obtain ⟨a, us, rfl, g1, g2⟩ := q1.tupA hx
          obtain ⟨b, ws, rfl, g3, g4⟩ := q3.tupA hy
          exact ⟨_, _, _, _, rfl, .inr ⟨hd_sub.sqT g1, hd_sub.sqT g3, k _ H1 own1 _ s1 R1 wk_zipT ⟨_, _, g1, g3, g2, g4⟩⟩⟩
    · cases h
  · cases h
/-- xs[::-1] of a list -/
def fRev (f : EF) : EF := fun env => match f env with
  | some (.lst xs, _, e) => some (.lst xs.reverse, true, e)
  | _ => none
theorem se_rev {f : EF} {e : Expr} {k : Nat} {p1 p2 p3 pos : Pos} (hf : SE X f e) : SE X (fRev f) (.Subscript e (.Slice none none (some (.UnaryOp .USub (.Constant (.int 1) k p1) p2)) p3) pos) := by
  refine ⟨?_⟩
  intro A own env σ H d fr env' R h Q kk
  unfold fRev at h
  split at h
  · rename_i xs fr1 e1 h1
    cases h
    refine we_of (pe_revL pe_w) (hf A own env σ H _ fr1 env' R h1 _ fun v H1 own1 s1 R1 => ?_)
    have rp := R1.rp
    cases rp with
    | lst g1 g2 => exact ⟨_, _, rfl, .inl (.inl (hd_sub _ _ g1)), fun p hp => (give s1 R1.en kk).new p _ hp (.lst g2.reverse)⟩
  · cases h
end
end Dz
/-! DzGet: d.get(k). -/
namespace Dz
open PySem PyProof.Rows L2
section
variable {X : Cx}
def fGet1 (o y : OF) : EF := fun env => match o env with
  | some (p, e1) => match res e1 p with
    | some (.dic _ _) => match y e1 with
      | some (py, e2) => match res e2 p, res e2 py with
        | some (.dic ks xs), some dy => match lookD ks xs dy with
          | some (some d) => some (d, false, e2)
          | some none => some (.non, false, e2)
          | none => none
        | _, _ => none
      | none => none
    | _ => none
  | none => none
theorem se_get1 {o y : OF} {e a : Expr} {apos pos : Pos} (hu : X.A.units + 1 < cLine) (ho : SO X o e) (hy : SO X y a) (m : M1 X e "get" apos a pos) : SE X (fGet1 o y) (.Call (.Attribute e "get" apos) [a] [] pos) := by
  refine ⟨?_⟩
  intro A own env σ H d fr env' R h Q k
  unfold fGet1 at h
  split at h
  case h_2 => cases h
  rename_i p e1 h1
  split at h
  · rename_i k0 x0 g1
    split at h
    case h_2 => cases h
    rename_i py e2 h2
    split at h
    · rename_i ks xs dy g2 g3
      refine we_of (pe_dget1 hu pe_w pe_w m) (ho A own env σ H p e1 R h1 _ fun v H1 own1 s1 R1 o1 => ?_)
      obtain ⟨a0, rfl, isd⟩ := (o1.step StpE.refl R1 g1).isD hd_sub
      refine ⟨a0, rfl, isd, hy A own1 e1 σ H1 py e2 R1 h2 _ fun u H2 own2 s2 R2 o2 => ?_⟩
      have vx := o1.step s2 R2 g2
      have vy := o2.step StpE.refl R2 g3
      have st := s1.trans s2
      split at h
      · rename_i d1 h4
        cases h
        obtain ⟨a1, o', ea, g, _, q⟩ := look_get vx vy hd_sub h4
        cases ea
        obtain ⟨w1, rfl, rw'⟩ := q _ rfl
        exact ⟨_, g, k _ _ _ st ⟨R2, rw', fun z => by cases z⟩⟩
      · rename_i h4
        cases h
        obtain ⟨a1, o', ea, g, q, _⟩ := look_get vx vy hd_sub h4
        cases ea
        rw [q rfl] at g
        exact ⟨_, g, k _ _ _ st ⟨R2, .non, fun z => by cases z⟩⟩
      · cases h
    · cases h
  · cases h
theorem e_get1 {k : Nat} (hr : Room (k + 1) X.A) {o y : OF} {e a : Expr} {apos pos : Pos} (ho : SO X o e) (hy : SO X y a) (h1 : attributeBase e "get" X.env (eval e X.env) = eval e X.env := by rfl)
    (h2 : ((backTo pos (starEach [a] X.env)).all (fun x => !x.1) && (backToKw pos (keywordEach [] X.env)).all (fun x => x.1.isSome) && decide (([a] : List Expr).length + ([] : List Keyword).length + (if ([] : List Keyword).isEmpty then 0 else 1) < 30)) = true := by rfl)
    (h3 : (apos.endLine == pos.line) = true := by rfl) (h4 : backTo pos (starEach [a] X.env) = [(false, eval a X.env)] := by rfl) : SE X (fGet1 o y) (.Call (.Attribute e "get" apos) [a] [] pos) := se_get1 (room1 hr) ho hy ⟨h1, h2, h3, h4⟩
end
end Dz
/-! DzItems: d.items(), d.values() of a slot's dict (int and text keys), walked under its lock; for over a dict as a statement. -/
namespace Dz
open PySem PyProof.Rows L2
/-! ### the walks -/
theorem zip_get {κ : Type} : ∀ {kk : List κ} {vs : List V} {i : Nat} {k : κ} {v : V}, (kk.zip vs)[i]? = some (k, v) → kk[i]? = some k ∧ vs[i]? = some v
  | [], _, _, _, _, h => by simp at h
  | _ :: _, [], _, _, _, h => by simp at h
  | a :: kk, b :: vs, 0, _, _, h => by
    simp at h
    exact ⟨by simp [h.1], by simp [h.2]⟩
  | a :: kk, b :: vs, i + 1, k, v, h => by
    obtain ⟨h1, h2⟩ := zip_get (kk := kk) (vs := vs) (i := i) (by simpa using h)
    exact ⟨by simpa using h1, by simpa using h2⟩
theorem keysK_length {ks : List D} {kk : List Key} (h : keysK ks = some kk) : ks.length = kk.length := by
  have r := (keysK_rep (K := default) (H := ⟨fun _ => none, fun _ => none⟩) h).length
  rw [r, List.length_map]
section
variable {K : PySem.W.Frag} {d : Addr} {od : PySem.Obj} {ks xs : List D} {kk : List Key} {vs : List V}
theorem wk_items (h1 : keysK ks = some kk) (h2 : kk.length = vs.length) : Wk K (Iti d od (kk.zip vs)) (zpD ks xs) (fun Hv H => H d = some (.frz od (.dK (kk.zip vs))) ∧ RepL K Hv xs vs) where
  mono := fun _ _ _ _ ⟨e, r⟩ s z => ⟨z _ _ _ e, r.mono s⟩
  stop := fun Hv H ⟨e, r⟩ s => ⟨e, by rw [zpD_length, keysK_length h1, r.length, List.length_zip]; exact Nat.le_refl _⟩
  go := fun Hv H i ⟨e, r⟩ s hi => ⟨e, by rw [zpD_length, keysK_length h1, r.length] at hi; rw [List.length_zip]; exact hi⟩
  yld := fun Hv H i x H' d0 ⟨e, r⟩ s _ ⟨T, k, v, hk, ev, hT, eH⟩ hd1 => by
    obtain ⟨p, q, g1, g2, rfl⟩ := zpD_get hd1
    obtain ⟨k1, k2⟩ := zip_get hk
    obtain ⟨w1, w2, w3⟩ := (keysK_rep (K := K) (H := Hv) h1).get g1
    rw [List.getElem?_map, k1] at w2
    cases w2
    obtain ⟨z1, z2, z3⟩ := r.get g2
    rw [k2] at z2
    cases z2
    exact .inr ⟨T, _, ev, hT, eH, .tup (.cons w3 (.cons z3 .nil))⟩
theorem wk_vals (h2 : kk.length = vs.length) : Wk K (Itd d od (kk.zip vs)) xs (fun Hv H => H d = some (.frz od (.dK (kk.zip vs))) ∧ RepL K Hv xs vs) where
  mono := fun _ _ _ _ ⟨e, r⟩ s z => ⟨z _ _ _ e, r.mono s⟩
  stop := fun Hv H ⟨e, r⟩ s => ⟨e, by rw [r.length, List.length_zip, h2, Nat.min_self]; exact Nat.le_refl _⟩
  go := fun Hv H i ⟨e, r⟩ s hi => ⟨e, by rw [r.length] at hi; rw [List.length_zip, h2, Nat.min_self]; exact hi⟩
  yld := fun Hv H i x H' d0 ⟨e, r⟩ s _ ⟨eH, k, hk⟩ hd1 => by
    obtain ⟨k1, k2⟩ := zip_get hk
    obtain ⟨z1, z2, z3⟩ := r.get hd1
    rw [k2] at z2
    cases z2
    exact .inl ⟨eH, z3⟩
end
/-- of one entry at least, keys ints and texts -/
def isK : List D → Bool
  | [] => false
  | ks => (keysK ks).isSome
/-- the entries, the values of a dict -/
def iIt (f : EF) : IF := fun env => match f env with
  | some (.dic ks xs, _, e) => if isK ks then some (zpD ks xs, e) else none
  | _ => none
def iVl (f : EF) : IF := fun env => match f env with
  | some (.dic ks xs, _, e) => if isK ks then some (xs, e) else none
  | _ => none
theorem keysKT0 {ks : List D} {kk : List Key} {kt : List (List Key)} (h1 : keysK ks = some kk) (h2 : keysT ks = some kt) : ks = [] := by
  cases ks with
  | nil => rfl
  | cons a ks => cases a <;> simp [keysK, keysT] at h1 h2
/-- a dict whose keys are ints and texts, locked -/
theorem dk_lock {K : PySem.W.Frag} {A : Amb} {own : Own} {H : Hp} {ks xs : List D} {v : V} (h : Rep K (hd (hid A own) H) (.dic ks xs) v) (q : isK ks = true) : ∃ a kk, ∃ vs : List V, v = .ref a ∧ keysK ks = some kk ∧ kk.length = vs.length ∧ RepL K (hd (hid A own) H) xs vs ∧ ¬ hid A own a ∧ (H a = some (.dK (kk.zip vs)) ∨ ∃ od, H a = some (.frz od (.dK (kk.zip vs)))) := by
  cases h with
  | @dicK a kk vs _ _ g1 g2 g3 g4 g5 =>
    rcases g3 with g3 | ⟨od, g3⟩
    · obtain ⟨n, z⟩ := hd_some.mp g3
      exact ⟨a, kk, vs, rfl, g1, g2, g5, n, .inl z⟩
    · obtain ⟨n, z⟩ := hd_some.mp g3
      exact ⟨a, kk, vs, rfl, g1, g2, g5, n, .inr ⟨od, z⟩⟩
  | @dicT a kk vs _ _ g1 g2 g3 g4 g5 =>
    cases ks with
    | nil => cases q
    | cons x ks =>
      obtain ⟨k2, hk⟩ := Option.isSome_iff_exists.mp (show (keysK (x :: ks)).isSome = true from q)
      cases keysKT0 hk g1
section
variable {X : Cx} {apos cpos tpos : Pos} {elts : List Expr} {kk0 : Nat} {tg : Expr}
theorem i_it {f : EF} {e : Expr} (hf : SE X f e) (hbase : attributeBase e "items" X.env (eval e X.env) = eval e X.env := by rfl) (hline : (apos.endLine == cpos.line) = true := by rfl) : SI X (iIt f) (.Tuple elts kk0 tpos) (.Call (.Attribute e "items" apos) [] [] cpos) := by
  refine ⟨?_⟩
  intro A own env σ H ds env' r h R k
  unfold iIt at h
  split at h
  · rename_i ks xs fr e1 h1
    split at h
    · rename_i hk
      cases h
      refine ⟨_, pi_items pe_w hbase hline, we_ghost (hf A own env σ H _ fr env' r h1 _ fun v H1 own1 s1 R1 => ?_)⟩
      obtain ⟨a, kk, vs, rfl, g1, g2, g5, n, z | ⟨od, z⟩⟩ := dk_lock R1.rp hk
      · exact .inr ⟨a, _, z, trivial, fun od => ⟨a, od, _, rfl, upd_same, k _ _ own1 _ (s1.trans (.lock z trivial n)) (R1.en.lock z trivial n) (wk_items g1 g2) ⟨upd_same, g5.mono (.lock z trivial)⟩⟩⟩
      · exact .inl ⟨a, od, _, rfl, z, k _ _ own1 _ s1 R1.en (wk_items g1 g2) ⟨z, g5⟩⟩
    · cases h
  · cases h
theorem i_vl {f : EF} {e : Expr} (hf : SE X f e) (hbase : attributeBase e "values" X.env (eval e X.env) = eval e X.env := by rfl) (hline : (apos.endLine == cpos.line) = true := by rfl) : SI X (iVl f) tg (.Call (.Attribute e "values" apos) [] [] cpos) := by
  refine ⟨?_⟩
  intro A own env σ H ds env' r h R k
  unfold iVl at h
  split at h
  · rename_i ks xs fr e1 h1
    split at h
    · rename_i hk
      cases h
      refine ⟨_, pi_values pe_w hbase hline, we_ghost (hf A own env σ H _ fr env' r h1 _ fun v H1 own1 s1 R1 => ?_)⟩
      obtain ⟨a, kk, vs, rfl, g1, g2, g5, n, z | ⟨od, z⟩⟩ := dk_lock R1.rp hk
      · exact .inr ⟨a, _, z, trivial, fun od => ⟨a, od, _, rfl, upd_same, k _ _ own1 _ (s1.trans (.lock z trivial n)) (R1.en.lock z trivial n) (wk_vals g2) ⟨upd_same, g5.mono (.lock z trivial)⟩⟩⟩
      · exact .inl ⟨a, od, _, rfl, z, k _ _ own1 _ s1 R1.en (wk_vals g2) ⟨z, g5⟩⟩
    · cases h
  · cases h
end
end Dz
/-! DzTgt: targets that change objects: x[k] among the targets of one assignment. -/
namespace Dz
open PySem PyProof.Rows L2
def SGM_ (X : Cx) (g : GF) (tg : Expr) : Prop := ∀ A own env σ H d env' v, EnvR X.K A own env σ H → Rep X.K (hd (hid A own) H) d v → g d env = some env' → ∀ Q : L2.St → Hp → Prop,
  (∀ σ' H' own', Stp A own H own' H' → EnvR X.K A own' env' σ' H' → Q σ' H') → WG X tg v σ H Q
structure SGM (X : Cx) (g : GF) (tg : Expr) : Prop where
  run : SGM_ X g tg
def SGMs_ (X : Cx) (g : GsF) (ts : List Expr) : Prop := ∀ A own env σ H ds env' vs, EnvR X.K A own env σ H → RepL X.K (hd (hid A own) H) ds vs → g ds env = some env' → ∀ Q : L2.St → Hp → Prop,
  (∀ σ' H' own', Stp A own H own' H' → EnvR X.K A own' env' σ' H' → Q σ' H') → WGs X ts vs σ H Q
structure SGMs (X : Cx) (g : GsF) (ts : List Expr) : Prop where
  run : SGMs_ X g ts
section
variable {X : Cx}
theorem sgm_of {js : List Nat} {g : GF} {tg : Expr} (h : SG X js g tg) : SGM X g tg := ⟨fun A own env σ H d env' v r q e Q k => h A own env σ H d env' v r q e Q fun σ' own' s r' _ _ => k σ' H own' s.toStp r'⟩
theorem sgms_nil : SGMs X gsNil [] := by
  refine ⟨?_⟩
  intro A own env σ H ds env' vs r q h Q k
  cases q with
  | nil => cases h; exact wgs_of pgs_nil ⟨rfl, k σ H own Stp.refl r⟩
  | cons _ _ => cases h
theorem sgms_cons {g : GF} {gs : GsF} {e : Expr} {es : List Expr} (hg : SGM X g e) (hgs : SGMs X gs es) (hs : (assignEach (e :: es) X.env).map (·.2) = assign e X.env :: (assignEach es X.env).map (·.2) := by rfl) : SGMs X (gsCons g gs) (e :: es) := by
  refine ⟨?_⟩
  intro A own env σ H ds env' vs r q h Q k
  cases q with
  | nil => cases h
  | cons q1 q2 =>
    rename_i d v ds vs
    have h2 : (match g d env with
      | some e => gs ds e
      | none => none) = some env' := h
    split at h2
    · rename_i e1 h1
      refine wgs_of (pgs_cons pg_w pgs_w hs) ⟨v, vs, rfl, hg.run A own env σ H d e1 v r q1 h1 _ fun σ1 H1 own1 s1 r1 => ?_⟩
      exact hgs.run A own1 e1 σ1 H1 ds env' vs r1 (q2.mono s1.sub) h2 Q fun σ2 H2 own2 s2 r2 => k σ2 H2 own2 (s1.trans s2) r2
    · cases h2
theorem sgm_tup {gs : GsF} {es : List Expr} {kk pos} (hc : X.calm = true) (hgs : SGMs X gs es) (hlen : ∀ xs env env', gs xs env = some env' → xs.length = es.length) (hn : (assignEach es X.env).length = es.length := by rfl) (hst : (assignEach es X.env).findIdx? (·.1) = none := by rfl) : SGM X (gTp gs) (.Tuple es kk pos) := by
  refine ⟨?_⟩
  intro A own env σ H d env' v r q h Q k
  unfold gTp at h
  split at h
  · rename_i xs hx
    obtain ⟨a, vs, rfl, h1, r1⟩ := q.tupA hx
    exact wg_of (pg_tup hc pgs_w hn hst) ⟨a, vs, rfl, hd_sub.sqT h1, by rw [← r1.length]; exact hlen xs env env' h, hgs.run A own env σ H xs env' vs r r1 h Q k⟩
  · cases h
/-- x[y], a dict owned by slot i -/
def gSubD (i : Nat) (g : EF) : GF := fun d env => match ownD env i with
  | some _ => match g env with
    | some (y, _, e2) => match ownD e2 i with
      | some (ks, xs, fl) => if xs.length < 100000 then match putDic ks xs y d with
        | some (ks', xs') => some (e2.set i (some (.dic ks' xs', fl)))
        | none => none
        else none
      | none => none
    | none => none
  | none => none
theorem sgm_subD {i : Nat} {x : Str} {g : EF} {ix : Expr} {p tpos : Pos} (hu : X.A.units + 1 < cLine) (hN : X.N[i]? = some x) (hv : Vis X.env.scope x) (hd1 : (x == ("__debug__" : Str)) = false) (hcd : (x == ("__classdict__" : Str)) = false) (hg : SE X g ix)
    (ha : ∀ v, assign (.Subscript (.Name x p) ix tpos) X.env v = (do
      let ov ← holding [v] (eval (.Name x p) X.env)
      let iv ← holding [v, ov] (eval ix X.env)
      standAt tpos
      holding [v, ov, iv] (setItem ov iv v)
      release [v, ov, iv] [])) : SGM X (gSubD i g) (.Subscript (.Name x p) ix tpos) := by
  refine ⟨?_⟩
  intro A own env σ H d env' v r q h Q k
  unfold gSubD at h
  split at h
  case h_2 => cases h
  rename_i z0 q2
  obtain ⟨ks0, xs0, f0⟩ := z0
  obtain ⟨q2, hf0⟩ := ownD_some q2
  split at h
  case h_2 => cases h
  rename_i y fr2 e2 q3
  split at h
  case h_2 => cases h
  rename_i ks xs fl q4
  obtain ⟨q4, hfl⟩ := ownD_some q4
  split at h
  case isFalse => cases h
  rename_i hl
  split at h
  case h_2 => cases h
  rename_i ks' xs' q5
  cases h
  obtain ⟨a, h1, h2, t0⟩ := r.ow i _ f0 q2 hf0
  refine wg_of (pg_sub (pe_var hN hv hd1 hcd) pe_w (set_dictE hu) ha) ⟨_, h2, hg A own env σ H y fr2 e2 r q3 _ fun u H2 own2 s2 R2 => ?_⟩
  obtain ⟨a', h3, h4, t⟩ := R2.en.ow i _ fl q4 hfl
  have ea := s2.dr i a' h3
  rw [h1] at ea
  cases ea
  obtain ⟨o', g1, g2⟩ := putDic_ok t R2.rp hd_sub (q.mono s2.toStp.sub) q5 hl
  exact ⟨a, _, rfl, g1, k σ _ own2 (s2.toStp.trans (Stp.mut R2.en h3)) (R2.en.mut h3 q4 hfl g2 (g2.nt rfl))⟩
theorem g_subD (i : Nat) {x : Str} {g : EF} {ix : Expr} {p tpos : Pos} {k : Nat} (hr : Room (k + 1) X.A) (hg : SE X g ix) (hN : X.N[i]? = some x := by rfl) (hv : Vis X.env.scope x := by first | exact Or.inl rfl | exact Or.inr (Or.inl rfl) | exact Or.inr (Or.inr rfl)) (hd1 : (x == ("__debug__" : Str)) = false := by decide) (hcd : (x == ("__classdict__" : Str)) = false := by decide)
    (ha : ∀ v, assign (.Subscript (.Name x p) ix tpos) X.env v = (do
      let ov ← holding [v] (eval (.Name x p) X.env)
      let iv ← holding [v, ov] (eval ix X.env)
      standAt tpos
      holding [v, ov, iv] (setItem ov iv v)
      release [v, ov, iv] []) := by intro _; rfl) : SGM X (gSubD i g) (.Subscript (.Name x p) ix tpos) := sgm_subD (room1 hr) hN hv hd1 hcd hg ha
theorem s_asgM {g : GF} {f : EF} {tg e : Expr} {pos} (hg : SGM X g tg) (hf : SE X f e) (hs : swapsWithSole [tg] e pos.line X.env = pure false := by rfl) (hw : swappedStores [tg] e X.env = pure none := by rfl)
    (h1 : (assignEach [tg] X.env).map (·.2) = [assign tg X.env] := by rfl) : SS X (sAsg g f) (.Assign [tg] e pos) := by
  refine ⟨?_⟩
  intro A own env σ H out r h D k
  unfold sAsg at h
  split at h
  · rename_i d fr e1 q1
    split at h
    · rename_i e2 q2
      cases h
      exact ws_of (ps_asg pe_w pg_w hs hw h1) (hf A own env σ H d fr e1 r q1 _ fun v H1 own1 s1 R1 => hg.run A own1 e1 σ H1 d e2 v R1.en R1.rp q2 _ fun σ2 H2 own2 s2 r2 => k σ2 H2 own2 (s1.toStp.trans s2) r2)
    · cases h
  · cases h
end
end Dz
/-! DzStrM: methods of texts (join, strip, isdigit, isalpha, startswith, split without a word), max and min of a list of ints. -/
namespace Dz
open PySem PyProof.Rows L2
section
variable {X : Cx}
/-- a method of a text, its arguments as operands -/
def PM (X : Cx) (r : V → List V → Hp → VK → Prop) (p : Str → List D → Option (D × Bool)) : Prop := ∀ (Hh : Vw) (H : Hp) (a : Str) (ds : List D) (vs : List V) (d : D) (fr : Bool) (Q : VK), Sub Hh H → Views X.K Hh H ds vs → p a ds = some (d, fr) → Give X.K Hh H fr d Q → r (.str a) vs H Q
def fStrM (p : Str → List D → Option (D × Bool)) (o : EF) (f : LF) : EF := fun env => match o env with
  | some (.str a, _, e1) => match f e1 with
    | some (os, e2) => match ress e2 os with
      | some ds => match p a ds with
        | some (d, fr) => some (d, fr, e2)
        | none => none
      | none => none
    | none => none
  | _ => none
theorem se_strM {name : Str} {id : String} {r : V → List V → Hp → VK → Prop} {p : Str → List D → Option (D × Bool)} {o : EF} {f : LF} {e a : Expr} {es : List Expr} {apos cpos : Pos} (slot : PySem.Slot "str" name id) (hty : typeOf (.builtin id) = pure (.type "method_descriptor")) (hm : MtR X id r) (hp : PM X r p) (ho : SE X o e) (hf : SL X f (a :: es))
    (hs : plainE a = true := by rfl) (hpl : es.all plainE = true := by rfl) (hbase : attributeBase e name X.env (eval e X.env) = eval e X.env := by rfl)
    (hfew : ((backTo cpos (starEach (a :: es) X.env)).all (fun x => !x.1) && (backToKw cpos (keywordEach [] X.env)).all (fun x => x.1.isSome)
      && decide ((a :: es).length + ([] : List Keyword).length + (if ([] : List Keyword).isEmpty then 0 else 1) < 30)) = true := by rfl)
    (hline : (apos.endLine == cpos.line) = true := by rfl) : SE X (fStrM p o f) (.Call (.Attribute e name apos) (a :: es) [] cpos) := by
  refine ⟨?_⟩
  intro A own env σ H d fr env' R h Q k
  unfold fStrM at h
  split at h
  · rename_i s fr1 e1 h1
    split at h
    · rename_i os e2 h2
      split at h
      · rename_i ds h3
        split at h
        · rename_i d' fr' h4
          cases h
          refine we_of (pe_bm PySem.F.plainAttrs_str slot hty hm pe_w pa_w hbase hfew hline (star1 hs) (plain_any hpl)) (ho A own env σ H _ fr1 e1 R h1 _ fun v H1 own1 s1 R1 => ?_)
          have hv := (View.sc (Hh := _) (H := H1) R1.rp).str
          subst hv
          exact ⟨rfl, hf A own1 e1 σ H1 os env' R1.en h2 _ fun vs H2 own2 s2 R2 o2 => hp _ H2 s ds vs d fr Q hd_sub (o2.step StpE.refl R2 h3) h4 (give (s1.trans s2) R2 k)⟩
        · cases h
      · cases h
    · cases h
  · cases h
theorem se_strM0 {name : Str} {id : String} {r : V → List V → Hp → VK → Prop} {p : Str → List D → Option (D × Bool)} {o : EF} {e : Expr} {apos cpos : Pos} (slot : PySem.Slot "str" name id) (hty : typeOf (.builtin id) = pure (.type "method_descriptor")) (hm : MtR X id r) (hp : PM X r p) (ho : SE X o e)
    (hbase : attributeBase e name X.env (eval e X.env) = eval e X.env := by rfl) (hline : (apos.endLine == cpos.line) = true := by rfl) : SE X (fStrM p o lNil) (.Call (.Attribute e name apos) [] [] cpos) := by
  refine ⟨?_⟩
  intro A own env σ H d fr env' R h Q k
  unfold fStrM at h
  split at h
  · rename_i s fr1 e1 h1
    split at h
    · rename_i os e2 h2
      cases h2
      split at h
      · rename_i ds h3
        cases h3
        split at h
        · rename_i d' fr' h4
          cases h
          refine we_of (pe_bm0 PySem.F.plainAttrs_str slot hty hm pe_w hbase hline) (ho A own env σ H _ fr1 env' R h1 _ fun v H1 own1 s1 R1 => ?_)
          have hv := (View.sc (Hh := _) (H := H1) R1.rp).str
          subst hv
          exact ⟨rfl, hp _ H1 s [] [] d fr Q hd_sub .nil h4 (give s1 R1.en k)⟩
        · cases h
      · cases h
    · cases h
  · cases h
def strsD : List D → Option (List Str)
  | [] => some []
  | .str i :: r => (strsD r).map (i :: ·)
  | _ => none
theorem strsD_vs {K : PySem.W.Frag} {H : Vw} : ∀ {ds : List D} {ns : List Str} {vs : List V}, strsD ds = some ns → RepL K H ds vs → vs = ns.map V.str
  | [], _, _, q, r => by cases q; cases r; rfl
  | .str i :: ds, _, _, q, r => by
    obtain ⟨ns, q1, rfl⟩ := Option.map_eq_some_iff.mp (show (strsD ds).map (i :: ·) = some _ from q)
    cases r with
    | cons r1 r2 =>
      cases r1
      rw [strsD_vs q1 r2]
      rfl
  | .non :: _, _, _, q, _ => by cases q
  | .bl _ :: _, _, _, q, _ => by cases q
  | .int _ :: _, _, _, q, _ => by cases q
  | .ty _ :: _, _, _, q, _ => by cases q
  | .tup _ :: _, _, _, q, _ => by cases q
  | .kup _ :: _, _, _, q, _ => by cases q
  | .lst _ :: _, _, _, q, _ => by cases q
  | .flz _ :: _, _, _, q, _ => by cases q
  | .dic _ _ :: _, _, _, q, _ => by cases q
  | .ins _ _ _ :: _, _, _, q, _ => by cases q
def pJoin : Str → List D → Option (D × Bool) := fun a ds => match ds with
  | [.lst xs] => match strsD xs with
    | some ys => if (ys.map (·.length)).sum + ys.length * a.length ≤ 16777216 then some (.str (Txt.join a ys), false) else none
    | none => none
  | [x] => match x.asTup with
    | some xs => match strsD xs with
      | some ys => if (ys.map (·.length)).sum + ys.length * a.length ≤ 16777216 then some (.str (Txt.join a ys), false) else none
      | none => none
    | none => none
  | _ => none
theorem pm_join : PM X (fun x xs H Q => ∃ a p, ∃ ys : List Str, x = .str a ∧ xs = [.ref p] ∧ (SqL X.K H p (ys.map V.str) ∨ SqT X.K H p (ys.map V.str)) ∧ (ys.map (·.length)).sum + ys.length * a.length ≤ 16777216 ∧ Q (.str (Txt.join a ys)) H) pJoin := by
  intro Hh H a ds vs d fr Q e vx q g
  unfold pJoin at q
  split at q
  · rename_i xs
    split at q
    · rename_i ys hy
      split at q
      · rename_i hl
        cases q
        cases vx with
        | cons v1 v2 =>
          cases v2
          obtain ⟨p, us, rfl, h1, r⟩ := v1.lst e
          have := strsD_vs hy r
          subst this
          exact ⟨a, p, ys, rfl, rfl, .inl (.inl (.inl h1)), hl, g.old rfl _ (.str _)⟩
      · cases q
    · cases q
  · rename_i x hne
    split at q
    · rename_i xs hx
      split at q
      · rename_i ys hy
        split at q
        · rename_i hl
          cases q
          cases vx with
          | cons v1 v2 =>
            cases v2
            obtain ⟨p, us, rfl, h1, r⟩ := v1.tup hx e
            have := strsD_vs hy r
            subst this
            exact ⟨a, p, ys, rfl, rfl, .inr h1, hl, g.old rfl _ (.str _)⟩
        · cases q
      · cases q
    · cases q
  · cases q
def pStrip : Str → List D → Option (D × Bool) := fun a ds => match ds with
  | [] => if a.length ≤ 100000 then some (.str (Txt.strip a), false) else none
  | _ => none
theorem pm_strip : PM X (fun x xs H Q => ∃ a, x = .str a ∧ xs = [] ∧ a.length ≤ sizeLine ∧ Q (.str (Txt.strip a)) H) pStrip := by
  intro Hh H a ds vs d fr Q e vx q g
  unfold pStrip at q
  split at q
  · split at q
    · rename_i hl
      cases q
      cases vx
      exact ⟨a, rfl, rfl, line_of hl, g.old rfl _ (.str _)⟩
    · cases q
  · cases q
def pBlM (f : Str → Bool) : Str → List D → Option (D × Bool) := fun a ds => match ds with
  | [] => some (.bl (f a), false)
  | _ => none
theorem pm_bl {f : Str → Bool} : PM X (fun x xs H Q => ∃ a, x = .str a ∧ xs = [] ∧ True ∧ Q (.bl (f a)) H) (pBlM f) := by
  intro Hh H a ds vs d fr Q e vx q g
  unfold pBlM at q
  split at q
  · cases q
    cases vx
    exact ⟨a, rfl, rfl, trivial, g.old rfl _ (.bl _)⟩
  · cases q
def pStarts : Str → List D → Option (D × Bool) := fun a ds => match ds with
  | [.str b] => some (.bl (Txt.startswith a b), false)
  | _ => none
theorem pm_starts : PM X (fun x xs H Q => ∃ a b, x = .str a ∧ xs = [.str b] ∧ Q (.bl (Txt.startswith a b)) H) pStarts := by
  intro Hh H a ds vs d fr Q e vx q g
  unfold pStarts at q
  split at q
  · rename_i b
    cases q
    cases vx with
    | cons v1 v2 =>
      cases v2
      have := v1.str
      subst this
      exact ⟨a, b, rfl, rfl, g.old rfl _ (.bl _)⟩
  · cases q
/-! ### max, min of a list -/
def maxI : Int → List Int → Int
  | m, [] => m
  | m, x :: r => maxI (if m < x then x else m) r
def minI : Int → List Int → Int
  | m, [] => m
  | m, x :: r => minI (if x < m then x else m) r
theorem maxI_mem : ∀ {m : Int} {xs : List Int}, maxI m xs = m ∨ maxI m xs ∈ xs
  | _, [] => .inl rfl
  | m, x :: r => by
    unfold maxI
    rcases maxI_mem (m := if m < x then x else m) (xs := r) with h | h
    · by_cases q : m < x
      · rw [if_pos q] at h ⊢; exact .inr (by rw [h]; exact List.mem_cons_self ..)
      · rw [if_neg q] at h ⊢; exact .inl h
    · exact .inr (List.mem_cons_of_mem _ h)
theorem maxI_le : ∀ {m : Int} {xs : List Int}, m ≤ maxI m xs ∧ ∀ y ∈ xs, y ≤ maxI m xs
  | _, [] => ⟨Int.le_refl _, fun _ z => nomatch z⟩
  | m, x :: r => by
    unfold maxI
    obtain ⟨h1, h2⟩ := maxI_le (m := if m < x then x else m) (xs := r)
    refine ⟨?_, fun y hy => ?_⟩
    · by_cases q : m < x
      · rw [if_pos q] at h1 ⊢; omega
      · rw [if_neg q] at h1 ⊢; exact h1
    · rcases List.mem_cons.mp hy with rfl | hy
      · by_cases q : m < y
        · rw [if_pos q] at h1 ⊢; exact h1
        · rw [if_neg q] at h1 ⊢; omega
      · exact h2 y hy
theorem minI_mem : ∀ {m : Int} {xs : List Int}, minI m xs = m ∨ minI m xs ∈ xs
  | _, [] => .inl rfl
  | m, x :: r => by
    unfold minI
    rcases minI_mem (m := if x < m then x else m) (xs := r) with h | h
    · by_cases q : x < m
      · rw [if_pos q] at h ⊢; exact .inr (by rw [h]; exact List.mem_cons_self ..)
      · rw [if_neg q] at h ⊢; exact .inl h
    · exact .inr (List.mem_cons_of_mem _ h)
theorem minI_le : ∀ {m : Int} {xs : List Int}, minI m xs ≤ m ∧ ∀ y ∈ xs, minI m xs ≤ y
  | _, [] => ⟨Int.le_refl _, fun _ z => nomatch z⟩
  | m, x :: r => by
    unfold minI
    obtain ⟨h1, h2⟩ := minI_le (m := if x < m then x else m) (xs := r)
    refine ⟨?_, fun y hy => ?_⟩
    · by_cases q : x < m
      · rw [if_pos q] at h1 ⊢; omega
      · rw [if_neg q] at h1 ⊢; exact h1
    · rcases List.mem_cons.mp hy with rfl | hy
      · by_cases q : y < m
        · rw [if_pos q] at h1 ⊢; exact h1
        · rw [if_neg q] at h1 ⊢; omega
      · exact h2 y hy
def pMaxL : PrN := fun ds => match ds with
  | [.lst xs] => match intsD xs with
    | some (n :: ns) => some (.int (maxI n ns), false)
    | _ => none
  | _ => none
def pMinL : PrN := fun ds => match ds with
  | [.lst xs] => match intsD xs with
    | some (n :: ns) => some (.int (minI n ns), false)
    | _ => none
  | _ => none
theorem pn_maxL : PN X (rMax X.K) pMaxL := by
  intro Hh H ds vs d fr Q e vx q g
  unfold pMaxL at q
  split at q
  · split at q
    · rename_i n ns hn
      cases q
      cases vx with
      | cons v1 v2 =>
        cases v2
        obtain ⟨a, us, rfl, h1, r⟩ := v1.lst e
        have := intsD_vs hn r
        subst this
        refine ⟨a, n :: ns, rfl, .inl (.inl h1), Nat.succ_pos _, fun m hm hle => ?_⟩
        have em : m = maxI n ns := by
          obtain ⟨l1, l2⟩ := maxI_le (m := n) (xs := ns)
          have k1 : m ≤ maxI n ns := by rcases List.mem_cons.mp hm with rfl | hm; exact l1; exact l2 m hm
          have k2 : maxI n ns ≤ m := by
            rcases maxI_mem (m := n) (xs := ns) with z | z
            · rw [z]; exact hle n (List.mem_cons_self ..)
            · exact hle _ (List.mem_cons_of_mem _ z)
          omega
        rw [em]
        exact g.old rfl _ (.int _)
    · cases q
  · cases q
theorem pn_minL : PN X (rMin X.K) pMinL := by
  intro Hh H ds vs d fr Q e vx q g
  unfold pMinL at q
  split at q
  · split at q
    · rename_i n ns hn
      cases q
      cases vx with
      | cons v1 v2 =>
        cases v2
        obtain ⟨a, us, rfl, h1, r⟩ := v1.lst e
        have := intsD_vs hn r
        subst this
        refine ⟨a, n :: ns, rfl, .inl (.inl h1), Nat.succ_pos _, fun m hm hle => ?_⟩
        have em : m = minI n ns := by
          obtain ⟨l1, l2⟩ := minI_le (m := n) (xs := ns)
          have k1 : minI n ns ≤ m := by rcases List.mem_cons.mp hm with rfl | hm; exact l1; exact l2 m hm
          have k2 : m ≤ minI n ns := by
            rcases minI_mem (m := n) (xs := ns) with z | z
            · rw [z]; exact hle n (List.mem_cons_self ..)
            · exact hle _ (List.mem_cons_of_mem _ z)
          omega
        rw [em]
        exact g.old rfl _ (.int _)
    · cases q
  · cases q
/-! ### words -/
section
variable {p pos apos cpos : Pos} {a e : Expr} {f : LF} {o : EF}
theorem e_maxL (hc : X.calm = true) (hm : X.mg "max" = none) (hf : SL X f [a]) (hg : Gl X "max" := by rfl) (he : plainE a = true := by rfl) : SE X (fPrim pMaxL f) (.Call (.Name "max" p) [a] [] pos) := se_prim hf pn_maxL (pe_callB (cr_max hc) hg hm (by decide +kernel) pa_w (by decide) (by decide) (star1 he))
theorem e_minL (hc : X.calm = true) (hm : X.mg "min" = none) (hf : SL X f [a]) (hg : Gl X "min" := by rfl) (he : plainE a = true := by rfl) : SE X (fPrim pMinL f) (.Call (.Name "min" p) [a] [] pos) := se_prim hf pn_minL (pe_callB (cr_min hc) hg hm (by decide +kernel) pa_w (by decide) (by decide) (star1 he))
theorem e_join (ho : SE X o e) (hf : SL X f [a]) (hs : plainE a = true := by rfl) (hbase : attributeBase e "join" X.env (eval e X.env) = eval e X.env := by rfl)
    (hfew : ((backTo cpos (starEach [a] X.env)).all (fun x => !x.1) && (backToKw cpos (keywordEach [] X.env)).all (fun x => x.1.isSome) && decide (([a] : List Expr).length + ([] : List Keyword).length + (if ([] : List Keyword).isEmpty then 0 else 1) < 30)) = true := by rfl)
    (hline : (apos.endLine == cpos.line) = true := by rfl) : SE X (fStrM pJoin o f) (.Call (.Attribute e "join" apos) [a] [] cpos) := se_strM PySem.F.slot_str_join PySem.F.type_str_join mt_join pm_join ho hf hs rfl hbase hfew hline
theorem e_startswith (ho : SE X o e) (hf : SL X f [a]) (hs : plainE a = true := by rfl) (hbase : attributeBase e "startswith" X.env (eval e X.env) = eval e X.env := by rfl)
    (hfew : ((backTo cpos (starEach [a] X.env)).all (fun x => !x.1) && (backToKw cpos (keywordEach [] X.env)).all (fun x => x.1.isSome) && decide (([a] : List Expr).length + ([] : List Keyword).length + (if ([] : List Keyword).isEmpty then 0 else 1) < 30)) = true := by rfl)
    (hline : (apos.endLine == cpos.line) = true := by rfl) : SE X (fStrM pStarts o f) (.Call (.Attribute e "startswith" apos) [a] [] cpos) := se_strM PySem.F.slot_str_startswith PySem.F.type_str_startswith mt_startswith pm_starts ho hf hs rfl hbase hfew hline
theorem e_strip (ho : SE X o e) (hbase : attributeBase e "strip" X.env (eval e X.env) = eval e X.env := by rfl) (hline : (apos.endLine == cpos.line) = true := by rfl) : SE X (fStrM pStrip o lNil) (.Call (.Attribute e "strip" apos) [] [] cpos) := se_strM0 PySem.F.slot_str_strip PySem.F.type_str_strip mt_strip pm_strip ho hbase hline
theorem e_isdigit (ho : SE X o e) (hbase : attributeBase e "isdigit" X.env (eval e X.env) = eval e X.env := by rfl) (hline : (apos.endLine == cpos.line) = true := by rfl) : SE X (fStrM (pBlM Txt.isdigit) o lNil) (.Call (.Attribute e "isdigit" apos) [] [] cpos) := se_strM0 PySem.F.slot_str_isdigit PySem.F.type_str_isdigit mt_isdigit pm_bl ho hbase hline
theorem e_isalpha (ho : SE X o e) (hbase : attributeBase e "isalpha" X.env (eval e X.env) = eval e X.env := by rfl) (hline : (apos.endLine == cpos.line) = true := by rfl) : SE X (fStrM (pBlM Txt.isalpha) o lNil) (.Call (.Attribute e "isalpha" apos) [] [] cpos) := se_strM0 PySem.F.slot_str_isalpha PySem.F.type_str_isalpha mt_isalpha pm_bl ho hbase hline
end
end
end Dz
/-! DzPop: xs.extend(ys), xs.pop() of an owned list. -/
namespace Dz
open PySem PyProof.Rows L2
section
variable {X : Cx}
theorem upd_sub {A : Amb} {own : Own} {H : Hp} {i : Nat} {a : Addr} {o : HO} (hi : own i = some a) : VSub (hd (hid A own) H) (hd (hid A own) (upd H a o)) := hd_mono (fun b u n e => by
    rw [upd_ne (fun z => n (by rw [z]; exact .inr ⟨i, hi⟩))]; exact e) fun _ _ n _ => n
def fPop (i : Nat) : EF := fun env => match ownL env i with
  | some (xs, fl) => match xs.getLast? with
    | some d => some (d, false, env.set i (some (.lst xs.dropLast, fl)))
    | none => none
  | none => none
theorem RepL.dropLast {K : PySem.W.Frag} {H : Vw} {ds : List D} {vs : List V} (r : RepL K H ds vs) : RepL K H ds.dropLast vs.dropLast := by
  rw [List.dropLast_eq_take, List.dropLast_eq_take, r.length]
  exact r.take _
theorem se_pop {i : Nat} {x : Str} {p apos cpos : Pos} (hN : X.N[i]? = some x := by rfl) (hv : Vis X.env.scope x := by first | exact Or.inl rfl | exact Or.inr (Or.inl rfl) | exact Or.inr (Or.inr rfl)) (hd1 : (x == ("__debug__" : Str)) = false := by decide) (hcd : (x == ("__classdict__" : Str)) = false := by decide)
    (hbase : attributeBase (.Name x p) "pop" X.env (eval (.Name x p) X.env) = eval (.Name x p) X.env := by rfl) (hline : (apos.endLine == cpos.line) = true := by rfl) : SE X (fPop i) (.Call (.Attribute (.Name x p) "pop" apos) [] [] cpos) := by
  refine ⟨?_⟩
  intro A own env σ H d fr env' R h Q k
  unfold fPop at h
  split at h
  · rename_i xs fl q0
    obtain ⟨q0, hfl⟩ := ownL_some q0
    split at h
    · rename_i d0 hl
      cases h
      obtain ⟨a, h1, h2, t⟩ := R.ow i _ fl q0 hfl
      cases t with
      | lst z rr =>
        rename_i vs
        have hx : xs[xs.length - 1]? = some d := by rw [← List.getLast?_eq_getElem?]; exact hl
        obtain ⟨v, g1, g2⟩ := rr.get hx
        refine we_of (pe_bm0 PySem.F.plainAttrs_list PySem.F.slot_list_pop PySem.F.type_list_pop (show MtR X "list.pop" rPop from mt_pop) (pe_var hN hv hd1 hcd) hbase hline) ⟨_, h2, .inl ⟨rfl, vs, .inl (.inl z)⟩, a, vs, v, rfl, rfl, z, by rw [← rr.length]; exact g1, ?_⟩
        have r2 := R.mut h1 q0 hfl (d' := .lst xs.dropLast) (.lst rr.dropLast)
        exact k v _ own ⟨Stp.mut R h1, fun _ _ z => z⟩ ⟨r2, g2.mono (upd_sub h1), fun z => by cases z⟩
    · cases h
  · cases h
def sExt (i : Nat) (f : OF) : SF := sAugX i f
theorem ss_ext {i : Nat} {x : Str} {f : OF} {e : Expr} {p apos cpos pos : Pos} (hf : SO X f e) (hN : X.N[i]? = some x := by rfl) (hv : Vis X.env.scope x := by first | exact Or.inl rfl | exact Or.inr (Or.inl rfl) | exact Or.inr (Or.inr rfl)) (hd1 : (x == ("__debug__" : Str)) = false := by decide) (hcd : (x == ("__classdict__" : Str)) = false := by decide)
    (hfew : ((backTo cpos (starEach [e] X.env)).all (fun x => !x.1) && (backToKw cpos (keywordEach [] X.env)).all (fun x => x.1.isSome) && decide (([e] : List Expr).length + ([] : List Keyword).length + (if ([] : List Keyword).isEmpty then 0 else 1) < 30)) = true := by rfl)
    (hline : (apos.endLine == cpos.line) = true := by rfl) (hs : starEach [e] X.env = (false, eval e X.env) :: starEach [] X.env := by rfl) (hbase : attributeBase (.Name x p) "extend" X.env (eval (.Name x p) X.env) = eval (.Name x p) X.env := by rfl) (hsw : swapsWith (.Call (.Attribute (.Name x p) "extend" apos) [e] [] cpos) none pos.line X.env = pure false := by rfl) :
    SS X (sExt i f) (.Expr (.Call (.Attribute (.Name x p) "extend" apos) [e] [] cpos) pos) := by
  refine ⟨?_⟩
  intro A own env σ H out r h D k
  unfold sExt sAugX at h
  split at h
  · rename_i xf0 q00
    obtain ⟨xs0, f0⟩ := xf0
    obtain ⟨q0, hf0⟩ := ownL_some q00
    split at h
    · rename_i o e1 q1
      split at h
      · rename_i ys xs fl q3 q22
        obtain ⟨q2, hfl⟩ := ownL_some q22
        split at h
        · rename_i hl
          cases h
          obtain ⟨a, h1, h2, t0⟩ := r.ow i _ f0 q0 hf0
          have ty : ∃ ys, H a = some (.lst ys) := by cases t0 with | lst z _ => exact ⟨_, z⟩
          obtain ⟨zs, hys⟩ := ty
          refine ws_of (ps_expr (pe_bm PySem.F.plainAttrs_list PySem.F.slot_list_extend PySem.F.type_list_extend (show MtR X "list.extend" rExtend from mt_extend) (pe_var hN hv hd1 hcd) (pa_cons pe_w pa_nil hs) hbase hfew hline hs) hsw) ⟨_, h2, .inl ⟨rfl, zs, .inl (.inl hys)⟩, hf A own env σ H o e1 r q1 _ fun w H1 own1 s1 R1 o1 => ?_⟩
          obtain ⟨a', h3, h4, t⟩ := R1.ow i _ fl q2 hfl
          have ea := s1.dr i a' h3
          rw [h1] at ea
          cases ea
          obtain ⟨b, us, rfl, g1, g2⟩ := (o1.step StpE.refl R1 q3).lst hd_sub
          cases t with
          | lst z rr =>
            rename_i vs
            refine ⟨a, b, vs, us, rfl, rfl, z, g1, ?_, ?_⟩
            · rw [← rr.length, ← g2.length]
              exact line_of (Nat.le_of_lt hl)
            · exact k σ _ own1 (s1.toStp.trans (Stp.mut R1 h3)) (R1.mut h3 q2 hfl (.lst (rr.append g2)))
        · cases h
      · cases h
    · cases h
  · cases h
end
end Dz
/-! DzDct: dict(d), dict(pairs). -/
namespace Dz
open PySem PyProof.Rows L2
section
variable {X : Cx}
/-- the pairs of a list, keys ints and texts -/
def prsD : List D → Option (List (D × D))
  | [] => some []
  | .tup [k, v] :: r => if (keyK1 k).isSome then (prsD r).map ((k, v) :: ·) else none
  | _ => none
def mrgD : List D → List D → List (D × D) → Option (List D × List D)
  | ks, xs, [] => some (ks, xs)
  | ks, xs, (k, v) :: r => match putDic ks xs k v with
    | some (ks', xs') => mrgD ks' xs' r
    | none => none
def pDict : PrN := fun ds => match ds with
  | [.dic ks xs] => if isK ks then some (.dic ks xs, true) else none
  | [.lst ps] => match prsD ps with
    | some l => match mrgD [] [] l with
      | some (ks, xs) => some (.dic ks xs, true)
      | none => none
    | none => none
  | _ => none
def rDict (K : PySem.W.Frag) : List V → Hp → VK → Prop := fun xs H Q => (∃ (a : Addr) (kvs : List (Key × V)), xs = [.ref a] ∧ Rd H a (.dK kvs) ∧ ∀ p, H p = none → Q (.ref p) (upd H p (.dK kvs))) ∨
  ∃ (a : Addr) (ps : List Addr) (kvs : List (Key × V)), xs = [.ref a] ∧ SqL K H a (ps.map V.ref) ∧ Paired (fun p kv => SqT K H p [kV kv.1, kv.2]) ps kvs ∧ ∀ p, H p = none → Q (.ref p) (upd H p (.dK (mergeK [] kvs)))
theorem call_dictA (hc : X.calm = true) : CallR X (.type "dict") (rDict X.K) := CallR.or call_dictD (call_dictP hc)
theorem prsD_ok {K : PySem.W.Frag} {Hh : Vw} {H : Hp} (e : Sub Hh H) : ∀ {ps : List D} {l : List (D × D)} {vs : List V}, prsD ps = some l → RepL K Hh ps vs → ∃ (as : List Addr) (kvs : List (Key × V)), vs = as.map V.ref ∧ Paired (fun p kv => SqT K H p [kV kv.1, kv.2]) as kvs ∧ Paired (fun (q : D × D) kv => keyK1 q.1 = some kv.1 ∧ Rep K Hh q.2 kv.2) l kvs
  | [], _, _, q, r => by
    cases q
    cases r
    exact ⟨[], [], rfl, .nil, .nil⟩
  | d :: ps, l, _, q, r => by
    unfold prsD at q
    split at q
    · rename_i heq
      cases heq
    · rename_i k v r0 heq
      cases heq
      split at q
      · rename_i hk
        obtain ⟨l2, q2, rfl⟩ := Option.map_eq_some_iff.mp q
        obtain ⟨k0, hk0⟩ := Option.isSome_iff_exists.mp hk
        cases r with
        | cons r1 r2 =>
          obtain ⟨as, kvs, e1, e2, e3⟩ := prsD_ok e q2 r2
          cases r1 with
          | tup h1 h2 =>
            cases h2 with
            | cons h3 h4 => cases h4 with
              | cons h5 h6 =>
                cases h6
                rename_i a w u
                have hw := keyK1_v hk0 h3
                subst hw
                exact ⟨a :: as, (k0, u) :: kvs, by rw [e1]; rfl, .cons (.inl (.inl (e _ _ h1))) e2, .cons ⟨hk0, h5⟩ e3⟩
      · cases q
    · cases q
theorem mrgD_ok {K : PySem.W.Frag} {Hh : Vw} : ∀ {l : List (D × D)} {kvs : List (Key × V)}, Paired (fun (q : D × D) kv => keyK1 q.1 = some kv.1 ∧ Rep K Hh q.2 kv.2) l kvs → ∀ {ks xs ks' xs' : List D} {kk : List Key} {vs : List V}, keysK ks = some kk → kk.length = vs.length → kk.Nodup → RepL K Hh xs vs → mrgD ks xs l = some (ks', xs') →
    ∃ (kk' : List Key) (vs' : List V), keysK ks' = some kk' ∧ kk'.length = vs'.length ∧ kk'.Nodup ∧ RepL K Hh xs' vs' ∧ mergeK (kk.zip vs) kvs = kk'.zip vs'
  | _, _, .nil, _, _, _, _, kk, vs, h1, h2, h3, h4, q => by
    cases q
    exact ⟨kk, vs, h1, h2, h3, h4, rfl⟩
  | (k, v) :: l, (k0, u) :: kvs, .cons h t, ks, xs, ks', xs', kk, vs, h1, h2, h3, h4, q => by
    obtain ⟨hk, hv⟩ := h
    have hk' : keyK1 k = some k0 := hk
    have hv' : Rep K Hh v u := hv
    unfold mrgD at q
    split at q
    · rename_i ks1 xs1 hp
      unfold putDic at hp
      rw [hk'] at hp
      dsimp only at hp
      rw [h1] at hp
      dsimp only at hp
      show ∃ (kk' : List Key) (vs' : List V), keysK ks' = some kk' ∧ kk'.length = vs'.length ∧ kk'.Nodup ∧ RepL K Hh xs' vs' ∧ mergeK (putK (kk.zip vs) k0 u) kvs = kk'.zip vs'
      split at hp
      · rename_i hin
        cases hp
        rw [putK_zip_in h2 h3 (hasK_mem.mp hin)]
        exact mrgD_ok t h1 (by rw [repV_length h2]; exact h2) h3 (repD_rep hv' h4) q
      · rename_i hin
        cases hp
        have hni : k0 ∉ kk := fun z => hin (hasK_mem.mpr z)
        rw [putK_zip_out h2 hni]
        exact mrgD_ok t (keysK_snoc hk' h1) (by rw [List.length_append, List.length_append, h2]; rfl) (keysK_nodup_snoc h3 hni) (h4.append (.cons hv' .nil)) q
    · cases q
theorem pn_dict : PN X (rDict X.K) pDict := by
  intro Hh H ds vs d fr Q e vx q g
  unfold pDict at q
  split at q
  · rename_i ks xs
    split at q
    · rename_i hk
      cases q
      cases vx with
      | cons v1 v2 =>
        cases v2
        obtain ⟨a, us, rfl, r, c⟩ := v1.dic e
        rcases c with ⟨kk, g1, g2, g3, g4⟩ | ⟨kk, g1, _⟩
        · exact .inl ⟨a, _, rfl, g3, fun p hp => g.new p _ hp (.dicK g1 g2 g4 r)⟩
        · cases ks with
          | nil => cases hk
          | cons b ks =>
            obtain ⟨k2, hk2⟩ := Option.isSome_iff_exists.mp (show (keysK (b :: ks)).isSome = true from hk)
            exact (keysKT hk2 g1).elim
    · cases q
  · rename_i ps
    split at q
    · rename_i l hl
      split at q
      · rename_i ks xs hm
        cases q
        cases vx with
        | cons v1 v2 =>
          cases v2
          obtain ⟨a, us, rfl, h1, r⟩ := v1.lst e
          obtain ⟨as, kvs, e1, e2, e3⟩ := prsD_ok e hl r
          subst e1
          obtain ⟨kk, ws, k1, k2, k3, k4, k5⟩ := mrgD_ok e3 (ks := []) (xs := []) (kk := []) (vs := []) rfl rfl List.nodup_nil .nil hm
          refine .inr ⟨a, as, kvs, rfl, .inl (.inl h1), e2, fun p hp => ?_⟩
          have k5' : mergeK [] kvs = kk.zip ws := k5
          rw [k5']
          exact g.new p _ hp (.dicK k1 k2 k3 k4)
      · cases q
    · cases q
  · cases q
theorem e_dict {p pos : Pos} {a : Expr} {f : LF} (hc : X.calm = true) (hm : X.mg "dict" = none) (hf : SL X f [a]) (hg : Gl X "dict" := by rfl) (he : plainE a = true := by rfl) : SE X (fPrim pDict f) (.Call (.Name "dict" p) [a] [] pos) := se_prim hf pn_dict (pe_callTy (call_dictA hc) hg hm (by decide +kernel) pa_w (by decide) (by decide) (star1 he))
end
end Dz
/-! DzHead: the head's facts as data: constants, tables; the law's end. -/
namespace Dz
open PySem PyProof.Rows L2
mutual
/-- a value of the text's own bears d -/
def okD (K : PySem.W.Frag) : D → Value → Bool
  | .non, .none => true
  | .bl b, .bool c => b == c
  | .int i, .int j _ => decide (i = j)
  | .str x, .str y _ => decide (x = y)
  | .ty n, .type m => decide (n = m)
  | .kup xs, .ref a => match K.lookup a with
    | some ⟨.type c, _, .seq its _, _⟩ => decide (c = "tuple") && (decide (its.size ≤ sizeLine) && okDs K xs its.toList)
    | _ => false
  | _, _ => false
def okDs (K : PySem.W.Frag) : List D → List Value → Bool
  | [], [] => true
  | x :: xs, u :: us => okD K x u && okDs K xs us
  | _, _ => false
end
mutual
theorem okD_ok {K : PySem.W.Frag} : ∀ {d : D} {u : Value}, okD K d u = true → ∃ v, RelV v u ∧ ∀ H, Rep K H d v
  | .non, u, h => by
    cases u <;> first | exact ⟨.non, rfl, fun _ => .non⟩ | (simp [okD] at h; done)
  | .bl b, u, h => by
    cases u with
    | bool c =>
      have e : b = c := eq_of_beq (show (b == c) = true by unfold okD at h; exact h)
      exact ⟨.bl b, by rw [e]; rfl, fun _ => .bl b⟩
    | _ => simp [okD] at h
  | .int i, u, h => by
    cases u with
    | int j t =>
      have e : i = j := of_decide_eq_true (by unfold okD at h; exact h)
      exact ⟨.int i, ⟨t, by rw [e]⟩, fun _ => .int i⟩
    | _ => simp [okD] at h
  | .str x, u, h => by
    cases u with
    | str y t =>
      have e : x = y := of_decide_eq_true (by unfold okD at h; exact h)
      exact ⟨.str x, ⟨t, by rw [e]⟩, fun _ => .str x⟩
    | _ => simp [okD] at h
  | .ty n, u, h => by
    cases u with
    | type m =>
      have e : n = m := of_decide_eq_true (by unfold okD at h; exact h)
      exact ⟨.ty n, by rw [e]; rfl, fun _ => .ty n⟩
    | _ => simp [okD] at h
  | .kup xs, u, h => by
    cases u with
    | ref a =>
      unfold okD at h
      split at h
      · rename_i c od its n sl q
        obtain ⟨h1, h2⟩ := Bool.and_eq_true_iff.mp h
        obtain ⟨h3, h4⟩ := Bool.and_eq_true_iff.mp h2
        obtain ⟨vs, r, k⟩ := okDs_ok h4
        exact ⟨.ref a, rfl, fun H => .kup (.inr ⟨_, its, n, q, congrArg Value.type (of_decide_eq_true h1), rfl, of_decide_eq_true h3, r⟩) (k H)⟩
      · cases h
    | _ => simp [okD] at h
  | .tup _, u, h => by cases u <;> simp [okD] at h
  | .lst _, u, h => by cases u <;> simp [okD] at h
  | .flz _, u, h => by cases u <;> simp [okD] at h
  | .dic _ _, u, h => by cases u <;> simp [okD] at h
  | .ins _ _ _, u, h => by cases u <;> simp [okD] at h
  | .loc _, u, h => by cases u <;> simp [okD] at h
theorem okDs_ok {K : PySem.W.Frag} : ∀ {ds : List D} {us : List Value}, okDs K ds us = true → ∃ vs, Vals vs us ∧ ∀ H, RepL K H ds vs
  | [], [], _ => ⟨[], .nil, fun _ => .nil⟩
  | d :: ds, u :: us, h => by
    unfold okDs at h
    obtain ⟨h1, h2⟩ := Bool.and_eq_true_iff.mp h
    obtain ⟨v, r1, k1⟩ := okD_ok h1
    obtain ⟨vs, r2, k2⟩ := okDs_ok h2
    exact ⟨v :: vs, .cons r1 r2, fun H => .cons (k1 H) (k2 H)⟩
  | [], _ :: _, h => by unfold okDs at h; cases h
  | _ :: _, [], h => by unfold okDs at h; cases h
end
/-! constants, tables of the module -/
def conD (K : PySem.W.Frag) (x : Str) (d : D) : Bool := match PySem.W.nsIn K mainGlobals x with
  | some (some (.ref a)) => okD K d (.ref a)
  | _ => false
theorem conD_ok {K : PySem.W.Frag} {x : Str} {d : D} (c : conD K x d = true) (H : Vw) : Rep K H d (.ref (He.ga K x)) := by
  unfold conD at c
  unfold He.ga
  split at c
  · rename_i a e
    rw [e]
    obtain ⟨v, r, k⟩ := okD_ok c
    cases v <;> first | (cases r; done) | skip
    all_goals (try (obtain ⟨_, r⟩ := r; cases r; done))
    cases r
    exact k H
  · cases c
def tabB (K : PySem.W.Frag) (x : Str) (t : List (Str × D)) : Bool := t.all fun q => match PySem.W.nsIn K (He.ga K x) q.1 with
  | some (some u) => okD K q.2 u
  | _ => false
theorem tabD_mem : ∀ {t : List (Str × D)} {x : Str} {d : D}, tabD t x = some d → (x, d) ∈ t
  | [], _, _, h => by cases h
  | (k, e) :: r, x, d, h => by
    unfold tabD at h
    split at h
    · rename_i q
      cases h
      subst q
      exact List.mem_cons_self ..
    · exact List.mem_cons_of_mem _ (tabD_mem h)
theorem tabB_ok {K : PySem.W.Frag} {w : World} {x : Str} {t : List (Str × D)} (c : tabB K x t = true) (D : ∃ es n, KDict K w (He.ga K x) es n) : TabOk K w (He.ga K x) t := fun z d h => by
  obtain ⟨es, n, D⟩ := D
  have h2 := List.all_eq_true.mp c _ (tabD_mem h)
  dsimp only at h2
  split at h2
  · rename_i u e
    obtain ⟨v, r, k⟩ := okD_ok h2
    exact ⟨v, ⟨es, n, u, D.at_, D.lit, e, r⟩, k⟩
  · cases h2
/-- classes: a table of methods from each one's facts -/
theorem mtP_nil {P : Program} {w : World} {K : PySem.W.Frag} {mg : Str → Option Value} {base : Heap} {k : Nat} : MtOk P w K mg base k [] := fun _ _ _ _ h => by cases h
theorem CalF.up {P : Program} {w : World} {K : PySem.W.Frag} {mg : Str → Option Value} {base : Heap} {k m : Nat} {f : Addr} {n : Nat} {run : Run} (c : CalF P w K mg base k f n run) (e : k ≤ m) : CalF P w K mg base m f n run :=
  ⟨let ⟨fd, ps, h, b, l⟩ := c.ex; ⟨fd, ps, h.mono e, b, l⟩, c.kp, c.ok⟩
theorem mtP_cons {P : Program} {w : World} {K : PySem.W.Frag} {mg : Str → Option Value} {base : Heap} {k j : Nat} {C m : Str} {n : Nat} {run : Run} {l : List (Str × Str × Nat × Run)} (hc : Cls K (He.ga K C)) (hm : Meth K (He.ga K C) m (He.ma K (He.ga K C) m)) (c : CalF P w K mg base j (He.ma K (He.ga K C) m) n run) (e : j ≤ k)
    (r : MtOk P w K mg base k l) : MtOk P w K mg base k ((C, m, n, run) :: l) := fun C' m' n' run' h => by
  unfold mtP at h
  split at h
  · rename_i q
    obtain ⟨rfl, rfl⟩ := q
    cases h
    exact ⟨hc, _, hm, c.up e⟩
  · exact r C' m' n' run' h
theorem atOk_of {K : PySem.W.Frag} {l : List (Str × List Str)} (h : ∀ p ∈ l, ∀ f ∈ p.2, Cls K (He.ga K p.1) ∧ NoAttr K (He.ga K p.1) f) : AtOk K l := fun C f e => by
  unfold atP at e
  obtain ⟨p, hp, q⟩ := List.any_eq_true.mp e
  obtain ⟨q1, q2⟩ := Bool.and_eq_true_iff.mp q
  have e1 : p.1 = C := eq_of_beq q1
  rw [← e1]
  exact h p hp f (List.contains_iff_mem.mp q2)
/-- the law's promise from the run -/
theorem law_sp {K : PySem.W.Frag} {run : Run} {H : Hp} {a : Addr} {ns : List Int} {E : XK} (hS : SqL K H a (ns.map V.int)) {st' : List D} {args' : List Arg} (h : run [] [(.flz (ns.map .int), .sh)] = some (.bl true, st', args')) : spE K 1 run [.ref a] H (fun v _ => v = .bl true) E := by
  have e : (hd (hid ⟨fun _ => False, fun _ => none⟩ (fun _ => none)) H).h = H := by
    funext b
    show hdP _ H b = H b
    unfold hdP
    rw [if_neg]
    rintro (z | ⟨i, z⟩)
    · exact z
    · cases z
  refine ⟨⟨fun _ => False, fun _ => none⟩, fun _ => none, [], [(.flz (ns.map .int), .sh)], .bl true, st', args', ⟨fun i d hi => ?_, fun i d f hi hf => ?_, fun i a hi => (by cases hi), fun i d hi => ?_, fun j d hi => (by simp at hi), fun j a hi => (by cases hi), fun i j a hi => (by cases hi), fun i a hi => (by cases hi), fun b (hb : False) => hb.elim, rfl, fun b hb => ?_⟩, rfl, h, fun v H' own' _ _ q => ?_⟩
  · match i, hi with
    | 0, hi =>
      cases hi
      refine ⟨_, rfl, .flz (by rw [e]; exact hS) ?_⟩
      clear h hS hi
      induction ns with
      | nil => exact .nil
      | cons n ns ih => exact .cons (.int n) ih
    | i + 1, hi => simp at hi
  · match i, hi with
    | 0, hi => cases hi; exact absurd rfl hf
    | i + 1, hi => simp at hi
  · match i, hi with
    | 0, hi => cases hi
    | i + 1, hi => simp at hi
  · rcases hb with z | ⟨i, z⟩
    · exact z.elim
    · cases z
  · cases q
    rfl
end Dz
/-! DzHead2: more of the head's facts: constants of any kind, isinstance, own ==. -/
namespace Dz
open PySem PyProof.Rows L2
def GloC (K : PySem.W.Frag) (mg : Str → Option Value) (x : Str) (d : D) : Prop := ∃ u v, mg x = some u ∧ RelV v u ∧ ∀ H, Rep K H d v
def conV (K : PySem.W.Frag) (x : Str) (d : D) : Bool := match PySem.W.nsIn K mainGlobals x with
  | some (some u) => okD K d u
  | _ => false
theorem conV_ok {K : PySem.W.Frag} {h : Heap} {mg : Str → Option Value} {x : Str} {d : D} (X : K.In h) (G : h.Ns mainGlobals mg) (c : conV K x d = true) : GloC K mg x d := by
  unfold conV at c
  split at c
  · rename_i u e
    obtain ⟨v, r, k⟩ := okD_ok c
    exact ⟨u, v, PySem.W.mg_of X G e, r, k⟩
  · cases c
theorem e_gloC {X : Cx} {x : Str} {d : D} {pos : Pos} (h : GloC X.K X.mg x d) (hg : Gl X x := by rfl) (hd1 : (x == ("__debug__" : Str)) = false := by decide) : SE X (fCon d) (.Name x pos) := by
  obtain ⟨u, v, hm, r, q⟩ := h
  exact se_glob hg hm r hd1 q
/-- isinstance of own classes -/
def insB (K : PySem.W.Frag) (C : Str) : Bool := He.eqO (PySem.W.findIn K (.ref (He.ga K C)) "__class__") (some (some (.builtin "object.__class__"))) && (He.eqO (PySem.W.specialIn K (.builtin "object.__class__") "__get__") (some (some (.builtin "getset_descriptor.__get__"))) &&
  (decide (PySem.W.takesIn K (.builtin "object.__class__") = some true) && (decide (PySem.W.mroIn K (He.ga K C) (.type "object") = some true) && decide (PySem.W.kitOne K (.ref (He.ga K C)) (.ref (He.ga K C)) = some true))))
theorem insB_ok {K : PySem.W.Frag} {C : Str} (c : Cls K (He.ga K C)) (h : insB K C = true) : C8.InsC K (He.ga K C) := by
  unfold insB at h
  obtain ⟨h1, h⟩ := He.ba h
  obtain ⟨h2, h⟩ := He.ba h
  obtain ⟨h3, h⟩ := He.ba h
  obtain ⟨h4, h5⟩ := He.ba h
  exact ⟨c, He.eqO_ok h1, He.eqO_ok h2, of_decide_eq_true h3, of_decide_eq_true h4, of_decide_eq_true h5⟩
def kitB1 (K : PySem.W.Frag) (C C' : Str) (b : Bool) : Bool := decide (PySem.W.kitOne K (.ref (He.ga K C)) (.ref (He.ga K C')) = some b)
def bltB (K : PySem.W.Frag) (C : Str) : Bool := tnames.all fun t => decide (PySem.W.kitOne K (.type t) (.ref (He.ga K C)) = some false)
/-- a table of (class, class, answer), a list of classes -/
def isubP : List (Str × Str × Bool) → Str → Str → Option Bool
  | [], _, _ => none
  | (a, b, k) :: r, C, C' => if C = a ∧ C' = b then some k else isubP r C C'
def isiOkB (K : PySem.W.Frag) (l : List (Str × Str × Bool)) (own : List Str) : Bool := l.all (fun p => insB K p.1 && kitB1 K p.1 p.2.1 p.2.2) && own.all (bltB K)
theorem isubP_mem : ∀ {l : List (Str × Str × Bool)} {C C' : Str} {b : Bool}, isubP l C C' = some b → (C, C', b) ∈ l
  | (a, c, k) :: r, C, C', b, h => by
    unfold isubP at h
    split at h
    · rename_i q
      cases h
      obtain ⟨rfl, rfl⟩ := q
      exact List.mem_cons_self ..
    · exact List.mem_cons_of_mem _ (isubP_mem h)
theorem isiOkB_ok {K : PySem.W.Frag} {l : List (Str × Str × Bool)} {own : List Str} (cl : ∀ p ∈ l, Cls K (He.ga K p.1)) (h : isiOkB K l own = true) : IsiOk K (isubP l) own.contains where
  ins := fun C C' b q => by
    obtain ⟨h1, _⟩ := He.ba h
    have m := isubP_mem q
    obtain ⟨k1, k2⟩ := He.ba (List.all_eq_true.mp h1 _ m)
    exact ⟨insB_ok (cl _ m) k1, of_decide_eq_true k2⟩
  blt := fun C q t ht => by
    obtain ⟨_, h2⟩ := He.ba h
    have := List.all_eq_true.mp h2 C (by simpa using q)
    exact of_decide_eq_true (List.all_eq_true.mp this t ht)
/-- own == -/
def nfB (K : PySem.W.Frag) (C C' : Str) : Bool := PySem.W.notFirst K (He.ga K C) (.ref (He.ga K C'))
def nfbB (K : PySem.W.Frag) (C : Str) : Bool := tnames.all (fun t => PySem.W.notFirst K (He.ga K C) (.type t)) && (He.eqO (PySem.W.findIn K (.ref (He.ga K C)) "__ne__") (some (some (.builtin "object.__ne__"))) && decide (PySem.W.mroIn K (He.ga K C) (.type "object") = some true))
def eqOkB (K : PySem.W.Frag) (eqs cls : List Str) : Bool := eqs.all (fun C => nfbB K C && cls.all (fun C' => insB K C' && nfB K C C'))
def nfoP (eqs cls : List Str) (C C' : Str) : Bool := eqs.contains C && cls.contains C'
theorem eqOkB_ok {K : PySem.W.Frag} {eqs cls : List Str} (cl : ∀ C ∈ cls, Cls K (He.ga K C)) (h : eqOkB K eqs cls = true) : EqOk K (nfoP eqs cls) eqs.contains where
  ins := fun C C' q => by
    obtain ⟨q1, q2⟩ := He.ba q
    have m2 : C' ∈ cls := by simpa using q2
    obtain ⟨_, h2⟩ := He.ba (List.all_eq_true.mp h C (by simpa using q1))
    obtain ⟨h3, h4⟩ := He.ba (List.all_eq_true.mp h2 C' m2)
    exact ⟨insB_ok (cl _ m2) h3, h4⟩
  blt := fun C q t ht => by
    obtain ⟨h1, _⟩ := He.ba (List.all_eq_true.mp h C (by simpa using q))
    obtain ⟨h3, _⟩ := He.ba h1
    exact List.all_eq_true.mp h3 t ht
  ne := fun C q => by
    obtain ⟨h1, _⟩ := He.ba (List.all_eq_true.mp h C (by simpa using q))
    obtain ⟨_, h3⟩ := He.ba h1
    obtain ⟨h4, h5⟩ := He.ba h3
    exact ⟨He.eqO_ok h4, of_decide_eq_true h5⟩
def isubOf (cls own : List Str) : List (Str × Str × Bool) := cls.flatMap fun a => own.map fun b => (a, b, decide (a = b))
theorem isubOf_mem {cls own : List Str} {p : Str × Str × Bool} (h : p ∈ isubOf cls own) : p.1 ∈ cls := by
  obtain ⟨a, h1, h2⟩ := List.mem_flatMap.mp h
  obtain ⟨b, _, rfl⟩ := List.mem_map.mp h2
  exact h1
end Dz
/-! SzGcd: math.gcd. -/
namespace Dz
open PySem PyProof.Rows L2
/-- a built-in function of a module under a name of the text's own -/
def bltV (K : PySem.W.Frag) (x : Str) (id : String) : Bool := match PySem.W.nsIn K mainGlobals x with
  | some (some (.builtin n)) => decide (n = id)
  | _ => false
theorem bltV_ok {K : PySem.W.Frag} {h : Heap} {mg : Str → Option Value} {x : Str} {id : String} (X : K.In h) (G : h.Ns mainGlobals mg) (c : bltV K x id = true) : mg x = some (.builtin id) := by
  unfold bltV at c
  split at c
  · rename_i n e
    have := of_decide_eq_true c
    subst this
    exact PySem.W.mg_of X G e
  · cases c
section
variable {X : Cx}
def pGcd : PrN := fun ds => match ds with
  | [.int a, .int b] => some (.int ((Nat.gcd a.natAbs b.natAbs : Nat) : Int), false)
  | _ => none
theorem pn_gcd : PN X rGcd pGcd := by
  intro Hh H ds vs d fr Q e vx q g
  unfold pGcd at q
  split at q
  · rename_i a b
    cases q
    cases vx with
    | cons v1 v2 =>
      cases v2 with
      | cons v2 v3 =>
        cases v3
        rw [v1.int, v2.int]
        exact ⟨a, b, rfl, g.old rfl _ (.int _)⟩
  · cases q
theorem e_gcd {f : LF} {a b : Expr} {p pos : Pos} (hm : X.mg "gcd" = some (.builtin "math.gcd")) (hf : SL X f [a, b]) (hg : Gl X "gcd" := by rfl) (he : plainE a = true := by rfl) (hpl : plainE b = true := by rfl) : SE X (fPrim pGcd f) (.Call (.Name "gcd" p) [a, b] [] pos) :=
  se_prim hf pn_gcd (pe_callBfun cr_gcd hg hm pa_w (by decide) (star1 he) (plain_any (es := [b]) (by simp [hpl])))
end
end Dz
/-! SzHeadI: the head of a text that opens with imports of modules in the interpreter (math): the whole boot is run. -/
noncomputable section
namespace Dz
open PySem PySem.W PySem.Calls PyProof.Rows HandSHeadRun
/-- the state behind the top, from the very start -/
def endI (st : SharedT → Thread → Option (SharedT × Thread)) (M M0 : Nat) (p : Program) (w : World) : Option (Shared × SharedT) := match fencedOpening treeTable p w M0 with
  | some s1 => match s1.heap.isNs mainGlobals && s1.gens.size == 0 with
    | true => match putAll s1.heap.objs.toList .nil 0 with
      | some (t, n) => frNat n fun n0 => (goF st n0 (s1.heap.nsMap mainGlobals "__annotations__") M ⟨t, n0, s1.heap.life, s1.gens, s1.drawn, s1.toks, s1.os⟩ (topStub p)).map fun s => (s1, s)
      | none => none
    | false => none
  | none => none
theorem fenced_mono {tb : String → Option Builtin} {p : Program} {w : World} {n : Nat} {s : Shared} (k : Nat) (h : fencedOpening tb p w n = some s) : fencedOpening tb p w (n + k) = some s := by
  unfold fencedOpening at h ⊢
  cases e : importEnds tb (opening p) w n (start (opening p)).1 (start (opening p)).2 with
  | none => rw [e] at h; cases h
  | some r =>
    rw [e] at h
    rw [importEnds_mono k _ _ _ _ e]
    exact h
theorem endI_ok {M M0 : Nat} {p : Program} {w : World} {s1 : Shared} {s : SharedT} (h : endI (stepT (denote treeTable) p w) M M0 p w = some (s1, s)) :
    fencedOpening treeTable p w M0 = some s1 ∧ (s1.heap.isNs mainGlobals && s1.gens.size == 0) = true ∧ topRun treeTable p w s1.heap.objs.size (s1.heap.nsMap mainGlobals "__annotations__") M s1 (topStub p) = some s.abs := by
  unfold endI at h
  cases e : fencedOpening treeTable p w M0 with
  | none => rw [e] at h; cases h
  | some s0 =>
    rw [e] at h
    dsimp only at h
    cases g : s0.heap.isNs mainGlobals && s0.gens.size == 0 with
    | false => rw [g] at h; cases h
    | true =>
      rw [g] at h
      dsimp only at h
      cases q : putAll s0.heap.objs.toList .nil 0 with
      | none => rw [q] at h; cases h
      | some r =>
        obtain ⟨t, n⟩ := r
        rw [q] at h
        dsimp only at h
        rw [frNat_eq] at h
        obtain ⟨s', h1, h2⟩ := Option.map_eq_some_iff.mp h
        cases h2
        have z := goF_ok h1
        have eh := putAll_heap q
        have en : s1.heap.objs.size = n := by
          rw [← eh]
          exact absHeap_size t n _
        have eb : (⟨t, n, s1.heap.life, s1.gens, s1.drawn, s1.toks, s1.os⟩ : SharedT).abs = s1 := by
          show (⟨absHeap t n s1.heap.life, s1.gens, s1.drawn, s1.toks, s1.os⟩ : Shared) = s1
          rw [eh]
        rw [eb] at z
        exact ⟨rfl, g, by rw [en]; exact z⟩
theorem left_two {p q : Program} {loose : List Str} {Xt : Shared → Bool} {α : Type} {Yf : Shared → α} {Ya : World → α} {N M M0 : Nat} (le : Nat.ble M N = true) (le0 : Nat.ble M0 N = true)
    (run : ∀ (w : World), (endI (stepT (denote treeTable) p w) M M0 p w).map (fun s => (looksF p s.1.heap s.2.abs, openSeen q loose (importedModules p.main.body) Xt true s.2.abs, Yf s.2.abs)) = some (true, openGood q loose, Ya w)) :
    LeftO p q loose Xt Yf Ya N true := fun w => by
  obtain ⟨⟨s1, s⟩, hs, hv⟩ := Option.map_eq_some_iff.mp (run w)
  obtain ⟨l1, l2, l3⟩ : _ ∧ _ ∧ _ := by simpa only [Prod.mk.injEq] using hv
  obtain ⟨e1, e2, e3⟩ := endI_ok hs
  have f := fenced_mono (N - M0) e1
  rw [show M0 + (N - M0) = N by have := Nat.le_of_ble_eq_true le0; omega] at f
  have r := topRun_mono (N - M) _ _ _ _ e3
  rw [show M + (N - M) = N by have := Nat.le_of_ble_eq_true le; omega] at r
  have l1' : (staticsOk (importedModules p.main.body) s1.heap s.abs.heap && namesBound p s.abs.heap && gensDone s.abs && laidKept s1.heap s.abs.heap) = true := l1
  have t : topFrom treeTable p w N s1 = some s.abs := by
    unfold topFrom
    rw [e2]
    show (topRun treeTable p w s1.heap.objs.size (s1.heap.nsMap mainGlobals "__annotations__") N s1 (topStub p)).bind _ = _
    rw [r]
    show (match staticsOk (importedModules p.main.body) s1.heap s.abs.heap && namesBound p s.abs.heap && gensDone s.abs && laidKept s1.heap s.abs.heap with | true => some s.abs | false => none) = _
    rw [l1']
  unfold openEnds
  rw [f]
  show (topFrom treeTable p w N _).map _ = _
  rw [t]
  exact congrArg some (Prod.ext l2 l3)
def RunI (r : OpenRow) (q : Program) (H : Hook) (ob : SharedT → H.α) (M M0 : Nat) (loose : List PySem.Str) (w : World) : Prop :=
  (endI (stepQ (denQ tabQ) r.prog w) M M0 r.prog w).map (fun s => (looksF r.prog s.1.heap s.2.abs, seenQ q loose (importedModules r.prog.main.body) (fun s => xlAt q [] s && recOk r.toRowW.records s) s.2.abs, ob s.2)) = some (true, openGood q loose, H.val w)
theorem head_anyI {r : OpenRow} {q : Program} {H : Hook} {ob : SharedT → H.α} {M M0 : Nat} {loose : List PySem.Str} {d : DefRec} {kwd : List (PySem.Str × PySem.Expr)} (ho : ∀ s : SharedT, ob s = H.obs s.abs)
    (run : ∀ w, RunI r q H ob M M0 loose w)
    (hdef : defOf q r.name = some (d, kwd)) (hp : r.prog.theDef r.name = some (d.params, d.body, d.scope)) (hk : kwWritten? d.params.kwonlyargs d.params.kw_defaults = some kwd)
    (hwr : (!r.writes || r.records.isEmpty) = true) (k1 : r.wellSaid = true) (ok : (chainsOk q && opensWell r.prog && (frees r.toRowW && r.within.isEmpty)) = true) (hb : r.prog.bare) (hw : r.toRowW.promised)
    (call : WalkO q loose (XL q []) H.says r.toRowW d kwd fun f vs => PySem.call f vs) : r.Holds := by
  have left : LeftO r.prog q loose (fun s => xlAt q [] s && recOk r.toRowW.records s) H.obs H.val (M + M0) true :=
    left_two (M := M) (M0 := M0) (Nat.ble_eq_true_of_le (by omega)) (Nat.ble_eq_true_of_le (by omega)) fun w => by
      have z := run w
      unfold RunI at z
      rw [← stepQ_eq, ← denQ_eq, ← tabQ_eq] at z
      have eo : ob = fun s => H.obs s.abs := funext ho
      rw [eo] at z
      simp only [seenQ_eq]
      exact z
  exact holds_open (r := r) (q := q) (loose := loose) (XP := XL q []) (YP := H.says) (d := d) (kwd := kwd) left H.of H.keeps (fun s z => xl_of s (Bool.and_eq_true_iff.mp z).1) XL.keeps hdef hp hk (fun s z => recFacts_of (Bool.and_eq_true_iff.mp z).2) hwr k1 ok hb hw call
end Dz
/-! SzLk: a dict of the store is locked while an expression runs. -/
namespace Dz
open PySem L2
section
variable {K : PySem.W.Frag} {A : Amb} {own : Own} {env : En} {σ : L2.St} {H : Hp} {a : Addr} {o' : HO} {d' : D}
/-- an object of the store, or its lock, changes -/
theorem EnvR.setC {j : Nat} (r : EnvR K A own env σ H) (hi : own (.inr j) = some a) (ht : VSub (hd (hid A own) H) (hd (hid A own) (upd H a o')) → TopC K (hd (hid A own) (upd H a o')) (upd H a o') d' a) (hm : ∀ xs, o' ≠ .tup xs := by intro _ z; cases z) : EnvR K A own ⟨env.sl, env.st.set j d'⟩ σ (upd H a o') := by
  have sb : VSub (hd (hid A own) H) (hd (hid A own) (upd H a o')) := hd_mono (fun b u n e => by
    rw [upd_ne (fun z => n (by rw [z]; exact .inr ⟨_, hi⟩))]; exact e) fun _ _ n _ => n
  have hl := r.st_lt hi
  have hoth : ∀ (k : Ix) b, k ≠ .inr j → own k = some b → b ≠ a := fun k b hj e z => hj (r.inj k _ a (by rw [← z]; exact e) hi)
  refine ⟨fun k e hh => ?_, fun k e f2 hh hf => ?_, r.no, r.bo, fun k e hh => ?_, fun k b h => ?_, r.inj, r.sep, fun b hb => ?_, r.len, fun b hb xs z => by
    by_cases hz : b = a
    · rw [hz, upd_same] at z; cases z; exact hm xs rfl
    · rw [upd_ne hz] at z; exact r.nt b hb xs z⟩
  · obtain ⟨v, h1, h2⟩ := r.sh k e hh
    exact ⟨v, h1, h2.mono sb⟩
  · obtain ⟨a', h1, h2, h3⟩ := r.ow k e f2 hh hf
    exact ⟨a', h1, h2, h3.mono sb fun o z => by rw [upd_ne (hoth _ a' (fun z => by cases z) h1)]; exact z⟩
  · by_cases hj : j = k
    · subst hj
      rw [List.getElem?_set_self hl] at hh
      cases hh
      exact ⟨a, hi, ht sb⟩
    · rw [List.getElem?_set_ne hj] at hh
      obtain ⟨a', h1, h3⟩ := r.ce k e hh
      exact ⟨a', h1, h3.mono sb fun o z => by rw [upd_ne (hoth _ a' (fun z => hj (Sum.inr.inj z).symm) h1)]; exact z⟩
  · obtain ⟨d0, q⟩ := r.cn k b h
    by_cases hj : j = k
    · subst hj
      exact ⟨d', List.getElem?_set_self hl⟩
    · exact ⟨d0, by rw [List.getElem?_set_ne hj]; exact q⟩
  · obtain ⟨u, e⟩ := r.al b hb
    exact ⟨u, by rw [upd_ne (fun z => r.sep _ a hi (by rw [← z]; exact hb))]; exact e⟩
/-- behind the lock -/
theorem StpE.unlock {own' : Own} {H' : Hp} {u : HO} {od : PySem.Obj} {j : Nat} (hi : own (.inr j) = some a) (hA : ¬ A a) (hu : H a = some u) (hn : ∀ od u', u ≠ .frz od u') (s : StpE A own (upd H a (.frz od u)) own' H') : StpE A own H own' (upd H' a u) where
  kp := fun b o n e => by
    have hb : b ≠ a := fun z => n (by rw [z]; exact .inr ⟨_, hi⟩)
    rw [upd_ne hb]
    exact s.kp b o n (by rw [upd_ne hb]; exact e)
  hi := fun b hb => by
    have hb2 : b ≠ a := fun z => hA (by rw [← z]; exact hb)
    rw [upd_ne hb2, s.hi b hb, upd_ne hb2]
  ow := fun i b e => by
    rcases s.ow i b e with z | z
    · exact .inl z
    · refine .inr ?_
      by_cases hb : b = a
      · rw [hb, upd_same] at z; cases z
      · rw [upd_ne hb] at z; exact z
  th := fun b o e => by
    by_cases hb : b = a
    · exact ⟨u, by rw [hb]; exact upd_same⟩
    · obtain ⟨o2, e2⟩ := s.th b o (by rw [upd_ne hb]; exact e)
      exact ⟨o2, by rw [upd_ne hb]; exact e2⟩
  wl := s.wl
  fz := fun b od2 u2 e => by
    have hb : b ≠ a := fun z => by
      rw [z, hu] at e
      cases e
      exact hn _ _ rfl
    rw [upd_ne hb]
    exact s.fz b od2 u2 (by rw [upd_ne hb]; exact e)
  dr := s.dr
end
theorem we_lock {X : Cx} {e : Expr} {σ : St} {H : Hp} {Q : VK} (h : ∃ d u, H d = some u ∧ IsDic u ∧ ∀ od, WE X e σ (upd H d (.frz od u)) fun v H' => H' d = some (.frz od u) ∧ Q v (upd H' d u)) : WE X e σ H Q := fun pins s I => by
  obtain ⟨d, u, hd, hu, hw⟩ := h
  obtain ⟨od, I1⟩ := I.lock hd hu.mut
  refine thn (hw od pins s I1) fun v s1 ⟨x, H1, I2, r, e2, q⟩ => ?_
  exact ⟨x, _, I2.unlock e2 (I.nofrz hd hu.mut), r, q⟩
/-- with the dict at a place of the store locked -/
def fLk (c : En → Option Nat) (f : EF) : EF := fun env => match c env with
  | some j => match env.st[j]? with
    | some (.dic ks xs) => match f ⟨env.sl, env.st.set j (.kup [.dic ks xs])⟩ with
      | some (d, fr, e) => match e.st[j]? with
        | some (.kup [.dic ks' xs']) => some (d, fr, ⟨e.sl, e.st.set j (.dic ks' xs')⟩)
        | _ => none
      | none => none
    | _ => none
  | none => none
theorem se_lk {X : Cx} {c : En → Option Nat} {f : EF} {e : Expr} (hf : SE X f e) : SE X (fLk c f) e := by
  refine ⟨?_⟩
  intro A own env σ H d fr env' R h Q k
  unfold fLk at h
  split at h
  case h_2 => cases h
  rename_i j hj
  split at h
  case h_2 => cases h
  rename_i ks xs hst
  split at h
  case h_2 => cases h
  rename_i d0 fr0 e0 hfe
  split at h
  case h_2 => cases h
  rename_i ks' xs' hst2
  cases h
  obtain ⟨a, h1, t⟩ := R.ce j _ hst
  have t := t.un rfl
  have hA : ¬ A a := R.sep _ a h1
  -- what stands there
  obtain ⟨u, hu, du, lk⟩ : ∃ u, H a = some u ∧ IsDic u ∧ ∀ od, TopC X.K (hd (hid A own) H) (upd H a (.frz od u)) (.kup [.dic ks xs]) a := by
    cases t with
    | dicK g1 g2 g3 g4 g5 => exact ⟨_, g3, trivial, fun od => .frK g1 g2 upd_same g4 g5⟩
    | dicT g1 g2 g3 g4 g5 => exact ⟨_, g3, trivial, fun od => .frT g1 g2 upd_same g4 g5⟩
  have hn : ∀ od u', u ≠ .frz od u' := fun od u' z => by rw [z] at du; exact du
  have hnt : ∀ xs, u ≠ .tup xs := fun xs z => by rw [z] at du; exact du
  refine we_lock ⟨a, u, hu, du, fun od => ?_⟩
  refine hf A own _ σ _ d fr e0 (R.setC h1 (fun sb => (lk od).mono sb fun _ z => z)) hfe _ fun v H' own' s R2 => ?_
  have hz : H' a = some (.frz od u) := s.fz a od u upd_same
  have h2 : own' (.inr j) = some a := s.wl j a h1
  have sbv : ∀ P : Hid, P a → VSub (hd P H') (hd P (upd H' a u)) := fun P hP => hd_mono (fun b u n e => by
    rw [upd_ne (fun z => n (by rw [z]; exact hP))]; exact e) fun _ _ n _ => n
  -- the place's content, unlocked
  have un : ∀ {A' : Amb} {own2 : Own} {σ2 : St}, EnvR X.K A' own2 e0 σ2 H' → own2 (.inr j) = some a → EnvR X.K A' own2 ⟨e0.sl, e0.st.set j (.dic ks' xs')⟩ σ2 (upd H' a u) := fun {A' own2 σ2} r hi => by
    obtain ⟨a2, q1, t2⟩ := r.ce j _ hst2
    rw [hi] at q1
    cases q1
    refine r.setC hi (fun sb => ?_) hnt
    cases t2 with
    | top t => cases t
    | frK g1 g2 g3 g4 g5 =>
      rw [hz] at g3
      cases g3
      exact .top (.dicK g1 g2 upd_same g4 (g5.mono sb))
    | frT g1 g2 g3 g4 g5 =>
      rw [hz] at g3
      cases g3
      exact .top (.dicT g1 g2 upd_same g4 (g5.mono sb))
  refine ⟨hz, k v _ own' (s.unlock h1 hA hu hn) ⟨un R2.en h2, R2.rp.mono (sbv (hid A own') (.inr ⟨_, h2⟩)), fun z m => ?_⟩⟩
  obtain ⟨a2, q1, q2, q3, q4⟩ := R2.nw z m
  have na : a2 ≠ a := fun z => by rw [z, upd_same] at q2; cases q2
  exact ⟨a2, q1, by rw [upd_ne na] at q2; exact q2, un q3 h2, q4.mono (sbv (hid (Plus A a2) own') (.inr ⟨_, h2⟩)) fun o e => by rw [upd_ne na]; exact e⟩
section
variable {X : Cx}
/-- over a list, a tuple, the keys of a dict, or of a dict of the store that is locked -/
def iSqC (f : EF) : IF := fun env => match f env with
  | some (.loc j, _, e) => match e.st[j]? with
    | some (.kup [.dic ks _]) => some (ks, e)
    | _ => none
  | _ => iSqD f env
theorem si_sqC {f : EF} {tg iter : Expr} (hf : SE X f iter) : SI X (iSqC f) tg iter := by
  refine ⟨?_⟩
  intro A own env σ H ds env' r h R k
  by_cases hd : ∃ j fr e1, f env = some (.loc j, fr, e1)
  · obtain ⟨j, fr, e1, h1⟩ := hd
    unfold iSqC at h
    rw [h1] at h
    dsimp only at h
    split at h
    case h_2 => cases h
    rename_i ks xs hst
    cases h
    refine ⟨_, pi_keys pe_w, hf A own env σ H _ fr env' r h1 _ fun v H1 own1 s1 R1 => ?_⟩
    obtain ⟨a, q1, t⟩ := R1.en.ce j _ hst
    have rp := R1.rp
    cases rp with
    | loc q6 =>
      have q7 : own1 (.inr j) = some _ := q6
      rw [q1] at q7
      cases q7
      cases t with
      | top t => cases t
      | frK g1 g2 g3 g4 g5 => exact ⟨a, _, rfl, .inl ⟨_, g3, k _ _ own1 _ s1 R1.en (wk_keys g1 g2) g3⟩⟩
      | frT g1 g2 g3 g4 g5 => exact ⟨a, _, rfl, .inr ⟨_, g3, k _ _ own1 _ s1 R1.en (wk_keysT g1 g2) g3⟩⟩
  · refine si_sqD hf A own env σ H ds env' r ?_ R k
    rw [← h]
    unfold iSqC
    cases q : f env with
    | none => rfl
    | some p =>
      obtain ⟨d, fr, e1⟩ := p
      cases d <;> first | rfl | exact absurd ⟨_, _, _, q⟩ hd
end
/-! ### a new object is put at a new place of the store -/
def fBox (f : EF) : EF := fun env => match f env with
  | some (d, true, e) => if d.mut then some (.loc e.st.length, false, ⟨e.sl, e.st ++ [d]⟩) else none
  | _ => none
theorem se_box {X : Cx} {f : EF} {e : Expr} (hf : SE X f e) : SE X (fBox f) e := by
  refine ⟨?_⟩
  intro A own env σ H d fr env' R h Q k
  unfold fBox at h
  split at h
  case h_2 => cases h
  rename_i d0 e0 hfe
  split at h
  case isFalse => cases h
  rename_i hm
  cases h
  refine hf A own env σ H d0 true e0 R hfe _ fun v H' own' s R2 => ?_
  obtain ⟨a, rfl, na, r2, t⟩ := R2.nw rfl hm
  have nA : ¬ A a := fun z => by
    obtain ⟨o, q⟩ := R.al a z
    rw [na] at q
    cases q
  have hn : ∀ j b, own' (.inr j) = some b → j ≠ e0.st.length := fun j b q z => by
    obtain ⟨d1, q1⟩ := R2.en.cn j b q
    rw [z, List.getElem?_eq_none (Nat.le_refl _)] at q1
    cases q1
  exact k (.ref a) H' (own'.box e0.st.length a) ⟨Stp.box na hn s.toStp, fun i b q => s.dr i b (by rw [Own.box_s] at q; exact q)⟩ ⟨r2.box nA t, .loc (Own.box_some.mpr (.inl ⟨rfl, rfl⟩)), fun z => by cases z⟩
/-! ### changes behind a place of the store that a slot shows -/
def cellOf (env : En) (i : Nat) : Option Nat := match env.sl[i]? with
  | some (some (.loc j, .sh)) => some j
  | _ => none
theorem cellOf_some {env : En} {i j : Nat} (h : cellOf env i = some j) : env.sl[i]? = some (some (.loc j, .sh)) := by
  unfold cellOf at h
  split at h
  · rename_i j2 e
    cases h
    exact e
  · cases h
theorem EnvR.shown {K : PySem.W.Frag} {A : Amb} {own : Own} {env : En} {σ : L2.St} {H : Hp} {i j : Nat} (r : EnvR K A own env σ H) (h : cellOf env i = some j) : ∃ a, own (.inr j) = some a ∧ σ[i]? = some (some (.ref a)) := by
  obtain ⟨v, h1, h2⟩ := r.sh i _ (cellOf_some h)
  cases h2 with
  | loc h3 => exact ⟨_, h3, h1⟩
/-- x[y] = d, slot i shows the place of a dict -/
def sStC (i : Nat) (g f : EF) : SF := fun env => match f env with
  | some (d, _, e) => match cellOf e i with
    | some j => match g e with
      | some (y, _, e2) => match e2.st[j]? with
        | some (.dic ks xs) => if xs.length < 100000 then match putDic ks xs y d with
          | some (ks', xs') => some (.nx ⟨e2.sl, e2.st.set j (.dic ks' xs')⟩)
          | none => none
          else none
        | _ => none
      | _ => none
    | none => none
  | none => none
theorem ss_stC {X : Cx} {i : Nat} {x : Str} {g f : EF} {e ix : Expr} {p tpos pos : Pos} (hf : SE X f e) (hg : SE X g ix)
    (hst : ∀ te ti, PE X e te → PE X ix ti → PS X (.Assign [.Subscript (.Name x p) ix tpos] e pos) (tAsg te (gSub (tVar i) ti fun o i v H Q => ∃ a H', o = .ref a ∧ DPutE H a i v H' ∧ Q H'))) : SS X (sStC i g f) (.Assign [.Subscript (.Name x p) ix tpos] e pos) := by
  refine ⟨?_⟩
  intro A own env σ H out r h D k
  unfold sStC at h
  split at h
  case h_2 => cases h
  rename_i d fr e1 q1
  split at h
  case h_2 => cases h
  rename_i j q2
  split at h
  case h_2 => cases h
  rename_i y fr2 e2 q3
  split at h
  case h_2 => cases h
  rename_i ks xs q4
  split at h
  case isFalse => cases h
  rename_i hl
  split at h
  case h_2 => cases h
  rename_i ks' xs' q5
  cases h
  refine ws_of (hst _ _ pe_w pe_w) (hf A own env σ H d fr e1 r q1 _ fun v H1 own1 s1 R1 => ?_)
  obtain ⟨a, h1, h2⟩ := R1.en.shown q2
  refine ⟨_, h2, hg A own1 e1 σ H1 y fr2 e2 R1.en q3 _ fun u H2 own2 s2 R2 => ?_⟩
  obtain ⟨a', h3, t⟩ := R2.en.ce j _ q4
  have t := t.un rfl
  have ea := s2.wl j a h1
  rw [h3] at ea
  cases ea
  obtain ⟨o', g1, g2⟩ := putDic_ok t R2.rp hd_sub (R1.rp.mono s2.toStp.sub) q5 hl
  exact ⟨a, _, rfl, g1, k σ _ own2 ((s1.trans s2).toStp.trans (Stp.mut R2.en h3)) (R2.en.mutC h3 g2 (g2.nt rfl))⟩
/-- x.append(d), slot i shows the place of a list -/
def sAppC (i : Nat) (f : EF) : SF := fun env => match cellOf env i with
  | some j => match env.st[j]? with
    | some (.lst _) => match f env with
      | some (d, _, e) => match e.st[j]? with
        | some (.lst xs) => if xs.length < 100000 then some (.nx ⟨e.sl, e.st.set j (.lst (xs ++ [d]))⟩) else none
        | _ => none
      | none => none
    | _ => none
  | none => none
theorem ss_appC {X : Cx} {i : Nat} {f : EF} {st : Stmt} {e : Expr} (hf : SE X f e) (hst : PS X st (tDrop (tBM X.K "list" rAppend (tVar i) (tCons (WE X e) tNil)))) : SS X (sAppC i f) st := by
  refine ⟨?_⟩
  intro A own env σ H out r h D k
  unfold sAppC at h
  split at h
  case h_2 => cases h
  rename_i j q0
  split at h
  case h_2 => cases h
  rename_i xs0 q00
  split at h
  case h_2 => cases h
  rename_i d fr e1 q1
  split at h
  case h_2 => cases h
  rename_i xs q2
  split at h
  case isFalse => cases h
  rename_i hl
  cases h
  obtain ⟨a, h1, h2⟩ := r.shown q0
  obtain ⟨a0, h0, t0⟩ := r.ce j _ q00
  rw [h1] at h0
  cases h0
  have t0 := t0.un rfl
  have ty : ∃ ys, H a = some (.lst ys) := by cases t0 with | lst z _ => exact ⟨_, z⟩
  obtain ⟨ys, hys⟩ := ty
  refine ws_of hst ⟨.ref a, h2, .inl ⟨rfl, ys, .inl (.inl hys)⟩, hf A own env σ H d fr e1 r q1 _ fun v H1 own1 s1 R1 => ?_⟩
  obtain ⟨a', h3, t⟩ := R1.en.ce j _ q2
  have ea := s1.wl j a h1
  rw [h3] at ea
  cases ea
  have t := t.un rfl
  cases t with
  | lst z rr =>
    rename_i vs
    refine ⟨a, vs, v, rfl, rfl, z, Nat.lt_of_lt_of_le (by rw [← rr.length]; exact hl) (by decide : 100000 ≤ sizeLine), ?_⟩
    have r2 := R1.en.mutC h3 (d' := .lst (xs ++ [d])) (.lst (rr.append (.cons R1.rp .nil)))
    exact k σ _ own1 (s1.toStp.trans (Stp.mut R1.en h3)) r2
section
variable {X : Cx}
/-- x[y] = d: of a list, of a dict, of a dict of the store -/
theorem s_st3 (i : Nat) {x : Str} {g f : EF} {e ix : Expr} {p tpos pos : Pos} {k : Nat} (hr : Room (k + 1) X.A) (hf : SE X f e) (hg : SE X g ix) (hN : X.N[i]? = some x := by rfl) (hv : Vis X.env.scope x := by first | exact Or.inl rfl | exact Or.inr (Or.inl rfl) | exact Or.inr (Or.inr rfl)) (hd1 : (x == ("__debug__" : Str)) = false := by decide) (hcd : (x == ("__classdict__" : Str)) = false := by decide)
    (hs : swapsWithSole [.Subscript (.Name x p) ix tpos] e pos.line X.env = pure false := by rfl) (hw : swappedStores [.Subscript (.Name x p) ix tpos] e X.env = pure none := by rfl) (h1 : (assignEach [.Subscript (.Name x p) ix tpos] X.env).map (·.2) = [assign (.Subscript (.Name x p) ix tpos) X.env] := by rfl)
    (ha : ∀ v, assign (.Subscript (.Name x p) ix tpos) X.env v = (do
      let ov ← holding [v] (eval (.Name x p) X.env)
      let iv ← holding [v, ov] (eval ix X.env)
      standAt tpos
      holding [v, ov, iv] (setItem ov iv v)
      release [v, ov, iv] []) := by intro _; rfl) : SS X (sAlt2 (sAlt2 (sStL i g f) (sStD i g f)) (sStC i g f)) (.Assign [.Subscript (.Name x p) ix tpos] e pos) :=
  ss_alt2 (s_st2 i hr hf hg hN hv hd1 hcd hs hw h1 ha)
    (ss_stC hf hg fun _ _ h2 h3 => ps_asg h2 (pg_sub (pe_var hN hv hd1 hcd) h3 (set_dictE (room1 hr)) ha) hs hw h1)
theorem s_app3 (i : Nat) {x : Str} {f : EF} {e : Expr} {p apos cpos pos : Pos} (hf : SE X f e) (hN : X.N[i]? = some x := by rfl) (hv : Vis X.env.scope x := by first | exact Or.inl rfl | exact Or.inr (Or.inl rfl) | exact Or.inr (Or.inr rfl)) (hd1 : (x == ("__debug__" : Str)) = false := by decide) (hcd : (x == ("__classdict__" : Str)) = false := by decide)
    (hfew : ((backTo cpos (starEach [e] X.env)).all (fun x => !x.1) && (backToKw cpos (keywordEach [] X.env)).all (fun x => x.1.isSome) && decide (([e] : List Expr).length + ([] : List Keyword).length + (if ([] : List Keyword).isEmpty then 0 else 1) < 30)) = true := by rfl)
    (hline : (apos.endLine == cpos.line) = true := by rfl) (hs : starEach [e] X.env = (false, eval e X.env) :: starEach [] X.env := by rfl) (hbase : attributeBase (.Name x p) "append" X.env (eval (.Name x p) X.env) = eval (.Name x p) X.env := by rfl) (hsw : swapsWith (.Call (.Attribute (.Name x p) "append" apos) [e] [] cpos) none pos.line X.env = pure false := by rfl) :
    SS X (sAlt2 (sApp i f) (sAppC i f)) (.Expr (.Call (.Attribute (.Name x p) "append" apos) [e] [] cpos) pos) :=
  ss_alt2 (s_app i hf hN hv hd1 hcd hfew hline hs hbase hsw) (ss_appC hf (ps_expr (pe_bm PySem.F.plainAttrs_list PySem.F.slot_list_append PySem.F.type_list_append mt_append (pe_var hN hv hd1 hcd) (pa_cons pe_w pa_nil hs) hbase hfew hline hs) hsw))
end
/-- o[y] = d, o shows the place of a dict -/
def sStO (o : OF) (g f : EF) : SF := fun env => match f env with
  | some (d, _, e) => match o e with
    | some (.inl (.loc j), e1) => match g e1 with
      | some (y, _, e2) => match e2.st[j]? with
        | some (.dic ks xs) => if xs.length < 100000 then match putDic ks xs y d with
          | some (ks', xs') => some (.nx ⟨e2.sl, e2.st.set j (.dic ks' xs')⟩)
          | none => none
          else none
        | _ => none
      | _ => none
    | _ => none
  | none => none
theorem ss_stO {X : Cx} {o : OF} {g f : EF} {oe e ix : Expr} {tpos pos : Pos} (ho : SO X o oe) (hf : SE X f e) (hg : SE X g ix)
    (hst : ∀ te to ti, PE X e te → PE X oe to → PE X ix ti → PS X (.Assign [.Subscript oe ix tpos] e pos) (tAsg te (gSub to ti fun o i v H Q => ∃ a H', o = .ref a ∧ DPutE H a i v H' ∧ Q H'))) : SS X (sStO o g f) (.Assign [.Subscript oe ix tpos] e pos) := by
  refine ⟨?_⟩
  intro A own env σ H out r h D k
  unfold sStO at h
  split at h
  case h_2 => cases h
  rename_i d fr e1 q1
  split at h
  case h_2 => cases h
  rename_i j e2 q2
  split at h
  case h_2 => cases h
  rename_i y fr2 e3 q3
  split at h
  case h_2 => cases h
  rename_i ks xs q4
  split at h
  case isFalse => cases h
  rename_i hl
  split at h
  case h_2 => cases h
  rename_i ks' xs' q5
  cases h
  refine ws_of (hst _ _ _ pe_w pe_w pe_w) (hf A own env σ H d fr e1 r q1 _ fun v H1 own1 s1 R1 => ?_)
  refine ho A own1 e1 σ H1 _ e2 R1.en q2 _ fun w H2 own2 s2 R2 ok => ?_
  refine hg A own2 e2 σ H2 y fr2 e3 R2 q3 _ fun u H3 own3 s3 R3 => ?_
  have rp : Rep X.K (hd (hid A own2) H2) (.loc j) w := ok
  cases rp with
  | loc h1 =>
    rename_i a
    have h1 : own2 (.inr j) = some a := h1
    obtain ⟨a', h3, t⟩ := R3.en.ce j _ q4
    have t := t.un rfl
    have ea := s3.wl j a h1
    rw [h3] at ea
    cases ea
    obtain ⟨o', g1, g2⟩ := putDic_ok t R3.rp hd_sub (R1.rp.mono ((s2.trans s3).toStp.sub)) q5 hl
    exact ⟨a, _, rfl, g1, k σ _ own3 (((s1.trans s2).trans s3).toStp.trans (Stp.mut R3.en h3)) (R3.en.mutC h3 g2 (g2.nt rfl))⟩
section
variable {X : Cx}
theorem s_stO {o : OF} {g f : EF} {oe e ix : Expr} {tpos pos : Pos} {k : Nat} (hr : Room (k + 1) X.A) (ho : SO X o oe) (hf : SE X f e) (hg : SE X g ix)
    (hs : swapsWithSole [.Subscript oe ix tpos] e pos.line X.env = pure false := by rfl) (hw : swappedStores [.Subscript oe ix tpos] e X.env = pure none := by rfl) (h1 : (assignEach [.Subscript oe ix tpos] X.env).map (·.2) = [assign (.Subscript oe ix tpos) X.env] := by rfl)
    (ha : ∀ v, assign (.Subscript oe ix tpos) X.env v = (do
      let ov ← holding [v] (eval oe X.env)
      let iv ← holding [v, ov] (eval ix X.env)
      standAt tpos
      holding [v, ov, iv] (setItem ov iv v)
      release [v, ov, iv] []) := by intro _; rfl) : SS X (sStO o g f) (.Assign [.Subscript oe ix tpos] e pos) :=
  ss_stO ho hf hg fun _ _ _ h2 ho2 h3 => ps_asg h2 (pg_sub ho2 h3 (set_dictE (room1 hr)) ha) hs hw h1
end
end Dz
/-! SzLi: list(o.items()), o shows the place of a dict; blocks that walk dicts of the store. -/
namespace Dz
open PySem PyProof.Rows L2
theorem Stp.subN {K : PySem.W.Frag} {A : Amb} {own : Own} {env : En} {σ : L2.St} {H H' : Hp} (r : EnvR K A own env σ H) (e : Sub H H') : Stp A own H own H' where
  kp := fun b o _ h => .inl (e b o h)
  hi := fun b h => by
    obtain ⟨o, q⟩ := r.al b h
    rw [q, e b o q]
  ow := fun i _ h => .inl ⟨i, h⟩
  th := fun b o h => ⟨o, e b o h⟩
  wl := fun _ _ h => h
  fz := fun b od u h => e b _ h
theorem items_rep {K : PySem.W.Frag} {Hv : Vw} : ∀ {ks xs : List D} {us vs : List V} {ts : List Addr}, RepL K Hv ks us → RepL K Hv xs vs → us.length = vs.length → Paired (fun (t : Addr) (q : V × V) => Hv t = some (.tup [q.1, q.2])) ts (us.zip vs) → RepL K Hv (zpD ks xs) (ts.map V.ref)
  | _, _, _, _, _, .nil, .nil, _, .nil => .nil
  | _, _, _, _, _, .nil, .cons _ _, h, _ => by cases h
  | _, _, _, _, _, .cons _ _, .nil, h, _ => by cases h
  | _, _, _, _, _, .cons a r, .cons b s, h, .cons p t => .cons (.tup p (.cons a (.cons b .nil))) (items_rep r s (Nat.succ.inj h) t)
theorem paired_kv {F : Addr → HO → Prop} : ∀ {ts : List Addr} {kk : List Key} {vs : List V}, Paired (fun (t : Addr) (q : Key × V) => F t (.tup [kV q.1, q.2])) ts (kk.zip vs) → Paired (fun (t : Addr) (q : V × V) => F t (.tup [q.1, q.2])) ts ((kk.map kV).zip vs)
  | _, [], _, h => by cases h; exact .nil
  | _, _ :: _, [], h => by cases h; exact .nil
  | _, _ :: kk, _ :: vs, .cons p t => .cons p (paired_kv t)
theorem Paired.imp {α β : Type} {F G : α → β → Prop} (k : ∀ a b, F a b → G a b) : ∀ {xs : List α} {ys : List β}, Paired F xs ys → Paired G xs ys
  | _, _, .nil => .nil
  | _, _, .cons p t => .cons (k _ _ p) (Paired.imp k t)
/-- the entries of a dict of the store, as a list -/
def fLi (o : OF) : EF := fun env => match o env with
  | some (.inl (.loc j), e) => match e.st[j]? with
    | some (.dic ks xs) => if isK ks then some (.lst (zpD ks xs), true, e) else none
    | _ => none
  | _ => none
theorem e_li {X : Cx} {o : OF} {e : Expr} {p apos cpos pos : Pos} (hc : X.calm = true) (hm : X.mg "list" = none) (ho : SO X o e) (hg : Gl X "list" := by rfl) (hbase : attributeBase e "items" X.env (eval e X.env) = eval e X.env := by rfl) (hline : (apos.endLine == cpos.line) = true := by rfl)
    (hs : starEach [.Call (.Attribute e "items" apos) [] [] cpos] X.env = (false, eval (.Call (.Attribute e "items" apos) [] [] cpos) X.env) :: starEach [] X.env := by rfl) :
    SE X (fLi o) (.Call (.Name "list" p) [.Call (.Attribute e "items" apos) [] [] cpos] [] pos) := by
  refine ⟨?_⟩
  intro A own env σ H d fr env' R h Q k
  unfold fLi at h
  split at h
  case h_2 => cases h
  rename_i j e1 q1
  split at h
  case h_2 => cases h
  rename_i ks xs q2
  split at h
  case isFalse => cases h
  rename_i hk
  cases h
  refine we_of (LiI.pe_listItems hc pe_w hg hm (by decide +kernel) hbase hline hs) (ho A own env σ H _ _ R q1 _ fun v H1 own1 s1 R1 ok => ?_)
  have rp : Rep X.K (hd (hid A own1) H1) (.loc j) v := ok
  cases rp with
  | loc h1 =>
    rename_i a
    have h1 : own1 (.inr j) = some a := h1
    obtain ⟨a', h3, t⟩ := R1.ce j _ q2
    rw [h1] at h3
    cases h3
    have t := t.un rfl
    have hkk : ∃ kk, keysK ks = some kk := by
      cases ks with
      | nil => cases hk
      | cons b ks => exact Option.isSome_iff_exists.mp hk
    obtain ⟨kk, hkk⟩ := hkk
    cases t with
    | dicT g1 _ _ _ _ =>
      exfalso
      cases ks with
      | nil => cases hk
      | cons b ks => exact keysKT hkk g1
    | dicK g1 g2 g3 g4 g5 =>
      rename_i kk2 vs
      refine ⟨a, _, rfl, g3, fun H' p ts sub np nts pn hp prd => ?_⟩
      have sub : Sub H1 H' := sub
      have R2 := R1.sub sub
      have nh : ¬ hid A own1 p := R1.nhid np
      have sbv : ∀ P : Hid, (∀ b, P b → b = p ∨ hid A own1 b) → P.w = (hid A own1).w → VSub (hd (hid A own1) H1) (hd P H') := fun P hP hw => hd_mono (fun b u _ z => sub b u z) (fun b u n e z => by
        rcases hP b z with z | z
        · rw [z, np] at e; cases e
        · exact n z) (fun j b z => by rw [hw]; exact z)
      have itm : ∀ P : Hid, (∀ b, P b → b = p ∨ hid A own1 b) → P.w = (hid A own1).w → RepL X.K (hd P H') (zpD ks xs) (ts.map V.ref) := fun P hP hw => by
        refine items_rep (keysK_rep g1) (g5.mono (sbv P hP hw)) (by rw [List.length_map]; exact g2) ?_
        have q := paired_kv (F := fun t o => t ∈ ts ∧ H' t = some o) (ts := ts) (kk := kk2) (vs := vs) ?_
        · refine Paired.imp (fun t q h => ?_) q
          refine hd_some.mpr ⟨fun z => ?_, h.2⟩
          rcases hP t z with z | z
          · exact pn (z ▸ h.1)
          · exact R1.nhid (nts t h.1) z
        · have go : ∀ {us : List Addr} {l : List (Key × V)}, (∀ t ∈ us, t ∈ ts) → Paired (fun (t : Addr) (q : Key × V) => H' t = some (.tup [kV q.1, q.2])) us l → Paired (fun (t : Addr) (q : Key × V) => t ∈ ts ∧ H' t = some (.tup [kV q.1, q.2])) us l := by
            intro us l hu pr
            induction pr with
            | nil => exact .nil
            | cons p t ih => exact .cons ⟨hu _ List.mem_cons_self, p⟩ (ih fun t ht => hu t (List.mem_cons_of_mem _ ht))
          exact go (fun _ z => z) prd
      refine k (.ref p) H' own1 (s1.trans ⟨Stp.subN R1 sub, fun _ _ z => z⟩) ⟨R2, .lst (hd_some.mpr ⟨nh, hp⟩) (itm (hid A own1) (fun b z => .inr z) rfl), fun _ _ => ⟨p, rfl, s1.toStp.back np, ?_, .lst hp (itm (hid (Plus A p) own1) (fun b z => ?_) rfl)⟩⟩
      · exact (R1.new (o := .lst (ts.map V.ref)) np).sub fun b u z => by
          by_cases hb : b = p
          · subst hb
            rw [upd_same] at z
            cases z
            exact hp
          · rw [upd_ne hb] at z
            exact sub b u z
      · rcases z with (z | z) | z
        · exact .inr (.inl z)
        · exact .inl z
        · exact .inr (.inr z)
/-- the place that an expression shows -/
def cOfE (f : EF) : En → Option Nat := fun env => match f env with
  | some (.loc j, _, _) => some j
  | _ => none
/-- a block over the keys of a dict of the store, or of anything else -/
def fWk (f g : EF) : EF := fAlt (fLk (cOfE f) g) g
theorem se_wk {X : Cx} {f g : EF} {e : Expr} (hg : SE X g e) : SE X (fWk f g) e := se_alt (se_lk hg) hg
end Dz
/-! SzDt: dict(d), d of at most one entry, its keys tuples. -/
namespace Dz
open PySem PyProof.Rows L2
theorem call_dictT {X : Cx} (hu : X.A.units + 65 < cLine) : CallR X (.type "dict") (fun xs H Q => ∃ (a : Addr) (kvs : List (List Key × V)), xs = [.ref a] ∧ Rd H a (.dT kvs) ∧ kvs.length ≤ 1 ∧ ∀ p, H p = none → Q (.ref p) (upd H p (.dT kvs))) := by
  intro pins s σ H xs us Q I r q
  obtain ⟨o, kvs, ex, hd, hl, q⟩ := q
  subst ex
  obtain ⟨u, eu, rx⟩ := vals1 r
  subst eu
  cases rx
  obtain ⟨z, hoS, more, rel, ho⟩ := dt_rd I.hok hd
  have hm : (s.heap.objs.size == sysModules) = false := beq_eq_false_iff_ne.mpr (Nat.ne_of_gt I.big)
  refine callType_codes (Q₁ := fun obj s₁ => obj = .ref s.heap.objs.size ∧ s₁ = { s with heap := s.heap.push { cls := .type "dict", data := .dict #[] } }) F.kt_called_dict (F.kt_typeCall_dict_1 _) F.entry_dict_init (kt_code_dict_new _ ⟨rfl, rfl⟩) ?_
  rintro obj s₁ ⟨rfl, rfl⟩
  have hnew : (s.heap.push { cls := .type "dict", data := .dict #[] }).DictOfH (tupleKind (mixKind X.prog X.w)) s.heap.objs.size [] := Heap.DictOfH.new s.heap
  have k0 : ∀ b ob, s.heap.get? b = some ob → (s.heap.push { cls := .type "dict", data := .dict #[] }).get? b = some ob := fun b ob e => Heap.get?_push_of_some _ e
  have I1 : Inv X pins σ H { s with heap := s.heap.push { cls := .type "dict", data := .dict #[] } } := I.kept (t' := s.toks) k0
  obtain ⟨_, _, more, rel, ho'⟩ := dt_rd I1.hok hd
  have ln : more.length ≤ 1 := by rw [← Paired.length rel]; exact hl
  have hn : (more.map (·.1)).Nodup := let ⟨_, _, _, _, _, _, _, _, hn⟩ := ho'; hn
  have his : ∀ x ∈ more, (tupleKind (mixKind X.prog X.w)).is (s.heap.push { cls := .type "dict", data := .dict #[] }) x.1 x.2.1 := let ⟨_, _, _, _, _, _, _, his, _⟩ := ho'; his
  have hdo : s.heap.objs.size ≠ o := by
    obtain ⟨_, _, _, hg, _⟩ := ho
    exact fun e => absurd (Heap.lt_size hg) (by rw [e]; exact Nat.lt_irrefl _)
  refine ⟨hnew.typeIs, F.args_dict_init_2 _ _, ?_⟩
  unfold Builtin.«dict.__init__»
  refine wpAny_bind ?_
  unfold Builtin.Dict.selfAndRest
  refine wpAny_bind (wpAny_notOrdered_dict hnew.typeIs ?_)
  show wpAny _ _ (pure (s.heap.objs.size, [Value.ref o])) _ _ _
  refine wpAny_pure ?_
  show wpAny _ _ (Builtin.Dict.updateFrom "dict.__init__" s.heap.objs.size (.ref o) [] .none) _ _ _
  unfold Builtin.Dict.updateFrom
  refine wpAny_bind (wpAny_typeOf ho'.typeIs ?_)
  rw [if_neg (by decide)]
  refine wpAny_bind ?_
  unfold Builtin.Dict.merge
  refine wpAny_bind ?_
  unfold Builtin.Dict.readDirectly
  refine wpAny_bind (wpAny_isInstance ho'.typeIs isSubtype_dict_dict ?_)
  simp only [Bool.not_true, Bool.false_eq_true, if_false]
  refine wpAny_bind (wpAny_specialOf ho'.typeIs F.slot_dict_iter.lookup (wpAny_pure ?_))
  simp only [beq_self_eq_true, if_true]
  refine wpAny_bind (wpAny_pure ?_)
  refine wpAny_mergeDict_heap (knd := tupleKind (mixKind X.prog X.w)) (hsz := by rw [List.length_nil, Nat.zero_add]; exact Nat.le_trans ln (by decide)) (by show X.A.units + 1 + 1 < cLine; omega) hdo hoS hnew ho' (.inr ⟨fun x hx => tupleKind_stays.tuple (his x hx), ?_⟩) fun h' hd' _ hs' => ?_
  · match more, ln with
    | [], _ => exact List.nodup_nil
    | [x], _ => exact List.nodup_cons.mpr ⟨List.not_mem_nil, List.nodup_nil⟩
    | _ :: _ :: _, h => simp at h
  show wpAny _ _ (Builtin.Dict.addKeywords s.heap.objs.size [] >>= _) _ _ _
  rw [storedAllH_append_of_fresh [] more (by simpa using hn), List.nil_append] at hd'
  refine wpAny_bind (wpAny_pure (wpAny_pure ⟨rfl, ?_⟩))
  obtain ⟨o', es, ep, g1, g2, g3, g4, g5, g6⟩ := hd'
  exact ⟨.ref s.heap.objs.size, upd H s.heap.objs.size (.dT kvs), I.laid (t' := s.toks) (fun b u e => (hs'.2 b (Nat.ne_of_lt (Heap.lt_size e))).trans (Heap.get?_push_of_some _ e)) (Nat.le_refl _)
    (show ObjOk X.prog X.w _ _ _ (.dT kvs) from ⟨z, hm, more, rel.keeps (fun b ys e => by rw [upd_ne (fun y => by rw [y, I.hok.fresh (Nat.le_refl _)] at e; cases e)]; exact e), o', es, ep, g1, g2, g3, g4, g6⟩), rfl, q _ (I.hok.fresh (Nat.le_refl _))⟩
def rDictT : List V → Hp → VK → Prop := fun xs H Q => ∃ (a : Addr) (kvs : List (List Key × V)), xs = [.ref a] ∧ Rd H a (.dT kvs) ∧ kvs.length ≤ 1 ∧ ∀ p, H p = none → Q (.ref p) (upd H p (.dT kvs))
def pDictT : PrN := fun ds => match ds with
  | [.dic [.tup k] [x]] => if (keysK k).isSome then some (.dic [.tup k] [x], true) else none
  | _ => none
theorem pn_dictT {X : Cx} : PN X rDictT pDictT := by
  intro Hh H ds vs d fr Q e vx q g
  unfold pDictT at q
  split at q
  case h_2 => cases q
  rename_i k x
  split at q
  case isFalse => cases q
  rename_i hk
  cases q
  cases vx with
  | cons v1 v2 =>
    cases v2
    obtain ⟨a, us, rfl, r, c⟩ := v1.dic e
    rcases c with ⟨kk, g1, _⟩ | ⟨kk, g1, g2, g3, g4⟩
    · cases g1
    · refine ⟨a, _, rfl, g3, ?_, fun p hp => g.new p _ hp (.dicT g1 g2 g4 r)⟩
      cases r with
      | cons _ r => cases r; rw [List.length_zip]; exact Nat.min_le_right _ _
theorem e_dict2 {X : Cx} {p pos : Pos} {a : Expr} {f : LF} {k : Nat} (hc : X.calm = true) (hr : Room (k + 1) X.A) (hm : X.mg "dict" = none) (hf : SL X f [a]) (hg : Gl X "dict" := by rfl) (he : plainE a = true := by rfl) : SE X (fPrim (porN pDict pDictT) f) (.Call (.Name "dict" p) [a] [] pos) := se_prim hf (PN.or pn_dict pn_dictT) (pe_callTy (CallR.or (call_dictA hc) (call_dictT (room65 hr))) hg hm (by decide +kernel) pa_w (by decide) (by decide) (star1 he))
end Dz
/-! SzMl: a list times an int; not o, o with an own __bool__, as a value. -/
namespace Dz
open PySem PyProof.Rows L2
section
variable {X : Cx}
theorem RepL.rep {K : PySem.W.Frag} {H : Vw} {ds : List D} {vs : List V} (r : RepL K H ds vs) : ∀ n : Nat, RepL K H (List.replicate n ds).flatten (List.replicate n vs).flatten
  | 0 => .nil
  | n + 1 => by
    rw [List.replicate_succ, List.replicate_succ, List.flatten_cons, List.flatten_cons]
    exact r.append (RepL.rep r n)
def pRep : Pr2 := fun x y => match x, y with
  | .lst i, .int k => if (decide (-(2 ^ 63) ≤ k) && decide (k < 2 ^ 63) && decide (i.length * k.toNat ≤ 100000)) = true then some (.lst (List.replicate k.toNat i).flatten, true) else none
  | _, _ => none
theorem p2_rep : P2 X rRep pRep := by
  intro Hh H x y v u d fr Q e vx vy q gv
  unfold pRep at q
  split at q
  case h_2 => cases q
  rename_i i k
  split at q
  case isFalse => cases q
  rename_i hl
  cases q
  simp only [Bool.and_eq_true, decide_eq_true_eq] at hl
  obtain ⟨a, vs, rfl, h1, r1⟩ := vx.lst e
  have hk := vy.int
  subst hk
  exact ⟨a, k, vs, rfl, rfl, h1, hl.1.1, hl.1.2, by rw [← r1.length]; exact line_of hl.2, fun p hp => gv.new p _ hp (.lst (r1.rep _))⟩
def pMulL : Pr2 := por pMul pRep
theorem e_mulL {f g : OF} {a b : Expr} {pos : Pos} (hf : SO X f a) (hg : SO X g b) : SE X (fOp2 pMulL f g) (.BinOp a .Mult b pos) := se_bin (OpR.or op_mul op_rep) (P2.or p2_mul p2_rep) hf hg
/-! ### not -/
theorem pe_notR {r : V → Hp → (Bool → Hp → Prop) → Prop} {a : Expr} {ta : TE} {pos : Pos} (p : TruR X r) (ha : PE X a ta) : PE X (.UnaryOp .Not a pos) (fun σ H Q => ta σ H fun x H1 => r x H1 fun c H2 => Q (.bl (!c)) H2) := by
  refine ⟨fun pins s σ H Q I h => ?_⟩
  refine UnaryOp_ (thn (ha.run pins s σ H _ I h) fun v s1 ⟨x, H1, I1, r1, q1⟩ => ?_)
  exact not_of (thn (p pins s1 σ H1 x v _ I1 r1 q1) fun c s2 ⟨H2, I2, q2⟩ => ⟨.bl (!c), H2, I2, rfl, q2⟩)
def fNotO (l : List (Str × Str × Nat × Run)) (f : OF) : EF := fun env => match tOfO l f env with
  | some (b, e) => some (.bl (!b), false, e)
  | none => none
theorem se_notO {k : Nat} {l : List (Str × Str × Nat × Run)} {f : OF} {e : Expr} {pos : Pos} (hmt : MtOk X.prog X.w X.K X.mg X.base k l) (hr : Room k X.A) (hf : SO X f e) : SE X (fNotO l f) (.UnaryOp .Not e pos) := by
  refine ⟨?_⟩
  intro A own env σ H d fr env' R h Q kk
  unfold fNotO at h
  split at h
  case h_2 => cases h
  rename_i b e2 h0
  cases h
  unfold tOfO at h0
  split at h0
  case h_2 => cases h0
  rename_i o e1 h1
  refine we_of (pe_notR (tr_own hr) pe_w) (hf A own env σ H o e1 R h1 _ fun v H1 own1 s1 R1 o1 => ?_)
  split at h0
  · rename_i C ns ds h2
    split at h0
    · rename_i run args h3 h4
      split at h0
      · rename_i b' st' args' h5
        cases h0
        obtain ⟨c1, g, c2, c3⟩ := hmt C _ 1 run h3
        obtain ⟨a, dx, fs, rfl, g1, _, _⟩ := (o1.step StpE.refl R1 h2).ins hd_sub
        refine .inr ⟨a, _, dx, fs, g, run, rfl, g1, c2, c3.cal, ?_⟩
        refine call_sp R1 (.cons o1 .nil) h4 ?_ h5 (c3.ok _ _ _ _ _ h5) rfl fun v H' own2 s _ r q => ?_
        · cases o with
          | inl d => exact List.nodup_nil
          | inr i => exact List.nodup_cons.mpr ⟨fun z => (nomatch z), List.nodup_nil⟩
        · cases q
          exact ⟨b, rfl, kk _ H' own2 (s1.trans s) ⟨r, .bl _, fun z => by cases z⟩⟩
      · cases h0
    · cases h0
  · rename_i d hne hd
    split at h0
    · rename_i b' hb
      cases h0
      exact .inl ⟨b, (o1.step StpE.refl R1 hd).tru hd_sub hb, kk _ H1 own1 s1 ⟨R1, .bl _, fun z => by cases z⟩⟩
    · cases h0
  · cases h0
end
end Dz
/-! SzDp: {k: v}, k a tuple of ints and texts. -/
namespace Dz
open PySem PyProof.Rows L2
theorem dict_pairsH {prog : Program} {w : World} {K : Type} [DecidableEq K] {knd : HeapKind prog w K} {A : Around} {E : Value → Shared → Prop} {s : Shared} {env : Env} {keys : List (Option Expr)} {values : List Expr} {pos : Pos} {pairs : List (Sem Value × Sem Value)} {Q : Value → Shared → Prop} (hu : knd.room A)
    (hshape : (evalEachOpt keys env).zip ((evalEach values env).map fun v => do let x ← v; standAt pos; pure x) = pairs.map fun p => (some p.1, p.2)) (h0 : pairs ≠ []) (hlen : pairs.length ≤ 15)
    (h : wpAny (model prog w) A (evalPairs pairs) (fun vs s₁ => ∃ ps, CarriesH knd s₁.heap vs ps ∧ s₁.heap.DictOfH knd s.heap.objs.size [] ∧
      ∀ h' tk, h'.DictOfH knd s.heap.objs.size (storedAllH [] ps) → Heap.SameBut s.heap.objs.size s₁.heap h' → Q (.ref s.heap.objs.size) { s₁ with heap := h', toks := tk }) E
      { s with heap := s.heap.push { cls := .type "dict", data := .dict #[] } }) :
    wpAny (model prog w) A (eval (.Dict keys values pos) env) Q E s := by
  rw [arm_eval_Dict, hshape, dictDisplay_pairs pairs h0 (by omega)]
  exact wpAny_bind (wpAny_standAt (wpAny_bind (wpAny_subDictH (knd := knd) (Q := fun d s' => wpAny (model prog w) A (pure (Value.ref d)) Q E s') hu hlen
    (wpAny_mono h (fun vs s₁ h₁ => by obtain ⟨ps, hc, hm, hq⟩ := h₁; exact ⟨ps, hc, hm, fun h' tk a b => wpAny_pure (hq h' tk a b)⟩) fun _ _ e => e))))
def tDispT1 (tk tv : TE) : TE := fun σ H Q => ∀ p, H p = none → tPairs [(tk, tv)] σ (upd H p (.dT [])) fun ps H2 => H2 p = some (.dT []) ∧ ∃ (b : Addr) (kk : List Key) (y : V), ps = [(.ref b, y)] ∧ H2 b = some (.tup (kk.map kV)) ∧ Q (.ref p) (upd H2 p (.dT [(kk, y)]))
section
variable {X : Cx}
theorem pe_dispT1 {pos : Pos} {kx vx : Expr} {tk tv : TE} (hu : X.A.units + 65 < cLine) (hk : PE X kx tk) (hv : PE X vx tv) : PE X (.Dict [some kx] [vx] pos) (tDispT1 tk tv) := by
  refine ⟨fun pins s σ H Q I q => ?_⟩
  have hn := I.hok.fresh (Nat.le_refl s.heap.objs.size)
  have I1 := I.laid (a := s.heap.objs.size) (o := .dT []) (h' := s.heap.push { cls := .type "dict", data := .dict #[] }) (t' := s.toks) (fun _ _ q => Heap.get?_push_of_some _ q) (Nat.le_refl _) (dt_empty s.heap I.big)
  refine dict_pairsH (knd := tupleKind (mixKind X.prog X.w)) (pairs := pairTrees [some kx] [vx] X.env pos) (by show X.A.units < cLine; omega) (zip_pairTrees _ _ _ _ rfl rfl) (by intro z; cases z) (by decide : (1 : Nat) ≤ 15) (thn ((pps_cons hk hv pps_nil).run pins _ σ _ _ I1 (q _ hn)) fun ws s2 ⟨ps, H2, I2, rel, e, b, kk, y, ep, eb, q2⟩ => ?_)
  subst ep
  cases rel with
  | @cons a0 p0 _ _ r1 r2 =>
    cases r2
    obtain ⟨u1, w1⟩ := p0
    obtain ⟨ra, rb⟩ := r1
    have ra : L2.RelV (.ref b) u1 := ra
    have rb : L2.RelV y w1 := rb
    cases (show u1 = Value.ref b from ra)
    obtain ⟨z, hd, xs0, rel0, dd⟩ := dt_of I2.hok e
    cases rel0
    refine ⟨[(kk, b, w1)], ⟨rfl, rfl, key_of I2.hok eb, trivial⟩, dd, fun h' tk dd' hs => ⟨.ref s.heap.objs.size, _, ?_, rfl, q2⟩⟩
    rw [storedAllH_append_of_fresh [] [(kk, b, w1)] (by simp), List.nil_append] at dd'
    obtain ⟨o', es, ep, hq, h2, h3, h4, _, h5⟩ := dd'
    refine d_write I2 (by rw [e]; exact True.intro) hs ⟨o', hq⟩ ⟨(by decide : (1 : Nat) ≤ sizeLine), hd, [(kk, b, w1)], .cons ⟨rfl, ?_, rb⟩ .nil, o', es, ep, hq, h2, h3, h4, h5⟩
    show upd H2 s.heap.objs.size _ b = _
    rw [upd_ne (fun y => by rw [y, e] at eb; cases eb)]
    exact eb
/-- {k: v} -/
def fDispT1 (fk fv : EF) : EF := fun env => match fk env with
  | some (.tup ks, _, e1) => match fv e1 with
    | some (y, _, e2) => if (keysK ks).isSome then some (.dic [.tup ks] [y], true, e2) else none
    | none => none
  | _ => none
theorem e_dispT1 {fk fv : EF} {kx vx : Expr} {pos : Pos} {k0 : Nat} (hr : Room (k0 + 1) X.A) (hk : SE X fk kx) (hv : SE X fv vx) : SE X (fDispT1 fk fv) (.Dict [some kx] [vx] pos) := by
  refine ⟨?_⟩
  intro A own env σ H d fr env' R e Q k
  unfold fDispT1 at e
  split at e
  case h_2 => cases e
  rename_i ks f1 e1 q1
  split at e
  case h_2 => cases e
  rename_i y f2 e2 q2
  split at e
  case isFalse => cases e
  rename_i hks
  cases e
  obtain ⟨kk, hkk⟩ := Option.isSome_iff_exists.mp hks
  refine we_of (pe_dispT1 (room65 hr) pe_w pe_w) fun p hp => ?_
  have nA : ∀ b, A b → b ≠ p := fun b hb z => by
    obtain ⟨o, e⟩ := R.al b hb
    rw [z, hp] at e; cases e
  refine hk (Plus A p) own env σ _ _ _ _ (R.new (o := .dT []) hp) q1 _ fun x H1 own1 s1 R1 => hv (Plus A p) own1 e1 σ H1 _ _ _ R1.en q2 _ fun w H2 own2 s2 R2 => ?_
  have rp := R1.rp.mono s2.toStp.sub
  cases rp with
  | tup hb rr =>
    rename_i b vs
    have hb2 := (hd_some.mp hb).2
    have ev := keysK_vs hkk rr
    subst ev
    have st := s1.trans s2
    refine ⟨by rw [st.toStp.hi p (.inr rfl)]; exact upd_same, b, kk, w, rfl, hb2, ?_⟩
    have s3 : Stp A own H own2 H2 := (Stp.new R hp).trans (Stp.less st.toStp)
    have hP : hid (Plus A p) own2 p := .inl (.inr rfl)
    refine k (.ref p) _ own2 ⟨s3.updHid hp nA, st.dr⟩ (res_new hp nA R2.en.updHid upd_same ?_)
    exact .dicT (kk := [kk]) (vs := [w]) (by unfold keysT; rw [hkk]; rfl) rfl (List.nodup_cons.mpr ⟨List.not_mem_nil, List.nodup_nil⟩) (.cons (R2.rp.mono (sub_hid hP)) .nil)
end
end Dz
/-! SzDeq0: == of tuples item by item, == of dicts whose keys are tuples, within one model. -/
namespace PySem.SeqAt
open AutoSeq1 (wpAny_loadPart')
open MeetsSeq MeetsSeq2 MeetsSeq3 SeqRoads2
section
variable {prog : Program} {w : World}
/-- the pairs as they are compared, up to the first that differ -/
inductive ZP (prog : Program) (w : World) (A : Around) (s : Shared) : List (Value × Value) → Bool → Prop
  | nil : ZP prog w A s [] true
  | hit {x y : Value} {r : List (Value × Value)} {b : Bool} : EqP prog w A s x y true → ZP prog w A s r b → ZP prog w A s ((x, y) :: r) b
  | miss {x y : Value} {r : List (Value × Value)} : EqP prog w A s x y false → ZP prog w A s ((x, y) :: r) false
theorem tuple_eqZ (l b : Addr) (items items2 : Array Value) (n n2 : Nat) (dd dd2 : Option Addr) (sl sl2 : Array (Option Value)) (k0 : Bool) :
    MeetsIn prog w (Builtin.«tuple.__eq__» ⟨[.ref l, .ref b], []⟩)
      (fun A R s => s.heap.get? l = some { cls := .type "tuple", dict := dd, data := .seq items n, slots := sl } ∧ s.heap.get? b = some { cls := .type "tuple", dict := dd2, data := .seq items2 n2, slots := sl2 } ∧
        ZP prog w A.in1 s (items.toList.zip items2.toList) k0 ∧
        R (.ok (.ret (.bool (k0 && items.size == items2.size)))) s) :=
  .of_wp fun A R s h => by
    obtain ⟨hp, g, d, tk, os⟩ := s; obtain ⟨hl, hb, he, h⟩ := h
    have f2 := AutoSeq1.sub_tuple_tuple
    wp_walk using wpAny_loadPart' hl, wpAny_loadPart' hb, wpAny_forIn_list _ (fun rest b s' => b.1 = none ∧ s' = ⟨hp, g, d, tk, os⟩ ∧ ∃ k, ZP prog w A.in1 ⟨hp, g, d, tk, os⟩ rest k ∧
      R (.ok (.ret (.bool (k && items.size == items2.size)))) ⟨hp, g, d, tk, os⟩) _
    case turn =>
      rintro ⟨y, x⟩ rest b s' ⟨hb', rfl, k, hz, hR⟩
      cases hz with
      | hit h1 h2 =>
        refine wpAny_bind (h1 _ _ ?_)
        wp_walk
        exact ⟨rfl, rfl, k, h2, hR⟩
      | miss h1 =>
        refine wpAny_bind (h1 _ _ ?_)
        wp_walk
        exact ⟨_, rfl, by simpa using hR⟩
    case fin =>
      rintro ⟨b1, b2⟩ s' ⟨hb', rfl, k, hz, hR⟩
      simp only at hb'
      subst hb'
      cases hz
      wp_walk
      exact ⟨_, rfl, by simpa [Builtin.Tuple.tupleCompareSizes] using hR⟩
    case h =>
      exact ⟨rfl, rfl, k0, he, h⟩
theorem tuple_neZ (l b : Addr) (items items2 : Array Value) (n n2 : Nat) (dd dd2 : Option Addr) (sl sl2 : Array (Option Value)) (k0 : Bool) :
    MeetsIn prog w (Builtin.«tuple.__ne__» ⟨[.ref l, .ref b], []⟩)
      (fun A R s => s.heap.get? l = some { cls := .type "tuple", dict := dd, data := .seq items n, slots := sl } ∧ s.heap.get? b = some { cls := .type "tuple", dict := dd2, data := .seq items2 n2, slots := sl2 } ∧
        ZP prog w A.in1 s (items.toList.zip items2.toList) k0 ∧
        R (.ok (.ret (.bool (!(k0 && items.size == items2.size))))) s) :=
  .of_wp fun A R s h => by
    obtain ⟨hp, g, d, tk, os⟩ := s; obtain ⟨hl, hb, he, h⟩ := h
    have f2 := AutoSeq1.sub_tuple_tuple
    wp_walk using wpAny_loadPart' hl, wpAny_loadPart' hb, wpAny_forIn_list _ (fun rest b s' => b.1 = none ∧ s' = ⟨hp, g, d, tk, os⟩ ∧ ∃ k, ZP prog w A.in1 ⟨hp, g, d, tk, os⟩ rest k ∧
      R (.ok (.ret (.bool (!(k && items.size == items2.size))))) ⟨hp, g, d, tk, os⟩) _
    case turn =>
      rintro ⟨y, x⟩ rest b s' ⟨hb', rfl, k, hz, hR⟩
      cases hz with
      | hit h1 h2 =>
        refine wpAny_bind (h1 _ _ ?_)
        wp_walk
        exact ⟨rfl, rfl, k, h2, hR⟩
      | miss h1 =>
        refine wpAny_bind (h1 _ _ ?_)
        wp_walk
        exact ⟨_, rfl, by simpa using hR⟩
    case fin =>
      rintro ⟨b1, b2⟩ s' ⟨hb', rfl, k, hz, hR⟩
      simp only at hb'
      subst hb'
      cases hz
      wp_walk
      exact ⟨_, rfl, by simpa [Builtin.Tuple.tupleCompareSizes, bne] using hR⟩
    case h =>
      exact ⟨rfl, rfl, k0, he, h⟩
theorem rcZ_eq {A : Around} {s : Shared} {l b : Addr} {items items2 : Array Value} {k0 : Bool} (hl : s.heap.IsTuple l items) (hb : s.heap.IsTuple b items2) (hu : A.units < cLine)
    (he : ZP prog w A.in1 s (items.toList.zip items2.toList) k0) (E Q : Value → Shared → Prop) (h : Q (.bool (k0 && items.size == items2.size)) s) : wpAny (model prog w) A (richCompare .Eq (.ref l) (.ref b)) Q E s := by
  obtain ⟨⟨cls, dd, data, sl⟩, ho, hc, n, hd⟩ := id hl
  obtain ⟨⟨cls2, dd2, data2, sl2⟩, ho2, hc2, n2, hd2⟩ := id hb
  simp only at hc hd hc2 hd2
  subst hc hd hc2 hd2
  have ta : s.TypeIs (.ref l) "tuple" := ⟨_, ho, rfl⟩
  have tb : s.TypeIs (.ref b) "tuple" := ⟨_, ho2, rfl⟩
  exact wpAny_richCompare_same_room (op := .Eq) ta tb F.slot_tuple_eq (call_meetsIn F.slot_tuple_eq ta F.entry_tuple_eq (F.args_tuple_eq_2 _ _) (tuple_eqZ l b items items2 n n2 dd dd2 sl sl2 k0)
    ⟨ho, ho2, he, show Value.bool (k0 && items.size == items2.size) ≠ Value.notImplemented ∧ Q (.bool (k0 && items.size == items2.size)) s from ⟨(fun x => nomatch x), h⟩⟩) hu
theorem rcZ_ne {A : Around} {s : Shared} {l b : Addr} {items items2 : Array Value} {k0 : Bool} (hl : s.heap.IsTuple l items) (hb : s.heap.IsTuple b items2) (hu : A.units < cLine)
    (he : ZP prog w A.in1 s (items.toList.zip items2.toList) k0) (E Q : Value → Shared → Prop) (h : Q (.bool (!(k0 && items.size == items2.size))) s) : wpAny (model prog w) A (richCompare .NotEq (.ref l) (.ref b)) Q E s := by
  obtain ⟨⟨cls, dd, data, sl⟩, ho, hc, n, hd⟩ := id hl
  obtain ⟨⟨cls2, dd2, data2, sl2⟩, ho2, hc2, n2, hd2⟩ := id hb
  simp only at hc hd hc2 hd2
  subst hc hd hc2 hd2
  have ta : s.TypeIs (.ref l) "tuple" := ⟨_, ho, rfl⟩
  have tb : s.TypeIs (.ref b) "tuple" := ⟨_, ho2, rfl⟩
  exact wpAny_richCompare_same_room (op := .NotEq) ta tb F.slot_tuple_ne (call_meetsIn F.slot_tuple_ne ta F.entry_tuple_ne (F.args_tuple_ne_2 _ _) (tuple_neZ l b items items2 n n2 dd dd2 sl sl2 k0)
    ⟨ho, ho2, he, show Value.bool (!(k0 && items.size == items2.size)) ≠ Value.notImplemented ∧ Q (.bool (!(k0 && items.size == items2.size))) s from ⟨(fun x => nomatch x), h⟩⟩) hu
end
end PySem.SeqAt
namespace PySem.W
open Lean Elab Tactic Meta PySem PySem.Calls PyProof.Rows PyProof.V PySem.Spec
section
variable {prog : Program} {w : World} {K : Type} [DecidableEq K] {knd : HeapKind prog w K} {A : Around} {E : Value → Shared → Prop} {s : Shared}
inductive HitsH {K : Type} [DecidableEq K] (prog : Program) (w : World) (A : Around) (s : Shared) (kb : List (K × Addr × Value)) : List (K × Addr × Value) → Bool → Prop
  | nil : HitsH prog w A s kb [] true
  | miss {k : K} {v : Addr × Value} {r : List (K × Addr × Value)} : atKey kb k = none → HitsH prog w A s kb ((k, v) :: r) false
  | hit {k : K} {v y : Addr × Value} {r : List (K × Addr × Value)} {e b : Bool} : atKey kb k = some y → SeqAt.EqP prog w A s v.2 y.2 e → HitsH prog w A s kb r b → HitsH prog w A s kb ((k, v) :: r) (e && b)
theorem HitsH.inv {kb : List (K × Addr × Value)} {k : K} {v : Addr × Value} {r : List (K × Addr × Value)} {b : Bool} (h : HitsH prog w A s kb ((k, v) :: r) b) :
    (atKey kb k = none ∧ b = false) ∨ ∃ y e b', atKey kb k = some y ∧ SeqAt.EqP prog w A s v.2 y.2 e ∧ HitsH prog w A s kb r b' ∧ b = (e && b') := by
  cases h with
  | miss hn => exact .inl ⟨hn, rfl⟩
  | hit hy he hr => exact .inr ⟨_, _, _, hy, he, hr, rfl⟩
theorem samePairsH {nm : String} {a b : Addr} {ka kb : List (K × Addr × Value)} {r : Bool} {Q : Bool → Shared → Prop} (hu : knd.room A) (ha : (a == sysModules) = false) (hb : (b == sysModules) = false)
    (da : s.heap.DictOfH knd a ka) (db : s.heap.DictOfH knd b kb) (hits : ka.length = kb.length → HitsH prog w A s kb ka r) (h : Q (ka.length == kb.length && r) s) :
    wpAny (model prog w) A (Builtin.Dict.samePairs nm a b) Q E s := by
  obtain ⟨oa, es, ep, hoa, _, hda, hka, hisa, _⟩ := da
  obtain ⟨ob, es', ep', hob, _, hdb, hkb, hisb, hnb⟩ := db
  have hla : ka.length = es.size := (size_of_entries hka).symm
  have hlb : kb.length = es'.size := (size_of_entries hkb).symm
  rw [hla, hlb] at h
  unfold Builtin.Dict.samePairs Builtin.Dict.showsAll
  rw [if_neg (show ¬ (a == sysModules) = true by rw [ha]; exact Bool.false_ne_true), if_neg (show ¬ (b == sysModules) = true by rw [hb]; exact Bool.false_ne_true)]
  refine wpAny_bind (wpAny_pure (wpAny_bind (wpAny_pure ?_)))
  refine wpAny_bind (wpAny_dictEntries hoa hda ?_)
  dsimp only
  refine wpAny_bind (wpAny_dictEntries hob hdb ?_)
  by_cases hsz : es.size = es'.size
  case neg =>
    rw [if_pos (by simpa using hsz)]
    have hbf : (es.size == es'.size) = false := by simpa using hsz
    rw [hbf, Bool.false_and] at h
    exact wpAny_bind (wpAny_rule (wpAny_pure h))
  case pos =>
    have h' : Q r s := by simpa [hsz] using h
    have hits' := hits (by rw [hla, hlb]; exact hsz)
    rw [if_neg (by rw [hsz]; simp)]
    refine wpAny_bind (wpAny_dictEpoch hoa hda ?_)
    refine wpAny_bind ?_
    rw [Std.Legacy.Range.forIn_eq_forIn_range']
    simp only [Std.Legacy.Range.size, Nat.sub_zero, Nat.add_sub_cancel, Nat.div_one]
    refine wpAny_forIn_list _
      (fun rest q s' => s' = s ∧ q = (none, ()) ∧ ∃ i, rest = List.range' i (es.size - i) ∧ i ≤ es.size ∧ HitsH prog w A s kb (ka.drop i) r)
      _ ?_ ?_ _ _ ⟨rfl, rfl, 0, by simp, Nat.zero_le _, hits'⟩
    · rintro x rest q s' ⟨rfl, rfl, i, hr, hi, hpre⟩
      have hlt : i < es.size := by
        rcases Nat.lt_or_ge i es.size with h | h
        · exact h
        · rw [Nat.sub_eq_zero_of_le h] at hr; simp at hr
      obtain ⟨rfl, hrest⟩ : x = i ∧ rest = List.range' (i + 1) (es.size - (i + 1)) := by
        have e : es.size - i = (es.size - (i + 1)) + 1 := by omega
        rw [e, List.range'_succ] at hr
        injection hr with h1 h2
        exact ⟨h1, h2⟩
      refine wpAny_bind (wpAny_dictEntries hoa hda ?_)
      rw [Array.getElem?_eq_getElem hlt]
      have hlt' : x < ka.length := by rw [hla]; exact hlt
      obtain ⟨k, v, hkv⟩ : ∃ k v, ka[x] = (k, v) := ⟨_, _, rfl⟩
      have hdrop : ka.drop x = (k, v) :: ka.drop (x + 1) := by rw [← hkv]; exact List.drop_eq_getElem_cons hlt'
      have hent : es[x] = entryOfKey knd (k, v) := by
        have e1 := entry_at hka x
        rw [Array.getElem?_eq_getElem hlt, List.getElem?_eq_getElem hlt', hkv] at e1
        exact Option.some.inj e1
      have hkey : knd.is s'.heap k v.1 := by
        have q := hisa ka[x] (List.getElem_mem hlt')
        rw [hkv] at q
        exact q
      rw [hdrop] at hpre
      rw [hent]
      show wpAny _ _ (holding [Value.ref v.1, v.2] _ >>= _) _ _ _
      refine wpAny_bind (wpAny_holding (wpAny_bind (wpAny_dictFind_heap hu hkey hob hdb hkb hisb hnb (fun hno => ?_) fun j p hj => ?_)))
      · have hn : atKey kb k = none := atKey_none_of_get hno
        rcases hpre.inv with ⟨_, er⟩ | ⟨y, _, _, hy, _⟩
        · rw [er] at h'
          refine wpAny_pure ?_
          show wpAny _ _ (if (!false) = true then _ else _) _ _ _
          rw [if_pos (by decide)]
          exact wpAny_pure (wpAny_pure h')
        · rw [hn] at hy; exact nomatch hy
      · have hv' : atKey kb k = some p := atKey_of_get hnb hj
        refine wpAny_bind (wpAny_dictEntries hob hdb ?_)
        rw [entry_at hkb j, hj]
        rcases hpre.inv with ⟨hn, _⟩ | ⟨y, e, b', hy, he, hrr, er⟩
        · rw [hv'] at hn; exact nomatch hn
        · have ey : p = y := Option.some.inj (hv'.symm.trans hy)
          subst ey
          refine wpAny_holding (he _ _ ?_)
          cases e with
          | false =>
            rw [er, Bool.false_and] at h'
            show wpAny _ _ (if (!false) = true then _ else _) _ _ _
            rw [if_pos (by decide)]
            exact wpAny_pure (wpAny_pure h')
          | true =>
            rw [Bool.true_and] at er
            rw [← er] at hrr
            show wpAny _ _ (if (!true) = true then _ else _) _ _ _
            rw [if_neg (by decide)]
            refine wpAny_bind (wpAny_dictEpoch hoa hda ?_)
            rw [if_neg (by simp)]
            exact wpAny_pure ⟨rfl, rfl, x + 1, hrest, hlt, hrr⟩
    · rintro q s' ⟨rfl, rfl, i, hr, hi, hpre⟩
      have hin : i = es.size := by
        rcases Nat.lt_or_ge i es.size with h | h
        · have e : es.size - i = (es.size - (i + 1)) + 1 := by omega
          rw [e, List.range'_succ] at hr; exact nomatch hr
        · exact Nat.le_antisymm hi h
      refine wpAny_pure ?_
      rw [hin, ← hla, List.drop_length] at hpre
      cases hpre
      exact h'
theorem rcH_dicts {a b : Addr} {ka kb : List (K × Addr × Value)} {r : Bool} (hr : knd.room A.in1) (ha : (a == sysModules) = false) (hb : (b == sysModules) = false)
    (da : s.heap.DictOfH knd a ka) (db : s.heap.DictOfH knd b kb) (hu : A.units < cLine) (hits : ka.length = kb.length → HitsH prog w A.in1 s kb ka r) (E Q : Value → Shared → Prop) (h : Q (.bool (ka.length == kb.length && r)) s) : wpAny (model prog w) A (richCompare .Eq (.ref a) (.ref b)) Q E s := by
  refine wpAny_richCompare_same_room (op := .Eq) da.typeIs db.typeIs PySem.F.slot_dict_eq (wpAny_call_entry PySem.F.slot_dict_eq da.typeIs PySem.F.entry_dict_eq ?_ (PySem.F.args_dict_eq_2 _ _)) hu
  show wpAny _ _ (Builtin.Dict.dictSlotArgs "__eq__" ⟨[.ref a, .ref b], []⟩ >>= _) _ _ s
  refine wpAny_bind ?_
  unfold Builtin.Dict.dictSlotArgs
  refine wpAny_bind (wpAny_notOrdered_dict da.typeIs ?_)
  show wpAny _ _ (pure (Value.ref a, Value.ref b)) _ _ s
  refine wpAny_pure ?_
  refine wpAny_bind (wpAny_isInstance (T := "dict") db.typeIs PySem.F.sub_dict_dict ?_)
  simp only [Bool.not_true, Bool.false_eq_true, if_false]
  refine wpAny_bind (wpAny_pure (wpAny_bind (wpAny_pure ?_)))
  refine wpAny_bind (samePairsH hr ha hb da db hits ?_)
  refine wpAny_pure ⟨_, rfl, ?_, ?_⟩
  · exact fun x => nomatch x
  · simpa using h
end
end PySem.W
/-! SzDeq: == of tuples that hold dicts, of dicts that hold dicts. -/
namespace Dz
open PySem PyProof.Rows L2
theorem relV_abs {u : Value} : ∀ {v : V}, L2.RelV v u → L2.absV u = some v
  | .non, h => by cases (show u = _ from h); rfl
  | .bl _, h => by cases (show u = _ from h); rfl
  | .int _, h => by obtain ⟨t, e⟩ := h; cases e; rfl
  | .str _, h => by obtain ⟨t, e⟩ := h; cases e; rfl
  | .byt _, h => by obtain ⟨t, e⟩ := h; cases e; rfl
  | .flt _, h => by obtain ⟨t, e⟩ := h; cases e; rfl
  | .ref _, h => by cases (show u = _ from h); rfl
  | .ty _, h => by cases (show u = _ from h); rfl
theorem relV_inj {v v' : V} {u : Value} (h : L2.RelV v u) (h' : L2.RelV v' u) : v = v' := Option.some.inj ((relV_abs h).symm.trans (relV_abs h'))
theorem vals_inj : ∀ {vs ws : List V} {us : List Value}, Vals vs us → Vals ws us → vs = ws
  | _, _, _, .nil, .nil => rfl
  | _, _, _, .cons a s, .cons b t => by rw [relV_inj a b, vals_inj s t]
section
variable {X : Cx} {pins : List (Addr × PySem.Obj)} {σ : L2.St} {H : Hp} {s : Shared} {a : Addr}
theorem sqT_fun {vs ws : List V} (I : L2.Inv X pins σ H s) (h : SqT X.K H a vs) (h' : SqT X.K H a ws) : vs = ws := by
  obtain ⟨its, r, ⟨o, p1, _, n, p2⟩, _⟩ := I.tuple h
  obtain ⟨its', r', ⟨o', p1', _, n', p2'⟩, _⟩ := I.tuple h'
  rw [p1] at p1'
  cases p1'
  rw [p2] at p2'
  have e : its = its' := by
    injection p2' with e _
    simpa using e
  subst e
  exact vals_inj r r'
theorem rd_fun {u u' : HO} (h : Rd H a u) (h' : Rd H a u') (n : IsDic u) (n' : IsDic u') : u = u' := by
  rcases h with h | ⟨o, h⟩ <;> rcases h' with h' | ⟨o', h'⟩ <;> rw [h] at h' <;> cases h' <;> first | rfl | exact absurd n (fun z => z) | exact absurd n' (fun z => z)
theorem zip_inj {κ : Type} : ∀ {kk ll : List κ} {us ws : List V}, kk.length = us.length → ll.length = ws.length → kk.zip us = ll.zip ws → kk = ll ∧ us = ws
  | [], [], [], [], _, _, _ => ⟨rfl, rfl⟩
  | [], _ :: _, [], _ :: _, _, _, e => by cases e
  | _ :: _, [], _ :: _, [], _, _, e => by cases e
  | k :: kk, l :: ll, u :: us, w :: ws, h1, h2, e => by
    rw [List.zip_cons_cons, List.zip_cons_cons] at e
    injection e with e1 e2
    obtain ⟨a1, a2⟩ := zip_inj (Nat.succ.inj h1) (Nat.succ.inj h2) e2
    cases e1
    exact ⟨by rw [a1], by rw [a2]⟩
  | [], _, _ :: _, _, h, _, _ => by cases h
  | _ :: _, _, [], _, h, _, _ => by cases h
  | _, [], _, _ :: _, _, h, _ => by cases h
  | _, _ :: _, _, [], _, h, _ => by cases h
end
/-! ### the evaluators -/
def eqL (E : D → D → Option Bool) : List D → List D → Option Bool
  | x :: xs, y :: ys => match E x y with
    | some true => eqL E xs ys
    | some false => some false
    | none => none
  | _, _ => some true
def lkD {κ : Type} [DecidableEq κ] : List κ → List D → κ → Option D
  | l :: ll, y :: ys, k => if l = k then some y else lkD ll ys k
  | _, _, _ => none
def hitD {κ : Type} [DecidableEq κ] (E : D → D → Option Bool) (ll : List κ) (ys : List D) : List κ → List D → Option Bool
  | k :: kk, x :: xs => match lkD ll ys k with
    | some y => match E x y, hitD E ll ys kk xs with
      | some e, some b => some (e && b)
      | _, _ => none
    | none => some false
  | _, _ => some true
def eqN (E : D → D → Option Bool) (x y : D) : Option Bool := match x.asTup, y.asTup with
  | some xs, some ys => match eqL E xs ys with
    | some b => some (b && xs.length == ys.length)
    | none => none
  | _, _ => none
def eqDic (E : D → D → Option Bool) (ks xs ls ys : List D) : Option Bool :=
  if ks.length = ls.length then
    if ks.length = 0 then some true
    else match keysK ks, keysK ls with
      | some kk, some ll => hitD E ll ys kk xs
      | _, _ => match keysT ks, keysT ls with
        | some kk, some ll => hitD E ll ys kk xs
        | _, _ => none
  else some false
def eqS (E : D → D → Option Bool) (x y : D) : Option Bool := match x, y with
  | .dic ks xs, .dic ls ys => eqDic E ks xs ls ys
  | x, y => eqN E x y
def plE (x y : D) : Option Bool := match x.toP, y.toP with
  | some p, some q => if SeqAt.shaped p && SeqAt.shaped q then some (PyData.eqv p q) else none
  | _, _ => none
def eqF : Nat → D → D → Option Bool
  | 0, _, _ => none
  | n + 1, x, y => match plE x y with
    | some b => some b
    | none => eqS (eqF n) x y
/-! ### the same object -/
section
variable {K : PySem.W.Frag} {Hv : Vw}
theorem lkD_some {κ : Type} [DecidableEq κ] {k : κ} {y : D} : ∀ {ll : List κ} {ys : List D} {ws : List V}, RepL K Hv ys ws → lkD ll ys k = some y → ∃ w, valV (ll.zip ws) k = some w ∧ Rep K Hv y w
  | [], _, _, _, h => by cases h
  | _ :: _, _, _, .nil, h => by cases h
  | l :: ll, _, _, .cons (v := v) r t, h => by
    unfold lkD at h
    by_cases e : l = k
    · rw [if_pos e] at h
      cases h
      exact ⟨v, by rw [List.zip_cons_cons]; simp [valV, e], r⟩
    · rw [if_neg e] at h
      obtain ⟨w, h1, h2⟩ := lkD_some t h
      exact ⟨w, by rw [List.zip_cons_cons]; simp only [valV, List.find?_cons, decide_eq_false e]; exact h1, h2⟩
theorem lkD_none {κ : Type} [DecidableEq κ] {k : κ} : ∀ {ll : List κ} {ys : List D} {ws : List V}, RepL K Hv ys ws → lkD ll ys k = none → ll.length = ws.length → valV (ll.zip ws) k = none
  | [], _, _, _, _, _ => rfl
  | _ :: _, _, _, .nil, _, h => by cases h
  | l :: ll, _, _, .cons r t, h, hl => by
    unfold lkD at h
    by_cases e : l = k
    · rw [if_pos e] at h; cases h
    · rw [if_neg e] at h
      have q := lkD_none t h (Nat.succ.inj hl)
      rw [List.zip_cons_cons]
      simp only [valV, List.find?_cons, decide_eq_false e]
      exact q
theorem valV_mem {κ : Type} [DecidableEq κ] : ∀ {kvs : List (κ × V)} {k : κ} {v : V}, (kvs.map (·.1)).Nodup → (k, v) ∈ kvs → valV kvs k = some v
  | [], _, _, _, h => nomatch h
  | (l, u) :: r, k, v, hn, h => by
    rw [List.map_cons, List.nodup_cons] at hn
    rcases List.mem_cons.mp h with e | h
    · cases e
      simp [valV]
    · have ne : ¬ l = k := fun e => hn.1 (e ▸ List.mem_map.mpr ⟨_, h, rfl⟩)
      simp only [valV, List.find?_cons, decide_eq_false ne]
      exact valV_mem hn.2 h
theorem hit_same {κ : Type} [DecidableEq κ] {E : D → D → Option Bool} (hE : ∀ x y v b, E x y = some b → Rep K Hv x v → Rep K Hv y v → b = true) {ll : List κ} {ys : List D} {ws : List V} (ry : RepL K Hv ys ws) (hl : ll.length = ws.length) :
    ∀ {kk : List κ} {xs : List D} {us : List V} {b : Bool}, RepL K Hv xs us → (∀ p ∈ kk.zip us, valV (ll.zip ws) p.1 = some p.2) → kk.length = us.length → hitD E ll ys kk xs = some b → b = true
  | [], _, _, _, _, _, _, h => by cases h; rfl
  | _ :: _, _, _, _, .nil, _, h, _ => by cases h
  | k :: kk, _, _, b, .cons (d := x) (v := v) r t, hm, hk, h => by
    have h0 := hm (k, v) (by rw [List.zip_cons_cons]; exact List.mem_cons_self)
    unfold hitD at h
    split at h
    · rename_i y hy
      obtain ⟨w, h1, h2⟩ := lkD_some ry hy
      rw [h0] at h1
      cases h1
      split at h
      · rename_i e b' he hb
        cases h
        have e1 := hE x y v e he r h2
        have e2 := hit_same hE ry hl t (fun p hp => hm p (by rw [List.zip_cons_cons]; exact List.mem_cons_of_mem _ hp)) (Nat.succ.inj hk) hb
        rw [e1, e2]
        rfl
      · cases h
    · rename_i hy
      have := lkD_none ry hy hl
      rw [h0] at this
      cases this
theorem eqL_same {E : D → D → Option Bool} (hE : ∀ x y v b, E x y = some b → Rep K Hv x v → Rep K Hv y v → b = true) : ∀ {xs ys : List D} {vs : List V} {b : Bool}, RepL K Hv xs vs → RepL K Hv ys vs → eqL E xs ys = some b → b = true
  | _, _, _, _, .nil, .nil, h => by cases h; rfl
  | _, _, _, _, .cons a r, .cons c t, h => by
    unfold eqL at h
    split at h
    · exact eqL_same hE r t h
    · rename_i he
      exact absurd (hE _ _ _ _ he a c) (by decide)
    · cases h
end
section
variable {X : Cx} {pins : List (Addr × PySem.Obj)} {σ : L2.St} {H : Hp} {s : Shared} {wv : Nat → Option Addr}
/-- what a dict's view says -/
theorem rep_dic {ks xs : List D} {v : V} (h : Rep X.K ⟨H, wv⟩ (.dic ks xs) v) : ∃ a us, v = .ref a ∧ RepL X.K ⟨H, wv⟩ xs us ∧
    ((∃ kk, keysK ks = some kk ∧ kk.length = us.length ∧ Rd H a (.dK (kk.zip us)) ∧ kk.Nodup) ∨ ∃ kk, keysT ks = some kk ∧ kk.length = us.length ∧ Rd H a (.dT (kk.zip us)) ∧ kk.Nodup) := by
  cases h with
  | dicK h1 h2 h3 h4 r => exact ⟨_, _, rfl, r, .inl ⟨_, h1, h2, h3, h4⟩⟩
  | dicT h1 h2 h3 h4 r => exact ⟨_, _, rfl, r, .inr ⟨_, h1, h2, h3, h4⟩⟩
theorem keysT_length : ∀ {ks : List D} {kk : List (List Key)}, keysT ks = some kk → ks.length = kk.length
  | [], _, h => by cases h; rfl
  | d :: ks, kk, h => by
    unfold keysT at h
    split at h
    · rename_i heq
      cases heq
    · rename_i heq
      cases heq
      split at h
      · obtain ⟨k2, h2, rfl⟩ := Option.map_eq_some_iff.mp h
        rw [List.length_cons, List.length_cons, keysT_length h2]
      · cases h
    · cases h
theorem dic_same {E : D → D → Option Bool} (hE : ∀ x y v b, E x y = some b → Rep X.K ⟨H, wv⟩ x v → Rep X.K ⟨H, wv⟩ y v → b = true) {ks xs ls ys : List D} {v : V} {b : Bool} (h : eqDic E ks xs ls ys = some b) (hx : Rep X.K ⟨H, wv⟩ (.dic ks xs) v) (hy : Rep X.K ⟨H, wv⟩ (.dic ls ys) v) : b = true := by
  obtain ⟨a, us, rfl, rx, cx⟩ := rep_dic hx
  obtain ⟨a', ws, ea, ry, cy⟩ := rep_dic hy
  cases ea
  unfold eqDic at h
  split at h
  case isFalse hl =>
    exfalso
    apply hl
    rcases cx with ⟨kk, g1, g2, g3, g4⟩ | ⟨kk, g1, g2, g3, g4⟩ <;> rcases cy with ⟨ll, k1, k2, k3, k4⟩ | ⟨ll, k1, k2, k3, k4⟩
    · have e := rd_fun g3 k3 trivial trivial
      injection e with e
      obtain ⟨rfl, rfl⟩ := zip_inj g2 k2 e
      rw [keysK_length g1, keysK_length k1]
    · exact HO.noConfusion (rd_fun g3 k3 trivial trivial)
    · exact HO.noConfusion (rd_fun g3 k3 trivial trivial)
    · have e := rd_fun g3 k3 trivial trivial
      injection e with e
      obtain ⟨rfl, rfl⟩ := zip_inj g2 k2 e
      rw [keysT_length g1, keysT_length k1]
  case isTrue hl =>
    split at h
    · cases h; rfl
    · rename_i hne
      rcases cx with ⟨kk, g1, g2, g3, g4⟩ | ⟨kk, g1, g2, g3, g4⟩ <;> rcases cy with ⟨ll, k1, k2, k3, k4⟩ | ⟨ll, k1, k2, k3, k4⟩
      · have e := rd_fun g3 k3 trivial trivial
        injection e with e
        obtain ⟨rfl, rfl⟩ := zip_inj g2 k2 e
        rw [g1, k1] at h
        exact hit_same hE ry k2 rx (fun p hp => valV_mem (by rw [List.map_fst_zip (by rw [g2]; exact Nat.le_refl _)]; exact g4) hp) g2 h
      · exact HO.noConfusion (rd_fun g3 k3 trivial trivial)
      · exact HO.noConfusion (rd_fun g3 k3 trivial trivial)
      · have e := rd_fun g3 k3 trivial trivial
        injection e with e
        obtain ⟨rfl, rfl⟩ := zip_inj g2 k2 e
        have n1 : keysK ks = none := by
          cases ks with
          | nil => exact absurd rfl hne
          | cons d ks =>
            cases q : keysK (d :: ks) with
            | none => rfl
            | some z => exact (keysKT q g1).elim
        rw [n1] at h
        dsimp only at h
        rw [g1, k1] at h
        exact hit_same hE ry k2 rx (fun p hp => valV_mem (by rw [List.map_fst_zip (by rw [g2]; exact Nat.le_refl _)]; exact g4) hp) g2 h
theorem eqN_same (I : L2.Inv X pins σ H s) {E : D → D → Option Bool} (hE : ∀ x y v b, E x y = some b → Rep X.K ⟨H, wv⟩ x v → Rep X.K ⟨H, wv⟩ y v → b = true) {x y : D} {v : V} {b : Bool} (h : eqN E x y = some b) (hx : Rep X.K ⟨H, wv⟩ x v) (hy : Rep X.K ⟨H, wv⟩ y v) : b = true := by
  unfold eqN at h
  split at h
  · rename_i xs ys ex ey
    split at h
    · rename_i b' hb
      cases h
      obtain ⟨a, vs, rfl, q1, r1⟩ := hx.tupA ex
      obtain ⟨a', ws, ea, q2, r2⟩ := hy.tupA ey
      cases ea
      have e := sqT_fun I q1 q2
      subst e
      rw [eqL_same hE r1 r2 hb, r1.length, r2.length]
      simp
    · cases h
  · cases h
theorem eqS_same (I : L2.Inv X pins σ H s) {E : D → D → Option Bool} (hE : ∀ x y v b, E x y = some b → Rep X.K ⟨H, wv⟩ x v → Rep X.K ⟨H, wv⟩ y v → b = true) {x y : D} {v : V} {b : Bool} (h : eqS E x y = some b) (hx : Rep X.K ⟨H, wv⟩ x v) (hy : Rep X.K ⟨H, wv⟩ y v) : b = true := by
  unfold eqS at h
  split at h
  · exact dic_same hE h hx hy
  · exact eqN_same I hE h hx hy
end
end Dz
/-! SzDeq2: the runs of == over dicts and tuples that hold dicts. -/
namespace Dz
open PySem PyProof.Rows L2
section
variable {prog : Program} {w : World} {A : Around} {E : Value → Shared → Prop} {s : Shared}
theorem samePairsRaw {nm : String} {a b : Addr} {oa ob : PySem.Obj} {es es' : Array DictEntry} {ep ep' : Nat} {Q : Bool → Shared → Prop} (ha : (a == sysModules) = false) (hb : (b == sysModules) = false)
    (hoa : s.heap.get? a = some oa) (hda : oa.data = .dict es ep) (hob : s.heap.get? b = some ob) (hdb : ob.data = .dict es' ep') (hz : es.size ≠ es'.size ∨ es.size = 0) (h : Q (es.size == es'.size) s) :
    wpAny (model prog w) A (Builtin.Dict.samePairs nm a b) Q E s := by
  unfold Builtin.Dict.samePairs Builtin.Dict.showsAll
  rw [if_neg (show ¬ (a == sysModules) = true by rw [ha]; exact Bool.false_ne_true), if_neg (show ¬ (b == sysModules) = true by rw [hb]; exact Bool.false_ne_true)]
  refine wpAny_bind (wpAny_pure (wpAny_bind (wpAny_pure ?_)))
  refine wpAny_bind (wpAny_dictEntries hoa hda ?_)
  dsimp only
  refine wpAny_bind (wpAny_dictEntries hob hdb ?_)
  by_cases hsz : es.size = es'.size
  case neg =>
    rw [if_pos (by simpa using hsz)]
    have hbf : (es.size == es'.size) = false := by simpa using hsz
    rw [hbf] at h
    exact wpAny_bind (wpAny_rule (wpAny_pure h))
  case pos =>
    have h0 : es.size = 0 := by
      rcases hz with z | z
      · exact absurd hsz z
      · exact z
    have h' : Q true s := by simpa [hsz] using h
    rw [if_neg (by rw [hsz]; simp)]
    refine wpAny_bind (wpAny_dictEpoch hoa hda ?_)
    refine wpAny_bind ?_
    rw [Std.Legacy.Range.forIn_eq_forIn_range']
    simp only [Std.Legacy.Range.size, Nat.sub_zero, Nat.add_sub_cancel, Nat.div_one]
    refine wpAny_forIn_list _ (fun rest q s' => s' = s ∧ q = (none, ()) ∧ rest = []) _ ?_ ?_ _ _ ⟨rfl, rfl, by rw [h0]; rfl⟩
    · rintro x rest q s' ⟨_, _, hr⟩
      cases hr
    · rintro q s' ⟨rfl, rfl, _⟩
      exact wpAny_pure h'
theorem rcRaw {a b : Addr} {oa ob : PySem.Obj} {es es' : Array DictEntry} {ep ep' : Nat} (ha : (a == sysModules) = false) (hb : (b == sysModules) = false)
    (hoa : s.heap.get? a = some oa) (hca : oa.ExactDict) (hda : oa.data = .dict es ep) (hob : s.heap.get? b = some ob) (hcb : ob.ExactDict) (hdb : ob.data = .dict es' ep') (hu : A.units < cLine) (hz : es.size ≠ es'.size ∨ es.size = 0)
    (E Q : Value → Shared → Prop) (h : Q (.bool (es.size == es'.size)) s) : wpAny (model prog w) A (richCompare .Eq (.ref a) (.ref b)) Q E s := by
  have ta : s.TypeIs (.ref a) "dict" := ⟨_, hoa, hca.1⟩
  have tb : s.TypeIs (.ref b) "dict" := ⟨_, hob, hcb.1⟩
  refine wpAny_richCompare_same_room (op := .Eq) ta tb PySem.F.slot_dict_eq (wpAny_call_entry PySem.F.slot_dict_eq ta PySem.F.entry_dict_eq ?_ (PySem.F.args_dict_eq_2 _ _)) hu
  show wpAny _ _ (Builtin.Dict.dictSlotArgs "__eq__" ⟨[.ref a, .ref b], []⟩ >>= _) _ _ s
  refine wpAny_bind ?_
  unfold Builtin.Dict.dictSlotArgs
  refine wpAny_bind (wpAny_notOrdered_dict ta ?_)
  show wpAny _ _ (pure (Value.ref a, Value.ref b)) _ _ s
  refine wpAny_pure ?_
  refine wpAny_bind (wpAny_isInstance (T := "dict") tb PySem.F.sub_dict_dict ?_)
  simp only [Bool.not_true, Bool.false_eq_true, if_false]
  refine wpAny_bind (wpAny_pure (wpAny_bind (wpAny_pure ?_)))
  refine wpAny_bind (samePairsRaw ha hb hoa hda hob hdb hz ?_)
  refine wpAny_pure ⟨_, rfl, ?_, ?_⟩
  · exact fun x => nomatch x
  · simpa using h
end
section
variable {X : Cx} {pins : List (Addr × PySem.Obj)} {σ : L2.St} {H : Hp} {s : Shared} {wv : Nat → Option Addr} {A : Around}
theorem rep_raw (I : L2.Inv X pins σ H s) {ks xs : List D} {v : V} {v' : Value} (h : Rep X.K ⟨H, wv⟩ (.dic ks xs) v) (rv : L2.RelV v v') : ∃ a o es ep, v' = .ref a ∧ (a == sysModules) = false ∧ s.heap.get? a = some o ∧ o.ExactDict ∧ o.data = .dict es ep ∧ es.size = ks.length := by
  obtain ⟨a, us, rfl, r, c⟩ := rep_dic h
  cases (show v' = Value.ref a from rv)
  rcases c with ⟨kk, g1, g2, g3, g4⟩ | ⟨kk, g1, g2, g3, g4⟩
  · obtain ⟨z, y, vs, rel, o, es, ep, h1, h2, h3, h4, h5, h6⟩ := dk_rd I.hok g3
    refine ⟨a, o, es, ep, rfl, y, h1, h2, h3, ?_⟩
    have e1 : vs.length = es.size := by rw [← h5.length]; exact Array.length_toList
    have e2 := rel.length
    rw [List.length_zip, g2, Nat.min_self] at e2
    rw [← e1, ← e2, ← g2, keysK_length g1]
  · obtain ⟨z, y, vs, rel, o, es, ep, h1, h2, h3, h4, h5, h6⟩ := dt_rd I.hok g3
    refine ⟨a, o, es, ep, rfl, y, h1, h2, h3, ?_⟩
    have e1 : es.size = vs.length := size_of_entries h4
    have e2 := Paired.length rel
    rw [List.length_zip, g2, Nat.min_self] at e2
    rw [e1, ← e2, ← g2, keysT_length g1]
/-- what E says, a run finds -/
def Runs (X : Cx) (H : Hp) (wv : Nat → Option Addr) (A : Around) (s : Shared) (E : D → D → Option Bool) : Prop := ∀ x y v u v' u' b, E x y = some b → Rep X.K ⟨H, wv⟩ x v → Rep X.K ⟨H, wv⟩ y u → L2.RelV v v' → L2.RelV u u' → SeqAt.EqP X.prog X.w A s v' u' b
theorem zp_run {E : D → D → Option Bool} (hE : Runs X H wv A s E) : ∀ {xs ys : List D} {vs ws : List V} {us zs : List Value} {b : Bool}, eqL E xs ys = some b → RepL X.K ⟨H, wv⟩ xs vs → RepL X.K ⟨H, wv⟩ ys ws → Vals vs us → Vals ws zs → SeqAt.ZP X.prog X.w A s (us.zip zs) b
  | [], _, _, _, _, _, _, h, .nil, _, .nil, _ => by
    unfold eqL at h
    cases h
    exact .nil
  | _ :: _, [], _, _, _, _, _, h, .cons _ _, .nil, .cons _ _, .nil => by
    unfold eqL at h
    cases h
    exact .nil
  | x :: xs, y :: ys, _, _, _, _, b, h, .cons a r, .cons c t, .cons ra rr, .cons rc rt => by
    unfold eqL at h
    rw [List.zip_cons_cons]
    split at h
    · rename_i he
      exact .hit (hE _ _ _ _ _ _ _ he a c ra rc) (zp_run hE h r t rr rt)
    · rename_i he
      cases h
      exact .miss (hE _ _ _ _ _ _ _ he a c ra rc)
    · cases h
theorem hitK_run {E : D → D → Option Bool} (hE : Runs X H wv A s E) {ll : List Key} {ys : List D} {ws : List V} {vb : List (Key × Value)} (ry : RepL X.K ⟨H, wv⟩ ys ws) (hl : ll.length = ws.length) (kb : KV (ll.zip ws) vb) :
    ∀ {kk : List Key} {xs : List D} {us : List V} {va : List (Key × Value)} {b : Bool}, hitD E ll ys kk xs = some b → RepL X.K ⟨H, wv⟩ xs us → kk.length = us.length → KV (kk.zip us) va → PySem.W.KeqHitsP X.prog X.w A s vb va b
  | [], _, _, _, _, h, _, _, ka => by
    unfold hitD at h
    cases h
    rw [List.zip_nil_left] at ka
    cases ka
    exact .nil
  | k :: kk, [], [], va, b, h, .nil, hk, _ => by cases hk
  | k :: kk, x :: _, v :: _, va, b, h, .cons r t, hk, ka => by
    rw [List.zip_cons_cons] at ka
    cases ka with
    | @cons p q ps qs h0 ks =>
      obtain ⟨key, val⟩ := q
      obtain ⟨e1, e2⟩ := h0
      have e1 : k = key := e1
      have e2 : L2.RelV v val := e2
      subst e1
      have rr := kb.val k
      unfold hitD at h
      split at h
      · rename_i y hy
        obtain ⟨w0, h1, h2⟩ := lkD_some ry hy
        rw [h1] at rr
        obtain ⟨z, hz, rz⟩ := rr.some_of
        split at h
        · rename_i e b' he hb
          cases h
          exact .hit hz (hE _ _ _ _ _ _ _ he r h2 e2 rz) (hitK_run hE ry hl kb hb t (Nat.succ.inj hk) ks)
        · cases h
      · rename_i hy
        cases h
        rw [lkD_none ry hy hl] at rr
        exact .miss rr.none_of
theorem hitT_run {E : D → D → Option Bool} (hE : Runs X H wv A s E) {ll : List (List Key)} {ys : List D} {ws : List V} {vb : List (List Key × Addr × Value)} (ry : RepL X.K ⟨H, wv⟩ ys ws) (hl : ll.length = ws.length) (kb : KT H (ll.zip ws) vb) :
    ∀ {kk : List (List Key)} {xs : List D} {us : List V} {va : List (List Key × Addr × Value)} {b : Bool}, hitD E ll ys kk xs = some b → RepL X.K ⟨H, wv⟩ xs us → kk.length = us.length → KT H (kk.zip us) va → PySem.W.HitsH X.prog X.w A s vb va b
  | [], _, _, _, _, h, _, _, ka => by
    unfold hitD at h
    cases h
    rw [List.zip_nil_left] at ka
    cases ka
    exact .nil
  | k :: kk, [], [], va, b, h, .nil, hk, _ => by cases hk
  | k :: kk, x :: _, v :: _, va, b, h, .cons r t, hk, ka => by
    rw [List.zip_cons_cons] at ka
    cases ka with
    | @cons p q ps qs h0 ks =>
      obtain ⟨key, val⟩ := q
      obtain ⟨e1, _, e2⟩ := h0
      have e1 : k = key := e1
      have e2 : L2.RelV v val.2 := e2
      subst e1
      have rr := KT.val kb k
      unfold hitD at h
      split at h
      · rename_i y hy
        obtain ⟨w0, h1, h2⟩ := lkD_some ry hy
        rw [h1] at rr
        obtain ⟨z, hz, rz⟩ := rr.some_of
        obtain ⟨pz, hp, hp2⟩ := Option.map_eq_some_iff.mp hz
        subst hp2
        split at h
        · rename_i e b' he hb
          cases h
          exact .hit hp (hE _ _ _ _ _ _ _ he r h2 e2 rz) (hitT_run hE ry hl kb hb t (Nat.succ.inj hk) ks)
        · cases h
      · rename_i hy
        cases h
        rw [lkD_none ry hy hl] at rr
        have q := rr.none_of
        refine .miss ?_
        cases hq : atKey vb k with
        | none => rfl
        | some z => rw [hq] at q; cases q
theorem rcDic (I : L2.Inv X pins σ H s) (hu : A.units + 65 < cLine) {E : D → D → Option Bool} (hE : Runs X H wv A.in1 s E) {ks xs ls ys : List D} {v u : V} {v' u' : Value} {b : Bool} (h : eqDic E ks xs ls ys = some b) (hx : Rep X.K ⟨H, wv⟩ (.dic ks xs) v) (hy : Rep X.K ⟨H, wv⟩ (.dic ls ys) u)
    (rv : L2.RelV v v') (ru : L2.RelV u u') (Ev Q : Value → Shared → Prop) (q : Q (.bool b) s) : wpAny (model X.prog X.w) A (richCompare .Eq v' u') Q Ev s := by
  have hu0 : A.units < cLine := by omega
  unfold eqDic at h
  split at h
  case isFalse hl =>
    cases h
    obtain ⟨a, o, es, ep, rfl, g1, g2, g3, g4, g5⟩ := rep_raw I hx rv
    obtain ⟨c, o', es', ep', rfl, k1, k2, k3, k4, k5⟩ := rep_raw I hy ru
    have ne : es.size ≠ es'.size := by rw [g5, k5]; exact hl
    refine rcRaw g1 k1 g2 g3 g4 k2 k3 k4 hu0 (.inl ne) Ev Q ?_
    rw [show (es.size == es'.size) = false by simpa using ne]
    exact q
  case isTrue hl =>
    split at h
    · rename_i h0
      cases h
      obtain ⟨a, o, es, ep, rfl, g1, g2, g3, g4, g5⟩ := rep_raw I hx rv
      obtain ⟨c, o', es', ep', rfl, k1, k2, k3, k4, k5⟩ := rep_raw I hy ru
      refine rcRaw g1 k1 g2 g3 g4 k2 k3 k4 hu0 (.inr (by rw [g5]; exact h0)) Ev Q ?_
      rw [show (es.size == es'.size) = true by rw [g5, k5, hl]; simp]
      exact q
    · rename_i hne
      obtain ⟨a, us, rfl, rx, cx⟩ := rep_dic hx
      obtain ⟨a', ws, rfl, ry, cy⟩ := rep_dic hy
      cases (show v' = Value.ref a from rv)
      cases (show u' = Value.ref a' from ru)
      have nk : ∀ {ks : List D} {kk : List (List Key)}, ks.length ≠ 0 → keysT ks = some kk → keysK ks = none := fun {ks kk} n g => by
        cases ks with
        | nil => exact absurd rfl n
        | cons d ks =>
          cases q : keysK (d :: ks) with
          | none => rfl
          | some z => exact (keysKT q g).elim
      have nt : ∀ {ks : List D} {kk : List Key}, ks.length ≠ 0 → keysK ks = some kk → keysT ks = none := fun {ks kk} n g => by
        cases ks with
        | nil => exact absurd rfl n
        | cons d ks =>
          cases q : keysT (d :: ks) with
          | none => rfl
          | some z => exact (keysKT g q).elim
      rcases cx with ⟨kk, g1, g2, g3, g4⟩ | ⟨kk, g1, g2, g3, g4⟩ <;> rcases cy with ⟨ll, k1, k2, k3, k4⟩ | ⟨ll, k1, k2, k3, k4⟩
      · rw [g1, k1] at h
        obtain ⟨_, ya, va, ra, da⟩ := dk_rd I.hok g3
        obtain ⟨_, yb, vb, rb, db⟩ := dk_rd I.hok k3
        refine PySem.W.rcP_dicts (knd := mixKind X.prog X.w) (r := b) ya yb da db hu0 (fun _ => hitK_run hE ry k2 rb h rx g2 ra) Ev Q ?_
        have e1 := ra.length
        have e2 := rb.length
        rw [List.length_zip, g2, Nat.min_self] at e1
        rw [List.length_zip, k2, Nat.min_self] at e2
        rw [show (va.length == vb.length) = true by rw [← e1, ← e2, ← g2, ← k2, ← keysK_length g1, ← keysK_length k1, hl]; simp, Bool.true_and]
        exact q
      · rw [nk (by rw [← hl]; exact hne) k1, g1] at h
        dsimp only at h
        rw [nt hne g1] at h
        cases h
      · rw [nk hne g1] at h
        dsimp only at h
        rw [nt (by rw [← hl]; exact hne) k1] at h
        rw [g1] at h
        cases h
      · rw [nk hne g1] at h
        dsimp only at h
        rw [g1, k1] at h
        obtain ⟨_, ya, va, ra, da⟩ := dt_rd I.hok g3
        obtain ⟨_, yb, vb, rb, db⟩ := dt_rd I.hok k3
        refine PySem.W.rcH_dicts (knd := tupleKind (mixKind X.prog X.w)) (r := b) (by show A.units + 1 < cLine; omega) ya yb da db hu0 (fun _ => hitT_run hE ry k2 rb h rx g2 ra) Ev Q ?_
        have e1 := Paired.length ra
        have e2 := Paired.length rb
        rw [List.length_zip, g2, Nat.min_self] at e1
        rw [List.length_zip, k2, Nat.min_self] at e2
        rw [show (va.length == vb.length) = true by rw [← e1, ← e2, ← g2, ← k2, ← keysT_length g1, ← keysT_length k1, hl]; simp, Bool.true_and]
        exact q
theorem tup_run (I : L2.Inv X pins σ H s) {E : D → D → Option Bool} (hE : Runs X H wv A.in1 s E) {x y : D} {v u : V} {v' u' : Value} {b : Bool} (h : eqN E x y = some b) (hx : Rep X.K ⟨H, wv⟩ x v) (hy : Rep X.K ⟨H, wv⟩ y u)
    (rv : L2.RelV v v') (ru : L2.RelV u u') : ∃ a c us zs k, v' = .ref a ∧ u' = .ref c ∧ s.heap.IsTuple a us ∧ s.heap.IsTuple c zs ∧ SeqAt.ZP X.prog X.w A.in1 s (us.toList.zip zs.toList) k ∧ b = (k && us.size == zs.size) := by
  unfold eqN at h
  split at h
  · rename_i xs ys ex ey
    split at h
    · rename_i k hk
      cases h
      obtain ⟨a, vs, rfl, q1, r1⟩ := hx.tupA ex
      obtain ⟨c, ws, rfl, q2, r2⟩ := hy.tupA ey
      cases (show v' = Value.ref a from rv)
      cases (show u' = Value.ref c from ru)
      obtain ⟨us, g1, g2, _⟩ := I.tuple q1
      obtain ⟨zs, k1, k2, _⟩ := I.tuple q2
      refine ⟨a, c, us.toArray, zs.toArray, k, rfl, rfl, g2, k2, by simpa using zp_run hE hk r1 r2 g1 k1, ?_⟩
      rw [List.size_toArray, List.size_toArray, ← g1.length, ← k1.length, ← r1.length, ← r2.length]
    · cases h
  · cases h
theorem rcS_run (I : L2.Inv X pins σ H s) (hu : A.units + 65 < cLine) {E : D → D → Option Bool} (hE : Runs X H wv A.in1 s E) {x y : D} {v u : V} {v' u' : Value} {b : Bool} (h : eqS E x y = some b) (hx : Rep X.K ⟨H, wv⟩ x v) (hy : Rep X.K ⟨H, wv⟩ y u)
    (rv : L2.RelV v v') (ru : L2.RelV u u') (Ev Q : Value → Shared → Prop) (q : Q (.bool b) s) : wpAny (model X.prog X.w) A (richCompare .Eq v' u') Q Ev s := by
  unfold eqS at h
  split at h
  · exact rcDic I hu hE h hx hy rv ru Ev Q q
  · obtain ⟨a, c, us, zs, k, rfl, rfl, g1, g2, g3, rfl⟩ := tup_run I hE h hx hy rv ru
    exact SeqAt.rcZ_eq g1 g2 (by omega) g3 Ev Q q
theorem eqS_ref {E : D → D → Option Bool} {x y : D} {v u : V} {b : Bool} (h : eqS E x y = some b) (hx : Rep X.K ⟨H, wv⟩ x v) (hy : Rep X.K ⟨H, wv⟩ y u) : ∃ a c, v = .ref a ∧ u = .ref c := by
  unfold eqS at h
  split at h
  · obtain ⟨a, _, rfl, _⟩ := rep_dic hx
    obtain ⟨c, _, rfl, _⟩ := rep_dic hy
    exact ⟨a, c, rfl, rfl⟩
  · unfold eqN at h
    split at h
    · rename_i xs ys ex ey
      obtain ⟨a, vs, rfl, _, _⟩ := hx.tupA ex
      obtain ⟨c, ws, rfl, _, _⟩ := hy.tupA ey
      exact ⟨a, c, rfl, rfl⟩
    · cases h
theorem relV_ex : ∀ v : V, ∃ u, L2.RelV v u
  | .non => ⟨.none, rfl⟩
  | .bl b => ⟨.bool b, rfl⟩
  | .int i => ⟨.int i 0, 0, rfl⟩
  | .str x => ⟨.str x 0, 0, rfl⟩
  | .byt b => ⟨.bytes b 0, 0, rfl⟩
  | .flt b => ⟨.float b 0, 0, rfl⟩
  | .ref a => ⟨.ref a, rfl⟩
  | .ty n => ⟨.type n, rfl⟩
theorem plE_some {x y : D} {b : Bool} (h : plE x y = some b) : ∃ p q, x.toP = some p ∧ y.toP = some q ∧ SeqAt.shaped p = true ∧ SeqAt.shaped q = true ∧ b = PyData.eqv p q := by
  unfold plE at h
  split at h
  · rename_i p q hp hq
    split at h
    · rename_i hs
      cases h
      obtain ⟨s1, s2⟩ := Bool.and_eq_true_iff.mp hs
      exact ⟨p, q, hp, hq, s1, s2, rfl⟩
    · cases h
  · cases h
theorem eqF_same (I : L2.Inv X pins σ H s) : ∀ n x y v b, eqF n x y = some b → Rep X.K ⟨H, wv⟩ x v → Rep X.K ⟨H, wv⟩ y v → b = true
  | 0, _, _, _, _, h, _, _ => by cases h
  | n + 1, x, y, v, b, h, hx, hy => by
    unfold eqF at h
    split at h
    · rename_i b' hb
      cases h
      obtain ⟨p, q, hp, hq, s1, s2, rfl⟩ := plE_some hb
      obtain ⟨v', rv⟩ := relV_ex v
      obtain ⟨as, r1⟩ := L2.Dp.reads I p v v' (hx.dp hp) rv
      obtain ⟨bs, r2⟩ := L2.Dp.reads I q v v' (hy.dp hq) rv
      have e := SeqAt.Reads.unique p q v' as bs (SeqAt.canLay_of_shaped s1) r1 r2
      subst e
      exact SeqAt.eqv_refl p (SeqAt.canLay_of_shaped s1)
    · exact eqS_same I (fun x y v b => eqF_same I n x y v b) h hx hy
theorem eqF_run (I : L2.Inv X pins σ H s) : ∀ (n : Nat) (A : Around), A.units + n + 65 < cLine → Runs X H wv A s (eqF n)
  | 0, _, _, _, _, _, _, _, _, _, h, _, _, _, _ => by cases h
  | n + 1, A, hu, x, y, v, u, v', u', b, h, hx, hy, rv, ru => by
    have h00 := h
    unfold eqF at h
    split at h
    · rename_i b' hb
      cases h
      obtain ⟨p, q, hp, hq, s1, s2, rfl⟩ := plE_some hb
      obtain ⟨as, r1⟩ := L2.Dp.reads I p v v' (hx.dp hp) rv
      obtain ⟨bs, r2⟩ := L2.Dp.reads I q u u' (hy.dp hq) ru
      exact (SeqAt.eqAt_reads p q A s v' u' as bs r1 r2 (SeqAt.canLay_of_shaped s1) (SeqAt.canLay_of_shaped s2) (SeqAt.room_of_shaped s1 (by omega))).eqP
    · obtain ⟨a, c, rfl, rfl⟩ := eqS_ref h hx hy
      cases (show v' = Value.ref a from rv)
      cases (show u' = Value.ref c from ru)
      by_cases e : a = c
      · subst e
        have hb := eqF_same I (n + 1) x y _ b h00 hx hy
        subst hb
        exact (SeqAt.EqAt.same _).eqP
      · exact SeqAt.eqP_refs e fun Ev Q q => rcS_run I (by omega) (eqF_run I n A.in1 (by show A.units + 1 + n + 65 < cLine; omega)) h hx hy rv ru Ev Q q
end
/-! ### the words -/
section
variable {X : Cx}
def rEqS (K : PySem.W.Frag) : R2 := fun v u H Q => ∃ (wv : Nat → Option Addr) (x y : D) (b : Bool), Rep K ⟨H, wv⟩ x v ∧ Rep K ⟨H, wv⟩ y u ∧ eqS (eqF 20) x y = some b ∧ Q (.bl b) H
def rNeS (K : PySem.W.Frag) : R2 := fun v u H Q => ∃ (wv : Nat → Option Addr) (x y : D) (b : Bool), Rep K ⟨H, wv⟩ x v ∧ Rep K ⟨H, wv⟩ y u ∧ eqN (eqF 20) x y = some b ∧ Q (.bl (!b)) H
theorem op_eqS (hu : X.A.units + 90 < cLine) : OpR X (compareOp .Eq) (rEqS X.K) := by
  intro pins s σ H x y v u Q I rx ry h
  obtain ⟨wv, dx, dy, b, hx, hy, e, q⟩ := h
  exact rcS_run (A := X.A) I (by omega) (eqF_run I 20 X.A.in1 (by show X.A.units + 1 + 20 + 65 < cLine; omega)) e hx hy rx ry _ _ ⟨.bl b, H, I, rfl, q⟩
theorem op_neS (hu : X.A.units + 90 < cLine) : OpR X (compareOp .NotEq) (rNeS X.K) := by
  intro pins s σ H x y v u Q I rx ry h
  obtain ⟨wv, dx, dy, b, hx, hy, e, q⟩ := h
  obtain ⟨a, c, us, zs, k, rfl, rfl, g1, g2, g3, rfl⟩ := tup_run (A := X.A) I (eqF_run I 20 X.A.in1 (by show X.A.units + 1 + 20 + 65 < cLine; omega)) e hx hy rx ry
  exact SeqAt.rcZ_ne g1 g2 (by omega) g3 _ _ ⟨.bl _, H, I, rfl, q⟩
def pEqD : Pr2 := fun x y => match eqS (eqF 20) x y with
  | some b => some (.bl b, false)
  | none => none
def pNeD : Pr2 := fun x y => match eqN (eqF 20) x y with
  | some b => some (.bl (!b), false)
  | none => none
theorem p2_eqS : P2 X (rEqS X.K) pEqD := by
  intro Hh H x y v u d fr Q e vx vy q gv
  unfold pEqD at q
  split at q
  · rename_i b hb
    cases q
    exact ⟨Hh.w, x, y, b, vx.rep e, vy.rep e, hb, gv.old rfl _ (.bl _)⟩
  · cases q
theorem p2_neS : P2 X (rNeS X.K) pNeD := by
  intro Hh H x y v u d fr Q e vx vy q gv
  unfold pNeD at q
  split at q
  · rename_i b hb
    cases q
    exact ⟨Hh.w, x, y, b, vx.rep e, vy.rep e, hb, gv.old rfl _ (.bl _)⟩
  · cases q
end
end Dz
/-! SzDw: the words of SzDeq2. -/
namespace Dz
open PySem PyProof.Rows L2
section
variable {X : Cx}
theorem Room.units90 {k : Nat} {A : Around} (r : Room k A) : A.units + 90 < cLine := by have := r.un; omega
theorem e_eqS {k : Nat} (hr : Room k X.A) {f g : OF} {a b : Expr} {pos : Pos} (hf : SO X f a) (hg : SO X g b) : SE X (fOp2 pEqD f g) (.Compare a [.Eq] [b] pos) := se_cmp (op_eqS (Room.units90 hr)) p2_eqS hf hg (nomark _)
theorem e_neS {k : Nat} (hr : Room k X.A) {f g : OF} {a b : Expr} {pos : Pos} (hf : SO X f a) (hg : SO X g b) : SE X (fOp2 pNeD f g) (.Compare a [.NotEq] [b] pos) := se_cmp (op_neS (Room.units90 hr)) p2_neS hf hg (nomark _)
theorem t_eqS {k : Nat} (hr : Room k X.A) {f g : OF} {a b : Expr} {pos : Pos} (hf : SO X f a) (hg : SO X g b) : ST X (tCp (fOp2 pEqD f g)) (.Compare a [.Eq] [b] pos) := st_rel (op_eqS (Room.units90 hr)) p2_eqS hf hg (nomark _)
theorem t_neS {k : Nat} (hr : Room k X.A) {f g : OF} {a b : Expr} {pos : Pos} (hf : SO X f a) (hg : SO X g b) : ST X (tCp (fOp2 pNeD f g)) (.Compare a [.NotEq] [b] pos) := st_rel (op_neS (Room.units90 hr)) p2_neS hf hg (nomark _)
def tAltF (f g : TF) : TF := fun env => match f env with
  | some r => some r
  | none => g env
theorem st_alt {f g : TF} {e : Expr} (hf : ST X f e) (hg : ST X g e) : ST X (tAltF f g) e := by
  refine ⟨?_⟩
  intro A own env σ H b env' r h Q k
  unfold tAltF at h
  split at h
  · rename_i z h1
    cases h
    exact hf A own env σ H b env' r h1 Q k
  · exact hg A own env σ H b env' r h Q k
end
end Dz
/-! SzIl: isinstance(x, c), x shows the place of a dict. -/
namespace Dz
open PySem PyProof.Rows L2
theorem isiD_ok {K : PySem.W.Frag} : ∀ c ∈ tcls, PySem.W.kitOne K (.type "dict") (.type c) = some (isiB "dict" c) := fun c hc => kit_ty (by
  revert c
  decide +kernel)
def fIsiL (f : LF) : EF := fun env => match f env with
  | some ([.inl (.loc j), .inl (.ty n)], e) => match e.st[j]? with
    | some (.dic _ _) => if tcls.contains n then some (.bl (isiB "dict" n), false, e) else none
    | _ => none
  | _ => none
theorem e_isiL {X : Cx} {p pos : Pos} {a b : Expr} {f : LF} (hm : X.mg "isinstance" = none) (hf : SL X f [a, b]) (hg : Gl X "isinstance" := by rfl) (he : plainE a = true := by rfl) (hpl : plainE b = true := by rfl) : SE X (fIsiL f) (.Call (.Name "isinstance" p) [a, b] [] pos) := by
  refine ⟨?_⟩
  intro A own env σ H d fr env' R h Q k
  unfold fIsiL at h
  split at h
  case h_2 => cases h
  rename_i j n e1 q1
  split at h
  case h_2 => cases h
  rename_i ks xs q2
  split at h
  case isFalse => cases h
  rename_i hn
  cases h
  refine we_of (pe_callB call_isiA hg hm (by decide +kernel) pa_w (by decide) (by decide) (star1 he) (plain_any (es := [b]) (by simp [hpl]))) (hf A own env σ H _ _ R q1 _ fun vs H1 own1 s1 R1 oks => ?_)
  cases oks with
  | cons o1 r1 => cases r1 with
    | cons o2 r2 =>
      cases r2
      have rp : Rep X.K (hd (hid A own1) H1) (.loc j) _ := o1
      have rt : Rep X.K (hd (hid A own1) H1) (.ty n) _ := o2
      cases rt
      cases rp with
      | loc h1 =>
        rename_i a
        have h1 : own1 (.inr j) = some a := h1
        obtain ⟨a', h3, t⟩ := R1.ce j _ q2
        rw [h1] at h3
        cases h3
        have t := t.un rfl
        have ty : TyX X.K H1 (.ref a) (.type "dict") := by
          cases t with
          | dicK g1 g2 g3 g4 g5 => exact .base (.dK g3)
          | dicT g1 g2 g3 g4 g5 => exact .base (.dT g3)
        exact .inl ⟨_, _, .type "dict", .type n, isiB "dict" n, rfl, .ty n, ty, isiD_ok n (by simpa using hn), k _ _ own1 s1 ⟨R1, .bl _, fun z => by cases z⟩⟩
end Dz
set_option maxHeartbeats 4000000
namespace Tx
noncomputable section
open PySem PyProof.Rows L2 Dz
def top (i : Nat) : Stmt := PySem.Challenge.pw_openchange_k60_whole_objects.main.body.getD i (.Pass ⟨0, 0, 0, 0⟩)
def clsL : List Str := ["Schema", "Woven", "Terms", "Enough", "TooShort"]
def eqL : List Str := ["Schema", "Woven", "Terms", "Enough", "TooShort"]
def iownL : List Str := ["Schema", "Woven", "Terms", "Enough", "TooShort"]
def isubL : List (Str × Str × Bool) := isubOf clsL iownL
def atts : List (Str × List Str) := [("Schema", ["tables"]), ("Woven", ["length", "starts", "chain"]), ("Terms", ["length", "delay", "wait", "drift"]), ("Enough", ["margin"]), ("TooShort", ["tells", "made", "came", "used"])]
abbrev s__wall : Stmt := top 1
theorem sc__wall : FnScope ["k"] ["k"] (defScope s__wall) := ⟨rfl, rfl, rfl, by decide +kernel, rfl, by decide +kernel, by decide +kernel⟩
abbrev b__wall  : SF :=
  (bCons (whL (tOf (oE (fCon (.bl true)))) (bCons bNil bNil) 100000) bNil)
theorem ok__wall {P : Program} {w : World} {K : PySem.W.Frag} {mg : Str → Option Value} {base : Heap} {fa : Addr}  (F : ∃ fd, FunD K "_wall" "_wall" (defArgs s__wall) (defBody s__wall) (defScope s__wall) [] [] fa fd) : CalF P w K mg base 2 fa 1 (runB 1 (b__wall )) :=
  calF F sc__wall (fun _ _ _ _ _ _ us hl => match us, hl with | [_], _ => rfl) fun cdv A outer s H E hr =>
    (sb_cons (ss_while PassesOwn.never (t_of (so_e se_bl)) (sb_cons ss_pass sb_nil)) sb_nil)

abbrev s_is_integer : Stmt := top 3
theorem sc_is_integer : FnScope ["value"] ["value"] (defScope s_is_integer) := ⟨rfl, rfl, rfl, by decide +kernel, rfl, by decide +kernel, by decide +kernel⟩
abbrev b_is_integer  : SF :=
  (bCons (sRt (vAnd (fPrim pIsi (lCons (oVar 0) (lCons (oE (fCon (.ty "int"))) lNil))) (vNot (fPrim pIsi (lCons (oVar 0) (lCons (oE (fCon (.ty "bool"))) lNil)))))) bNil)
theorem ok_is_integer {P : Program} {w : World} {K : PySem.W.Frag} {mg : Str → Option Value} {base : Heap} {fa : Addr}  (F : ∃ fd, FunD K "is_integer" "is_integer" (defArgs s_is_integer) (defBody s_is_integer) (defScope s_is_integer) [] [] fa fd)
    (b_isinstance : mg "isinstance" = none)
    (b_int : mg "int" = none)
    (b_bool : mg "bool" = none) : CalF P w K mg base 2 fa 1 (runB 1 (b_is_integer )) :=
  calF F sc_is_integer (fun _ _ _ _ _ _ us hl => match us, hl with | [_], _ => rfl) fun cdv A outer s H E hr =>
    (sb_cons (ss_ret (se_and (e_isi b_isinstance (lc (ov 0) (lc (so_e (e_ty b_int (by decide +kernel))) sl_nil))) (se_one (se_not (e_isi b_isinstance (lc (ov 0) (lc (so_e (e_ty b_bool (by decide +kernel))) sl_nil))))))) sb_nil)

abbrev s_is_pair : Stmt := top 4
theorem sc_is_pair : FnScope ["value"] ["value"] (defScope s_is_pair) := ⟨rfl, rfl, rfl, by decide +kernel, rfl, by decide +kernel, by decide +kernel⟩
abbrev b_is_pair  : SF :=
  (bCons (sRt (vAnd (fPrim pIsi (lCons (oVar 0) (lCons (oE (fCon (.ty "tuple"))) lNil))) (fOp2 (pEqv false) (oE (fPrim (porN pLen pLenD) (lCons (oVar 0) lNil))) (oE (fCon (.int 2)))))) bNil)
theorem ok_is_pair {P : Program} {w : World} {K : PySem.W.Frag} {mg : Str → Option Value} {base : Heap} {fa : Addr}  (F : ∃ fd, FunD K "is_pair" "is_pair" (defArgs s_is_pair) (defBody s_is_pair) (defScope s_is_pair) [] [] fa fd)
    (b_isinstance : mg "isinstance" = none)
    (b_tuple : mg "tuple" = none)
    (b_len : mg "len" = none) : CalF P w K mg base 2 fa 1 (runB 1 (b_is_pair )) :=
  calF F sc_is_pair (fun _ _ _ _ _ _ us hl => match us, hl with | [_], _ => rfl) fun cdv A outer s H E hr =>
    (sb_cons (ss_ret (se_and (e_isi b_isinstance (lc (ov 0) (lc (so_e (e_ty b_tuple (by decide +kernel))) sl_nil))) (se_one (e_eq hr (so_e (e_len b_len (lc (ov 0) sl_nil))) (so_e se_int))))) sb_nil)

abbrev s__is_term : Stmt := top 20
theorem sc__is_term : FnScope ["value", "least"] ["value", "least"] (defScope s__is_term) := ⟨rfl, rfl, rfl, by decide +kernel, rfl, by decide +kernel, by decide +kernel⟩
abbrev b__is_term (r_is_integer : Dz.Run) : SF :=
  (bCons (sRt (vAnd (fCall 1 r_is_integer (lCons (oVar 0) lNil)) (fChain pLe pLe (oVar 1) (oVar 0) (oE (fCon (.int 1000000)))))) bNil)
theorem ok__is_term {P : Program} {w : World} {K : PySem.W.Frag} {mg : Str → Option Value} {base : Heap} {fa : Addr} {a_is_integer : Addr} {r_is_integer : Dz.Run} (F : ∃ fd, FunD K "_is_term" "_is_term" (defArgs s__is_term) (defBody s__is_term) (defScope s__is_term) [] [] fa fd)
    (c_is_integer : CalF P w K mg base 2 a_is_integer 1 r_is_integer) (m_is_integer : mg "is_integer" = some (.ref a_is_integer))
    (v_MOST_TERM : GloC K mg "MOST_TERM" (.int 1000000)) : CalF P w K mg base 3 fa 2 (runB 2 (b__is_term r_is_integer)) :=
  calF F sc__is_term (fun _ _ _ _ _ _ us hl => match us, hl with | [_, _], _ => rfl) fun cdv A outer s H E hr =>
    (sb_cons (ss_ret (se_and (e_call c_is_integer (hr.mono (by decide)) m_is_integer (lc (ov 0) sl_nil)) (se_one (se_chain op_le op_le p2_le p2_le (ov 1) (ov 0) (so_e (e_gloC v_MOST_TERM)))))) sb_nil)

abbrev s__is_fraction : Stmt := top 21
theorem sc__is_fraction : FnScope ["value"] ["value"] (defScope s__is_fraction) := ⟨rfl, rfl, rfl, by decide +kernel, rfl, by decide +kernel, by decide +kernel⟩
abbrev b__is_fraction (r_is_pair : Dz.Run) (r_is_integer : Dz.Run) (r_Enough___bool__ : Dz.Run) (r_TooShort___bool__ : Dz.Run) : SF :=
  (bCons (sIf (tOrF (tNotF (tOfO [("Enough", "__bool__", 1, r_Enough___bool__), ("TooShort", "__bool__", 1, r_TooShort___bool__)] (oE (fCall 1 r_is_pair (lCons (oVar 0) lNil))))) (tOrF (tNotF (tOfO [("Enough", "__bool__", 1, r_Enough___bool__), ("TooShort", "__bool__", 1, r_TooShort___bool__)] (oE (fCall 1 r_is_integer (lCons (oE (fOp2 pIxD (oVar 0) (oE (fCon (.int 0))))) lNil))))) (tNotF (tOfO [("Enough", "__bool__", 1, r_Enough___bool__), ("TooShort", "__bool__", 1, r_TooShort___bool__)] (oE (fCall 1 r_is_integer (lCons (oE (fOp2 pIxD (oVar 0) (oE (fCon (.int 1))))) lNil))))))) (bCons (sRt (fCon (.bl false))) bNil) bNil) (bCons (sRt (vAnd (fOp2 pGe (oE (fOp2 pIxD (oVar 0) (oE (fCon (.int 0))))) (oE (fCon (.int 0)))) (vAnd (fOp2 pGe (oE (fOp2 pIxD (oVar 0) (oE (fCon (.int 1))))) (oE (fCon (.int 1)))) (fOp2 (pEqv false) (oE (fPrim pGcd (lCons (oE (fOp2 pIxD (oVar 0) (oE (fCon (.int 0))))) (lCons (oE (fOp2 pIxD (oVar 0) (oE (fCon (.int 1))))) lNil)))) (oE (fCon (.int 1))))))) bNil))
theorem ok__is_fraction {P : Program} {w : World} {K : PySem.W.Frag} {mg : Str → Option Value} {base : Heap} {fa : Addr} {a_is_pair : Addr} {r_is_pair : Dz.Run} {a_is_integer : Addr} {r_is_integer : Dz.Run} {r_Enough___bool__ : Dz.Run} {r_TooShort___bool__ : Dz.Run} (F : ∃ fd, FunD K "_is_fraction" "_is_fraction" (defArgs s__is_fraction) (defBody s__is_fraction) (defScope s__is_fraction) [] [] fa fd)
    (c_is_pair : CalF P w K mg base 2 a_is_pair 1 r_is_pair) (m_is_pair : mg "is_pair" = some (.ref a_is_pair))
    (c_is_integer : CalF P w K mg base 2 a_is_integer 1 r_is_integer) (m_is_integer : mg "is_integer" = some (.ref a_is_integer))
    (mm___bool__ : MtOk P w K mg base 2 [("Enough", "__bool__", 1, r_Enough___bool__), ("TooShort", "__bool__", 1, r_TooShort___bool__)])
    (h_gcd : mg "gcd" = some (.builtin "math.gcd")) : CalF P w K mg base 5 fa 1 (runB 1 (b__is_fraction r_is_pair r_is_integer r_Enough___bool__ r_TooShort___bool__)) :=
  calF F sc__is_fraction (fun _ _ _ _ _ _ us hl => match us, hl with | [_], _ => rfl) fun cdv A outer s H E hr =>
    (sb_cons (ss_if (SW.st (sw_or (st_not (st_ofO mm___bool__ (hr.mono (by decide)) (so_e (e_call c_is_pair (hr.mono (by decide)) m_is_pair (lc (ov 0) sl_nil))))) (sw_or (st_not (st_ofO mm___bool__ (hr.mono (by decide)) (so_e (e_call c_is_integer (hr.mono (by decide)) m_is_integer (lc (so_e (e_ixD hr (ov 0) (so_e se_int))) sl_nil))))) (sw_or1 (st_not (st_ofO mm___bool__ (hr.mono (by decide)) (so_e (e_call c_is_integer (hr.mono (by decide)) m_is_integer (lc (so_e (e_ixD hr (ov 0) (so_e se_int))) sl_nil))))))))) (sb_cons (ss_ret se_bl) sb_nil) sb_nil) (sb_cons (ss_ret (se_and (e_ge (so_e (e_ixD hr (ov 0) (so_e se_int))) (so_e se_int)) (se_and (e_ge (so_e (e_ixD hr (ov 0) (so_e se_int))) (so_e se_int)) (se_one (e_eq hr (so_e (e_gcd h_gcd (lc (so_e (e_ixD hr (ov 0) (so_e se_int))) (lc (so_e (e_ixD hr (ov 0) (so_e se_int))) sl_nil)))) (so_e se_int)))))) sb_nil))

abbrev s__law_number : Stmt := top 23
theorem sc__law_number : FnScope ["script", "index", "rest", "step", "blend", "cell", "turn"] ["script", "index"] (defScope s__law_number) := ⟨rfl, rfl, rfl, by decide +kernel, rfl, by decide +kernel, by decide +kernel⟩
abbrev b__law_number  : SF :=
  (bCons (sAsg (gTp (gsCons (gNm 5) (gsCons (gNm 6) gsNil))) (fIf (tCp (fOp2 (pEqv true) (oVar 0) (oE (fLst aNil)))) (fTup (aCons (fOp2 pIxD (oVar 0) (oE (fOp2 pMod (oVar 1) (oE (fPrim (porN pLen pLenD) (lCons (oVar 0) lNil)))))) (aCons (fOp2 pFdiv (oVar 1) (oE (fPrim (porN pLen pLenD) (lCons (oVar 0) lNil)))) aNil))) (fTup (aCons (fCon (.int 12345)) (aCons (fCon (.int 0)) aNil))))) (bCons (sSet 2 (fIf (tCp (fOp2 pLt (oVar 6) (oE (fCon (.int 60))))) (fOp2 pSub (oVar 5) (oE (fOp2 pPow (oE (fCon (.int 10))) (oE (fCon (.int 18)))))) (fCon (.int 0)))) (bCons (sFor (iR1 (fOp2 pMod (oE (fPrim pInt (lCons (oVar 6) lNil))) (oE (fCon (.int 60))))) (gNm 3) (bCons (sSet 2 (fOp2 pFdiv (oVar 2) (oE (fCon (.int 1009))))) bNil)) (bCons (sIf (tCp (fOp2 pGt (oVar 2) (oE (fCon (.int 0))))) (bCons (sRt (fOp2 pMod (oE (fPrim pInt (lCons (oVar 2) lNil))) (oE (fCon (.int 1009))))) bNil) bNil) (bCons (sSet 4 (fOp2 pMod (oE (fOp2 pAdd (oE (fOp2 pMul (oE (fPrim pInt (lCons (oE (fOp2 pAdd (oVar 5) (oE (fOp2 pMul (oE (fCon (.int 977))) (oVar 1))))) lNil))) (oE (fCon (.int 48271))))) (oE (fOp2 pMul (oE (fCon (.int 31))) (oE (fPrim (porN pLen pLenD) (lCons (oVar 0) lNil))))))) (oE (fCon (.int 2147483647))))) (bCons (sSet 4 (fOp2 pMod (oE (fOp2 pAdd (oE (fOp2 pMul (oVar 4) (oVar 4))) (oE (fOp2 pMul (oE (fCon (.int 40503))) (oVar 1))))) (oE (fCon (.int 2147483629))))) (bCons (sRt (fPrim pInt (lCons (oE (fOp2 pMod (oE (fOp2 pAdd (oE (fOp2 pMul (oVar 4) (oE (fCon (.int 69621))))) (oE (fOp2 pFdiv (oVar 4) (oE (fCon (.int 977))))))) (oE (fCon (.int 2147483587))))) lNil))) bNil)))))))
theorem ok__law_number {P : Program} {w : World} {K : PySem.W.Frag} {mg : Str → Option Value} {base : Heap} {fa : Addr}  (F : ∃ fd, FunD K "_law_number" "_law_number" (defArgs s__law_number) (defBody s__law_number) (defScope s__law_number) [] [] fa fd)
    (b_int : mg "int" = none)
    (b_len : mg "len" = none)
    (b_range : mg "range" = none) : CalF P w K mg base 2 fa 2 (runB 7 (b__law_number )) :=
  calF F sc__law_number (fun _ _ _ _ _ _ us hl => match us, hl with | [_, _], _ => rfl) fun cdv A outer s H E hr =>
    (sb_cons (s_asg (g_tup rfl (g_cons (g_nm 5 sc__law_number.nd) (g_cons (g_nm 6 sc__law_number.nd) sgs_nil)) (gs_lenS (gs_lenS gs_len0))) (se_if (t_ne hr (ov 0) (so_e (se_lst sa_nil))) (se_tup (ac (e_ixD hr (ov 0) (so_e (e_mod (ov 1) (so_e (e_len b_len (lc (ov 0) sl_nil)))))) (ac (e_fdiv (ov 1) (so_e (e_len b_len (lc (ov 0) sl_nil)))) sa_nil))) (se_tup (ac se_int (ac se_int sa_nil))))) (sb_cons (s_set 2 sc__law_number.nd (se_if (t_lt (ov 6) (so_e se_int)) (e_sub (ov 5) (so_e (e_pow (so_e se_int) (so_e se_int)))) se_int)) (sb_cons (s_for PassesOwn.never rfl (i_r1 b_range (e_mod (so_e (e_int b_int (lc (ov 6) sl_nil))) (so_e se_int))) (g_nm 3 sc__law_number.nd) (sb_cons (s_set 2 sc__law_number.nd (e_fdiv (ov 2) (so_e se_int))) sb_nil)) (sb_cons (ss_if (t_gt (ov 2) (so_e se_int)) (sb_cons (ss_ret (e_mod (so_e (e_int b_int (lc (ov 2) sl_nil))) (so_e se_int))) sb_nil) sb_nil) (sb_cons (s_set 4 sc__law_number.nd (e_mod (so_e (e_add (so_e (e_mul (so_e (e_int b_int (lc (so_e (e_add (ov 5) (so_e (e_mul (so_e se_int) (ov 1))))) sl_nil))) (so_e se_int))) (so_e (e_mul (so_e se_int) (so_e (e_len b_len (lc (ov 0) sl_nil))))))) (so_e se_int))) (sb_cons (s_set 4 sc__law_number.nd (e_mod (so_e (e_add (so_e (e_mul (ov 4) (ov 4))) (so_e (e_mul (so_e se_int) (ov 1))))) (so_e se_int))) (sb_cons (ss_ret (e_int b_int (lc (so_e (e_mod (so_e (e_add (so_e (e_mul (ov 4) (so_e se_int))) (so_e (e_fdiv (ov 4) (so_e se_int))))) (so_e se_int))) sl_nil))) sb_nil)))))))

abbrev s__law_take : Stmt := top 24
theorem sc__law_take : FnScope ["draw", "many"] ["draw", "many"] (defScope s__law_take) := ⟨rfl, rfl, rfl, by decide +kernel, rfl, by decide +kernel, by decide +kernel⟩
abbrev b__law_take (r__law_number : Dz.Run) : SF :=
  (bCons (sAugL 0 (fCon (.int 1)) (fCon (.int 1))) (bCons (sRt (fOp2 pMod (oE (fPrim pInt (lCons (oE (fCall 2 r__law_number (lCons (oE (fOp2 pIxD (oVar 0) (oE (fCon (.int 0))))) (lCons (oE (fPrim pInt (lCons (oE (fOp2 pIxD (oVar 0) (oE (fCon (.int 1))))) lNil))) lNil)))) lNil))) (oVar 1))) bNil))
theorem ok__law_take {P : Program} {w : World} {K : PySem.W.Frag} {mg : Str → Option Value} {base : Heap} {fa : Addr} {a__law_number : Addr} {r__law_number : Dz.Run} (F : ∃ fd, FunD K "_law_take" "_law_take" (defArgs s__law_take) (defBody s__law_take) (defScope s__law_take) [] [] fa fd)
    (c__law_number : CalF P w K mg base 2 a__law_number 2 r__law_number) (m__law_number : mg "_law_number" = some (.ref a__law_number))
    (b_int : mg "int" = none) : CalF P w K mg base 3 fa 2 (runB 2 (b__law_take r__law_number)) :=
  calF F sc__law_take (fun _ _ _ _ _ _ us hl => match us, hl with | [_, _], _ => rfl) fun cdv A outer s H E hr =>
    (sb_cons (s_augL 0 se_int se_int) (sb_cons (ss_ret (e_mod (so_e (e_int b_int (lc (so_e (e_call c__law_number (hr.mono (by decide)) m__law_number (lc (so_e (e_ixD hr (ov 0) (so_e se_int))) (lc (so_e (e_int b_int (lc (so_e (e_ixD hr (ov 0) (so_e se_int))) sl_nil))) sl_nil)))) sl_nil))) (ov 1))) sb_nil))

abbrev s__law_made : Stmt := top 25
theorem sc__law_made : FnScope ["draw", "kind", "number", "row", "starts", "chain"] ["draw", "kind"] (defScope s__law_made) := ⟨rfl, rfl, rfl, by decide +kernel, rfl, by decide +kernel, by decide +kernel⟩
abbrev b__law_made (r__law_take : Dz.Run) (r_Terms___init__ : Dz.Run) (r_Woven___init__ : Dz.Run) (r_TooShort___init__ : Dz.Run) (r_Enough___init__ : Dz.Run) : SF :=
  (bCons (sPar 2 3 (fCall 2 r__law_take (lCons (oVar 0) (lCons (oE (fCon (.int 2))) lNil))) (fBox (fLst (aCons (fTup (aCons (fCall 2 r__law_take (lCons (oVar 0) (lCons (oE (fCon (.int 2))) lNil))) (aCons (fCon (.int 1)) aNil))) (aCons (fTup (aCons (fCon (.int 3)) (aCons (fCon (.int 1)) aNil))) aNil))))) (bCons (sIf (tCp (fOp2 (pEqv false) (oVar 1) (oE (fCon (.int 0))))) (bCons (sRt (fTup (aCons (fVar 3) (aCons (fTup (aCons (fTup (aCons (fVar 2) (aCons (fCon (.int 1)) aNil))) aNil)) (aCons (fMake "Enough" 2 r_Enough___init__ (lCons (oE (fTup (aCons (fVar 2) (aCons (fCon (.int 1)) aNil)))) lNil)) aNil))))) bNil) bNil) (bCons (sIf (tCp (fOp2 (pEqv false) (oVar 1) (oE (fCon (.int 1))))) (bCons (sRt (fTup (aCons (fVar 3) (aCons (fTup (aCons (fPrim pTuple (lCons (oVar 3) lNil)) (aCons (fTup (aCons (fVar 2) (aCons (fCon (.int 1)) aNil))) (aCons (fTup (aCons (fCon (.int 2)) (aCons (fCon (.int 1)) aNil))) (aCons (fTup (aCons (fCon (.int 5)) (aCons (fCon (.int 2)) aNil))) aNil))))) (aCons (fMake "TooShort" 5 r_TooShort___init__ (lCons (oVar 3) (lCons (oE (fTup (aCons (fVar 2) (aCons (fCon (.int 1)) aNil)))) (lCons (oE (fTup (aCons (fCon (.int 2)) (aCons (fCon (.int 1)) aNil)))) (lCons (oE (fTup (aCons (fCon (.int 5)) (aCons (fCon (.int 2)) aNil)))) lNil))))) aNil))))) bNil) bNil) (bCons (sIf (tCp (fOp2 (pEqv false) (oVar 1) (oE (fCon (.int 2))))) (bCons (sPar 4 5 (fBox (fDispT1 (fTup (aCons (fCon (.str "add")) (aCons (fCon (.str "index")) (aCons (fCon (.str "t")) (aCons (fCon (.str "a")) aNil))))) (fVar 2))) (fBox (fOp2 pMulL (oE (fLst (aCons (fTup (aCons (fCon (.str "add")) (aCons (fCon (.str "index")) (aCons (fCon (.str "t")) (aCons (fCon (.str "a")) aNil))))) aNil))) (oVar 2)))) (bCons (sRt (fTup (aCons (fVar 4) (aCons (fTup (aCons (fCon (.int 4)) (aCons (fPrim (porN pDict pDictT) (lCons (oVar 4) lNil)) (aCons (fPrim pTuple (lCons (oVar 5) lNil)) aNil)))) (aCons (fMake "Woven" 4 r_Woven___init__ (lCons (oE (fCon (.int 4))) (lCons (oVar 4) (lCons (oVar 5) lNil)))) aNil))))) bNil)) bNil) (bCons (sRt (fTup (aCons (fVar 3) (aCons (fTup (aCons (fCon (.int 5)) (aCons (fVar 2) (aCons (fCon (.int 7)) (aCons (fTup (aCons (fCon (.int 1)) (aCons (fOp2 pAdd (oE (fCon (.int 2))) (oVar 2)) aNil))) aNil))))) (aCons (fMake "Terms" 5 r_Terms___init__ (lCons (oE (fCon (.int 5))) (lCons (oVar 2) (lCons (oE (fCon (.int 7))) (lCons (oE (fTup (aCons (fCon (.int 1)) (aCons (fOp2 pAdd (oE (fCon (.int 2))) (oVar 2)) aNil)))) lNil))))) aNil))))) bNil)))))
theorem ok__law_made {P : Program} {w : World} {K : PySem.W.Frag} {mg : Str → Option Value} {base : Heap} {fa : Addr} {a__law_take : Addr} {r__law_take : Dz.Run} {a_Terms___init__ : Addr} {r_Terms___init__ : Dz.Run} {a_Woven___init__ : Addr} {r_Woven___init__ : Dz.Run} {a_TooShort___init__ : Addr} {r_TooShort___init__ : Dz.Run} {a_Enough___init__ : Addr} {r_Enough___init__ : Dz.Run} (F : ∃ fd, FunD K "_law_made" "_law_made" (defArgs s__law_made) (defBody s__law_made) (defScope s__law_made) [] [] fa fd)
    (c__law_take : CalF P w K mg base 3 a__law_take 2 r__law_take) (m__law_take : mg "_law_take" = some (.ref a__law_take))
    (c_Terms___init__ : CalF P w K mg base 6 a_Terms___init__ 5 r_Terms___init__) (mk_Terms : Mk K (He.ga K "Terms") a_Terms___init__) (m_Terms : mg "Terms" = some (.ref (He.ga K "Terms")))
    (c_Woven___init__ : CalF P w K mg base 2 a_Woven___init__ 4 r_Woven___init__) (mk_Woven : Mk K (He.ga K "Woven") a_Woven___init__) (m_Woven : mg "Woven" = some (.ref (He.ga K "Woven")))
    (c_TooShort___init__ : CalF P w K mg base 2 a_TooShort___init__ 5 r_TooShort___init__) (mk_TooShort : Mk K (He.ga K "TooShort") a_TooShort___init__) (m_TooShort : mg "TooShort" = some (.ref (He.ga K "TooShort")))
    (c_Enough___init__ : CalF P w K mg base 2 a_Enough___init__ 2 r_Enough___init__) (mk_Enough : Mk K (He.ga K "Enough") a_Enough___init__) (m_Enough : mg "Enough" = some (.ref (He.ga K "Enough")))
    (b_tuple : mg "tuple" = none)
    (b_dict : mg "dict" = none) : CalF P w K mg base 8 fa 2 (runB 6 (b__law_made r__law_take r_Terms___init__ r_Woven___init__ r_TooShort___init__ r_Enough___init__)) :=
  calF F sc__law_made (fun _ _ _ _ _ _ us hl => match us, hl with | [_, _], _ => rfl) fun cdv A outer s H E hr =>
    (sb_cons (ss_par (i := 2) (j := 3) rfl sc__law_made.nd rfl rfl (by decide) rfl rfl (e_call c__law_take (hr.mono (by decide)) m__law_take (lc (ov 0) (lc (so_e se_int) sl_nil))) (se_box (se_lst (ac (se_tup (ac (e_call c__law_take (hr.mono (by decide)) m__law_take (lc (ov 0) (lc (so_e se_int) sl_nil))) (ac se_int sa_nil))) (ac (se_tup (ac se_int (ac se_int sa_nil))) sa_nil)))) rfl rfl rfl rfl) (sb_cons (ss_if (t_eq hr (ov 1) (so_e se_int)) (sb_cons (ss_ret (se_tup (ac (ev 3) (ac (se_tup (ac (se_tup (ac (ev 2) (ac se_int sa_nil))) sa_nil)) (ac (e_make c_Enough___init__ mk_Enough (hr.mono (by decide)) m_Enough (lc (so_e (se_tup (ac (ev 2) (ac se_int sa_nil)))) sl_nil)) sa_nil))))) sb_nil) sb_nil) (sb_cons (ss_if (t_eq hr (ov 1) (so_e se_int)) (sb_cons (ss_ret (se_tup (ac (ev 3) (ac (se_tup (ac (e_tuple b_tuple (lc (ov 3) sl_nil)) (ac (se_tup (ac (ev 2) (ac se_int sa_nil))) (ac (se_tup (ac se_int (ac se_int sa_nil))) (ac (se_tup (ac se_int (ac se_int sa_nil))) sa_nil))))) (ac (e_make c_TooShort___init__ mk_TooShort (hr.mono (by decide)) m_TooShort (lc (ov 3) (lc (so_e (se_tup (ac (ev 2) (ac se_int sa_nil)))) (lc (so_e (se_tup (ac se_int (ac se_int sa_nil)))) (lc (so_e (se_tup (ac se_int (ac se_int sa_nil)))) sl_nil))))) sa_nil))))) sb_nil) sb_nil) (sb_cons (ss_if (t_eq hr (ov 1) (so_e se_int)) (sb_cons (ss_par (i := 4) (j := 5) rfl sc__law_made.nd rfl rfl (by decide) rfl rfl (se_box (e_dispT1 hr (se_tup (ac se_str (ac se_str (ac se_str (ac se_str sa_nil))))) (ev 2))) (se_box (e_mulL (so_e (se_lst (ac (se_tup (ac se_str (ac se_str (ac se_str (ac se_str sa_nil))))) sa_nil))) (ov 2))) rfl rfl rfl rfl) (sb_cons (ss_ret (se_tup (ac (ev 4) (ac (se_tup (ac se_int (ac (e_dict2 rfl hr b_dict (lc (ov 4) sl_nil)) (ac (e_tuple b_tuple (lc (ov 5) sl_nil)) sa_nil)))) (ac (e_make c_Woven___init__ mk_Woven (hr.mono (by decide)) m_Woven (lc (so_e se_int) (lc (ov 4) (lc (ov 5) sl_nil)))) sa_nil))))) sb_nil)) sb_nil) (sb_cons (ss_ret (se_tup (ac (ev 3) (ac (se_tup (ac se_int (ac (ev 2) (ac se_int (ac (se_tup (ac se_int (ac (e_add (so_e se_int) (ov 2)) sa_nil))) sa_nil))))) (ac (e_make c_Terms___init__ mk_Terms (hr.mono (by decide)) m_Terms (lc (so_e se_int) (lc (ov 2) (lc (so_e se_int) (lc (so_e (se_tup (ac se_int (ac (e_add (so_e se_int) (ov 2)) sa_nil)))) sl_nil))))) sa_nil))))) sb_nil)))))

abbrev s__law_told : Stmt := top 26
theorem sc__law_told : FnScope ["kind", "one"] ["kind", "one"] (defScope s__law_told) := ⟨rfl, rfl, rfl, by decide +kernel, rfl, by decide +kernel, by decide +kernel⟩
abbrev b__law_told  : SF :=
  (bCons (sIf (tCp (fOp2 (pEqv false) (oVar 0) (oE (fCon (.int 0))))) (bCons (sRt (fTup (aCons (fAtt (atP atts) "margin" (oVar 1)) aNil))) bNil) bNil) (bCons (sIf (tCp (fOp2 (pEqv false) (oVar 0) (oE (fCon (.int 1))))) (bCons (sRt (fTup (aCons (fAtt (atP atts) "tells" (oVar 1)) (aCons (fAtt (atP atts) "made" (oVar 1)) (aCons (fAtt (atP atts) "came" (oVar 1)) (aCons (fAtt (atP atts) "used" (oVar 1)) aNil)))))) bNil) bNil) (bCons (sRt (fIf (tCp (fOp2 (pEqv false) (oVar 0) (oE (fCon (.int 2))))) (fTup (aCons (fAtt (atP atts) "length" (oVar 1)) (aCons (fAtt (atP atts) "starts" (oVar 1)) (aCons (fAtt (atP atts) "chain" (oVar 1)) aNil)))) (fTup (aCons (fAtt (atP atts) "length" (oVar 1)) (aCons (fAtt (atP atts) "delay" (oVar 1)) (aCons (fAtt (atP atts) "wait" (oVar 1)) (aCons (fAtt (atP atts) "drift" (oVar 1)) aNil))))))) bNil)))
theorem ok__law_told {P : Program} {w : World} {K : PySem.W.Frag} {mg : Str → Option Value} {base : Heap} {fa : Addr}  (F : ∃ fd, FunD K "_law_told" "_law_told" (defArgs s__law_told) (defBody s__law_told) (defScope s__law_told) [] [] fa fd)
    (h_at : AtOk K atts) : CalF P w K mg base 2 fa 2 (runB 2 (b__law_told )) :=
  calF F sc__law_told (fun _ _ _ _ _ _ us hl => match us, hl with | [_, _], _ => rfl) fun cdv A outer s H E hr =>
    (sb_cons (ss_if (t_eq hr (ov 0) (so_e se_int)) (sb_cons (ss_ret (se_tup (ac (e_att h_at (ov 1)) sa_nil))) sb_nil) sb_nil) (sb_cons (ss_if (t_eq hr (ov 0) (so_e se_int)) (sb_cons (ss_ret (se_tup (ac (e_att h_at (ov 1)) (ac (e_att h_at (ov 1)) (ac (e_att h_at (ov 1)) (ac (e_att h_at (ov 1)) sa_nil)))))) sb_nil) sb_nil) (sb_cons (ss_ret (se_if (t_eq hr (ov 0) (so_e se_int)) (se_tup (ac (e_att h_at (ov 1)) (ac (e_att h_at (ov 1)) (ac (e_att h_at (ov 1)) sa_nil)))) (se_tup (ac (e_att h_at (ov 1)) (ac (e_att h_at (ov 1)) (ac (e_att h_at (ov 1)) (ac (e_att h_at (ov 1)) sa_nil))))))) sb_nil)))

abbrev s__law_schema_right : Stmt := top 27
theorem sc__law_schema_right : FnScope ["draw", "marks", "tables", "due", "schema", "kind"] ["draw"] (defScope s__law_schema_right) := ⟨rfl, rfl, rfl, by decide +kernel, rfl, by decide +kernel, by decide +kernel⟩
abbrev b__law_schema_right (r__law_take : Dz.Run) (r_Schema___init__ : Dz.Run) (r_Schema___eq__ : Dz.Run) (r_Woven___eq__ : Dz.Run) (r_Terms___eq__ : Dz.Run) (r_Enough___eq__ : Dz.Run) (r_TooShort___eq__ : Dz.Run) (r_Schema_marked : Dz.Run) : SF :=
  (bCons (sSet 1 (fBox (fDisp [((fCon (.str "place")), (fOp2 pIxD (oE (fLst (aCons (fCon (.str "main")) (aCons (fCon (.str "side")) aNil)))) (oE (fCall 2 r__law_take (lCons (oVar 0) (lCons (oE (fCon (.int 2))) lNil)))))), ((fCon (.str "index")), (fCon (.bl true)))]))) (bCons (sPar 2 3 (fBox (fDisp [((fCon (.str "t")), (fBox (fDisp [((fCon (.str "a")), (fVar 1))])))])) (fDisp [((fCon (.str "t")), (fDisp [((fCon (.str "a")), (fPrim (porN pDict pDictT) (lCons (oE (fLi (oVar 1))) lNil)))]))])) (bCons (sPar 4 5 (fMake "Schema" 2 r_Schema___init__ (lCons (oVar 2) lNil)) (fCall 2 r__law_take (lCons (oVar 0) (lCons (oE (fCon (.int 4))) lNil)))) (bCons (sIf (tAltF (tCp (fOp2 (pEqv false) (oVar 5) (oE (fCon (.int 0))))) (tCp (fOp2 pEqD (oVar 5) (oE (fCon (.int 0)))))) (bCons (sAlt2 (sAlt2 (sStL 1 (fCon (.str "unique")) (fCon (.bl true))) (sStD 1 (fCon (.str "unique")) (fCon (.bl true)))) (sStC 1 (fCon (.str "unique")) (fCon (.bl true)))) bNil) (bCons (sIf (tAltF (tCp (fOp2 (pEqv false) (oVar 5) (oE (fCon (.int 1))))) (tCp (fOp2 pEqD (oVar 5) (oE (fCon (.int 1)))))) (bCons (sAlt2 (sAlt2 (sStL 1 (fCon (.str "place")) (fCon (.str "zz"))) (sStD 1 (fCon (.str "place")) (fCon (.str "zz")))) (sStC 1 (fCon (.str "place")) (fCon (.str "zz")))) bNil) (bCons (sIf (tAltF (tCp (fOp2 (pEqv false) (oVar 5) (oE (fCon (.int 2))))) (tCp (fOp2 pEqD (oVar 5) (oE (fCon (.int 2)))))) (bCons (sStO (oE (fOp2 pIxD (oVar 2) (oE (fCon (.str "t"))))) (fCon (.str "b")) (fDisp [((fCon (.str "place")), (fCon (.str "main")))])) bNil) (bCons (sAlt2 (sAlt2 (sStL 2 (fCon (.str "u")) fNewD) (sStD 2 (fCon (.str "u")) fNewD)) (sStC 2 (fCon (.str "u")) fNewD)) bNil)) bNil)) bNil)) (bCons (sRt (vAnd (fAlt (fOp2 (pEqv false) (oE (fAtt (atP atts) "tables" (oVar 4))) (oVar 3)) (fOp2 pEqD (oE (fAtt (atP atts) "tables" (oVar 4))) (oVar 3))) (vAnd (fAlt (fEqO false [("Schema", "__eq__", 2, r_Schema___eq__), ("Woven", "__eq__", 2, r_Woven___eq__), ("Terms", "__eq__", 2, r_Terms___eq__), ("Enough", "__eq__", 2, r_Enough___eq__), ("TooShort", "__eq__", 2, r_TooShort___eq__)] (nfoP eqL clsL) eqL.contains (oVar 4) (oE (fMake "Schema" 2 r_Schema___init__ (lCons (oVar 3) lNil)))) (fOp2 pEqD (oVar 4) (oE (fMake "Schema" 2 r_Schema___init__ (lCons (oVar 3) lNil))))) (fAlt (fOp2 (pEqv false) (oE (fMeth (mtP [("Schema", "marked", 1, r_Schema_marked)]) "marked" (oVar 4) lNil)) (oE (fLst (aCons (fTup (aCons (fCon (.str "index")) (aCons (fCon (.str "t")) (aCons (fCon (.str "a")) aNil)))) aNil)))) (fOp2 pEqD (oE (fMeth (mtP [("Schema", "marked", 1, r_Schema_marked)]) "marked" (oVar 4) lNil)) (oE (fLst (aCons (fTup (aCons (fCon (.str "index")) (aCons (fCon (.str "t")) (aCons (fCon (.str "a")) aNil)))) aNil)))))))) bNil)))))
theorem ok__law_schema_right {P : Program} {w : World} {K : PySem.W.Frag} {mg : Str → Option Value} {base : Heap} {fa : Addr} {a__law_take : Addr} {r__law_take : Dz.Run} {a_Schema___init__ : Addr} {r_Schema___init__ : Dz.Run} {r_Schema___eq__ : Dz.Run} {r_Woven___eq__ : Dz.Run} {r_Terms___eq__ : Dz.Run} {r_Enough___eq__ : Dz.Run} {r_TooShort___eq__ : Dz.Run} {r_Schema_marked : Dz.Run} (F : ∃ fd, FunD K "_law_schema_right" "_law_schema_right" (defArgs s__law_schema_right) (defBody s__law_schema_right) (defScope s__law_schema_right) [] [] fa fd)
    (c__law_take : CalF P w K mg base 3 a__law_take 2 r__law_take) (m__law_take : mg "_law_take" = some (.ref a__law_take))
    (c_Schema___init__ : CalF P w K mg base 2 a_Schema___init__ 2 r_Schema___init__) (mk_Schema : Mk K (He.ga K "Schema") a_Schema___init__) (m_Schema : mg "Schema" = some (.ref (He.ga K "Schema")))
    (mm___eq__ : MtOk P w K mg base 2 [("Schema", "__eq__", 2, r_Schema___eq__), ("Woven", "__eq__", 2, r_Woven___eq__), ("Terms", "__eq__", 2, r_Terms___eq__), ("Enough", "__eq__", 2, r_Enough___eq__), ("TooShort", "__eq__", 2, r_TooShort___eq__)])
    (mm_marked : MtOk P w K mg base 2 [("Schema", "marked", 1, r_Schema_marked)])
    (h_at : AtOk K atts)
    (h_eq : EqOk K (nfoP eqL clsL) eqL.contains)
    (b_list : mg "list" = none)
    (b_dict : mg "dict" = none) : CalF P w K mg base 5 fa 1 (runB 6 (b__law_schema_right r__law_take r_Schema___init__ r_Schema___eq__ r_Woven___eq__ r_Terms___eq__ r_Enough___eq__ r_TooShort___eq__ r_Schema_marked)) :=
  calF F sc__law_schema_right (fun _ _ _ _ _ _ us hl => match us, hl with | [_], _ => rfl) fun cdv A outer s H E hr =>
    (sb_cons (s_set 1 sc__law_schema_right.nd (se_box (e_disp (.cons se_str (e_ixD hr (so_e (se_lst (ac se_str (ac se_str sa_nil)))) (so_e (e_call c__law_take (hr.mono (by decide)) m__law_take (lc (ov 0) (lc (so_e se_int) sl_nil))))) (.cons se_str se_bl .nil)) (h15 := Nat.le_of_ble_eq_true rfl)))) (sb_cons (ss_par (i := 2) (j := 3) rfl sc__law_schema_right.nd rfl rfl (by decide) rfl rfl (se_box (e_disp (.cons se_str (se_box (e_disp (.cons se_str (ev 1) .nil) (h15 := Nat.le_of_ble_eq_true rfl))) .nil) (h15 := Nat.le_of_ble_eq_true rfl))) (e_disp (.cons se_str (e_disp (.cons se_str (e_dict2 rfl hr b_dict (lc (so_e (e_li rfl b_list (ov 1))) sl_nil)) .nil) (h15 := Nat.le_of_ble_eq_true rfl)) .nil) (h15 := Nat.le_of_ble_eq_true rfl)) rfl rfl rfl rfl) (sb_cons (ss_par (i := 4) (j := 5) rfl sc__law_schema_right.nd rfl rfl (by decide) rfl rfl (e_make c_Schema___init__ mk_Schema (hr.mono (by decide)) m_Schema (lc (ov 2) sl_nil)) (e_call c__law_take (hr.mono (by decide)) m__law_take (lc (ov 0) (lc (so_e se_int) sl_nil))) rfl rfl rfl rfl) (sb_cons (ss_if (st_alt (t_eq hr (ov 5) (so_e se_int)) (t_eqS hr (ov 5) (so_e se_int))) (sb_cons (s_st3 1 hr se_bl se_str) sb_nil) (sb_cons (ss_if (st_alt (t_eq hr (ov 5) (so_e se_int)) (t_eqS hr (ov 5) (so_e se_int))) (sb_cons (s_st3 1 hr se_str se_str) sb_nil) (sb_cons (ss_if (st_alt (t_eq hr (ov 5) (so_e se_int)) (t_eqS hr (ov 5) (so_e se_int))) (sb_cons (s_stO hr (so_e (e_ixD hr (ov 2) (so_e se_str))) (e_disp (.cons se_str se_str .nil) (h15 := Nat.le_of_ble_eq_true rfl)) se_str) sb_nil) (sb_cons (s_st3 2 hr se_newD se_str) sb_nil)) sb_nil)) sb_nil)) (sb_cons (ss_ret (se_and (se_alt (e_eq hr (so_e (e_att h_at (ov 4))) (ov 3)) (e_eqS hr (so_e (e_att h_at (ov 4))) (ov 3))) (se_and (se_alt (e_eqO mm___eq__ h_eq (hr.mono (by decide)) (ov 4) (so_e (e_make c_Schema___init__ mk_Schema (hr.mono (by decide)) m_Schema (lc (ov 3) sl_nil)))) (e_eqS hr (ov 4) (so_e (e_make c_Schema___init__ mk_Schema (hr.mono (by decide)) m_Schema (lc (ov 3) sl_nil))))) (se_one (se_alt (e_eq hr (so_e (e_meth0 mm_marked (hr.mono (by decide)) (ov 4))) (so_e (se_lst (ac (se_tup (ac se_str (ac se_str (ac se_str sa_nil)))) sa_nil)))) (e_eqS hr (so_e (e_meth0 mm_marked (hr.mono (by decide)) (ov 4))) (so_e (se_lst (ac (se_tup (ac se_str (ac se_str (ac se_str sa_nil)))) sa_nil))))))))) sb_nil)))))

abbrev s_law : Stmt := top 28
theorem sc_law : FnScope ["script", "draw", "rows", "turn", "kind", "due", "one", "part", "other", "late", "two"] ["script"] (defScope s_law) := ⟨rfl, rfl, rfl, by decide +kernel, rfl, by decide +kernel, by decide +kernel⟩
abbrev b_law (r__law_told : Dz.Run) (r__law_made : Dz.Run) (r__law_take : Dz.Run) (r__law_schema_right : Dz.Run) (r_Enough___init__ : Dz.Run) (r_TooShort___init__ : Dz.Run) (r_Schema___init__ : Dz.Run) (r_Enough___bool__ : Dz.Run) (r_TooShort___bool__ : Dz.Run) (r_Schema___eq__ : Dz.Run) (r_Woven___eq__ : Dz.Run) (r_Terms___eq__ : Dz.Run) (r_Enough___eq__ : Dz.Run) (r_TooShort___eq__ : Dz.Run) : SF :=
  (bCons (sSet 1 (fLst (aCons (fVar 0) (aCons (fCon (.int 0)) aNil)))) (bCons (sIf (tNotF (tOfO [("Enough", "__bool__", 1, r_Enough___bool__), ("TooShort", "__bool__", 1, r_TooShort___bool__)] (oE (fCall 1 r__law_schema_right (lCons (oVar 1) lNil))))) (bCons (sRt (fCon (.bl false))) bNil) bNil) (bCons (sSet 2 (fLst aNil)) (bCons (sFor (iR1 (fCon (.int 9))) (gNm 3) (bCons (sSet 4 (fCall 2 r__law_take (lCons (oVar 1) (lCons (oE (fCon (.int 4))) lNil)))) (bCons (sAsg (gTp (gsCons (gNm 7) (gsCons (gNm 5) (gsCons (gNm 6) gsNil)))) (fCall 2 r__law_made (lCons (oVar 1) (lCons (oVar 4) lNil)))) (bCons (sIf (tAltF (tCp (fEqO true [("Schema", "__eq__", 2, r_Schema___eq__), ("Woven", "__eq__", 2, r_Woven___eq__), ("Terms", "__eq__", 2, r_Terms___eq__), ("Enough", "__eq__", 2, r_Enough___eq__), ("TooShort", "__eq__", 2, r_TooShort___eq__)] (nfoP eqL clsL) eqL.contains (oE (fCall 2 r__law_told (lCons (oVar 4) (lCons (oVar 6) lNil)))) (oVar 5))) (tCp (fOp2 pNeD (oE (fCall 2 r__law_told (lCons (oVar 4) (lCons (oVar 6) lNil)))) (oVar 5)))) (bCons (sRt (fCon (.bl false))) bNil) bNil) (bCons (sIf (tOf (oE (fAlt (fPrim pIsi (lCons (oVar 7) (lCons (oE (fCon (.ty "dict"))) lNil))) (fIsiL (lCons (oVar 7) (lCons (oE (fCon (.ty "dict"))) lNil)))))) (bCons (sAlt2 (sAlt2 (sStL 7 (fTup (aCons (fCon (.str "zz")) (aCons (fCon (.str "")) (aCons (fCon (.str "")) (aCons (fCon (.str "")) aNil))))) (fCon (.int 5))) (sStD 7 (fTup (aCons (fCon (.str "zz")) (aCons (fCon (.str "")) (aCons (fCon (.str "")) (aCons (fCon (.str "")) aNil))))) (fCon (.int 5)))) (sStC 7 (fTup (aCons (fCon (.str "zz")) (aCons (fCon (.str "")) (aCons (fCon (.str "")) (aCons (fCon (.str "")) aNil))))) (fCon (.int 5)))) bNil) (bCons (sAlt2 (sApp 7 (fTup (aCons (fCon (.int 9)) (aCons (fCon (.int 1)) aNil)))) (sAppC 7 (fTup (aCons (fCon (.int 9)) (aCons (fCon (.int 1)) aNil))))) bNil)) (bCons (sIf (tOrF (tAltF (tCp (fEqO true [("Schema", "__eq__", 2, r_Schema___eq__), ("Woven", "__eq__", 2, r_Woven___eq__), ("Terms", "__eq__", 2, r_Terms___eq__), ("Enough", "__eq__", 2, r_Enough___eq__), ("TooShort", "__eq__", 2, r_TooShort___eq__)] (nfoP eqL clsL) eqL.contains (oE (fCall 2 r__law_told (lCons (oVar 4) (lCons (oVar 6) lNil)))) (oVar 5))) (tCp (fOp2 pNeD (oE (fCall 2 r__law_told (lCons (oVar 4) (lCons (oVar 6) lNil)))) (oVar 5)))) (tAltF (tCp (fEqO false [("Schema", "__eq__", 2, r_Schema___eq__), ("Woven", "__eq__", 2, r_Woven___eq__), ("Terms", "__eq__", 2, r_Terms___eq__), ("Enough", "__eq__", 2, r_Enough___eq__), ("TooShort", "__eq__", 2, r_TooShort___eq__)] (nfoP eqL clsL) eqL.contains (oVar 6) (oVar 5))) (tCp (fOp2 pEqD (oVar 6) (oVar 5))))) (bCons (sRt (fCon (.bl false))) bNil) bNil) (bCons (sAlt2 (sApp 2 (fTup (aCons (fVar 4) (aCons (fVar 5) (aCons (fVar 6) aNil))))) (sAppC 2 (fTup (aCons (fVar 4) (aCons (fVar 5) (aCons (fVar 6) aNil)))))) bNil))))))) (bCons (sFor (iSqD (fVar 2)) (gTp (gsCons (gNm 4) (gsCons (gNm 5) (gsCons (gNm 6) gsNil)))) (bCons (sFor (iSqD (fVar 2)) (gTp (gsCons (gNm 8) (gsCons (gNm 9) (gsCons (gNm 10) gsNil)))) (bCons (sIf (tOrF (tAltF (tCp (fOp2 (pEqv true) (oE (fAlt (fEqO false [("Schema", "__eq__", 2, r_Schema___eq__), ("Woven", "__eq__", 2, r_Woven___eq__), ("Terms", "__eq__", 2, r_Terms___eq__), ("Enough", "__eq__", 2, r_Enough___eq__), ("TooShort", "__eq__", 2, r_TooShort___eq__)] (nfoP eqL clsL) eqL.contains (oVar 6) (oVar 10)) (fOp2 pEqD (oVar 6) (oVar 10)))) (oE (vAnd (fAlt (fEqO false [("Schema", "__eq__", 2, r_Schema___eq__), ("Woven", "__eq__", 2, r_Woven___eq__), ("Terms", "__eq__", 2, r_Terms___eq__), ("Enough", "__eq__", 2, r_Enough___eq__), ("TooShort", "__eq__", 2, r_TooShort___eq__)] (nfoP eqL clsL) eqL.contains (oVar 4) (oVar 8)) (fOp2 pEqD (oVar 4) (oVar 8))) (fAlt (fEqO false [("Schema", "__eq__", 2, r_Schema___eq__), ("Woven", "__eq__", 2, r_Woven___eq__), ("Terms", "__eq__", 2, r_Terms___eq__), ("Enough", "__eq__", 2, r_Enough___eq__), ("TooShort", "__eq__", 2, r_TooShort___eq__)] (nfoP eqL clsL) eqL.contains (oVar 5) (oVar 9)) (fOp2 pEqD (oVar 5) (oVar 9))))))) (tCp (fOp2 pNeD (oE (fAlt (fEqO false [("Schema", "__eq__", 2, r_Schema___eq__), ("Woven", "__eq__", 2, r_Woven___eq__), ("Terms", "__eq__", 2, r_Terms___eq__), ("Enough", "__eq__", 2, r_Enough___eq__), ("TooShort", "__eq__", 2, r_TooShort___eq__)] (nfoP eqL clsL) eqL.contains (oVar 6) (oVar 10)) (fOp2 pEqD (oVar 6) (oVar 10)))) (oE (vAnd (fAlt (fEqO false [("Schema", "__eq__", 2, r_Schema___eq__), ("Woven", "__eq__", 2, r_Woven___eq__), ("Terms", "__eq__", 2, r_Terms___eq__), ("Enough", "__eq__", 2, r_Enough___eq__), ("TooShort", "__eq__", 2, r_TooShort___eq__)] (nfoP eqL clsL) eqL.contains (oVar 4) (oVar 8)) (fOp2 pEqD (oVar 4) (oVar 8))) (fAlt (fEqO false [("Schema", "__eq__", 2, r_Schema___eq__), ("Woven", "__eq__", 2, r_Woven___eq__), ("Terms", "__eq__", 2, r_Terms___eq__), ("Enough", "__eq__", 2, r_Enough___eq__), ("TooShort", "__eq__", 2, r_TooShort___eq__)] (nfoP eqL clsL) eqL.contains (oVar 5) (oVar 9)) (fOp2 pEqD (oVar 5) (oVar 9)))))))) (tAltF (tCp (fOp2 (pEqv true) (oE (fAlt (fEqO true [("Schema", "__eq__", 2, r_Schema___eq__), ("Woven", "__eq__", 2, r_Woven___eq__), ("Terms", "__eq__", 2, r_Terms___eq__), ("Enough", "__eq__", 2, r_Enough___eq__), ("TooShort", "__eq__", 2, r_TooShort___eq__)] (nfoP eqL clsL) eqL.contains (oVar 6) (oVar 10)) (fOp2 pNeD (oVar 6) (oVar 10)))) (oE (vOr (fAlt (fEqO true [("Schema", "__eq__", 2, r_Schema___eq__), ("Woven", "__eq__", 2, r_Woven___eq__), ("Terms", "__eq__", 2, r_Terms___eq__), ("Enough", "__eq__", 2, r_Enough___eq__), ("TooShort", "__eq__", 2, r_TooShort___eq__)] (nfoP eqL clsL) eqL.contains (oVar 4) (oVar 8)) (fOp2 pNeD (oVar 4) (oVar 8))) (fAlt (fEqO true [("Schema", "__eq__", 2, r_Schema___eq__), ("Woven", "__eq__", 2, r_Woven___eq__), ("Terms", "__eq__", 2, r_Terms___eq__), ("Enough", "__eq__", 2, r_Enough___eq__), ("TooShort", "__eq__", 2, r_TooShort___eq__)] (nfoP eqL clsL) eqL.contains (oVar 5) (oVar 9)) (fOp2 pNeD (oVar 5) (oVar 9))))))) (tCp (fOp2 pNeD (oE (fAlt (fEqO true [("Schema", "__eq__", 2, r_Schema___eq__), ("Woven", "__eq__", 2, r_Woven___eq__), ("Terms", "__eq__", 2, r_Terms___eq__), ("Enough", "__eq__", 2, r_Enough___eq__), ("TooShort", "__eq__", 2, r_TooShort___eq__)] (nfoP eqL clsL) eqL.contains (oVar 6) (oVar 10)) (fOp2 pNeD (oVar 6) (oVar 10)))) (oE (vOr (fAlt (fEqO true [("Schema", "__eq__", 2, r_Schema___eq__), ("Woven", "__eq__", 2, r_Woven___eq__), ("Terms", "__eq__", 2, r_Terms___eq__), ("Enough", "__eq__", 2, r_Enough___eq__), ("TooShort", "__eq__", 2, r_TooShort___eq__)] (nfoP eqL clsL) eqL.contains (oVar 4) (oVar 8)) (fOp2 pNeD (oVar 4) (oVar 8))) (fAlt (fEqO true [("Schema", "__eq__", 2, r_Schema___eq__), ("Woven", "__eq__", 2, r_Woven___eq__), ("Terms", "__eq__", 2, r_Terms___eq__), ("Enough", "__eq__", 2, r_Enough___eq__), ("TooShort", "__eq__", 2, r_TooShort___eq__)] (nfoP eqL clsL) eqL.contains (oVar 5) (oVar 9)) (fOp2 pNeD (oVar 5) (oVar 9))))))))) (bCons (sRt (fCon (.bl false))) bNil) bNil) bNil)) bNil)) (bCons (sRt (vAnd (fBoolO [("Enough", "__bool__", 1, r_Enough___bool__), ("TooShort", "__bool__", 1, r_TooShort___bool__)] (oE (fMake "Enough" 2 r_Enough___init__ (lCons (oE (fTup (aCons (fCon (.int 0)) (aCons (fCon (.int 1)) aNil)))) lNil)))) (vAnd (fNotO [("Enough", "__bool__", 1, r_Enough___bool__), ("TooShort", "__bool__", 1, r_TooShort___bool__)] (oE (fMake "TooShort" 5 r_TooShort___init__ (lCons (oE (fTup aNil)) (lCons (oE (fTup (aCons (fCon (.int 0)) (aCons (fCon (.int 1)) aNil)))) (lCons (oE (fTup (aCons (fCon (.int 0)) (aCons (fCon (.int 1)) aNil)))) (lCons (oE (fTup (aCons (fCon (.int 0)) (aCons (fCon (.int 1)) aNil)))) lNil))))))) (vAnd (fAlt (fEqO false [("Schema", "__eq__", 2, r_Schema___eq__), ("Woven", "__eq__", 2, r_Woven___eq__), ("Terms", "__eq__", 2, r_Terms___eq__), ("Enough", "__eq__", 2, r_Enough___eq__), ("TooShort", "__eq__", 2, r_TooShort___eq__)] (nfoP eqL clsL) eqL.contains (oE (fMake "Schema" 2 r_Schema___init__ (lCons (oE (fDisp [((fCon (.str "t")), fNewD)])) lNil))) (oE (fMake "Schema" 2 r_Schema___init__ (lCons (oE (fDisp [((fCon (.str "t")), fNewD)])) lNil)))) (fOp2 pEqD (oE (fMake "Schema" 2 r_Schema___init__ (lCons (oE (fDisp [((fCon (.str "t")), fNewD)])) lNil))) (oE (fMake "Schema" 2 r_Schema___init__ (lCons (oE (fDisp [((fCon (.str "t")), fNewD)])) lNil))))) (vAnd (fAlt (fEqO true [("Schema", "__eq__", 2, r_Schema___eq__), ("Woven", "__eq__", 2, r_Woven___eq__), ("Terms", "__eq__", 2, r_Terms___eq__), ("Enough", "__eq__", 2, r_Enough___eq__), ("TooShort", "__eq__", 2, r_TooShort___eq__)] (nfoP eqL clsL) eqL.contains (oE (fMake "Schema" 2 r_Schema___init__ (lCons (oE fNewD) lNil))) (oE (fMake "Schema" 2 r_Schema___init__ (lCons (oE (fDisp [((fCon (.str "t")), fNewD)])) lNil)))) (fOp2 pNeD (oE (fMake "Schema" 2 r_Schema___init__ (lCons (oE fNewD) lNil))) (oE (fMake "Schema" 2 r_Schema___init__ (lCons (oE (fDisp [((fCon (.str "t")), fNewD)])) lNil))))) (fAlt (fEqO true [("Schema", "__eq__", 2, r_Schema___eq__), ("Woven", "__eq__", 2, r_Woven___eq__), ("Terms", "__eq__", 2, r_Terms___eq__), ("Enough", "__eq__", 2, r_Enough___eq__), ("TooShort", "__eq__", 2, r_TooShort___eq__)] (nfoP eqL clsL) eqL.contains (oE (fMake "Schema" 2 r_Schema___init__ (lCons (oE fNewD) lNil))) (oE (fCon (.int 5)))) (fOp2 pNeD (oE (fMake "Schema" 2 r_Schema___init__ (lCons (oE fNewD) lNil))) (oE (fCon (.int 5)))))))))) bNil))))))
theorem ok_law {P : Program} {w : World} {K : PySem.W.Frag} {mg : Str → Option Value} {base : Heap} {fa : Addr} {fd : FuncData} {a__law_told : Addr} {r__law_told : Dz.Run} {a__law_made : Addr} {r__law_made : Dz.Run} {a__law_take : Addr} {r__law_take : Dz.Run} {a__law_schema_right : Addr} {r__law_schema_right : Dz.Run} {a_Enough___init__ : Addr} {r_Enough___init__ : Dz.Run} {a_TooShort___init__ : Addr} {r_TooShort___init__ : Dz.Run} {a_Schema___init__ : Addr} {r_Schema___init__ : Dz.Run} {r_Enough___bool__ : Dz.Run} {r_TooShort___bool__ : Dz.Run} {r_Schema___eq__ : Dz.Run} {r_Woven___eq__ : Dz.Run} {r_Terms___eq__ : Dz.Run} {r_Enough___eq__ : Dz.Run} {r_TooShort___eq__ : Dz.Run} (F : FunD K "law" "law" (defArgs s_law) (defBody s_law) (defScope s_law) [] [] fa fd)
    (c__law_told : CalF P w K mg base 2 a__law_told 2 r__law_told) (m__law_told : mg "_law_told" = some (.ref a__law_told))
    (c__law_made : CalF P w K mg base 8 a__law_made 2 r__law_made) (m__law_made : mg "_law_made" = some (.ref a__law_made))
    (c__law_take : CalF P w K mg base 3 a__law_take 2 r__law_take) (m__law_take : mg "_law_take" = some (.ref a__law_take))
    (c__law_schema_right : CalF P w K mg base 5 a__law_schema_right 1 r__law_schema_right) (m__law_schema_right : mg "_law_schema_right" = some (.ref a__law_schema_right))
    (c_Enough___init__ : CalF P w K mg base 2 a_Enough___init__ 2 r_Enough___init__) (mk_Enough : Mk K (He.ga K "Enough") a_Enough___init__) (m_Enough : mg "Enough" = some (.ref (He.ga K "Enough")))
    (c_TooShort___init__ : CalF P w K mg base 2 a_TooShort___init__ 5 r_TooShort___init__) (mk_TooShort : Mk K (He.ga K "TooShort") a_TooShort___init__) (m_TooShort : mg "TooShort" = some (.ref (He.ga K "TooShort")))
    (c_Schema___init__ : CalF P w K mg base 2 a_Schema___init__ 2 r_Schema___init__) (mk_Schema : Mk K (He.ga K "Schema") a_Schema___init__) (m_Schema : mg "Schema" = some (.ref (He.ga K "Schema")))
    (mm___bool__ : MtOk P w K mg base 2 [("Enough", "__bool__", 1, r_Enough___bool__), ("TooShort", "__bool__", 1, r_TooShort___bool__)])
    (mm___eq__ : MtOk P w K mg base 2 [("Schema", "__eq__", 2, r_Schema___eq__), ("Woven", "__eq__", 2, r_Woven___eq__), ("Terms", "__eq__", 2, r_Terms___eq__), ("Enough", "__eq__", 2, r_Enough___eq__), ("TooShort", "__eq__", 2, r_TooShort___eq__)])
    (h_eq : EqOk K (nfoP eqL clsL) eqL.contains)
    (b_bool : mg "bool" = none)
    (b_range : mg "range" = none)
    (b_isinstance : mg "isinstance" = none)
    (b_dict : mg "dict" = none) : FnOk P w K mg base CX0 9 fa fd ["script"] (spE K 1 (runB 11 (b_law r__law_told r__law_made r__law_take r__law_schema_right r_Enough___init__ r_TooShort___init__ r_Schema___init__ r_Enough___bool__ r_TooShort___bool__ r_Schema___eq__ r_Woven___eq__ r_Terms___eq__ r_Enough___eq__ r_TooShort___eq__))) :=
  fnE F sc_law fun cdv A outer s H E hr =>
    (sb_cons (s_set 1 sc_law.nd (se_lst (ac (ev 0) (ac se_int sa_nil)))) (sb_cons (ss_if (st_not (st_ofO mm___bool__ (hr.mono (by decide)) (so_e (e_call c__law_schema_right (hr.mono (by decide)) m__law_schema_right (lc (ov 1) sl_nil))))) (sb_cons (ss_ret se_bl) sb_nil) sb_nil) (sb_cons (s_set 2 sc_law.nd (se_lst sa_nil)) (sb_cons (s_for PassesOwn.never rfl (i_r1 b_range se_int) (g_nm 3 sc_law.nd) (sb_cons (s_set 4 sc_law.nd (e_call c__law_take (hr.mono (by decide)) m__law_take (lc (ov 1) (lc (so_e se_int) sl_nil)))) (sb_cons (s_asg (g_tup rfl (g_cons (g_nm 7 sc_law.nd) (g_cons (g_nm 5 sc_law.nd) (g_cons (g_nm 6 sc_law.nd) sgs_nil))) (gs_lenS (gs_lenS (gs_lenS gs_len0)))) (e_call c__law_made (hr.mono (by decide)) m__law_made (lc (ov 1) (lc (ov 4) sl_nil)))) (sb_cons (ss_if (st_alt (t_neO mm___eq__ h_eq (hr.mono (by decide)) (so_e (e_call c__law_told (hr.mono (by decide)) m__law_told (lc (ov 4) (lc (ov 6) sl_nil)))) (ov 5)) (t_neS hr (so_e (e_call c__law_told (hr.mono (by decide)) m__law_told (lc (ov 4) (lc (ov 6) sl_nil)))) (ov 5))) (sb_cons (ss_ret se_bl) sb_nil) sb_nil) (sb_cons (ss_if (t_of (so_e (se_alt (e_isi b_isinstance (lc (ov 7) (lc (so_e (e_ty b_dict (by decide +kernel))) sl_nil))) (e_isiL b_isinstance (lc (ov 7) (lc (so_e (e_ty b_dict (by decide +kernel))) sl_nil)))))) (sb_cons (s_st3 7 hr se_int (se_tup (ac se_str (ac se_str (ac se_str (ac se_str sa_nil)))))) sb_nil) (sb_cons (s_app3 7 (se_tup (ac se_int (ac se_int sa_nil)))) sb_nil)) (sb_cons (ss_if (SW.st (sw_or (st_alt (t_neO mm___eq__ h_eq (hr.mono (by decide)) (so_e (e_call c__law_told (hr.mono (by decide)) m__law_told (lc (ov 4) (lc (ov 6) sl_nil)))) (ov 5)) (t_neS hr (so_e (e_call c__law_told (hr.mono (by decide)) m__law_told (lc (ov 4) (lc (ov 6) sl_nil)))) (ov 5))) (sw_or1 (st_alt (t_eqO mm___eq__ h_eq (hr.mono (by decide)) (ov 6) (ov 5)) (t_eqS hr (ov 6) (ov 5)))))) (sb_cons (ss_ret se_bl) sb_nil) sb_nil) (sb_cons (s_app3 2 (se_tup (ac (ev 4) (ac (ev 5) (ac (ev 6) sa_nil))))) sb_nil))))))) (sb_cons (s_for PassesOwn.never rfl (si_sqD (ev 2)) (g_tup rfl (g_cons (g_nm 4 sc_law.nd) (g_cons (g_nm 5 sc_law.nd) (g_cons (g_nm 6 sc_law.nd) sgs_nil))) (gs_lenS (gs_lenS (gs_lenS gs_len0)))) (sb_cons (s_for PassesOwn.never rfl (si_sqD (ev 2)) (g_tup rfl (g_cons (g_nm 8 sc_law.nd) (g_cons (g_nm 9 sc_law.nd) (g_cons (g_nm 10 sc_law.nd) sgs_nil))) (gs_lenS (gs_lenS (gs_lenS gs_len0)))) (sb_cons (ss_if (SW.st (sw_or (st_alt (t_ne hr (so_e (se_alt (e_eqO mm___eq__ h_eq (hr.mono (by decide)) (ov 6) (ov 10)) (e_eqS hr (ov 6) (ov 10)))) (so_e (se_and (se_alt (e_eqO mm___eq__ h_eq (hr.mono (by decide)) (ov 4) (ov 8)) (e_eqS hr (ov 4) (ov 8))) (se_one (se_alt (e_eqO mm___eq__ h_eq (hr.mono (by decide)) (ov 5) (ov 9)) (e_eqS hr (ov 5) (ov 9))))))) (t_neS hr (so_e (se_alt (e_eqO mm___eq__ h_eq (hr.mono (by decide)) (ov 6) (ov 10)) (e_eqS hr (ov 6) (ov 10)))) (so_e (se_and (se_alt (e_eqO mm___eq__ h_eq (hr.mono (by decide)) (ov 4) (ov 8)) (e_eqS hr (ov 4) (ov 8))) (se_one (se_alt (e_eqO mm___eq__ h_eq (hr.mono (by decide)) (ov 5) (ov 9)) (e_eqS hr (ov 5) (ov 9)))))))) (sw_or1 (st_alt (t_ne hr (so_e (se_alt (e_neO mm___eq__ h_eq (hr.mono (by decide)) (ov 6) (ov 10)) (e_neS hr (ov 6) (ov 10)))) (so_e (se_or (se_alt (e_neO mm___eq__ h_eq (hr.mono (by decide)) (ov 4) (ov 8)) (e_neS hr (ov 4) (ov 8))) (se_one (se_alt (e_neO mm___eq__ h_eq (hr.mono (by decide)) (ov 5) (ov 9)) (e_neS hr (ov 5) (ov 9))))))) (t_neS hr (so_e (se_alt (e_neO mm___eq__ h_eq (hr.mono (by decide)) (ov 6) (ov 10)) (e_neS hr (ov 6) (ov 10)))) (so_e (se_or (se_alt (e_neO mm___eq__ h_eq (hr.mono (by decide)) (ov 4) (ov 8)) (e_neS hr (ov 4) (ov 8))) (se_one (se_alt (e_neO mm___eq__ h_eq (hr.mono (by decide)) (ov 5) (ov 9)) (e_neS hr (ov 5) (ov 9))))))))))) (sb_cons (ss_ret se_bl) sb_nil) sb_nil) sb_nil)) sb_nil)) (sb_cons (ss_ret (se_and (e_bool mm___bool__ (hr.mono (by decide)) b_bool (so_e (e_make c_Enough___init__ mk_Enough (hr.mono (by decide)) m_Enough (lc (so_e (se_tup (ac se_int (ac se_int sa_nil)))) sl_nil)))) (se_and (se_notO mm___bool__ (hr.mono (by decide)) (so_e (e_make c_TooShort___init__ mk_TooShort (hr.mono (by decide)) m_TooShort (lc (so_e (se_tup sa_nil)) (lc (so_e (se_tup (ac se_int (ac se_int sa_nil)))) (lc (so_e (se_tup (ac se_int (ac se_int sa_nil)))) (lc (so_e (se_tup (ac se_int (ac se_int sa_nil)))) sl_nil))))))) (se_and (se_alt (e_eqO mm___eq__ h_eq (hr.mono (by decide)) (so_e (e_make c_Schema___init__ mk_Schema (hr.mono (by decide)) m_Schema (lc (so_e (e_disp (.cons se_str se_newD .nil) (h15 := Nat.le_of_ble_eq_true rfl))) sl_nil))) (so_e (e_make c_Schema___init__ mk_Schema (hr.mono (by decide)) m_Schema (lc (so_e (e_disp (.cons se_str se_newD .nil) (h15 := Nat.le_of_ble_eq_true rfl))) sl_nil)))) (e_eqS hr (so_e (e_make c_Schema___init__ mk_Schema (hr.mono (by decide)) m_Schema (lc (so_e (e_disp (.cons se_str se_newD .nil) (h15 := Nat.le_of_ble_eq_true rfl))) sl_nil))) (so_e (e_make c_Schema___init__ mk_Schema (hr.mono (by decide)) m_Schema (lc (so_e (e_disp (.cons se_str se_newD .nil) (h15 := Nat.le_of_ble_eq_true rfl))) sl_nil))))) (se_and (se_alt (e_neO mm___eq__ h_eq (hr.mono (by decide)) (so_e (e_make c_Schema___init__ mk_Schema (hr.mono (by decide)) m_Schema (lc (so_e se_newD) sl_nil))) (so_e (e_make c_Schema___init__ mk_Schema (hr.mono (by decide)) m_Schema (lc (so_e (e_disp (.cons se_str se_newD .nil) (h15 := Nat.le_of_ble_eq_true rfl))) sl_nil)))) (e_neS hr (so_e (e_make c_Schema___init__ mk_Schema (hr.mono (by decide)) m_Schema (lc (so_e se_newD) sl_nil))) (so_e (e_make c_Schema___init__ mk_Schema (hr.mono (by decide)) m_Schema (lc (so_e (e_disp (.cons se_str se_newD .nil) (h15 := Nat.le_of_ble_eq_true rfl))) sl_nil))))) (se_one (se_alt (e_neO mm___eq__ h_eq (hr.mono (by decide)) (so_e (e_make c_Schema___init__ mk_Schema (hr.mono (by decide)) m_Schema (lc (so_e se_newD) sl_nil))) (so_e se_int)) (e_neS hr (so_e (e_make c_Schema___init__ mk_Schema (hr.mono (by decide)) m_Schema (lc (so_e se_newD) sl_nil))) (so_e se_int))))))))) sb_nil))))))

abbrev s_Schema___init__ : Stmt := inClass (top 11) 0
theorem sc_Schema___init__ : FnScope ["self", "tables", "table", "column"] ["self", "tables"] (defScope s_Schema___init__) := ⟨rfl, rfl, rfl, by decide +kernel, rfl, by decide +kernel, by decide +kernel⟩
abbrev b_Schema___init__  : SF :=
  (bCons (sFldS (atP atts) 0 "tables" (fWk (fVar 1) (fAlt (fG [2] .k (iSqC (fVar 1)) (gNm 2) tTrue (qPair .k (fVar 2) (fWk (fOp2 pIxD (oVar 1) (oVar 2)) (fAlt (fG [3] .k (iSqC (fOp2 pIxD (oVar 1) (oVar 2))) (gNm 3) tTrue (qPair .k (fVar 3) (fPrim (porN pDict pDictT) (lCons (oE (fOp2 pIxD (oE (fOp2 pIxD (oVar 1) (oVar 2))) (oVar 3))) lNil)))) (fG [3] .t (iSqC (fOp2 pIxD (oVar 1) (oVar 2))) (gNm 3) tTrue (qPair .t (fVar 3) (fPrim (porN pDict pDictT) (lCons (oE (fOp2 pIxD (oE (fOp2 pIxD (oVar 1) (oVar 2))) (oVar 3))) lNil)))))))) (fG [2] .t (iSqC (fVar 1)) (gNm 2) tTrue (qPair .t (fVar 2) (fWk (fOp2 pIxD (oVar 1) (oVar 2)) (fAlt (fG [3] .k (iSqC (fOp2 pIxD (oVar 1) (oVar 2))) (gNm 3) tTrue (qPair .k (fVar 3) (fPrim (porN pDict pDictT) (lCons (oE (fOp2 pIxD (oE (fOp2 pIxD (oVar 1) (oVar 2))) (oVar 3))) lNil)))) (fG [3] .t (iSqC (fOp2 pIxD (oVar 1) (oVar 2))) (gNm 3) tTrue (qPair .t (fVar 3) (fPrim (porN pDict pDictT) (lCons (oE (fOp2 pIxD (oE (fOp2 pIxD (oVar 1) (oVar 2))) (oVar 3))) lNil))))))))))) bNil)
theorem ok_Schema___init__ {P : Program} {w : World} {K : PySem.W.Frag} {mg : Str → Option Value} {base : Heap} {fa : Addr}  (F : ∃ fd, FunD K "__init__" "Schema.__init__" (defArgs s_Schema___init__) (defBody s_Schema___init__) (defScope s_Schema___init__) [] [] fa fd)
    (h_at : AtOk K atts)
    (b_dict : mg "dict" = none) : CalF P w K mg base 2 fa 2 (runB 4 (b_Schema___init__ )) :=
  calF F sc_Schema___init__ (fun _ _ _ _ _ _ us hl => match us, hl with | [_, _], _ => rfl) fun cdv A outer s H E hr =>
    (sb_cons (s_fld 0 h_at (se_wk (e_gd [("table", 2)] rfl sc_Schema___init__.nd (blkOk_by (N := ["self", "tables", "table", "column"]) (sc := defScope s_Schema___init__) (by decide +kernel)) (si_sqC (ev 1)) (fun _ _ _ _ _ => (g_nm 2 sc_Schema___init__.nd)) (fun _ _ _ _ _ => sts_nil) (q_pair hr (fun _ _ _ _ _ => (ev 2)) (fun _ _ _ _ _ => (se_wk (e_gd [("column", 3)] rfl sc_Schema___init__.nd (blkOk_by (N := ["self", "tables", "table", "column"]) (sc := _) (by kernel_rfl)) (si_sqC (e_ixD hr (ov 1) (ov 2))) (fun _ _ _ _ _ => (g_nm 3 sc_Schema___init__.nd)) (fun _ _ _ _ _ => sts_nil) (q_pair hr (fun _ _ _ _ _ => (ev 3)) (fun _ _ _ _ _ => (e_dict2 rfl hr b_dict (lc (so_e (e_ixD hr (so_e (e_ixD hr (ov 1) (ov 2))) (ov 3))) sl_nil)))) (q_pair hr (fun _ _ _ _ _ => (ev 3)) (fun _ _ _ _ _ => (e_dict2 rfl hr b_dict (lc (so_e (e_ixD hr (so_e (e_ixD hr (ov 1) (ov 2))) (ov 3))) sl_nil)))))))) (q_pair hr (fun _ _ _ _ _ => (ev 2)) (fun _ _ _ _ _ => (se_wk (e_gd [("column", 3)] rfl sc_Schema___init__.nd (blkOk_by (N := ["self", "tables", "table", "column"]) (sc := _) (by kernel_rfl)) (si_sqC (e_ixD hr (ov 1) (ov 2))) (fun _ _ _ _ _ => (g_nm 3 sc_Schema___init__.nd)) (fun _ _ _ _ _ => sts_nil) (q_pair hr (fun _ _ _ _ _ => (ev 3)) (fun _ _ _ _ _ => (e_dict2 rfl hr b_dict (lc (so_e (e_ixD hr (so_e (e_ixD hr (ov 1) (ov 2))) (ov 3))) sl_nil)))) (q_pair hr (fun _ _ _ _ _ => (ev 3)) (fun _ _ _ _ _ => (e_dict2 rfl hr b_dict (lc (so_e (e_ixD hr (so_e (e_ixD hr (ov 1) (ov 2))) (ov 3))) sl_nil))))))))))) sb_nil)

abbrev s_Schema___eq__ : Stmt := inClass (top 11) 1
theorem sc_Schema___eq__ : FnScope ["self", "other"] ["self", "other"] (defScope s_Schema___eq__) := ⟨rfl, rfl, rfl, by decide +kernel, rfl, by decide +kernel, by decide +kernel⟩
abbrev b_Schema___eq__  : SF :=
  (bCons (sRt (vAnd (fIsiO (isubP isubL) iownL.contains "Schema" (oVar 1)) (fAlt (fOp2 (pEqv false) (oE (fAtt (atP atts) "tables" (oVar 0))) (oE (fAtt (atP atts) "tables" (oVar 1)))) (fOp2 pEqD (oE (fAtt (atP atts) "tables" (oVar 0))) (oE (fAtt (atP atts) "tables" (oVar 1))))))) bNil)
theorem ok_Schema___eq__ {P : Program} {w : World} {K : PySem.W.Frag} {mg : Str → Option Value} {base : Heap} {fa : Addr}  (F : ∃ fd, FunD K "__eq__" "Schema.__eq__" (defArgs s_Schema___eq__) (defBody s_Schema___eq__) (defScope s_Schema___eq__) [] [] fa fd)
    (h_at : AtOk K atts)
    (h_isi : IsiOk K (isubP isubL) iownL.contains)
    (im_Schema : mg "Schema" = some (.ref (He.ga K "Schema")))
    (b_isinstance : mg "isinstance" = none) : CalF P w K mg base 2 fa 2 (runB 2 (b_Schema___eq__ )) :=
  calF F sc_Schema___eq__ (fun _ _ _ _ _ _ us hl => match us, hl with | [_, _], _ => rfl) fun cdv A outer s H E hr =>
    (sb_cons (ss_ret (se_and (e_isiO h_isi b_isinstance im_Schema (ov 1)) (se_one (se_alt (e_eq hr (so_e (e_att h_at (ov 0))) (so_e (e_att h_at (ov 1)))) (e_eqS hr (so_e (e_att h_at (ov 0))) (so_e (e_att h_at (ov 1)))))))) sb_nil)

abbrev s_Schema_marked : Stmt := inClass (top 11) 2
theorem sc_Schema_marked : FnScope ["self", "kind", "table", "column"] ["self"] (defScope s_Schema_marked) := ⟨rfl, rfl, rfl, by decide +kernel, rfl, by decide +kernel, by decide +kernel⟩
abbrev b_Schema_marked  : SF :=
  (bCons (sRt (fPrim pSortT (lCons (oE (fG [1, 2, 3] .l (iSqD (fCon (.kup [(.str "column"), (.str "index"), (.str "reference"), (.str "unique")]))) (gNm 1) tTrue (qNext (iSqD (fAtt (atP atts) "tables" (oVar 0))) (gNm 2) tTrue (qNext (iSqD (fOp2 pIxD (oE (fAtt (atP atts) "tables" (oVar 0))) (oVar 2))) (gNm 3) (tCp (fOp2 pInE (oVar 1) (oE (fOp2 pIxD (oE (fOp2 pIxD (oE (fAtt (atP atts) "tables" (oVar 0))) (oVar 2))) (oVar 3))))) (qItem (fTup (aCons (fVar 1) (aCons (fVar 2) (aCons (fVar 3) aNil))))) [3]) [2, 3]))) lNil))) bNil)
theorem ok_Schema_marked {P : Program} {w : World} {K : PySem.W.Frag} {mg : Str → Option Value} {base : Heap} {fa : Addr} {a_MARKS : Addr} (F : ∃ fd, FunD K "marked" "Schema.marked" (defArgs s_Schema_marked) (defBody s_Schema_marked) (defScope s_Schema_marked) [] [] fa fd)
    (h_at : AtOk K atts)
    (g_MARKS : mg "MARKS" = some (.ref a_MARKS)) (q_MARKS : ∀ H, Rep K H (.kup [(.str "column"), (.str "index"), (.str "reference"), (.str "unique")]) (.ref a_MARKS))
    (b_sorted : mg "sorted" = none) : CalF P w K mg base 2 fa 1 (runB 4 (b_Schema_marked )) :=
  calF F sc_Schema_marked (fun _ _ _ _ _ _ us hl => match us, hl with | [_], _ => rfl) fun cdv A outer s H E hr =>
    (sb_cons (ss_ret (e_sorted b_sorted (lc (so_e (e_gl [("kind", 1), ("table", 2), ("column", 3)] rfl sc_Schema_marked.nd (blkOk_by (N := ["self", "kind", "table", "column"]) (sc := defScope s_Schema_marked) (by decide +kernel)) (si_sqD (e_glob g_MARKS q_MARKS)) (fun _ _ _ _ _ => (g_nm 1 sc_Schema_marked.nd)) (fun _ _ _ _ _ => sts_nil) (q_next rfl (fun _ _ _ _ _ => (si_sqD (e_att h_at (ov 0)))) (fun _ _ _ _ _ => (g_nm 2 sc_Schema_marked.nd)) (fun _ _ _ _ _ => sts_nil) (q_next rfl (fun _ _ _ _ _ => (si_sqD (e_ixD hr (so_e (e_att h_at (ov 0))) (ov 2)))) (fun _ _ _ _ _ => (g_nm 3 sc_Schema_marked.nd)) (fun _ _ _ _ _ => (sts_one (t_inE hr (ov 1) (so_e (e_ixD hr (so_e (e_ixD hr (so_e (e_att h_at (ov 0))) (ov 2))) (ov 3)))))) (q_item (fun _ _ _ _ _ => (se_tup (ac (ev 1) (ac (ev 2) (ac (ev 3) sa_nil)))))))))) sl_nil))) sb_nil)

abbrev s_Woven___init__ : Stmt := inClass (top 13) 0
theorem sc_Woven___init__ : FnScope ["self", "length", "starts", "chain", "change"] ["self", "length", "starts", "chain"] (defScope s_Woven___init__) := ⟨rfl, rfl, rfl, by decide +kernel, rfl, by decide +kernel, by decide +kernel⟩
abbrev b_Woven___init__  : SF :=
  (bCons (sFldS (atP atts) 0 "length" (fVar 1)) (bCons (sFldS (atP atts) 0 "starts" (fWk (fVar 2) (fAlt (fG [4] .k (iSqC (fVar 2)) (gNm 4) tTrue (qPair .k (fVar 4) (fOp2 pIxD (oVar 2) (oVar 4)))) (fG [4] .t (iSqC (fVar 2)) (gNm 4) tTrue (qPair .t (fVar 4) (fOp2 pIxD (oVar 2) (oVar 4))))))) (bCons (sFldS (atP atts) 0 "chain" (fPrim pTuple (lCons (oVar 3) lNil))) bNil)))
theorem ok_Woven___init__ {P : Program} {w : World} {K : PySem.W.Frag} {mg : Str → Option Value} {base : Heap} {fa : Addr}  (F : ∃ fd, FunD K "__init__" "Woven.__init__" (defArgs s_Woven___init__) (defBody s_Woven___init__) (defScope s_Woven___init__) [] [] fa fd)
    (h_at : AtOk K atts)
    (b_tuple : mg "tuple" = none) : CalF P w K mg base 2 fa 4 (runB 5 (b_Woven___init__ )) :=
  calF F sc_Woven___init__ (fun _ _ _ _ _ _ us hl => match us, hl with | [_, _, _, _], _ => rfl) fun cdv A outer s H E hr =>
    (sb_cons (s_fld 0 h_at (ev 1)) (sb_cons (s_fld 0 h_at (se_wk (e_gd [("change", 4)] rfl sc_Woven___init__.nd (blkOk_by (N := ["self", "length", "starts", "chain", "change"]) (sc := defScope s_Woven___init__) (by decide +kernel)) (si_sqC (ev 2)) (fun _ _ _ _ _ => (g_nm 4 sc_Woven___init__.nd)) (fun _ _ _ _ _ => sts_nil) (q_pair hr (fun _ _ _ _ _ => (ev 4)) (fun _ _ _ _ _ => (e_ixD hr (ov 2) (ov 4)))) (q_pair hr (fun _ _ _ _ _ => (ev 4)) (fun _ _ _ _ _ => (e_ixD hr (ov 2) (ov 4))))))) (sb_cons (s_fld 0 h_at (e_tuple b_tuple (lc (ov 3) sl_nil))) sb_nil)))

abbrev s_Woven___eq__ : Stmt := inClass (top 13) 1
theorem sc_Woven___eq__ : FnScope ["self", "other"] ["self", "other"] (defScope s_Woven___eq__) := ⟨rfl, rfl, rfl, by decide +kernel, rfl, by decide +kernel, by decide +kernel⟩
abbrev b_Woven___eq__  : SF :=
  (bCons (sRt (vAnd (fIsiO (isubP isubL) iownL.contains "Woven" (oVar 1)) (vAnd (fAlt (fOp2 (pEqv false) (oE (fAtt (atP atts) "length" (oVar 0))) (oE (fAtt (atP atts) "length" (oVar 1)))) (fOp2 pEqD (oE (fAtt (atP atts) "length" (oVar 0))) (oE (fAtt (atP atts) "length" (oVar 1))))) (vAnd (fAlt (fOp2 (pEqv false) (oE (fAtt (atP atts) "starts" (oVar 0))) (oE (fAtt (atP atts) "starts" (oVar 1)))) (fOp2 pEqD (oE (fAtt (atP atts) "starts" (oVar 0))) (oE (fAtt (atP atts) "starts" (oVar 1))))) (fAlt (fOp2 (pEqv false) (oE (fAtt (atP atts) "chain" (oVar 0))) (oE (fAtt (atP atts) "chain" (oVar 1)))) (fOp2 pEqD (oE (fAtt (atP atts) "chain" (oVar 0))) (oE (fAtt (atP atts) "chain" (oVar 1))))))))) bNil)
theorem ok_Woven___eq__ {P : Program} {w : World} {K : PySem.W.Frag} {mg : Str → Option Value} {base : Heap} {fa : Addr}  (F : ∃ fd, FunD K "__eq__" "Woven.__eq__" (defArgs s_Woven___eq__) (defBody s_Woven___eq__) (defScope s_Woven___eq__) [] [] fa fd)
    (h_at : AtOk K atts)
    (h_isi : IsiOk K (isubP isubL) iownL.contains)
    (im_Woven : mg "Woven" = some (.ref (He.ga K "Woven")))
    (b_isinstance : mg "isinstance" = none) : CalF P w K mg base 2 fa 2 (runB 2 (b_Woven___eq__ )) :=
  calF F sc_Woven___eq__ (fun _ _ _ _ _ _ us hl => match us, hl with | [_, _], _ => rfl) fun cdv A outer s H E hr =>
    (sb_cons (ss_ret (se_and (e_isiO h_isi b_isinstance im_Woven (ov 1)) (se_and (se_alt (e_eq hr (so_e (e_att h_at (ov 0))) (so_e (e_att h_at (ov 1)))) (e_eqS hr (so_e (e_att h_at (ov 0))) (so_e (e_att h_at (ov 1))))) (se_and (se_alt (e_eq hr (so_e (e_att h_at (ov 0))) (so_e (e_att h_at (ov 1)))) (e_eqS hr (so_e (e_att h_at (ov 0))) (so_e (e_att h_at (ov 1))))) (se_one (se_alt (e_eq hr (so_e (e_att h_at (ov 0))) (so_e (e_att h_at (ov 1)))) (e_eqS hr (so_e (e_att h_at (ov 0))) (so_e (e_att h_at (ov 1)))))))))) sb_nil)

abbrev s_Woven_shows : Stmt := inClass (top 13) 2
theorem sc_Woven_shows : FnScope ["self", "old", "new"] ["self", "old", "new"] (defScope s_Woven_shows) := ⟨rfl, rfl, rfl, by decide +kernel, rfl, by decide +kernel, by decide +kernel⟩
abbrev b_Woven_shows (r__wall : Dz.Run) : SF :=
  (bCons (sEx (fCall 1 r__wall (lCons (oE (fCon (.int 0))) lNil))) bNil)
theorem ok_Woven_shows {P : Program} {w : World} {K : PySem.W.Frag} {mg : Str → Option Value} {base : Heap} {fa : Addr} {a__wall : Addr} {r__wall : Dz.Run} (F : ∃ fd, FunD K "shows" "Woven.shows" (defArgs s_Woven_shows) (defBody s_Woven_shows) (defScope s_Woven_shows) [] [] fa fd)
    (c__wall : CalF P w K mg base 2 a__wall 1 r__wall) (m__wall : mg "_wall" = some (.ref a__wall)) : CalF P w K mg base 3 fa 3 (runB 3 (b_Woven_shows r__wall)) :=
  calF F sc_Woven_shows (fun _ _ _ _ _ _ us hl => match us, hl with | [_, _, _], _ => rfl) fun cdv A outer s H E hr =>
    (sb_cons (s_expr (e_call c__wall (hr.mono (by decide)) m__wall (lc (so_e se_int) sl_nil))) sb_nil)

abbrev s_Woven__is_in_time : Stmt := inClass (top 13) 3
theorem sc_Woven__is_in_time : FnScope ["self", "change", "told"] ["self", "change", "told"] (defScope s_Woven__is_in_time) := ⟨rfl, rfl, rfl, by decide +kernel, rfl, by decide +kernel, by decide +kernel⟩
abbrev b_Woven__is_in_time (r__wall : Dz.Run) : SF :=
  (bCons (sEx (fCall 1 r__wall (lCons (oE (fCon (.int 1))) lNil))) bNil)
theorem ok_Woven__is_in_time {P : Program} {w : World} {K : PySem.W.Frag} {mg : Str → Option Value} {base : Heap} {fa : Addr} {a__wall : Addr} {r__wall : Dz.Run} (F : ∃ fd, FunD K "_is_in_time" "Woven._is_in_time" (defArgs s_Woven__is_in_time) (defBody s_Woven__is_in_time) (defScope s_Woven__is_in_time) [] [] fa fd)
    (c__wall : CalF P w K mg base 2 a__wall 1 r__wall) (m__wall : mg "_wall" = some (.ref a__wall)) : CalF P w K mg base 3 fa 3 (runB 3 (b_Woven__is_in_time r__wall)) :=
  calF F sc_Woven__is_in_time (fun _ _ _ _ _ _ us hl => match us, hl with | [_, _, _], _ => rfl) fun cdv A outer s H E hr =>
    (sb_cons (s_expr (e_call c__wall (hr.mono (by decide)) m__wall (lc (so_e se_int) sl_nil))) sb_nil)

abbrev s_Woven__end : Stmt := inClass (top 13) 4
theorem sc_Woven__end : FnScope ["self", "change"] ["self", "change"] (defScope s_Woven__end) := ⟨rfl, rfl, rfl, by decide +kernel, rfl, by decide +kernel, by decide +kernel⟩
abbrev b_Woven__end (r__wall : Dz.Run) : SF :=
  (bCons (sEx (fCall 1 r__wall (lCons (oE (fCon (.int 2))) lNil))) bNil)
theorem ok_Woven__end {P : Program} {w : World} {K : PySem.W.Frag} {mg : Str → Option Value} {base : Heap} {fa : Addr} {a__wall : Addr} {r__wall : Dz.Run} (F : ∃ fd, FunD K "_end" "Woven._end" (defArgs s_Woven__end) (defBody s_Woven__end) (defScope s_Woven__end) [] [] fa fd)
    (c__wall : CalF P w K mg base 2 a__wall 1 r__wall) (m__wall : mg "_wall" = some (.ref a__wall)) : CalF P w K mg base 3 fa 2 (runB 2 (b_Woven__end r__wall)) :=
  calF F sc_Woven__end (fun _ _ _ _ _ _ us hl => match us, hl with | [_, _], _ => rfl) fun cdv A outer s H E hr =>
    (sb_cons (s_expr (e_call c__wall (hr.mono (by decide)) m__wall (lc (so_e se_int) sl_nil))) sb_nil)

abbrev s_Woven__is_barred : Stmt := inClass (top 13) 5
theorem sc_Woven__is_barred : FnScope ["self", "told"] ["self", "told"] (defScope s_Woven__is_barred) := ⟨rfl, rfl, rfl, by decide +kernel, rfl, by decide +kernel, by decide +kernel⟩
abbrev b_Woven__is_barred (r__wall : Dz.Run) : SF :=
  (bCons (sEx (fCall 1 r__wall (lCons (oE (fCon (.int 3))) lNil))) bNil)
theorem ok_Woven__is_barred {P : Program} {w : World} {K : PySem.W.Frag} {mg : Str → Option Value} {base : Heap} {fa : Addr} {a__wall : Addr} {r__wall : Dz.Run} (F : ∃ fd, FunD K "_is_barred" "Woven._is_barred" (defArgs s_Woven__is_barred) (defBody s_Woven__is_barred) (defScope s_Woven__is_barred) [] [] fa fd)
    (c__wall : CalF P w K mg base 2 a__wall 1 r__wall) (m__wall : mg "_wall" = some (.ref a__wall)) : CalF P w K mg base 3 fa 2 (runB 2 (b_Woven__is_barred r__wall)) :=
  calF F sc_Woven__is_barred (fun _ _ _ _ _ _ us hl => match us, hl with | [_, _], _ => rfl) fun cdv A outer s H E hr =>
    (sb_cons (s_expr (e_call c__wall (hr.mono (by decide)) m__wall (lc (so_e se_int) sl_nil))) sb_nil)

abbrev s_Woven_plan : Stmt := inClass (top 13) 6
theorem sc_Woven_plan : FnScope ["self", "change"] ["self", "change"] (defScope s_Woven_plan) := ⟨rfl, rfl, rfl, by decide +kernel, rfl, by decide +kernel, by decide +kernel⟩
abbrev b_Woven_plan (r__wall : Dz.Run) : SF :=
  (bCons (sEx (fCall 1 r__wall (lCons (oE (fCon (.int 4))) lNil))) bNil)
theorem ok_Woven_plan {P : Program} {w : World} {K : PySem.W.Frag} {mg : Str → Option Value} {base : Heap} {fa : Addr} {a__wall : Addr} {r__wall : Dz.Run} (F : ∃ fd, FunD K "plan" "Woven.plan" (defArgs s_Woven_plan) (defBody s_Woven_plan) (defScope s_Woven_plan) [] [] fa fd)
    (c__wall : CalF P w K mg base 2 a__wall 1 r__wall) (m__wall : mg "_wall" = some (.ref a__wall)) : CalF P w K mg base 3 fa 2 (runB 2 (b_Woven_plan r__wall)) :=
  calF F sc_Woven_plan (fun _ _ _ _ _ _ us hl => match us, hl with | [_, _], _ => rfl) fun cdv A outer s H E hr =>
    (sb_cons (s_expr (e_call c__wall (hr.mono (by decide)) m__wall (lc (so_e se_int) sl_nil))) sb_nil)

abbrev s_Woven_duties_at : Stmt := inClass (top 13) 7
theorem sc_Woven_duties_at : FnScope ["self", "version"] ["self", "version"] (defScope s_Woven_duties_at) := ⟨rfl, rfl, rfl, by decide +kernel, rfl, by decide +kernel, by decide +kernel⟩
abbrev b_Woven_duties_at (r__wall : Dz.Run) : SF :=
  (bCons (sEx (fCall 1 r__wall (lCons (oE (fCon (.int 5))) lNil))) bNil)
theorem ok_Woven_duties_at {P : Program} {w : World} {K : PySem.W.Frag} {mg : Str → Option Value} {base : Heap} {fa : Addr} {a__wall : Addr} {r__wall : Dz.Run} (F : ∃ fd, FunD K "duties_at" "Woven.duties_at" (defArgs s_Woven_duties_at) (defBody s_Woven_duties_at) (defScope s_Woven_duties_at) [] [] fa fd)
    (c__wall : CalF P w K mg base 2 a__wall 1 r__wall) (m__wall : mg "_wall" = some (.ref a__wall)) : CalF P w K mg base 3 fa 2 (runB 2 (b_Woven_duties_at r__wall)) :=
  calF F sc_Woven_duties_at (fun _ _ _ _ _ _ us hl => match us, hl with | [_, _], _ => rfl) fun cdv A outer s H E hr =>
    (sb_cons (s_expr (e_call c__wall (hr.mono (by decide)) m__wall (lc (so_e se_int) sl_nil))) sb_nil)

abbrev s_Terms___init__ : Stmt := inClass (top 17) 0
theorem sc_Terms___init__ : FnScope ["self", "length", "delay", "wait", "drift"] ["self", "length", "delay", "wait", "drift"] (defScope s_Terms___init__) := ⟨rfl, rfl, rfl, by decide +kernel, rfl, by decide +kernel, by decide +kernel⟩
abbrev b_Terms___init__ (r__is_fraction : Dz.Run) (r__is_term : Dz.Run) (r_Enough___bool__ : Dz.Run) (r_TooShort___bool__ : Dz.Run) : SF :=
  (bCons (sIf (tNotF (tOfO [("Enough", "__bool__", 1, r_Enough___bool__), ("TooShort", "__bool__", 1, r_TooShort___bool__)] (oE (fCall 2 r__is_term (lCons (oVar 1) (lCons (oE (fCon (.int 1))) lNil)))))) (bCons sNo bNil) bNil) (bCons (sIf (tNotF (tOfO [("Enough", "__bool__", 1, r_Enough___bool__), ("TooShort", "__bool__", 1, r_TooShort___bool__)] (oE (fCall 2 r__is_term (lCons (oVar 2) (lCons (oE (fCon (.int 0))) lNil)))))) (bCons sNo bNil) bNil) (bCons (sIf (tNotF (tOfO [("Enough", "__bool__", 1, r_Enough___bool__), ("TooShort", "__bool__", 1, r_TooShort___bool__)] (oE (fCall 2 r__is_term (lCons (oVar 3) (lCons (oE (fCon (.int 1))) lNil)))))) (bCons sNo bNil) bNil) (bCons (sIf (tOrF (tNotF (tOfO [("Enough", "__bool__", 1, r_Enough___bool__), ("TooShort", "__bool__", 1, r_TooShort___bool__)] (oE (fCall 1 r__is_fraction (lCons (oVar 4) lNil))))) (tNotF (tCp (fChain pLt pLe (oE (fOp2 pIxD (oVar 4) (oE (fCon (.int 0))))) (oE (fOp2 pIxD (oVar 4) (oE (fCon (.int 1))))) (oE (fCon (.int 1000))))))) (bCons sNo bNil) bNil) (bCons (sFldS (atP atts) 0 "length" (fVar 1)) (bCons (sFldS (atP atts) 0 "delay" (fVar 2)) (bCons (sFldS (atP atts) 0 "wait" (fVar 3)) (bCons (sFldS (atP atts) 0 "drift" (fVar 4)) bNil))))))))
theorem ok_Terms___init__ {P : Program} {w : World} {K : PySem.W.Frag} {mg : Str → Option Value} {base : Heap} {fa : Addr} {a__is_fraction : Addr} {r__is_fraction : Dz.Run} {a__is_term : Addr} {r__is_term : Dz.Run} {r_Enough___bool__ : Dz.Run} {r_TooShort___bool__ : Dz.Run} (F : ∃ fd, FunD K "__init__" "Terms.__init__" (defArgs s_Terms___init__) (defBody s_Terms___init__) (defScope s_Terms___init__) [] [] fa fd)
    (c__is_fraction : CalF P w K mg base 5 a__is_fraction 1 r__is_fraction) (m__is_fraction : mg "_is_fraction" = some (.ref a__is_fraction))
    (c__is_term : CalF P w K mg base 3 a__is_term 2 r__is_term) (m__is_term : mg "_is_term" = some (.ref a__is_term))
    (mm___bool__ : MtOk P w K mg base 2 [("Enough", "__bool__", 1, r_Enough___bool__), ("TooShort", "__bool__", 1, r_TooShort___bool__)])
    (h_at : AtOk K atts)
    (v_MOST_BELOW : GloC K mg "MOST_BELOW" (.int 1000)) : CalF P w K mg base 6 fa 5 (runB 5 (b_Terms___init__ r__is_fraction r__is_term r_Enough___bool__ r_TooShort___bool__)) :=
  calF F sc_Terms___init__ (fun _ _ _ _ _ _ us hl => match us, hl with | [_, _, _, _, _], _ => rfl) fun cdv A outer s H E hr =>
    (sb_cons (ss_if (st_not (st_ofO mm___bool__ (hr.mono (by decide)) (so_e (e_call c__is_term (hr.mono (by decide)) m__is_term (lc (ov 1) (lc (so_e se_int) sl_nil)))))) (sb_cons ss_no sb_nil) sb_nil) (sb_cons (ss_if (st_not (st_ofO mm___bool__ (hr.mono (by decide)) (so_e (e_call c__is_term (hr.mono (by decide)) m__is_term (lc (ov 2) (lc (so_e se_int) sl_nil)))))) (sb_cons ss_no sb_nil) sb_nil) (sb_cons (ss_if (st_not (st_ofO mm___bool__ (hr.mono (by decide)) (so_e (e_call c__is_term (hr.mono (by decide)) m__is_term (lc (ov 3) (lc (so_e se_int) sl_nil)))))) (sb_cons ss_no sb_nil) sb_nil) (sb_cons (ss_if (SW.st (sw_or (st_not (st_ofO mm___bool__ (hr.mono (by decide)) (so_e (e_call c__is_fraction (hr.mono (by decide)) m__is_fraction (lc (ov 4) sl_nil))))) (sw_or1 (st_not (st_chain op_lt op_le p2_lt p2_le (so_e (e_ixD hr (ov 4) (so_e se_int))) (so_e (e_ixD hr (ov 4) (so_e se_int))) (so_e (e_gloC v_MOST_BELOW))))))) (sb_cons ss_no sb_nil) sb_nil) (sb_cons (s_fld 0 h_at (ev 1)) (sb_cons (s_fld 0 h_at (ev 2)) (sb_cons (s_fld 0 h_at (ev 3)) (sb_cons (s_fld 0 h_at (ev 4)) sb_nil))))))))

abbrev s_Terms___eq__ : Stmt := inClass (top 17) 1
theorem sc_Terms___eq__ : FnScope ["self", "other"] ["self", "other"] (defScope s_Terms___eq__) := ⟨rfl, rfl, rfl, by decide +kernel, rfl, by decide +kernel, by decide +kernel⟩
abbrev b_Terms___eq__  : SF :=
  (bCons (sRt (vAnd (fIsiO (isubP isubL) iownL.contains "Terms" (oVar 1)) (vAnd (fOp2 (pEqv false) (oE (fAtt (atP atts) "length" (oVar 0))) (oE (fAtt (atP atts) "length" (oVar 1)))) (vAnd (fOp2 (pEqv false) (oE (fAtt (atP atts) "delay" (oVar 0))) (oE (fAtt (atP atts) "delay" (oVar 1)))) (vAnd (fOp2 (pEqv false) (oE (fAtt (atP atts) "wait" (oVar 0))) (oE (fAtt (atP atts) "wait" (oVar 1)))) (fOp2 (pEqv false) (oE (fAtt (atP atts) "drift" (oVar 0))) (oE (fAtt (atP atts) "drift" (oVar 1))))))))) bNil)
theorem ok_Terms___eq__ {P : Program} {w : World} {K : PySem.W.Frag} {mg : Str → Option Value} {base : Heap} {fa : Addr}  (F : ∃ fd, FunD K "__eq__" "Terms.__eq__" (defArgs s_Terms___eq__) (defBody s_Terms___eq__) (defScope s_Terms___eq__) [] [] fa fd)
    (h_at : AtOk K atts)
    (h_isi : IsiOk K (isubP isubL) iownL.contains)
    (im_Terms : mg "Terms" = some (.ref (He.ga K "Terms")))
    (b_isinstance : mg "isinstance" = none) : CalF P w K mg base 2 fa 2 (runB 2 (b_Terms___eq__ )) :=
  calF F sc_Terms___eq__ (fun _ _ _ _ _ _ us hl => match us, hl with | [_, _], _ => rfl) fun cdv A outer s H E hr =>
    (sb_cons (ss_ret (se_and (e_isiO h_isi b_isinstance im_Terms (ov 1)) (se_and (e_eq hr (so_e (e_att h_at (ov 0))) (so_e (e_att h_at (ov 1)))) (se_and (e_eq hr (so_e (e_att h_at (ov 0))) (so_e (e_att h_at (ov 1)))) (se_and (e_eq hr (so_e (e_att h_at (ov 0))) (so_e (e_att h_at (ov 1)))) (se_one (e_eq hr (so_e (e_att h_at (ov 0))) (so_e (e_att h_at (ov 1)))))))))) sb_nil)

abbrev s_Enough___init__ : Stmt := inClass (top 18) 0
theorem sc_Enough___init__ : FnScope ["self", "margin"] ["self", "margin"] (defScope s_Enough___init__) := ⟨rfl, rfl, rfl, by decide +kernel, rfl, by decide +kernel, by decide +kernel⟩
abbrev b_Enough___init__  : SF :=
  (bCons (sFldS (atP atts) 0 "margin" (fVar 1)) bNil)
theorem ok_Enough___init__ {P : Program} {w : World} {K : PySem.W.Frag} {mg : Str → Option Value} {base : Heap} {fa : Addr}  (F : ∃ fd, FunD K "__init__" "Enough.__init__" (defArgs s_Enough___init__) (defBody s_Enough___init__) (defScope s_Enough___init__) [] [] fa fd)
    (h_at : AtOk K atts) : CalF P w K mg base 2 fa 2 (runB 2 (b_Enough___init__ )) :=
  calF F sc_Enough___init__ (fun _ _ _ _ _ _ us hl => match us, hl with | [_, _], _ => rfl) fun cdv A outer s H E hr =>
    (sb_cons (s_fld 0 h_at (ev 1)) sb_nil)

abbrev s_Enough___eq__ : Stmt := inClass (top 18) 1
theorem sc_Enough___eq__ : FnScope ["self", "other"] ["self", "other"] (defScope s_Enough___eq__) := ⟨rfl, rfl, rfl, by decide +kernel, rfl, by decide +kernel, by decide +kernel⟩
abbrev b_Enough___eq__  : SF :=
  (bCons (sRt (vAnd (fIsiO (isubP isubL) iownL.contains "Enough" (oVar 1)) (fOp2 (pEqv false) (oE (fAtt (atP atts) "margin" (oVar 0))) (oE (fAtt (atP atts) "margin" (oVar 1)))))) bNil)
theorem ok_Enough___eq__ {P : Program} {w : World} {K : PySem.W.Frag} {mg : Str → Option Value} {base : Heap} {fa : Addr}  (F : ∃ fd, FunD K "__eq__" "Enough.__eq__" (defArgs s_Enough___eq__) (defBody s_Enough___eq__) (defScope s_Enough___eq__) [] [] fa fd)
    (h_at : AtOk K atts)
    (h_isi : IsiOk K (isubP isubL) iownL.contains)
    (im_Enough : mg "Enough" = some (.ref (He.ga K "Enough")))
    (b_isinstance : mg "isinstance" = none) : CalF P w K mg base 2 fa 2 (runB 2 (b_Enough___eq__ )) :=
  calF F sc_Enough___eq__ (fun _ _ _ _ _ _ us hl => match us, hl with | [_, _], _ => rfl) fun cdv A outer s H E hr =>
    (sb_cons (ss_ret (se_and (e_isiO h_isi b_isinstance im_Enough (ov 1)) (se_one (e_eq hr (so_e (e_att h_at (ov 0))) (so_e (e_att h_at (ov 1))))))) sb_nil)

abbrev s_Enough___bool__ : Stmt := inClass (top 18) 2
theorem sc_Enough___bool__ : FnScope ["self"] ["self"] (defScope s_Enough___bool__) := ⟨rfl, rfl, rfl, by decide +kernel, rfl, by decide +kernel, by decide +kernel⟩
abbrev b_Enough___bool__  : SF :=
  (bCons (sRt (fCon (.bl true))) bNil)
theorem ok_Enough___bool__ {P : Program} {w : World} {K : PySem.W.Frag} {mg : Str → Option Value} {base : Heap} {fa : Addr}  (F : ∃ fd, FunD K "__bool__" "Enough.__bool__" (defArgs s_Enough___bool__) (defBody s_Enough___bool__) (defScope s_Enough___bool__) [] [] fa fd) : CalF P w K mg base 2 fa 1 (runB 1 (b_Enough___bool__ )) :=
  calF F sc_Enough___bool__ (fun _ _ _ _ _ _ us hl => match us, hl with | [_], _ => rfl) fun cdv A outer s H E hr =>
    (sb_cons (ss_ret se_bl) sb_nil)

abbrev s_Enough_shows : Stmt := inClass (top 18) 3
theorem sc_Enough_shows : FnScope ["self", "terms", "lag"] ["self", "terms", "lag"] (defScope s_Enough_shows) := ⟨rfl, rfl, rfl, by decide +kernel, rfl, by decide +kernel, by decide +kernel⟩
abbrev b_Enough_shows (r__wall : Dz.Run) : SF :=
  (bCons (sEx (fCall 1 r__wall (lCons (oE (fCon (.int 6))) lNil))) bNil)
theorem ok_Enough_shows {P : Program} {w : World} {K : PySem.W.Frag} {mg : Str → Option Value} {base : Heap} {fa : Addr} {a__wall : Addr} {r__wall : Dz.Run} (F : ∃ fd, FunD K "shows" "Enough.shows" (defArgs s_Enough_shows) (defBody s_Enough_shows) (defScope s_Enough_shows) [] [] fa fd)
    (c__wall : CalF P w K mg base 2 a__wall 1 r__wall) (m__wall : mg "_wall" = some (.ref a__wall)) : CalF P w K mg base 3 fa 3 (runB 3 (b_Enough_shows r__wall)) :=
  calF F sc_Enough_shows (fun _ _ _ _ _ _ us hl => match us, hl with | [_, _, _], _ => rfl) fun cdv A outer s H E hr =>
    (sb_cons (s_expr (e_call c__wall (hr.mono (by decide)) m__wall (lc (so_e se_int) sl_nil))) sb_nil)

abbrev s_TooShort___init__ : Stmt := inClass (top 19) 0
theorem sc_TooShort___init__ : FnScope ["self", "tells", "made", "came", "used"] ["self", "tells", "made", "came", "used"] (defScope s_TooShort___init__) := ⟨rfl, rfl, rfl, by decide +kernel, rfl, by decide +kernel, by decide +kernel⟩
abbrev b_TooShort___init__  : SF :=
  (bCons (sFldS (atP atts) 0 "tells" (fPrim pTuple (lCons (oVar 1) lNil))) (bCons (sFldS (atP atts) 0 "made" (fVar 2)) (bCons (sFldS (atP atts) 0 "came" (fVar 3)) (bCons (sFldS (atP atts) 0 "used" (fVar 4)) bNil))))
theorem ok_TooShort___init__ {P : Program} {w : World} {K : PySem.W.Frag} {mg : Str → Option Value} {base : Heap} {fa : Addr}  (F : ∃ fd, FunD K "__init__" "TooShort.__init__" (defArgs s_TooShort___init__) (defBody s_TooShort___init__) (defScope s_TooShort___init__) [] [] fa fd)
    (h_at : AtOk K atts)
    (b_tuple : mg "tuple" = none) : CalF P w K mg base 2 fa 5 (runB 5 (b_TooShort___init__ )) :=
  calF F sc_TooShort___init__ (fun _ _ _ _ _ _ us hl => match us, hl with | [_, _, _, _, _], _ => rfl) fun cdv A outer s H E hr =>
    (sb_cons (s_fld 0 h_at (e_tuple b_tuple (lc (ov 1) sl_nil))) (sb_cons (s_fld 0 h_at (ev 2)) (sb_cons (s_fld 0 h_at (ev 3)) (sb_cons (s_fld 0 h_at (ev 4)) sb_nil))))

abbrev s_TooShort___eq__ : Stmt := inClass (top 19) 1
theorem sc_TooShort___eq__ : FnScope ["self", "other"] ["self", "other"] (defScope s_TooShort___eq__) := ⟨rfl, rfl, rfl, by decide +kernel, rfl, by decide +kernel, by decide +kernel⟩
abbrev b_TooShort___eq__  : SF :=
  (bCons (sRt (vAnd (fIsiO (isubP isubL) iownL.contains "TooShort" (oVar 1)) (vAnd (fOp2 (pEqv false) (oE (fAtt (atP atts) "tells" (oVar 0))) (oE (fAtt (atP atts) "tells" (oVar 1)))) (vAnd (fOp2 (pEqv false) (oE (fAtt (atP atts) "made" (oVar 0))) (oE (fAtt (atP atts) "made" (oVar 1)))) (vAnd (fOp2 (pEqv false) (oE (fAtt (atP atts) "came" (oVar 0))) (oE (fAtt (atP atts) "came" (oVar 1)))) (fOp2 (pEqv false) (oE (fAtt (atP atts) "used" (oVar 0))) (oE (fAtt (atP atts) "used" (oVar 1))))))))) bNil)
theorem ok_TooShort___eq__ {P : Program} {w : World} {K : PySem.W.Frag} {mg : Str → Option Value} {base : Heap} {fa : Addr}  (F : ∃ fd, FunD K "__eq__" "TooShort.__eq__" (defArgs s_TooShort___eq__) (defBody s_TooShort___eq__) (defScope s_TooShort___eq__) [] [] fa fd)
    (h_at : AtOk K atts)
    (h_isi : IsiOk K (isubP isubL) iownL.contains)
    (im_TooShort : mg "TooShort" = some (.ref (He.ga K "TooShort")))
    (b_isinstance : mg "isinstance" = none) : CalF P w K mg base 2 fa 2 (runB 2 (b_TooShort___eq__ )) :=
  calF F sc_TooShort___eq__ (fun _ _ _ _ _ _ us hl => match us, hl with | [_, _], _ => rfl) fun cdv A outer s H E hr =>
    (sb_cons (ss_ret (se_and (e_isiO h_isi b_isinstance im_TooShort (ov 1)) (se_and (e_eq hr (so_e (e_att h_at (ov 0))) (so_e (e_att h_at (ov 1)))) (se_and (e_eq hr (so_e (e_att h_at (ov 0))) (so_e (e_att h_at (ov 1)))) (se_and (e_eq hr (so_e (e_att h_at (ov 0))) (so_e (e_att h_at (ov 1)))) (se_one (e_eq hr (so_e (e_att h_at (ov 0))) (so_e (e_att h_at (ov 1)))))))))) sb_nil)

abbrev s_TooShort___bool__ : Stmt := inClass (top 19) 2
theorem sc_TooShort___bool__ : FnScope ["self"] ["self"] (defScope s_TooShort___bool__) := ⟨rfl, rfl, rfl, by decide +kernel, rfl, by decide +kernel, by decide +kernel⟩
abbrev b_TooShort___bool__  : SF :=
  (bCons (sRt (fCon (.bl false))) bNil)
theorem ok_TooShort___bool__ {P : Program} {w : World} {K : PySem.W.Frag} {mg : Str → Option Value} {base : Heap} {fa : Addr}  (F : ∃ fd, FunD K "__bool__" "TooShort.__bool__" (defArgs s_TooShort___bool__) (defBody s_TooShort___bool__) (defScope s_TooShort___bool__) [] [] fa fd) : CalF P w K mg base 2 fa 1 (runB 1 (b_TooShort___bool__ )) :=
  calF F sc_TooShort___bool__ (fun _ _ _ _ _ _ us hl => match us, hl with | [_], _ => rfl) fun cdv A outer s H E hr =>
    (sb_cons (ss_ret se_bl) sb_nil)

abbrev s_TooShort_shows : Stmt := inClass (top 19) 3
theorem sc_TooShort_shows : FnScope ["self", "terms", "lag"] ["self", "terms", "lag"] (defScope s_TooShort_shows) := ⟨rfl, rfl, rfl, by decide +kernel, rfl, by decide +kernel, by decide +kernel⟩
abbrev b_TooShort_shows (r__wall : Dz.Run) : SF :=
  (bCons (sEx (fCall 1 r__wall (lCons (oE (fCon (.int 7))) lNil))) bNil)
theorem ok_TooShort_shows {P : Program} {w : World} {K : PySem.W.Frag} {mg : Str → Option Value} {base : Heap} {fa : Addr} {a__wall : Addr} {r__wall : Dz.Run} (F : ∃ fd, FunD K "shows" "TooShort.shows" (defArgs s_TooShort_shows) (defBody s_TooShort_shows) (defScope s_TooShort_shows) [] [] fa fd)
    (c__wall : CalF P w K mg base 2 a__wall 1 r__wall) (m__wall : mg "_wall" = some (.ref a__wall)) : CalF P w K mg base 3 fa 3 (runB 3 (b_TooShort_shows r__wall)) :=
  calF F sc_TooShort_shows (fun _ _ _ _ _ _ us hl => match us, hl with | [_, _, _], _ => rfl) fun cdv A outer s H E hr =>
    (sb_cons (s_expr (e_call c__wall (hr.mono (by decide)) m__wall (lc (so_e se_int) sl_nil))) sb_nil)

abbrev s_TooShort__can_be_told : Stmt := inClass (top 19) 4
theorem sc_TooShort__can_be_told : FnScope ["self", "terms"] ["self", "terms"] (defScope s_TooShort__can_be_told) := ⟨rfl, rfl, rfl, by decide +kernel, rfl, by decide +kernel, by decide +kernel⟩
abbrev b_TooShort__can_be_told (r__wall : Dz.Run) : SF :=
  (bCons (sEx (fCall 1 r__wall (lCons (oE (fCon (.int 8))) lNil))) bNil)
theorem ok_TooShort__can_be_told {P : Program} {w : World} {K : PySem.W.Frag} {mg : Str → Option Value} {base : Heap} {fa : Addr} {a__wall : Addr} {r__wall : Dz.Run} (F : ∃ fd, FunD K "_can_be_told" "TooShort._can_be_told" (defArgs s_TooShort__can_be_told) (defBody s_TooShort__can_be_told) (defScope s_TooShort__can_be_told) [] [] fa fd)
    (c__wall : CalF P w K mg base 2 a__wall 1 r__wall) (m__wall : mg "_wall" = some (.ref a__wall)) : CalF P w K mg base 3 fa 2 (runB 2 (b_TooShort__can_be_told r__wall)) :=
  calF F sc_TooShort__can_be_told (fun _ _ _ _ _ _ us hl => match us, hl with | [_, _], _ => rfl) fun cdv A outer s H E hr =>
    (sb_cons (s_expr (e_call c__wall (hr.mono (by decide)) m__wall (lc (so_e se_int) sl_nil))) sb_nil)

abbrev s_TooShort__can_be_used : Stmt := inClass (top 19) 5
theorem sc_TooShort__can_be_used : FnScope ["self", "terms"] ["self", "terms"] (defScope s_TooShort__can_be_used) := ⟨rfl, rfl, rfl, by decide +kernel, rfl, by decide +kernel, by decide +kernel⟩
abbrev b_TooShort__can_be_used (r__wall : Dz.Run) : SF :=
  (bCons (sEx (fCall 1 r__wall (lCons (oE (fCon (.int 9))) lNil))) bNil)
theorem ok_TooShort__can_be_used {P : Program} {w : World} {K : PySem.W.Frag} {mg : Str → Option Value} {base : Heap} {fa : Addr} {a__wall : Addr} {r__wall : Dz.Run} (F : ∃ fd, FunD K "_can_be_used" "TooShort._can_be_used" (defArgs s_TooShort__can_be_used) (defBody s_TooShort__can_be_used) (defScope s_TooShort__can_be_used) [] [] fa fd)
    (c__wall : CalF P w K mg base 2 a__wall 1 r__wall) (m__wall : mg "_wall" = some (.ref a__wall)) : CalF P w K mg base 3 fa 2 (runB 2 (b_TooShort__can_be_used r__wall)) :=
  calF F sc_TooShort__can_be_used (fun _ _ _ _ _ _ us hl => match us, hl with | [_, _], _ => rfl) fun cdv A outer s H E hr =>
    (sb_cons (s_expr (e_call c__wall (hr.mono (by decide)) m__wall (lc (so_e se_int) sl_nil))) sb_nil)

abbrev s_TooShort__newest : Stmt := inClass (top 19) 6
theorem sc_TooShort__newest : FnScope ["self", "time"] ["self", "time"] (defScope s_TooShort__newest) := ⟨rfl, rfl, rfl, by decide +kernel, rfl, by decide +kernel, by decide +kernel⟩
abbrev b_TooShort__newest (r__wall : Dz.Run) : SF :=
  (bCons (sEx (fCall 1 r__wall (lCons (oE (fCon (.int 10))) lNil))) bNil)
theorem ok_TooShort__newest {P : Program} {w : World} {K : PySem.W.Frag} {mg : Str → Option Value} {base : Heap} {fa : Addr} {a__wall : Addr} {r__wall : Dz.Run} (F : ∃ fd, FunD K "_newest" "TooShort._newest" (defArgs s_TooShort__newest) (defBody s_TooShort__newest) (defScope s_TooShort__newest) [] [] fa fd)
    (c__wall : CalF P w K mg base 2 a__wall 1 r__wall) (m__wall : mg "_wall" = some (.ref a__wall)) : CalF P w K mg base 3 fa 2 (runB 2 (b_TooShort__newest r__wall)) :=
  calF F sc_TooShort__newest (fun _ _ _ _ _ _ us hl => match us, hl with | [_, _], _ => rfl) fun cdv A outer s H E hr =>
    (sb_cons (s_expr (e_call c__wall (hr.mono (by decide)) m__wall (lc (so_e se_int) sl_nil))) sb_nil)

def R__wall : Dz.Run := runB 1 (b__wall )
def R_is_integer : Dz.Run := runB 1 (b_is_integer )
def R_is_pair : Dz.Run := runB 1 (b_is_pair )
def R__is_term : Dz.Run := runB 2 (b__is_term R_is_integer)
def R_Enough___bool__ : Dz.Run := runB 1 (b_Enough___bool__ )
def R_TooShort___bool__ : Dz.Run := runB 1 (b_TooShort___bool__ )
def R__is_fraction : Dz.Run := runB 1 (b__is_fraction R_is_pair R_is_integer R_Enough___bool__ R_TooShort___bool__)
def R__law_number : Dz.Run := runB 7 (b__law_number )
def R__law_take : Dz.Run := runB 2 (b__law_take R__law_number)
def R_Terms___init__ : Dz.Run := runB 5 (b_Terms___init__ R__is_fraction R__is_term R_Enough___bool__ R_TooShort___bool__)
def R_Woven___init__ : Dz.Run := runB 5 (b_Woven___init__ )
def R_TooShort___init__ : Dz.Run := runB 5 (b_TooShort___init__ )
def R_Enough___init__ : Dz.Run := runB 2 (b_Enough___init__ )
def R__law_made : Dz.Run := runB 6 (b__law_made R__law_take R_Terms___init__ R_Woven___init__ R_TooShort___init__ R_Enough___init__)
def R__law_told : Dz.Run := runB 2 (b__law_told )
def R_Schema___init__ : Dz.Run := runB 4 (b_Schema___init__ )
def R_Schema___eq__ : Dz.Run := runB 2 (b_Schema___eq__ )
def R_Woven___eq__ : Dz.Run := runB 2 (b_Woven___eq__ )
def R_Terms___eq__ : Dz.Run := runB 2 (b_Terms___eq__ )
def R_Enough___eq__ : Dz.Run := runB 2 (b_Enough___eq__ )
def R_TooShort___eq__ : Dz.Run := runB 2 (b_TooShort___eq__ )
def R_Schema_marked : Dz.Run := runB 4 (b_Schema_marked )
def R__law_schema_right : Dz.Run := runB 6 (b__law_schema_right R__law_take R_Schema___init__ R_Schema___eq__ R_Woven___eq__ R_Terms___eq__ R_Enough___eq__ R_TooShort___eq__ R_Schema_marked)
def R_law : Dz.Run := runB 11 (b_law R__law_told R__law_made R__law_take R__law_schema_right R_Enough___init__ R_TooShort___init__ R_Schema___init__ R_Enough___bool__ R_TooShort___bool__ R_Schema___eq__ R_Woven___eq__ R_Terms___eq__ R_Enough___eq__ R_TooShort___eq__)
def R_Woven_shows : Dz.Run := runB 3 (b_Woven_shows R__wall)
def R_Woven__is_in_time : Dz.Run := runB 3 (b_Woven__is_in_time R__wall)
def R_Woven__end : Dz.Run := runB 2 (b_Woven__end R__wall)
def R_Woven__is_barred : Dz.Run := runB 2 (b_Woven__is_barred R__wall)
def R_Woven_plan : Dz.Run := runB 2 (b_Woven_plan R__wall)
def R_Woven_duties_at : Dz.Run := runB 2 (b_Woven_duties_at R__wall)
def R_Enough_shows : Dz.Run := runB 3 (b_Enough_shows R__wall)
def R_TooShort_shows : Dz.Run := runB 3 (b_TooShort_shows R__wall)
def R_TooShort__can_be_told : Dz.Run := runB 2 (b_TooShort__can_be_told R__wall)
def R_TooShort__can_be_used : Dz.Run := runB 2 (b_TooShort__can_be_used R__wall)
def R_TooShort__newest : Dz.Run := runB 2 (b_TooShort__newest R__wall)
def fn : List He.DefD := [⟨("_law_told", none), "_law_told", "_law_told", defArgs s__law_told, defBody s__law_told, defScope s__law_told, [], []⟩,
  ⟨("_law_number", none), "_law_number", "_law_number", defArgs s__law_number, defBody s__law_number, defScope s__law_number, [], []⟩,
  ⟨("_law_take", none), "_law_take", "_law_take", defArgs s__law_take, defBody s__law_take, defScope s__law_take, [], []⟩,
  ⟨("is_pair", none), "is_pair", "is_pair", defArgs s_is_pair, defBody s_is_pair, defScope s_is_pair, [], []⟩,
  ⟨("is_integer", none), "is_integer", "is_integer", defArgs s_is_integer, defBody s_is_integer, defScope s_is_integer, [], []⟩,
  ⟨("Enough", some "__bool__"), "__bool__", "Enough.__bool__", defArgs s_Enough___bool__, defBody s_Enough___bool__, defScope s_Enough___bool__, [], []⟩,
  ⟨("TooShort", some "__bool__"), "__bool__", "TooShort.__bool__", defArgs s_TooShort___bool__, defBody s_TooShort___bool__, defScope s_TooShort___bool__, [], []⟩,
  ⟨("_is_fraction", none), "_is_fraction", "_is_fraction", defArgs s__is_fraction, defBody s__is_fraction, defScope s__is_fraction, [], []⟩,
  ⟨("_is_term", none), "_is_term", "_is_term", defArgs s__is_term, defBody s__is_term, defScope s__is_term, [], []⟩,
  ⟨("Terms", some "__init__"), "__init__", "Terms.__init__", defArgs s_Terms___init__, defBody s_Terms___init__, defScope s_Terms___init__, [], []⟩,
  ⟨("Woven", some "__init__"), "__init__", "Woven.__init__", defArgs s_Woven___init__, defBody s_Woven___init__, defScope s_Woven___init__, [], []⟩,
  ⟨("TooShort", some "__init__"), "__init__", "TooShort.__init__", defArgs s_TooShort___init__, defBody s_TooShort___init__, defScope s_TooShort___init__, [], []⟩,
  ⟨("Enough", some "__init__"), "__init__", "Enough.__init__", defArgs s_Enough___init__, defBody s_Enough___init__, defScope s_Enough___init__, [], []⟩,
  ⟨("_law_made", none), "_law_made", "_law_made", defArgs s__law_made, defBody s__law_made, defScope s__law_made, [], []⟩,
  ⟨("Schema", some "__init__"), "__init__", "Schema.__init__", defArgs s_Schema___init__, defBody s_Schema___init__, defScope s_Schema___init__, [], []⟩,
  ⟨("Schema", some "__eq__"), "__eq__", "Schema.__eq__", defArgs s_Schema___eq__, defBody s_Schema___eq__, defScope s_Schema___eq__, [], []⟩,
  ⟨("Woven", some "__eq__"), "__eq__", "Woven.__eq__", defArgs s_Woven___eq__, defBody s_Woven___eq__, defScope s_Woven___eq__, [], []⟩,
  ⟨("Terms", some "__eq__"), "__eq__", "Terms.__eq__", defArgs s_Terms___eq__, defBody s_Terms___eq__, defScope s_Terms___eq__, [], []⟩,
  ⟨("Enough", some "__eq__"), "__eq__", "Enough.__eq__", defArgs s_Enough___eq__, defBody s_Enough___eq__, defScope s_Enough___eq__, [], []⟩,
  ⟨("TooShort", some "__eq__"), "__eq__", "TooShort.__eq__", defArgs s_TooShort___eq__, defBody s_TooShort___eq__, defScope s_TooShort___eq__, [], []⟩,
  ⟨("Schema", some "marked"), "marked", "Schema.marked", defArgs s_Schema_marked, defBody s_Schema_marked, defScope s_Schema_marked, [], []⟩,
  ⟨("_law_schema_right", none), "_law_schema_right", "_law_schema_right", defArgs s__law_schema_right, defBody s__law_schema_right, defScope s__law_schema_right, [], []⟩,
  ⟨("law", none), "law", "law", defArgs s_law, defBody s_law, defScope s_law, [], []⟩]
def fa : List He.Fa := [.glo "_law_told", .glo "_law_number", .glo "_law_take", .glo "is_pair", .glo "is_integer", .glo "_is_fraction", .glo "_is_term", .glo "_law_made", .glo "_law_schema_right", .glo "law", .glo "Enough", .cls "Enough", .mkr "Enough", .noat "Enough" "margin", .meth "Enough" "__init__", .meth "Enough" "__eq__", .meth "Enough" "__bool__", .glo "Schema", .cls "Schema", .mkr "Schema", .noat "Schema" "tables", .meth "Schema" "__init__", .meth "Schema" "__eq__", .meth "Schema" "marked", .glo "Terms", .cls "Terms", .mkr "Terms", .noat "Terms" "length", .noat "Terms" "delay", .noat "Terms" "wait", .noat "Terms" "drift", .meth "Terms" "__init__", .meth "Terms" "__eq__", .glo "TooShort", .cls "TooShort", .mkr "TooShort", .noat "TooShort" "tells", .noat "TooShort" "made", .noat "TooShort" "came", .noat "TooShort" "used", .meth "TooShort" "__init__", .meth "TooShort" "__eq__", .meth "TooShort" "__bool__", .glo "Woven", .cls "Woven", .mkr "Woven", .noat "Woven" "length", .noat "Woven" "starts", .noat "Woven" "chain", .meth "Woven" "__init__", .meth "Woven" "__eq__", .glo "MARKS", .free "int", .free "len", .free "range", .free "isinstance", .free "tuple", .free "bool", .free "dict", .free "sorted", .free "list"]
def ts : List He.Tab := []
def exl (K : PySem.W.Frag) : List Bool := [conD K "MARKS" (.kup [(.str "column"), (.str "index"), (.str "reference"), (.str "unique")]), conV K "MOST_TERM" (.int 1000000), conV K "MOST_BELOW" (.int 1000), isiOkB K isubL iownL, eqOkB K eqL clsL, bltV K "gcd" "math.gcd"]
def ex (K : PySem.W.Frag) : Bool := (exl K).all id
theorem exl_at {K : PySem.W.Frag} {b : Bool} (h : ex K = true) (i : Nat) (e : (exl K)[i]? = some b) : b = true := List.all_eq_true.mp h _ (List.mem_of_getElem? e)
theorem facts {P : Program} {w : World} {K : PySem.W.Frag} {h : Heap} {mg : Str → Option Value} {f : Addr} (X : K.In h) (G : h.Ns mainGlobals mg) (hfa : mg "law" = some (.ref f)) (c : He.SaysX fa fn ts [] ex w h K) :
    ∃ fd : FuncData, (∀ (s : Shared) (v : Value), BindsTo s fd ⟨[v], []⟩ [("script", v)]) ∧ ∀ base : Heap, K.In base → base.Ns mainGlobals mg → FnOk P w K mg base CX0 9 f fd ["script"] (spE K 1 R_law) := by
  obtain ⟨fd, F⟩ := c.t.d.def_ 22 (d := fn[22]) rfl
  have e := hfa.symm.trans (He.glo_ok X G (c.t.d.fact 9 (f := .glo "law") rfl))
  cases e
  have b := FunD.bindsA (ps := ["script"]) F fun _ _ _ _ _ _ us hl => match us, hl with | [_], _ => rfl
  refine ⟨fd, fun s v => b s [v] rfl, fun base _ _ => ?_⟩
  have cd : He.SaysD fa fn K := c.t.d
  have g_MARKS : mg "MARKS" = some (.ref (He.ga K "MARKS")) := He.glo_ok X G (cd.fact 51 rfl)
  have q_MARKS : ∀ H, Rep K H (.kup [(.str "column"), (.str "index"), (.str "reference"), (.str "unique")]) (.ref (He.ga K "MARKS")) := fun H => conD_ok (exl_at c.more 0 rfl) H
  have v_MOST_TERM : GloC K mg "MOST_TERM" (.int 1000000) := conV_ok X G (exl_at c.more 1 rfl)
  have v_MOST_BELOW : GloC K mg "MOST_BELOW" (.int 1000) := conV_ok X G (exl_at c.more 2 rfl)
  have im_Schema : mg "Schema" = some (.ref (He.ga K "Schema")) := He.glo_ok X G (cd.fact 17 rfl)
  have im_Woven : mg "Woven" = some (.ref (He.ga K "Woven")) := He.glo_ok X G (cd.fact 43 rfl)
  have im_Terms : mg "Terms" = some (.ref (He.ga K "Terms")) := He.glo_ok X G (cd.fact 24 rfl)
  have im_Enough : mg "Enough" = some (.ref (He.ga K "Enough")) := He.glo_ok X G (cd.fact 10 rfl)
  have im_TooShort : mg "TooShort" = some (.ref (He.ga K "TooShort")) := He.glo_ok X G (cd.fact 33 rfl)
  have b_int : mg "int" = none := He.free_ok X G (cd.fact 52 rfl)
  have b_len : mg "len" = none := He.free_ok X G (cd.fact 53 rfl)
  have b_range : mg "range" = none := He.free_ok X G (cd.fact 54 rfl)
  have b_isinstance : mg "isinstance" = none := He.free_ok X G (cd.fact 55 rfl)
  have b_tuple : mg "tuple" = none := He.free_ok X G (cd.fact 56 rfl)
  have b_bool : mg "bool" = none := He.free_ok X G (cd.fact 57 rfl)
  have b_dict : mg "dict" = none := He.free_ok X G (cd.fact 58 rfl)
  have b_sorted : mg "sorted" = none := He.free_ok X G (cd.fact 59 rfl)
  have b_list : mg "list" = none := He.free_ok X G (cd.fact 60 rfl)
  have m_Enough : mg "Enough" = some (.ref (He.ga K "Enough")) := He.glo_ok X G (cd.fact 10 rfl)
  have cl_Enough : Cls K (He.ga K "Enough") := He.cls_ok (cd.fact 11 rfl)
  have mk_Enough : Mk K (He.ga K "Enough") (He.ma K (He.ga K "Enough") "__init__") := He.mkr_ok (cd.fact 12 rfl)
  have m_Schema : mg "Schema" = some (.ref (He.ga K "Schema")) := He.glo_ok X G (cd.fact 17 rfl)
  have cl_Schema : Cls K (He.ga K "Schema") := He.cls_ok (cd.fact 18 rfl)
  have mk_Schema : Mk K (He.ga K "Schema") (He.ma K (He.ga K "Schema") "__init__") := He.mkr_ok (cd.fact 19 rfl)
  have m_Terms : mg "Terms" = some (.ref (He.ga K "Terms")) := He.glo_ok X G (cd.fact 24 rfl)
  have cl_Terms : Cls K (He.ga K "Terms") := He.cls_ok (cd.fact 25 rfl)
  have mk_Terms : Mk K (He.ga K "Terms") (He.ma K (He.ga K "Terms") "__init__") := He.mkr_ok (cd.fact 26 rfl)
  have m_TooShort : mg "TooShort" = some (.ref (He.ga K "TooShort")) := He.glo_ok X G (cd.fact 33 rfl)
  have cl_TooShort : Cls K (He.ga K "TooShort") := He.cls_ok (cd.fact 34 rfl)
  have mk_TooShort : Mk K (He.ga K "TooShort") (He.ma K (He.ga K "TooShort") "__init__") := He.mkr_ok (cd.fact 35 rfl)
  have m_Woven : mg "Woven" = some (.ref (He.ga K "Woven")) := He.glo_ok X G (cd.fact 43 rfl)
  have cl_Woven : Cls K (He.ga K "Woven") := He.cls_ok (cd.fact 44 rfl)
  have mk_Woven : Mk K (He.ga K "Woven") (He.ma K (He.ga K "Woven") "__init__") := He.mkr_ok (cd.fact 45 rfl)
  have h_cls : ∀ C ∈ clsL, Cls K (He.ga K C) := by
    intro p hp
    simp only [clsL, List.mem_cons, List.not_mem_nil, or_false] at hp
    rcases hp with rfl | rfl | rfl | rfl | rfl
    all_goals (first | exact cl_Schema | exact cl_Woven | exact cl_Terms | exact cl_Enough | exact cl_TooShort)
  have h_isi : IsiOk K (isubP isubL) iownL.contains := isiOkB_ok (fun p hp => h_cls p.1 (isubOf_mem hp)) (exl_at c.more 3 rfl)
  have h_eq : EqOk K (nfoP eqL clsL) eqL.contains := eqOkB_ok h_cls (exl_at c.more 4 rfl)
  have h_gcd : mg "gcd" = some (.builtin "math.gcd") := bltV_ok X G (exl_at c.more 5 rfl)
  have h_at : AtOk K atts := atOk_of (by
    intro p hp f hf
    simp only [atts, List.mem_cons, List.not_mem_nil, or_false] at hp
    rcases hp with rfl | rfl | rfl | rfl | rfl
    · simp only [List.mem_cons, List.not_mem_nil, or_false] at hf
      rcases hf with rfl
      · exact ⟨cl_Schema, He.noat_ok (cd.fact 20 rfl)⟩
    · simp only [List.mem_cons, List.not_mem_nil, or_false] at hf
      rcases hf with rfl | rfl | rfl
      · exact ⟨cl_Woven, He.noat_ok (cd.fact 46 rfl)⟩
      · exact ⟨cl_Woven, He.noat_ok (cd.fact 47 rfl)⟩
      · exact ⟨cl_Woven, He.noat_ok (cd.fact 48 rfl)⟩
    · simp only [List.mem_cons, List.not_mem_nil, or_false] at hf
      rcases hf with rfl | rfl | rfl | rfl
      · exact ⟨cl_Terms, He.noat_ok (cd.fact 27 rfl)⟩
      · exact ⟨cl_Terms, He.noat_ok (cd.fact 28 rfl)⟩
      · exact ⟨cl_Terms, He.noat_ok (cd.fact 29 rfl)⟩
      · exact ⟨cl_Terms, He.noat_ok (cd.fact 30 rfl)⟩
    · simp only [List.mem_cons, List.not_mem_nil, or_false] at hf
      rcases hf with rfl
      · exact ⟨cl_Enough, He.noat_ok (cd.fact 13 rfl)⟩
    · simp only [List.mem_cons, List.not_mem_nil, or_false] at hf
      rcases hf with rfl | rfl | rfl | rfl
      · exact ⟨cl_TooShort, He.noat_ok (cd.fact 36 rfl)⟩
      · exact ⟨cl_TooShort, He.noat_ok (cd.fact 37 rfl)⟩
      · exact ⟨cl_TooShort, He.noat_ok (cd.fact 38 rfl)⟩
      · exact ⟨cl_TooShort, He.noat_ok (cd.fact 39 rfl)⟩)
  have m__law_told : mg "_law_told" = some (.ref (He.ga K "_law_told")) := He.glo_ok X G (cd.fact 0 rfl)
  have c__law_told : CalF P w K mg base 2 (He.ga K "_law_told") 2 R__law_told := ok__law_told (cd.def_ 0 rfl) h_at
  have m__law_number : mg "_law_number" = some (.ref (He.ga K "_law_number")) := He.glo_ok X G (cd.fact 1 rfl)
  have c__law_number : CalF P w K mg base 2 (He.ga K "_law_number") 2 R__law_number := ok__law_number (cd.def_ 1 rfl) b_int b_len b_range
  have m__law_take : mg "_law_take" = some (.ref (He.ga K "_law_take")) := He.glo_ok X G (cd.fact 2 rfl)
  have c__law_take : CalF P w K mg base 3 (He.ga K "_law_take") 2 R__law_take := ok__law_take (cd.def_ 2 rfl) c__law_number m__law_number b_int
  have m_is_pair : mg "is_pair" = some (.ref (He.ga K "is_pair")) := He.glo_ok X G (cd.fact 3 rfl)
  have c_is_pair : CalF P w K mg base 2 (He.ga K "is_pair") 1 R_is_pair := ok_is_pair (cd.def_ 3 rfl) b_isinstance b_tuple b_len
  have m_is_integer : mg "is_integer" = some (.ref (He.ga K "is_integer")) := He.glo_ok X G (cd.fact 4 rfl)
  have c_is_integer : CalF P w K mg base 2 (He.ga K "is_integer") 1 R_is_integer := ok_is_integer (cd.def_ 4 rfl) b_isinstance b_int b_bool
  have c_Enough___bool__ : CalF P w K mg base 2 (He.ma K (He.ga K "Enough") "__bool__") 1 R_Enough___bool__ := ok_Enough___bool__ (cd.def_ 5 rfl) 
  have c_TooShort___bool__ : CalF P w K mg base 2 (He.ma K (He.ga K "TooShort") "__bool__") 1 R_TooShort___bool__ := ok_TooShort___bool__ (cd.def_ 6 rfl) 
  have m__is_fraction : mg "_is_fraction" = some (.ref (He.ga K "_is_fraction")) := He.glo_ok X G (cd.fact 5 rfl)
  have c__is_fraction : CalF P w K mg base 5 (He.ga K "_is_fraction") 1 R__is_fraction := ok__is_fraction (cd.def_ 7 rfl) c_is_pair m_is_pair c_is_integer m_is_integer (mtP_cons cl_Enough (He.meth_ok (cd.fact 16 rfl)) c_Enough___bool__ (by decide) (mtP_cons cl_TooShort (He.meth_ok (cd.fact 42 rfl)) c_TooShort___bool__ (by decide) mtP_nil)) h_gcd
  have m__is_term : mg "_is_term" = some (.ref (He.ga K "_is_term")) := He.glo_ok X G (cd.fact 6 rfl)
  have c__is_term : CalF P w K mg base 3 (He.ga K "_is_term") 2 R__is_term := ok__is_term (cd.def_ 8 rfl) c_is_integer m_is_integer v_MOST_TERM
  have c_Terms___init__ : CalF P w K mg base 6 (He.ma K (He.ga K "Terms") "__init__") 5 R_Terms___init__ := ok_Terms___init__ (cd.def_ 9 rfl) c__is_fraction m__is_fraction c__is_term m__is_term (mtP_cons cl_Enough (He.meth_ok (cd.fact 16 rfl)) c_Enough___bool__ (by decide) (mtP_cons cl_TooShort (He.meth_ok (cd.fact 42 rfl)) c_TooShort___bool__ (by decide) mtP_nil)) h_at v_MOST_BELOW
  have c_Woven___init__ : CalF P w K mg base 2 (He.ma K (He.ga K "Woven") "__init__") 4 R_Woven___init__ := ok_Woven___init__ (cd.def_ 10 rfl) h_at b_tuple
  have c_TooShort___init__ : CalF P w K mg base 2 (He.ma K (He.ga K "TooShort") "__init__") 5 R_TooShort___init__ := ok_TooShort___init__ (cd.def_ 11 rfl) h_at b_tuple
  have c_Enough___init__ : CalF P w K mg base 2 (He.ma K (He.ga K "Enough") "__init__") 2 R_Enough___init__ := ok_Enough___init__ (cd.def_ 12 rfl) h_at
  have m__law_made : mg "_law_made" = some (.ref (He.ga K "_law_made")) := He.glo_ok X G (cd.fact 7 rfl)
  have c__law_made : CalF P w K mg base 8 (He.ga K "_law_made") 2 R__law_made := ok__law_made (cd.def_ 13 rfl) c__law_take m__law_take c_Terms___init__ mk_Terms m_Terms c_Woven___init__ mk_Woven m_Woven c_TooShort___init__ mk_TooShort m_TooShort c_Enough___init__ mk_Enough m_Enough b_tuple b_dict
  have c_Schema___init__ : CalF P w K mg base 2 (He.ma K (He.ga K "Schema") "__init__") 2 R_Schema___init__ := ok_Schema___init__ (cd.def_ 14 rfl) h_at b_dict
  have c_Schema___eq__ : CalF P w K mg base 2 (He.ma K (He.ga K "Schema") "__eq__") 2 R_Schema___eq__ := ok_Schema___eq__ (cd.def_ 15 rfl) h_at h_isi im_Schema b_isinstance
  have c_Woven___eq__ : CalF P w K mg base 2 (He.ma K (He.ga K "Woven") "__eq__") 2 R_Woven___eq__ := ok_Woven___eq__ (cd.def_ 16 rfl) h_at h_isi im_Woven b_isinstance
  have c_Terms___eq__ : CalF P w K mg base 2 (He.ma K (He.ga K "Terms") "__eq__") 2 R_Terms___eq__ := ok_Terms___eq__ (cd.def_ 17 rfl) h_at h_isi im_Terms b_isinstance
  have c_Enough___eq__ : CalF P w K mg base 2 (He.ma K (He.ga K "Enough") "__eq__") 2 R_Enough___eq__ := ok_Enough___eq__ (cd.def_ 18 rfl) h_at h_isi im_Enough b_isinstance
  have c_TooShort___eq__ : CalF P w K mg base 2 (He.ma K (He.ga K "TooShort") "__eq__") 2 R_TooShort___eq__ := ok_TooShort___eq__ (cd.def_ 19 rfl) h_at h_isi im_TooShort b_isinstance
  have c_Schema_marked : CalF P w K mg base 2 (He.ma K (He.ga K "Schema") "marked") 1 R_Schema_marked := ok_Schema_marked (cd.def_ 20 rfl) h_at g_MARKS q_MARKS b_sorted
  have m__law_schema_right : mg "_law_schema_right" = some (.ref (He.ga K "_law_schema_right")) := He.glo_ok X G (cd.fact 8 rfl)
  have c__law_schema_right : CalF P w K mg base 5 (He.ga K "_law_schema_right") 1 R__law_schema_right := ok__law_schema_right (cd.def_ 21 rfl) c__law_take m__law_take c_Schema___init__ mk_Schema m_Schema (mtP_cons cl_Schema (He.meth_ok (cd.fact 22 rfl)) c_Schema___eq__ (by decide) (mtP_cons cl_Woven (He.meth_ok (cd.fact 50 rfl)) c_Woven___eq__ (by decide) (mtP_cons cl_Terms (He.meth_ok (cd.fact 32 rfl)) c_Terms___eq__ (by decide) (mtP_cons cl_Enough (He.meth_ok (cd.fact 15 rfl)) c_Enough___eq__ (by decide) (mtP_cons cl_TooShort (He.meth_ok (cd.fact 41 rfl)) c_TooShort___eq__ (by decide) mtP_nil))))) (mtP_cons cl_Schema (He.meth_ok (cd.fact 23 rfl)) c_Schema_marked (by decide) mtP_nil) h_at h_eq b_list b_dict
  exact ok_law F c__law_told m__law_told c__law_made m__law_made c__law_take m__law_take c__law_schema_right m__law_schema_right c_Enough___init__ mk_Enough m_Enough c_TooShort___init__ mk_TooShort m_TooShort c_Schema___init__ mk_Schema m_Schema (mtP_cons cl_Enough (He.meth_ok (cd.fact 16 rfl)) c_Enough___bool__ (by decide) (mtP_cons cl_TooShort (He.meth_ok (cd.fact 42 rfl)) c_TooShort___bool__ (by decide) mtP_nil)) (mtP_cons cl_Schema (He.meth_ok (cd.fact 22 rfl)) c_Schema___eq__ (by decide) (mtP_cons cl_Woven (He.meth_ok (cd.fact 50 rfl)) c_Woven___eq__ (by decide) (mtP_cons cl_Terms (He.meth_ok (cd.fact 32 rfl)) c_Terms___eq__ (by decide) (mtP_cons cl_Enough (He.meth_ok (cd.fact 15 rfl)) c_Enough___eq__ (by decide) (mtP_cons cl_TooShort (He.meth_ok (cd.fact 41 rfl)) c_TooShort___eq__ (by decide) mtP_nil))))) h_eq b_bool b_range b_isinstance b_dict
abbrev hk : PySem.W.Hook := He.hookX 6 fa fn ts [] ex
def ob (s : PySem.W.SharedT) : He.AlX := He.obsX 6 fa fn ts [] ex (HandSHeadRun.getT s)
theorem ob_eq (s : PySem.W.SharedT) : ob s = hk.obs s.abs := He.obsX_eq (HandSHeadRun.getT_eq s)
abbrev HR : PySem.W.OpenRow := PySem.W.OpenLaw.row PySem.Challenge.rw_openchange_k60_whole_objects
def loose0 : List Str := ["gcd", "_wall", "__name__", "is_integer", "is_pair", "ChangeError", "BadTerms", "MARKS", "Schema", "Woven", "MOST_TERM", "MOST_BELOW", "Terms", "Enough", "TooShort", "_is_term", "_is_fraction", "_law_number", "_law_take", "_law_made", "_law_told", "_law_schema_right"]
def loose : List Str := loose0
theorem run_false (w : World) : Dz.RunI HR (PySem.W.view HR.prog [28]) hk ob 4000 3000 loose (w.withFollow "special-get-raises" false) := by
  unfold Dz.RunI
  kernel_rfl
theorem run_true (w : World) : Dz.RunI HR (PySem.W.view HR.prog [28]) hk ob 4000 3000 loose (w.withFollow "special-get-raises" true) := by
  unfold Dz.RunI
  kernel_rfl
theorem run (w : World) : Dz.RunI HR (PySem.W.view HR.prog [28]) hk ob 4000 3000 loose w := PySem.W.byRow2 "special-get-raises" (P := fun w => Dz.RunI HR (PySem.W.view HR.prog [28]) hk ob 4000 3000 loose w) run_false run_true w
end
end Tx
set_option maxHeartbeats 4000000
namespace Tx
noncomputable section
open PySem PyProof.Rows L2 Dz
/-- the script's ints -/
def scr (ns : List Int) : D := .flz (ns.map .int)
theorem toPs_ints : ∀ ns : List Int, D.toPs (ns.map D.int) = some (ns.map PyData.int)
  | [] => rfl
  | n :: ns => by
    simp only [List.map_cons, D.toPs, D.toP, toPs_ints ns]
theorem canLay_ints : ∀ ns : List Int, PyData.canLayAll0 (ns.map PyData.int) = true
  | [] => by simp only [List.map_nil, PyData.canLayAll0]
  | n :: ns => by simp only [List.map_cons, PyData.canLayAll0, PyData.canLay0, canLay_ints ns, Bool.and_self]
theorem depth_ints : ∀ ns : List Int, PyData.depthAll (ns.map PyData.int) = 0
  | [] => by simp only [List.map_nil, PyData.depthAll]
  | n :: ns => by simp only [List.map_cons, PyData.depthAll, PyData.depth, depth_ints ns, Nat.max_self]
theorem ne_nil (ns : List Int) : pEqv true (scr ns) (.lst []) = some (.bl (!ns.isEmpty), false) := by
  unfold pEqv scr
  simp only [D.toP, toPs_ints, D.toPs]
  have s1 : SeqAt.shaped (.list (ns.map PyData.int)) = true := by
    unfold SeqAt.shaped
    simp only [PyData.canLay0, canLay_ints, PyData.depth, depth_ints]
    decide
  have s2 : SeqAt.shaped (.list []) = true := by
    unfold SeqAt.shaped
    simp only [PyData.canLay0, PyData.canLayAll0, PyData.depth, PyData.depthAll]
    decide
  rw [s1, s2]
  cases ns with
  | nil => simp only [List.map_nil, PyData.eqv, PyData.eqvAll, Bool.and_self, if_true, List.isEmpty_nil]
  | cons n ns => simp only [List.map_cons, PyData.eqv, PyData.eqvAll, Bool.and_self, if_true, List.isEmpty_cons]
theorem mul_of {i j : Int} (h : (-(2 ^ 64) < i ∧ i < 2 ^ 64) ∨ (-(2 ^ 64) < j ∧ j < 2 ^ 64)) : pMul (.int i) (.int j) = some (.int (i * j), false) := by
  unfold pMul pI
  dsimp only
  rw [if_pos]
  rw [Bool.or_eq_true, Bool.and_eq_true, Bool.and_eq_true]
  rcases h with h | h
  · exact .inl ⟨decide_eq_true h.1, decide_eq_true h.2⟩
  · exact .inr ⟨decide_eq_true h.1, decide_eq_true h.2⟩
theorem bC_nx {f g : SF} {env e : En} (h : f env = some (.nx e)) : bCons f g env = g e := by
  unfold bCons
  rw [h]
theorem bC_rt {f g : SF} {env e : En} {d : D} (h : f env = some (.rt d e)) : bCons f g env = some (.rt d e) := by
  unfold bCons
  rw [h]
theorem res_scr {E : En} {ns : List Int} : res E (.inl (scr ns)) = some (scr ns) := rfl
theorem res_int {E : En} {n : Int} : res E (.inl (.int n)) = some (.int n) := rfl
theorem res_lst {E : En} {n : List D} : res E (.inl (.lst n)) = some (.lst n) := rfl
theorem rest_loop (st : List D) (a b d e f : Dz.Slot) : ∀ (ds : List D) (r : Int) (s : Dz.Slot), ∃ r' s', forL (gNm 3) (bCons (sSet 2 (fOp2 pFdiv (oVar 2) (oE (fCon (.int 1009))))) bNil) ds ⟨[a, b, some (.int r, .sh), s, d, e, f], st⟩ = some (.nx ⟨[a, b, some (.int r', .sh), s', d, e, f], st⟩)
  | [], r, s => ⟨r, s, rfl⟩
  | x :: ds, r, s => by
    obtain ⟨r', s', h⟩ := rest_loop st a b d e f ds (r / 1009) (some (x, .sh))
    refine ⟨r', s', ?_⟩
    rw [← h]
    rfl
theorem ix_scr {ns : List Int} {k : Int} (h0 : 0 ≤ k) (h1 : k < ns.length) : ∃ z : Int, pIxD (scr ns) (.int k) = some (.int z, false) := by
  have hk : k.toNat < ns.length := by omega
  refine ⟨ns[k.toNat], ?_⟩
  show por (por pIxL pIxT) pDGet (scr ns) (.int k) = _
  have e : L2.atI (ns.map D.int) k = some (.int ns[k.toNat]) := by
    unfold L2.atI L2.ixN
    rw [List.length_map, if_pos h0, if_pos h1, Option.bind_some, List.getElem?_map, List.getElem?_eq_getElem hk]
    rfl
  have e2 : pIxL (scr ns) (.int k) = some (.int ns[k.toNat], false) := by
    show (match L2.atI (ns.map D.int) k with
      | some d => some (d, false)
      | none => none) = _
    rw [e]
  unfold por
  rw [e2]
def ev7 (st : List D) (a b c d e f g : Dz.Slot) : En := ⟨[a, b, c, d, e, f, g], st⟩
theorem num_ok (st : List D) (ns : List Int) (hl : ns.length ≤ 63) (c : Int) (hc : 0 ≤ c) : ∃ v : Int, 0 ≤ v ∧ R__law_number st [(scr ns, .sh), (.int c, .sh)] = some (.int v, st, [(scr ns, .sh), (.int c, .sh)]) := by
  -- cell, turn
  have h1 : ∃ cell turn : Int, 0 ≤ turn ∧ sAsg (gTp (gsCons (gNm 5) (gsCons (gNm 6) gsNil))) (fIf (tCp (fOp2 (pEqv true) (oVar 0) (oE (fLst aNil)))) (fTup (aCons (fOp2 pIxD (oVar 0) (oE (fOp2 pMod (oVar 1) (oE (fPrim (porN pLen pLenD) (lCons (oVar 0) lNil)))))) (aCons (fOp2 pFdiv (oVar 1) (oE (fPrim (porN pLen pLenD) (lCons (oVar 0) lNil)))) aNil))) (fTup (aCons (fCon (.int 12345)) (aCons (fCon (.int 0)) aNil))))
      (ev7 st (some (scr ns, .sh)) (some (.int c, .sh)) none none none none none) = some (.nx (ev7 st (some (scr ns, .sh)) (some (.int c, .sh)) none none none (some (.int cell, .sh)) (some (.int turn, .sh)))) := by
    cases hn : ns with
    | nil =>
      have hne := ne_nil []
      refine ⟨12345, 0, by decide, ?_⟩
      simp only [sAsg, fIf, tCp, fOp2, oVar, ev7, List.getElem?_cons_zero, oE, fLst, aNil, res_scr, res_int, res_lst, hne]
      rfl
    | cons z zs =>
      have hne := ne_nil (z :: zs)
      have hpos : (0 : Int) < ((z :: zs).length : Int) := by simp only [List.length_cons]; omega
      have hlen : ((z :: zs).length : Int) ≤ 63 := by rw [← hn]; omega
      obtain ⟨cell, hix⟩ := ix_scr (ns := z :: zs) (k := c % ((z :: zs).length : Int)) (Int.emod_nonneg _ (by omega)) (Int.emod_lt_of_pos _ hpos)
      refine ⟨cell, c / ((z :: zs).length : Int), Int.ediv_nonneg hc (by omega), ?_⟩
      have hlen2 : porN pLen pLenD [scr (z :: zs)] = some (.int ((z :: zs).length : Int), false) := by
        show some (D.int ((((z :: zs).map D.int).length : Nat) : Int), false) = _
        rw [List.length_map]
      have hmod : pMod (.int c) (.int ((z :: zs).length : Int)) = some (.int (c % ((z :: zs).length : Int)), false) := by
        show (if decide (0 < ((z :: zs).length : Int)) = true then _ else _) = _
        rw [if_pos (decide_eq_true hpos)]
      have hdiv : pFdiv (.int c) (.int ((z :: zs).length : Int)) = some (.int (c / ((z :: zs).length : Int)), false) := by
        show (if (decide (0 < ((z :: zs).length : Int)) && decide (((z :: zs).length : Int) < 1073741824)) = true then _ else _) = _
        rw [if_pos (by rw [Bool.and_eq_true]; exact ⟨decide_eq_true hpos, decide_eq_true (by omega)⟩)]
      generalize ((z :: zs).length : Int) = L at hpos hlen hix hlen2 hmod hdiv ⊢
      simp only [sAsg, fIf, tCp, fOp2, oVar, ev7, List.getElem?_cons_zero, List.getElem?_cons_succ, oE, fLst, aNil, aCons, res_scr, res_int, res_lst, hne, List.isEmpty_cons, Bool.not_false, fTup, fPrim, lCons, lNil, ress, Option.map_some, hlen2, hmod, hdiv, hix, gTp, D.asTup, gsCons, gNm, gsNil, List.set, En.set, List.length_nil, Nat.zero_le, Nat.reduceLeDiff, List.length_cons, Nat.reduceAdd, Option.isSome_some, eq_self, if_true, ite_true]
  obtain ⟨cell, turn, ht, h1⟩ := h1
  have h2 : ∃ rest : Int, sSet 2 (fIf (tCp (fOp2 pLt (oVar 6) (oE (fCon (.int 60))))) (fOp2 pSub (oVar 5) (oE (fOp2 pPow (oE (fCon (.int 10))) (oE (fCon (.int 18)))))) (fCon (.int 0)))
      (ev7 st (some (scr ns, .sh)) (some (.int c, .sh)) none none none (some (.int cell, .sh)) (some (.int turn, .sh))) = some (.nx (ev7 st (some (scr ns, .sh)) (some (.int c, .sh)) (some (.int rest, .sh)) none none (some (.int cell, .sh)) (some (.int turn, .sh)))) := by
    by_cases hq : turn < 60
    · refine ⟨cell - 10 ^ 18, ?_⟩
      have hlt : pLt (.int turn) (.int 60) = some (.bl true, false) := by
        show some (D.bl (decide (turn < 60)), false) = _
        rw [decide_eq_true hq]
      simp only [sSet, fIf, tCp, fOp2, oVar, ev7, List.getElem?_cons_zero, List.getElem?_cons_succ, oE, fCon, res_int, hlt]
      rfl
    · refine ⟨0, ?_⟩
      have hlt : pLt (.int turn) (.int 60) = some (.bl false, false) := by
        show some (D.bl (decide (turn < 60)), false) = _
        rw [decide_eq_false hq]
      simp only [sSet, fIf, tCp, fOp2, oVar, ev7, List.getElem?_cons_zero, List.getElem?_cons_succ, oE, fCon, res_int, hlt]
      rfl
  obtain ⟨rest, h2⟩ := h2
  have h3 : ∃ (rest' : Int) (s : Dz.Slot), sFor (iR1 (fOp2 pMod (oE (fPrim Dz.pInt (lCons (oVar 6) lNil))) (oE (fCon (.int 60))))) (gNm 3) (bCons (sSet 2 (fOp2 pFdiv (oVar 2) (oE (fCon (.int 1009))))) bNil)
      (ev7 st (some (scr ns, .sh)) (some (.int c, .sh)) (some (.int rest, .sh)) none none (some (.int cell, .sh)) (some (.int turn, .sh))) = some (.nx (ev7 st (some (scr ns, .sh)) (some (.int c, .sh)) (some (.int rest', .sh)) s none (some (.int cell, .sh)) (some (.int turn, .sh)))) := by
    obtain ⟨r', s', h⟩ := rest_loop st (some (scr ns, .sh)) (some (.int c, .sh)) none (some (.int cell, .sh)) (some (.int turn, .sh)) (rgD 0 (turn % 60).toNat) rest none
    refine ⟨r', s', ?_⟩
    have b1 : 0 ≤ turn % 60 := Int.emod_nonneg _ (by decide)
    have b2 : turn % 60 < 60 := Int.emod_lt_of_pos _ (by decide)
    have hi : iR1 (fOp2 pMod (oE (fPrim Dz.pInt (lCons (oVar 6) lNil))) (oE (fCon (.int 60)))) (ev7 st (some (scr ns, .sh)) (some (.int c, .sh)) (some (.int rest, .sh)) none none (some (.int cell, .sh)) (some (.int turn, .sh))) = some (rgD 0 (turn % 60).toNat, ev7 st (some (scr ns, .sh)) (some (.int c, .sh)) (some (.int rest, .sh)) none none (some (.int cell, .sh)) (some (.int turn, .sh))) := by
      show (if -(2 ^ 62) ≤ turn % 60 ∧ turn % 60 < 2 ^ 62 then some (rgD 0 (turn % 60).toNat, _) else none) = _
      rw [if_pos ⟨by omega, by omega⟩]
    unfold sFor
    rw [hi]
    exact h
  obtain ⟨rest', s3, h3⟩ := h3
  by_cases hr : 0 < rest'
  · refine ⟨rest' % 1009, Int.emod_nonneg _ (by decide), ?_⟩
    have hgt : pGt (.int rest') (.int 0) = some (.bl true, false) := by
      show some (D.bl (decide (0 < rest')), false) = _
      rw [decide_eq_true hr]
    unfold R__law_number runB
    show (match b__law_number (ev7 st (some (scr ns, .sh)) (some (.int c, .sh)) none none none none none) with
      | some (.nx e) => _
      | some (.rt d e) => _
      | _ => none) = _
    have hb : b__law_number (ev7 st (some (scr ns, .sh)) (some (.int c, .sh)) none none none none none) = some (.rt (.int (rest' % 1009)) (ev7 st (some (scr ns, .sh)) (some (.int c, .sh)) (some (.int rest', .sh)) s3 none (some (.int cell, .sh)) (some (.int turn, .sh)))) := by
      unfold b__law_number
      rw [bC_nx h1, bC_nx h2, bC_nx h3]
      simp only [bCons, sIf, tCp, fOp2, oVar, ev7, List.getElem?_cons_zero, List.getElem?_cons_succ, oE, fCon, res_scr, res_int, hgt]
      rfl
    rw [hb]
    rfl
  · have hgt : pGt (.int rest') (.int 0) = some (.bl false, false) := by
      show some (D.bl (decide (0 < rest')), false) = _
      rw [decide_eq_false hr]
    have hlen2 : porN pLen pLenD [scr ns] = some (.int (ns.length : Int), false) := by
      show some (D.int (((ns.map D.int).length : Nat) : Int), false) = _
      rw [List.length_map]
    refine ⟨(((((cell + 977 * c) * 48271 + 31 * (ns.length : Int)) % 2147483647 * (((cell + 977 * c) * 48271 + 31 * (ns.length : Int)) % 2147483647) + 40503 * c) % 2147483629) * 69621 + ((((cell + 977 * c) * 48271 + 31 * (ns.length : Int)) % 2147483647 * (((cell + 977 * c) * 48271 + 31 * (ns.length : Int)) % 2147483647) + 40503 * c) % 2147483629) / 977) % 2147483587, Int.emod_nonneg _ (by decide), ?_⟩
    generalize hB1 : ((cell + 977 * c) * 48271 + 31 * (ns.length : Int)) % 2147483647 = B1
    generalize hB2 : (B1 * B1 + 40503 * c) % 2147483629 = B2
    have q1 : 0 ≤ B1 ∧ B1 < 2147483647 := by rw [← hB1]; exact ⟨Int.emod_nonneg _ (by decide), Int.emod_lt_of_pos _ (by decide)⟩
    have q2 : 0 ≤ B2 ∧ B2 < 2147483629 := by rw [← hB2]; exact ⟨Int.emod_nonneg _ (by decide), Int.emod_lt_of_pos _ (by decide)⟩
    have m1 : pMul (.int 977) (.int c) = some (.int (977 * c), false) := mul_of (.inl ⟨by decide, by decide⟩)
    have m2 : pMul (.int (cell + 977 * c)) (.int 48271) = some (.int ((cell + 977 * c) * 48271), false) := mul_of (.inr ⟨by decide, by decide⟩)
    have m3 : pMul (.int 31) (.int (ns.length : Int)) = some (.int (31 * (ns.length : Int)), false) := mul_of (.inl ⟨by decide, by decide⟩)
    have m4 : pMul (.int B1) (.int B1) = some (.int (B1 * B1), false) := mul_of (.inl ⟨by omega, by omega⟩)
    have m5 : pMul (.int 40503) (.int c) = some (.int (40503 * c), false) := mul_of (.inl ⟨by decide, by decide⟩)
    have m6 : pMul (.int B2) (.int 69621) = some (.int (B2 * 69621), false) := mul_of (.inr ⟨by decide, by decide⟩)
    have ad : ∀ i j : Int, pAdd (.int i) (.int j) = some (.int (i + j), false) := fun _ _ => rfl
    have md1 : ∀ i : Int, pMod (.int i) (.int 2147483647) = some (.int (i % 2147483647), false) := fun _ => rfl
    have md2 : ∀ i : Int, pMod (.int i) (.int 2147483629) = some (.int (i % 2147483629), false) := fun _ => rfl
    have md3 : ∀ i : Int, pMod (.int i) (.int 2147483587) = some (.int (i % 2147483587), false) := fun _ => rfl
    have fd : ∀ i : Int, pFdiv (.int i) (.int 977) = some (.int (i / 977), false) := fun _ => rfl
    have pin : ∀ i : Int, Dz.pInt [.int i] = some (.int i, false) := fun _ => rfl
    unfold R__law_number runB
    show (match b__law_number (ev7 st (some (scr ns, .sh)) (some (.int c, .sh)) none none none none none) with
      | some (.nx e) => _
      | some (.rt d e) => _
      | _ => none) = _
    have hb : b__law_number (ev7 st (some (scr ns, .sh)) (some (.int c, .sh)) none none none none none) = some (.rt (.int ((B2 * 69621 + B2 / 977) % 2147483587)) (ev7 st (some (scr ns, .sh)) (some (.int c, .sh)) (some (.int rest', .sh)) s3 (some (.int B2, .sh)) (some (.int cell, .sh)) (some (.int turn, .sh)))) := by
      unfold b__law_number
      rw [bC_nx h1, bC_nx h2, bC_nx h3]
      simp +decide only [bCons, sIf, tCp, fOp2, oVar, ev7, List.getElem?_cons_zero, List.getElem?_cons_succ, oE, fCon, res_scr, res_int, hgt, bNil, sSet, fPrim, lCons, lNil, ress, Option.map_some, m1, ad, pin, m2, hlen2, m3, md1, hB1, put, Bool.false_and, List.set, En.set, List.length_cons, List.length_nil, Nat.reduceAdd, if_true, m4, m5, md2, hB2, m6, fd, md3, sRt, Bool.false_eq_true, if_false, List.length_nil, Nat.zero_le, Nat.reduceLeDiff, List.length_cons, Nat.reduceAdd, Option.isSome_some, eq_self, if_true, ite_true]
    rw [hb]
    rfl
/-- the drawing state: the script, how many were drawn -/
def dw (ns : List Int) (c : Int) : D := .lst [scr ns, .int c]
def TakeOk (ns : List Int) (run : Dz.Run) : Prop := ∀ (st : List D) (c m : Int), 0 ≤ c → 0 < m → ∃ v : Int, 0 ≤ v ∧ v < m ∧ run st [(dw ns c, .bo), (.int m, .sh)] = some (.int v, st, [(dw ns (c + 1), .bo), (.int m, .sh)])
theorem take_ok (ns : List Int) (hl : ns.length ≤ 63) : TakeOk ns R__law_take := by
  intro st c m hc hm
  obtain ⟨v, hv, hn⟩ := num_ok st ns hl (c + 1) (by omega)
  refine ⟨v % m, Int.emod_nonneg _ (by omega), Int.emod_lt_of_pos _ hm, ?_⟩
  have h1 : sAugL 0 (fCon (.int 1)) (fCon (.int 1)) ⟨[some (dw ns c, .bo), some (.int m, .sh)], st⟩ = some (.nx ⟨[some (dw ns (c + 1), .bo), some (.int m, .sh)], st⟩) := rfl
  have x0 : pIxD (dw ns (c + 1)) (.int 0) = some (scr ns, false) := rfl
  have x1 : pIxD (dw ns (c + 1)) (.int 1) = some (.int (c + 1), false) := rfl
  have x2 : pMod (.int v) (.int m) = some (.int (v % m), false) := by
    show (if decide (0 < m) = true then _ else _) = _
    rw [if_pos (decide_eq_true hm)]
  have x3 : (dw ns (c + 1)).mut = true := rfl
  have rd : ∀ {s : Dz.Slot}, res ⟨[some (dw ns (c + 1), .bo), s], st⟩ (.inr 0) = some (dw ns (c + 1)) := fun {s} => rfl
  have pin : ∀ i : Int, Dz.pInt [.int i] = some (.int i, false) := fun _ => rfl
  have h2 : b__law_take R__law_number ⟨[some (dw ns c, .bo), some (.int m, .sh)], st⟩ = some (.rt (.int (v % m)) ⟨[some (dw ns (c + 1), .bo), some (.int m, .sh)], st⟩) := by
    unfold b__law_take
    rw [bC_nx h1]
    simp +decide only [bCons, sRt, fOp2, oE, fPrim, lCons, lNil, fCall, oVar, List.getElem?_cons_zero, List.getElem?_cons_succ, fCon, res_scr, res_int, rd, x0, x1, x2, x3, if_true, ress, Option.map_some, pin, Option.isSome_some, List.length_cons, List.length_nil, lent, argsOf, argOf, hn, putBack, En.sto, List.nodup_nil, and_true]
  unfold R__law_take runB
  show (match b__law_take R__law_number ⟨[some (dw ns c, .bo), some (.int m, .sh)], st⟩ with
    | some (.nx e) => _
    | some (.rt d e) => _
    | _ => none) = _
  rw [h2]
  rfl
end
end Tx
set_option maxHeartbeats 1000000
namespace Tx
noncomputable section
open PySem PyProof.Rows L2 Dz
variable {st : List D} {l d w e f k : Int} {ns : List Int}
theorem sSet_of {i : Nat} {F : EF} {E E' : En} {x : D} {fr : Bool} (h : F E = some (x, fr, E')) (hi : decide (i < E'.sl.length) = true) : sSet i F E = some (.nx (put i x fr E')) := by
  unfold sSet
  rw [h]
  dsimp only
  rw [if_pos (of_decide_eq_true hi)]
theorem sSet_sh {i : Nat} {F : EF} {E E' : En} {x : D} (h : F E = some (x, false, E')) (hi : decide (i < E'.sl.length) = true := by rfl) : sSet i F E = some (.nx (E'.set i (some (x, .sh)))) := sSet_of h hi
theorem sSet_ow {i : Nat} {F : EF} {E E' : En} {xs : List D} (h : F E = some (.lst xs, true, E')) (hi : decide (i < E'.sl.length) = true := by rfl) : sSet i F E = some (.nx (E'.set i (some (.lst xs, .ow)))) := sSet_of h hi
theorem oE_of {F : EF} {E E' : En} {x : D} {fr : Bool} (h : F E = some (x, fr, E')) : oE F E = some (.inl x, E') := by
  unfold oE
  rw [h]
theorem op2_of {p : D → D → Option (D × Bool)} {F G : OF} {E E1 E2 : En} {x y z : D} {ox oy : Opn} {fr : Bool} (hF : F E = some (ox, E1)) (hG : G E1 = some (oy, E2)) (hx : res E2 ox = some x) (hy : res E2 oy = some y) (hp : p x y = some (z, fr)) : fOp2 p F G E = some (z, fr, E2) := by
  unfold fOp2
  rw [hF]
  dsimp only
  rw [hG]
  dsimp only
  rw [hx, hy]
  dsimp only
  rw [hp]
theorem lc_of {a : OF} {g : LF} {E E1 E2 : En} {o : Opn} {os : List Opn} (ha : a E = some (o, E1)) (hg : g E1 = some (os, E2)) (hr : (res E2 o).isSome = true) : lCons a g E = some (o :: os, E2) := by
  unfold lCons
  rw [ha]
  dsimp only
  rw [hg]
  dsimp only
  rw [if_pos hr]
theorem call_of {n : Nat} {run : Dz.Run} {G : LF} {E E1 : En} {os : List Opn} {args args' : List Dz.Arg} {x : D} {st' : List D} (hG : G E = some (os, E1)) (h1 : os.length = n) (h2 : (lent os).Nodup) (h3 : argsOf E1 os = some args) (h : run E1.st args = some (x, st', args')) : fCall n run G E = some (x, false, (putBack E1 os args').sto st') := by
  unfold fCall
  rw [hG]
  dsimp only
  rw [if_pos ⟨h1, h2⟩, h3]
  dsimp only
  rw [h]
/-- a draw -/
theorem tk (h : TakeOk ns R__law_take) {r : List Slot} {s0 : Slot} {c m : Int} {G : OF} (hc : 0 ≤ c) (hm : 0 < m) (hG : G ⟨s0 :: some (dw ns c, .ow) :: r, st⟩ = some (.inl (.int m), ⟨s0 :: some (dw ns c, .ow) :: r, st⟩)) : ∃ v : Int, 0 ≤ v ∧ v < m ∧ fCall 2 R__law_take (lCons (oVar 1) (lCons G lNil)) ⟨s0 :: some (dw ns c, .ow) :: r, st⟩ = some (.int v, false, ⟨s0 :: some (dw ns (c + 1), .ow) :: r, st⟩) := by
  obtain ⟨v, h0, h1, q⟩ := h st c m hc hm
  refine ⟨v, h0, h1, ?_⟩
  exact call_of (os := [.inr 1, .inl (.int m)]) (E1 := ⟨s0 :: some (dw ns c, .ow) :: r, st⟩) (args := [(dw ns c, .bo), (.int m, .sh)]) (args' := [(dw ns (c + 1), .bo), (.int m, .sh)]) (lc_of rfl (lc_of hG rfl rfl) rfl) rfl (List.nodup_cons.mpr ⟨List.not_mem_nil, List.nodup_nil⟩) rfl q
theorem lst2_of {A B : EF} {E E1 E2 : En} {x y : D} {fx fy : Bool} (hA : A E = some (x, fx, E1)) (hB : B E1 = some (y, fy, E2)) : fLst (aCons A (aCons B aNil)) E = some (.lst [x, y], true, E2) := by
  unfold fLst aCons
  rw [hA]
  dsimp only
  rw [hB]
  rfl
theorem lst1_of {A : EF} {E E1 : En} {x : D} {fx : Bool} (hA : A E = some (x, fx, E1)) : fLst (aCons A aNil) E = some (.lst [x], true, E1) := by
  unfold fLst aCons
  rw [hA]
  rfl
theorem tup3_of {A B C : EF} {E E1 E2 E3 : En} {x y z : D} {fx fy fz : Bool} (hA : A E = some (x, fx, E1)) (hB : B E1 = some (y, fy, E2)) (hC : C E2 = some (z, fz, E3)) : fTup (aCons A (aCons B (aCons C aNil))) E = some (.tup [x, y, z], false, E3) := by
  unfold fTup aCons
  rw [hA]
  dsimp only
  rw [hB]
  dsimp only
  rw [hC]
  rfl
theorem sAsg_of {g : GF} {F : EF} {E E1 E2 : En} {x : D} {fr : Bool} (h : F E = some (x, fr, E1)) (hg : g x E1 = some E2) : sAsg g F E = some (.nx E2) := by
  unfold sAsg
  rw [h]
  dsimp only
  rw [hg]
theorem fMake_of {C : Str} {n : Nat} {run : Dz.Run} {G : LF} {env e1 : En} {os : List Opn} {args args' : List Dz.Arg} {st' : List D} {x : D} (h1 : G env = some (os, e1)) (h2 : os.length + 1 = n) (h3 : (lent os).Nodup) (h4 : argsOf e1 os = some args) (h5 : run e1.st ((.ins C [] [], .bo) :: args) = some (.non, st', (x, .bo) :: args')) :
    fMake C n run G env = some (x, false, (putBack e1 os args').sto st') := by
  unfold fMake
  rw [h1]
  dsimp only
  rw [if_pos ⟨h2, h3⟩, h4]
  dsimp only
  rw [h5]
theorem runB_rt {n : Nat} {b : SF} {st : List D} {args l : List Dz.Arg} {E : En} {d : D} (h : b ⟨args.map some ++ List.replicate (n - args.length) none, st⟩ = some (.rt d E)) (hf : fins E args 0 = some l) : runB n b st args = some (d, E.st, l) := by
  unfold runB
  rw [h]
  dsimp only
  rw [hf]
end
end Tx
set_option maxHeartbeats 1000000
namespace Tx
noncomputable section
open PySem PyProof.Rows L2 Dz
variable {st : List D} {c : Int} {ns : List Int}
/-! ### what is made -/
def keyD : D := .tup [.str "add", .str "index", .str "t", .str "a"]
def frP (a b : Int) : D := .tup [.int a, .int b]
def rowL (a : Int) : D := .lst [frP a 1, frP 3 1]
def due0 (b : Int) : D := .tup [frP b 1]
def one0 (b : Int) : D := .ins "Enough" ["margin"] [frP b 1]
def due1 (a b : Int) : D := .tup [.tup [frP a 1, frP 3 1], frP b 1, frP 2 1, frP 5 2]
def one1 (a b : Int) : D := .ins "TooShort" ["tells", "made", "came", "used"] [.tup [frP a 1, frP 3 1], frP b 1, frP 2 1, frP 5 2]
def stD (b : Int) : D := .dic [keyD] [.int b]
def chL (b : Int) : List D := (List.replicate b.toNat [keyD]).flatten
def due2 (b : Int) : D := .tup [.int 4, stD b, .tup (chL b)]
def one2 (b : Int) : D := .ins "Woven" ["length", "starts", "chain"] [.int 4, stD b, .tup (chL b)]
def due3 (b : Int) : D := .tup [.int 5, .int b, .int 7, frP 1 (2 + b)]
def one3 (b : Int) : D := .ins "Terms" ["length", "delay", "wait", "drift"] [.int 5, .int b, .int 7, frP 1 (2 + b)]
theorem tkb (h : TakeOk ns R__law_take) {r : List Slot} {c m : Int} {G : OF} (hc : 0 ≤ c) (hm : 0 < m) (hG : G ⟨some (dw ns c, .bo) :: r, st⟩ = some (.inl (.int m), ⟨some (dw ns c, .bo) :: r, st⟩)) : ∃ v : Int, 0 ≤ v ∧ v < m ∧ fCall 2 R__law_take (lCons (oVar 0) (lCons G lNil)) ⟨some (dw ns c, .bo) :: r, st⟩ = some (.int v, false, ⟨some (dw ns (c + 1), .bo) :: r, st⟩) := by
  obtain ⟨v, h0, h1, q⟩ := h st c m hc hm
  refine ⟨v, h0, h1, ?_⟩
  exact call_of (os := [.inr 0, .inl (.int m)]) (E1 := ⟨some (dw ns c, .bo) :: r, st⟩) (args := [(dw ns c, .bo), (.int m, .sh)]) (args' := [(dw ns (c + 1), .bo), (.int m, .sh)]) (lc_of rfl (lc_of hG rfl rfl) rfl) rfl (List.nodup_cons.mpr ⟨List.not_mem_nil, List.nodup_nil⟩) rfl q
theorem sParG {i j : Nat} {F G : EF} {E E1 E2 : En} {x y : D} {fx fy : Bool} (hF : F E = some (x, fx, E1)) (hG : G E1 = some (y, fy, E2)) : sPar i j F G E = some (.nx ((E2.set i (some (x, .sh))).set j (some (y, .sh)))) := by
  unfold sPar
  rw [hF]
  dsimp only
  rw [hG]
theorem box_of {F : EF} {E E1 : En} {d : D} (h : F E = some (d, true, E1)) (m : d.mut = true) : fBox F E = some (.loc E1.st.length, false, ⟨E1.sl, E1.st ++ [d]⟩) := by
  unfold fBox
  rw [h]
  dsimp only
  rw [if_pos m]
theorem tup2_of {A B : EF} {E E1 E2 : En} {x y : D} {fx fy : Bool} (hA : A E = some (x, fx, E1)) (hB : B E1 = some (y, fy, E2)) : fTup (aCons A (aCons B aNil)) E = some (.tup [x, y], false, E2) := by
  unfold fTup aCons
  rw [hA]
  dsimp only
  rw [hB]
  rfl
theorem tup4_of {A B C F : EF} {E E1 E2 E3 E4 : En} {x y z u : D} {fx fy fz fu : Bool} (hA : A E = some (x, fx, E1)) (hB : B E1 = some (y, fy, E2)) (hC : C E2 = some (z, fz, E3)) (hF : F E3 = some (u, fu, E4)) : fTup (aCons A (aCons B (aCons C (aCons F aNil)))) E = some (.tup [x, y, z, u], false, E4) := by
  unfold fTup aCons
  rw [hA]
  dsimp only
  rw [hB]
  dsimp only
  rw [hC]
  dsimp only
  rw [hF]
  rfl
theorem res_at {E : En} {j : Nat} {d : D} (h : E.st[j]? = some d) (hk : ∀ x, d ≠ .kup [x]) : res E (.inl (.loc j)) = some d := by
  unfold res
  dsimp only
  rw [h]
  split
  · rename_i x e
    cases e
    exact absurd rfl (hk _)
  · rfl
theorem res_lk {E : En} {j : Nat} {d : D} (h : E.st[j]? = some (.kup [d])) : res E (.inl (.loc j)) = some d := by
  unfold res
  dsimp only
  rw [h]
theorem prim1_of {p : PrN} {o : OF} {E E1 : En} {op : Opn} {x y : D} {fr : Bool} (h : o E = some (op, E1)) (hr : res E1 op = some x) (hp : p [x] = some (y, fr)) : fPrim p (lCons o lNil) E = some (y, fr, E1) := by
  unfold fPrim lCons lNil
  rw [h]
  dsimp only
  rw [hr]
  dsimp only [Option.isSome_some, if_true, ress]
  rw [if_pos rfl]
  dsimp only
  unfold ress ress
  rw [hr]
  dsimp only [Option.map_some]
  rw [hp]
theorem sIf_t {t : TF} {f g : SF} {E E1 : En} (h : t E = some (true, E1)) : sIf t f g E = f E1 := by
  unfold sIf
  rw [h]
theorem sRt_of {f : EF} {E E1 : En} {d : D} {fr : Bool} (h : f E = some (d, fr, E1)) : sRt f E = some (.rt d E1) := by
  unfold sRt
  rw [h]
theorem bit {v : Int} (h0 : 0 ≤ v) (h1 : v < 2) : v = 0 ∨ v = 1 := by omega
/-- the first statement: a number, a row at a new place -/
theorem M1 (T : TakeOk ns R__law_take) (hc : 0 ≤ c) (k : Int) : ∃ a b : Int, (a = 0 ∨ a = 1) ∧ (b = 0 ∨ b = 1) ∧
    sPar 2 3 (fCall 2 R__law_take (lCons (oVar 0) (lCons (oE (fCon (.int 2))) lNil))) (fBox (fLst (aCons (fTup (aCons (fCall 2 R__law_take (lCons (oVar 0) (lCons (oE (fCon (.int 2))) lNil))) (aCons (fCon (.int 1)) aNil))) (aCons (fTup (aCons (fCon (.int 3)) (aCons (fCon (.int 1)) aNil))) aNil)))) ⟨[some (dw ns c, .bo), some (.int k, .sh), none, none, none, none], st⟩ =
      some (.nx ⟨[some (dw ns (c + 1 + 1), .bo), some (.int k, .sh), some (.int b, .sh), some (.loc st.length, .sh), none, none], st ++ [rowL a]⟩) := by
  obtain ⟨b, b0, b1, q1⟩ := tkb T (st := st) (r := [some (.int k, .sh), none, none, none, none]) (c := c) (m := 2) (G := oE (fCon (.int 2))) hc (by omega) rfl
  obtain ⟨a, a0, a1, q2⟩ := tkb T (st := st) (r := [some (.int k, .sh), none, none, none, none]) (c := c + 1) (m := 2) (G := oE (fCon (.int 2))) (by omega) (by omega) rfl
  refine ⟨a, b, bit a0 a1, bit b0 b1, ?_⟩
  exact sParG q1 (box_of (E1 := ⟨[some (dw ns (c + 1 + 1), .bo), some (.int k, .sh), none, none, none, none], st⟩) (lst2_of (x := frP a 1) (y := frP 3 1) (fx := false) (fy := false) (E1 := ⟨[some (dw ns (c + 1 + 1), .bo), some (.int k, .sh), none, none, none, none], st⟩) (tup2_of (E1 := ⟨[some (dw ns (c + 1 + 1), .bo), some (.int k, .sh), none, none, none, none], st⟩) (fx := false) (fy := false) q2 rfl) rfl) rfl)
/-- the state behind it -/
def EM (ns : List Int) (c k b : Int) (n : Nat) (st : List D) : En := ⟨[some (dw ns c, .bo), some (.int k, .sh), some (.int b, .sh), some (.loc n, .sh), none, none], st⟩
end
end Tx
set_option maxHeartbeats 1000000
namespace Tx
noncomputable section
open PySem PyProof.Rows L2 Dz
variable {st : List D} {c : Int} {ns : List Int}
theorem made0 (T : TakeOk ns R__law_take) (hc : 0 ≤ c) : ∃ (a b : Int), (a = 0 ∨ a = 1) ∧ (b = 0 ∨ b = 1) ∧
    R__law_made st [(dw ns c, .bo), (.int 0, .sh)] = some (.tup [.loc st.length, due0 b, one0 b], st ++ [rowL a], [(dw ns (c + 1 + 1), .bo), (.int 0, .sh)]) := by
  obtain ⟨a, b, ha, hb, h⟩ := M1 (st := st) T hc 0
  refine ⟨a, b, ha, hb, ?_⟩
  refine runB_rt (n := 6) (args := [(dw ns c, .bo), (.int 0, .sh)]) (E := EM ns (c + 1 + 1) 0 b st.length (st ++ [rowL a])) ((bC_nx h).trans ?_) rfl
  generalize st ++ [rowL a] = st'
  generalize st.length = n
  rfl
theorem made3 (T : TakeOk ns R__law_take) (hc : 0 ≤ c) : ∃ (a b : Int), (a = 0 ∨ a = 1) ∧ (b = 0 ∨ b = 1) ∧
    R__law_made st [(dw ns c, .bo), (.int 3, .sh)] = some (.tup [.loc st.length, due3 b, one3 b], st ++ [rowL a], [(dw ns (c + 1 + 1), .bo), (.int 3, .sh)]) := by
  obtain ⟨a, b, ha, hb, h⟩ := M1 (st := st) T hc 3
  refine ⟨a, b, ha, hb, ?_⟩
  refine runB_rt (n := 6) (args := [(dw ns c, .bo), (.int 3, .sh)]) (E := EM ns (c + 1 + 1) 3 b st.length (st ++ [rowL a])) ((bC_nx h).trans ?_) rfl
  generalize st ++ [rowL a] = st'
  generalize st.length = n
  rcases hb with rfl | rfl <;> rfl
theorem tells {n : Nat} {a : Int} {E : En} {i : Nat} (hi : E.sl[i]? = some (some (.loc n, .sh))) (h : E.st[n]? = some (rowL a)) : fPrim pTuple (lCons (oVar i) lNil) E = some (.tup [frP a 1, frP 3 1], false, E) :=
  prim1_of (op := .inl (.loc n)) (E1 := E) (x := rowL a) (by unfold oVar; rw [hi]) (res_at h fun x z => by cases z) rfl
theorem short_init {n : Nat} {a b : Int} (h : st[n]? = some (rowL a)) : R_TooShort___init__ st [(.ins "TooShort" [] [], .bo), (.loc n, .sh), (frP b 1, .sh), (frP 2 1, .sh), (frP 5 2, .sh)] = some (.non, st, [(one1 a b, .bo), (.loc n, .sh), (frP b 1, .sh), (frP 2 1, .sh), (frP 5 2, .sh)]) := by
  have e : b_TooShort___init__ ⟨[some (.ins "TooShort" [] [], .bo), some (.loc n, .sh), some (frP b 1, .sh), some (frP 2 1, .sh), some (frP 5 2, .sh)], st⟩ = some (.nx ⟨[some (one1 a b, .bo), some (.loc n, .sh), some (frP b 1, .sh), some (frP 2 1, .sh), some (frP 5 2, .sh)], st⟩) := by
    refine (bC_nx (e := ⟨[some (.ins "TooShort" ["tells"] [.tup [frP a 1, frP 3 1]], .bo), some (.loc n, .sh), some (frP b 1, .sh), some (frP 2 1, .sh), some (frP 5 2, .sh)], st⟩) ?_).trans rfl
    unfold sFldS
    rw [tells (n := n) (a := a) rfl h]
    rfl
  unfold R_TooShort___init__ runB
  show (match b_TooShort___init__ ⟨[some (.ins "TooShort" [] [], .bo), some (.loc n, .sh), some (frP b 1, .sh), some (frP 2 1, .sh), some (frP 5 2, .sh)], st⟩ with
    | some (.nx e) => _
    | some (.rt d e) => _
    | _ => none) = _
  rw [e]
  rfl
theorem made1 (T : TakeOk ns R__law_take) (hc : 0 ≤ c) : ∃ (a b : Int), (a = 0 ∨ a = 1) ∧ (b = 0 ∨ b = 1) ∧
    R__law_made st [(dw ns c, .bo), (.int 1, .sh)] = some (.tup [.loc st.length, due1 a b, one1 a b], st ++ [rowL a], [(dw ns (c + 1 + 1), .bo), (.int 1, .sh)]) := by
  obtain ⟨a, b, ha, hb, h⟩ := M1 (st := st) T hc 1
  refine ⟨a, b, ha, hb, ?_⟩
  refine runB_rt (n := 6) (args := [(dw ns c, .bo), (.int 1, .sh)]) (E := EM ns (c + 1 + 1) 1 b st.length (st ++ [rowL a])) ((bC_nx h).trans ?_) rfl
  have hst : (st ++ [rowL a])[st.length]? = some (rowL a) := by simp
  generalize st ++ [rowL a] = st' at hst
  generalize st.length = n at hst
  refine (bC_nx (e := EM ns (c + 1 + 1) 1 b n st') rfl).trans (bC_rt ((sIf_t (E1 := EM ns (c + 1 + 1) 1 b n st') rfl).trans (bC_rt (sRt_of (fr := false) ?_))))
  refine tup3_of (fx := false) (fy := false) (fz := false) (E1 := EM ns (c + 1 + 1) 1 b n st') (E2 := EM ns (c + 1 + 1) 1 b n st') rfl ?_ ?_
  · exact tup4_of (fx := false) (fy := false) (fz := false) (fu := false) (E1 := EM ns (c + 1 + 1) 1 b n st') (E2 := EM ns (c + 1 + 1) 1 b n st') (E3 := EM ns (c + 1 + 1) 1 b n st') (tells (n := n) (a := a) rfl hst) rfl rfl rfl
  · exact fMake_of (e1 := EM ns (c + 1 + 1) 1 b n st') (os := [.inl (.loc n), .inl (frP b 1), .inl (frP 2 1), .inl (frP 5 2)]) (args := [(.loc n, .sh), (frP b 1, .sh), (frP 2 1, .sh), (frP 5 2, .sh)]) (args' := [(.loc n, .sh), (frP b 1, .sh), (frP 2 1, .sh), (frP 5 2, .sh)]) (st' := st')
      (lc_of rfl (lc_of rfl (lc_of rfl (lc_of rfl rfl rfl) rfl) rfl) (by rw [res_at (d := rowL a) hst fun x z => by cases z]; rfl)) rfl List.nodup_nil rfl (short_init hst)
end
end Tx
set_option maxHeartbeats 1000000
namespace Tx
noncomputable section
open PySem PyProof.Rows L2 Dz
variable {st : List D} {c : Int} {ns : List Int}
/-- the walk over starts, under its lock -/
def wE (x : D) (p q : Nat) (s : Dz.Slot) (st : List D) : En := ⟨[some (x, .bo), some (.int 4, .sh), some (.loc p, .sh), some (.loc q, .sh), s], st⟩
abbrev wK : EF := fG [4] .k (iSqC (fVar 2)) (gNm 4) tTrue (qPair .k (fVar 4) (fOp2 pIxD (oVar 2) (oVar 4)))
abbrev wT' : EF := fG [4] .t (iSqC (fVar 2)) (gNm 4) tTrue (qPair .t (fVar 4) (fOp2 pIxD (oVar 2) (oVar 4)))
theorem wIt {x : D} {p q : Nat} {b : Int} (h : st[p]? = some (.kup [stD b])) : iSqC (fVar 2) (wE x p q none st) = some ([keyD], wE x p q none st) := by
  show (match st[p]? with
    | some (.kup [.dic ks _]) => some (ks, wE x p q none st)
    | _ => none) = _
  rw [h]
  rfl
theorem wIx {x : D} {p q : Nat} {b : Int} (h : st[p]? = some (.kup [stD b])) : fOp2 pIxD (oVar 2) (oVar 4) (wE x p q (some (keyD, .sh)) st) = some (.int b, false, wE x p q (some (keyD, .sh)) st) :=
  op2_of (ox := .inl (.loc p)) (oy := .inl keyD) (E1 := wE x p q (some (keyD, .sh)) st) rfl rfl (res_lk (d := stD b) h) rfl rfl
theorem wQk {x : D} {p q : Nat} {b : Int} (h : st[p]? = some (.kup [stD b])) : qPair .k (fVar 4) (fOp2 pIxD (oVar 2) (oVar 4)) (wE x p q (some (keyD, .sh)) st) (.dic [] []) = none := by
  unfold qPair
  dsimp only
  rw [show fVar 4 (wE x p q (some (keyD, .sh)) st) = some (keyD, false, wE x p q (some (keyD, .sh)) st) from rfl]
  dsimp only
  rw [wIx h]
  rfl
theorem wQt {x : D} {p q : Nat} {b : Int} (h : st[p]? = some (.kup [stD b])) : qPair .t (fVar 4) (fOp2 pIxD (oVar 2) (oVar 4)) (wE x p q (some (keyD, .sh)) st) (.dic [] []) = some (wE x p q (some (keyD, .sh)) st, stD b) := by
  unfold qPair
  dsimp only
  rw [show fVar 4 (wE x p q (some (keyD, .sh)) st) = some (keyD, false, wE x p q (some (keyD, .sh)) st) from rfl]
  dsimp only
  rw [wIx h]
  rfl
theorem wG {x : D} {p q : Nat} {b : Int} (h : st[p]? = some (.kup [stD b])) : fAlt wK wT' (wE x p q none st) = some (stD b, true, wE x p q none st) := by
  have k1 : wK (wE x p q none st) = none := by
    unfold wK fG
    rw [wIt h]
    show (match (match qPair .k (fVar 4) (fOp2 pIxD (oVar 2) (oVar 4)) (wE x p q (some (keyD, .sh)) st) (.dic [] []) with
      | some (e3, acc') => lcG [4] (gNm 4) tTrue (qPair .k (fVar 4) (fOp2 pIxD (oVar 2) (oVar 4))) [] e3 acc'
      | none => none) with
      | some (e2, acc) => some (acc, true, backE (wE x p q none st) e2 [4])
      | none => none) = none
    rw [wQk h]
  have k2 : wT' (wE x p q none st) = some (stD b, true, wE x p q none st) := by
    unfold wT' fG
    rw [wIt h]
    show (match (match qPair .t (fVar 4) (fOp2 pIxD (oVar 2) (oVar 4)) (wE x p q (some (keyD, .sh)) st) (.dic [] []) with
      | some (e3, acc') => lcG [4] (gNm 4) tTrue (qPair .t (fVar 4) (fOp2 pIxD (oVar 2) (oVar 4))) [] e3 acc'
      | none => none) with
      | some (e2, acc) => some (acc, true, backE (wE x p q none st) e2 [4])
      | none => none) = _
    rw [wQt h]
    rfl
  unfold fAlt
  rw [k1]
  exact k2
theorem set_back {st : List D} {p : Nat} {d e : D} (h : st[p]? = some d) : (st.set p e).set p d = st := by
  rw [List.set_set]
  apply List.ext_getElem?
  intro i
  by_cases hi : p = i
  · subst hi
    rw [List.getElem?_set_self (List.getElem?_eq_some_iff.mp h).1, h]
  · rw [List.getElem?_set_ne hi]
theorem set_at {st : List D} {p : Nat} {d e : D} (h : st[p]? = some d) : (st.set p e)[p]? = some e := List.getElem?_set_self (List.getElem?_eq_some_iff.mp h).1
theorem wWk {x : D} {p q : Nat} {b : Int} (h : st[p]? = some (stD b)) : fWk (fVar 2) (fAlt wK wT') (wE x p q none st) = some (stD b, true, wE x p q none st) := by
  have k : fLk (cOfE (fVar 2)) (fAlt wK wT') (wE x p q none st) = some (stD b, true, wE x p q none st) := by
    show (match st[p]? with
      | some (.dic ks xs) => match fAlt wK wT' (wE x p q none (st.set p (.kup [.dic ks xs]))) with
        | some (d, fr, e) => match e.st[p]? with
          | some (.kup [.dic ks' xs']) => some (d, fr, (⟨e.sl, e.st.set p (.dic ks' xs')⟩ : En))
          | _ => none
        | none => none
      | _ => none) = _
    rw [h]
    show (match fAlt wK wT' (wE x p q none (st.set p (.kup [stD b]))) with
        | some (d, fr, e) => match e.st[p]? with
          | some (.kup [.dic ks' xs']) => some (d, fr, (⟨e.sl, e.st.set p (.dic ks' xs')⟩ : En))
          | _ => none
        | none => none) = _
    rw [wG (set_at h)]
    show (match (st.set p (.kup [stD b]))[p]? with
          | some (.kup [.dic ks' xs']) => some (stD b, true, (⟨(wE x p q none st).sl, (st.set p (.kup [stD b])).set p (.dic ks' xs')⟩ : En))
          | _ => none) = _
    rw [set_at h]
    show some (stD b, true, (⟨(wE x p q none st).sl, (st.set p (.kup [stD b])).set p (stD b)⟩ : En)) = _
    rw [set_back h]
    rfl
  unfold fWk fAlt
  unfold fAlt at k
  rw [k]
theorem woven_init {p q : Nat} {b : Int} (hp : st[p]? = some (stD b)) (hq : st[q]? = some (.lst (chL b))) : R_Woven___init__ st [(.ins "Woven" [] [], .bo), (.int 4, .sh), (.loc p, .sh), (.loc q, .sh)] = some (.non, st, [(one2 b, .bo), (.int 4, .sh), (.loc p, .sh), (.loc q, .sh)]) := by
  refine (?_ : runB 5 b_Woven___init__ st _ = _)
  have e : b_Woven___init__ (wE (.ins "Woven" [] []) p q none st) = some (.nx (wE (one2 b) p q none st)) := by
    refine (bC_nx (e := wE (.ins "Woven" ["length"] [.int 4]) p q none st) rfl).trans ((bC_nx (e := wE (.ins "Woven" ["length", "starts"] [.int 4, stD b]) p q none st) ?_).trans (bC_nx ?_))
    · unfold sFldS
      rw [wWk hp]
      rfl
    · unfold sFldS
      rw [prim1_of (p := pTuple) (o := oVar 3) (E := wE (.ins "Woven" ["length", "starts"] [.int 4, stD b]) p q none st) (op := .inl (.loc q)) (E1 := wE (.ins "Woven" ["length", "starts"] [.int 4, stD b]) p q none st) (x := .lst (chL b)) (y := .tup (chL b)) (fr := false) rfl (res_at hq fun x z => by cases z) rfl]
      rfl
  unfold runB
  show (match b_Woven___init__ (wE (.ins "Woven" [] []) p q none st) with
    | some (.nx e) => _
    | some (.rt d e) => _
    | _ => none) = _
  rw [e]
  rfl
theorem made2 (T : TakeOk ns R__law_take) (hc : 0 ≤ c) : ∃ (a b : Int), (a = 0 ∨ a = 1) ∧ (b = 0 ∨ b = 1) ∧
    R__law_made st [(dw ns c, .bo), (.int 2, .sh)] = some (.tup [.loc (st.length + 1), due2 b, one2 b], ((st ++ [rowL a]) ++ [stD b]) ++ [.lst (chL b)], [(dw ns (c + 1 + 1), .bo), (.int 2, .sh)]) := by
  obtain ⟨a, b, ha, hb, h⟩ := M1 (st := st) T hc 2
  refine ⟨a, b, ha, hb, ?_⟩
  have l1 : (st ++ [rowL a]).length = st.length + 1 := by simp
  have l2 : ((st ++ [rowL a]) ++ [stD b]).length = st.length + 2 := by simp
  have h1 : (((st ++ [rowL a]) ++ [stD b]) ++ [.lst (chL b)])[st.length + 1]? = some (stD b) := by rw [← l1]; simp
  have h2 : (((st ++ [rowL a]) ++ [stD b]) ++ [.lst (chL b)])[st.length + 2]? = some (.lst (chL b)) := by rw [← l2]; simp
  have ge : ∀ st3 : List D, st3 = ((st ++ [rowL a]) ++ [stD b]) ++ [.lst (chL b)] → b__law_made R__law_take R_Terms___init__ R_Woven___init__ R_TooShort___init__ R_Enough___init__ ⟨[some (dw ns c, .bo), some (.int 2, .sh), none, none, none, none], st⟩ =
      some (.rt (.tup [.loc (st.length + 1), due2 b, one2 b]) ⟨[some (dw ns (c + 1 + 1), .bo), some (.int 2, .sh), some (.int b, .sh), some (.loc st.length, .sh), some (.loc (st.length + 1), .sh), some (.loc (st.length + 2), .sh)], st3⟩) := by
    intro st3 e3
    rw [← e3] at h1 h2
    refine (bC_nx h).trans ((bC_nx (e := EM ns (c + 1 + 1) 2 b st.length (st ++ [rowL a])) rfl).trans ((bC_nx (e := EM ns (c + 1 + 1) 2 b st.length (st ++ [rowL a])) rfl).trans (bC_rt ((sIf_t (E1 := EM ns (c + 1 + 1) 2 b st.length (st ++ [rowL a])) rfl).trans ?_))))
    have hs : sPar 4 5 (fBox (fDispT1 (fTup (aCons (fCon (.str "add")) (aCons (fCon (.str "index")) (aCons (fCon (.str "t")) (aCons (fCon (.str "a")) aNil))))) (fVar 2))) (fBox (fOp2 pMulL (oE (fLst (aCons (fTup (aCons (fCon (.str "add")) (aCons (fCon (.str "index")) (aCons (fCon (.str "t")) (aCons (fCon (.str "a")) aNil))))) aNil))) (oVar 2))) (EM ns (c + 1 + 1) 2 b st.length (st ++ [rowL a])) =
        some (.nx ⟨[some (dw ns (c + 1 + 1), .bo), some (.int 2, .sh), some (.int b, .sh), some (.loc st.length, .sh), some (.loc (st.length + 1), .sh), some (.loc (st.length + 2), .sh)], st3⟩) := by
      have g1 := box_of (F := fDispT1 (fTup (aCons (fCon (.str "add")) (aCons (fCon (.str "index")) (aCons (fCon (.str "t")) (aCons (fCon (.str "a")) aNil))))) (fVar 2)) (E := EM ns (c + 1 + 1) 2 b st.length (st ++ [rowL a])) (E1 := EM ns (c + 1 + 1) 2 b st.length (st ++ [rowL a])) (d := stD b) rfl rfl
      have g2 := box_of (F := fOp2 pMulL (oE (fLst (aCons (fTup (aCons (fCon (.str "add")) (aCons (fCon (.str "index")) (aCons (fCon (.str "t")) (aCons (fCon (.str "a")) aNil))))) aNil))) (oVar 2)) (E := EM ns (c + 1 + 1) 2 b st.length ((st ++ [rowL a]) ++ [stD b])) (E1 := EM ns (c + 1 + 1) 2 b st.length ((st ++ [rowL a]) ++ [stD b])) (d := .lst (chL b)) (by rcases hb with rfl | rfl <;> rfl) rfl
      have g := sParG (i := 4) (j := 5) g1 g2
      rw [show (EM ns (c + 1 + 1) 2 b st.length (st ++ [rowL a])).st.length = st.length + 1 from l1, show (EM ns (c + 1 + 1) 2 b st.length ((st ++ [rowL a]) ++ [stD b])).st.length = st.length + 2 from l2] at g
      rw [e3]
      exact g
    refine (bC_nx hs).trans (bC_rt (sRt_of (fr := false) ?_))
    generalize st.length = n at h1 h2
    let E : En := ⟨[some (dw ns (c + 1 + 1), .bo), some (.int 2, .sh), some (.int b, .sh), some (.loc n, .sh), some (.loc (n + 1), .sh), some (.loc (n + 2), .sh)], st3⟩
    refine tup3_of (fx := false) (fy := false) (fz := false) (E1 := E) (E2 := E) rfl ?_ ?_
    · refine tup3_of (fx := false) (fy := true) (fz := false) (E1 := E) (E2 := E) rfl ?_ ?_
      · exact prim1_of (p := porN pDict pDictT) (o := oVar 4) (op := .inl (.loc (n + 1))) (E1 := E) (x := stD b) (fr := true) rfl (res_at h1 fun x z => by cases z) rfl
      · exact prim1_of (p := pTuple) (o := oVar 5) (op := .inl (.loc (n + 2))) (E1 := E) (x := .lst (chL b)) (fr := false) rfl (res_at h2 fun x z => by cases z) rfl
    · exact fMake_of (e1 := E) (os := [.inl (.int 4), .inl (.loc (n + 1)), .inl (.loc (n + 2))]) (args := [(.int 4, .sh), (.loc (n + 1), .sh), (.loc (n + 2), .sh)]) (args' := [(.int 4, .sh), (.loc (n + 1), .sh), (.loc (n + 2), .sh)]) (st' := st3)
        (lc_of rfl (lc_of rfl (lc_of rfl rfl (by rw [res_at (d := .lst (chL b)) h2 fun x z => by cases z]; rfl)) (by rw [res_at (d := stD b) h1 fun x z => by cases z]; rfl)) rfl) rfl List.nodup_nil rfl (woven_init h1 h2)
  exact runB_rt (n := 6) (args := [(dw ns c, .bo), (.int 2, .sh)]) (ge _ rfl) rfl
end
end Tx
set_option maxHeartbeats 1000000
namespace Tx
noncomputable section
open PySem PyProof.Rows L2 Dz
variable {st : List D} {c : Int} {ns : List Int}
theorem ix_of {p : D → D → Option (D × Bool)} {F : OF} {K : EF} {E E1 E2 : En} {x y z : D} {ox : Opn} {fk fr : Bool} (hF : F E = some (ox, E1)) (hK : K E1 = some (y, fk, E2)) (hx : res E2 ox = some x) (hy : res E2 (.inl y) = some y) (hp : p x y = some (z, fr)) : fOp2 p F (oE K) E = some (z, fr, E2) :=
  op2_of hF (oE_of hK) hx hy hp
def plc (v : Int) : D := if v = 0 then .str "main" else .str "side"
def mkD (x : D) : D := .dic [.str "place", .str "index"] [x, .bl true]
/-- slots of _law_schema_right -/
def EQ (ns : List Int) (c : Int) (s1 s2 s3 s4 s5 : Dz.Slot) (st : List D) : En := ⟨[some (dw ns c, .bo), s1, s2, s3, s4, s5], st⟩
theorem Q1 (T : TakeOk ns R__law_take) (hc : 0 ≤ c) : ∃ v : Int, (v = 0 ∨ v = 1) ∧
    sSet 1 (fBox (fDisp [((fCon (.str "place")), (fOp2 pIxD (oE (fLst (aCons (fCon (.str "main")) (aCons (fCon (.str "side")) aNil)))) (oE (fCall 2 R__law_take (lCons (oVar 0) (lCons (oE (fCon (.int 2))) lNil)))))), ((fCon (.str "index")), (fCon (.bl true)))])) (EQ ns c none none none none none []) =
      some (.nx (EQ ns (c + 1) (some (.loc 0, .sh)) none none none none [mkD (plc v)])) := by
  obtain ⟨v, h0, h1, q⟩ := tkb T (st := []) (r := [none, none, none, none, none]) (c := c) (m := 2) (G := oE (fCon (.int 2))) hc (by omega) rfl
  refine ⟨v, bit h0 h1, ?_⟩
  have e : fOp2 pIxD (oE (fLst (aCons (fCon (.str "main")) (aCons (fCon (.str "side")) aNil)))) (oE (fCall 2 R__law_take (lCons (oVar 0) (lCons (oE (fCon (.int 2))) lNil)))) (EQ ns c none none none none none []) = some (plc v, false, EQ ns (c + 1) none none none none none []) :=
    ix_of (ox := .inl (.lst [.str "main", .str "side"])) (E1 := EQ ns c none none none none none []) rfl q rfl rfl (by rcases bit h0 h1 with rfl | rfl <;> rfl)
  have e2 : fDisp [((fCon (.str "place")), (fOp2 pIxD (oE (fLst (aCons (fCon (.str "main")) (aCons (fCon (.str "side")) aNil)))) (oE (fCall 2 R__law_take (lCons (oVar 0) (lCons (oE (fCon (.int 2))) lNil)))))), ((fCon (.str "index")), (fCon (.bl true)))] (EQ ns c none none none none none []) = some (mkD (plc v), true, EQ ns (c + 1) none none none none none []) := by
    unfold fDisp fPairs
    rw [show fCon (.str "place") (EQ ns c none none none none none []) = some (.str "place", false, EQ ns c none none none none none []) from rfl]
    dsimp only
    rw [e]
    rfl
  exact sSet_sh (box_of e2 rfl)
def tabD (v : Int) : D := .dic [.str "t"] [.dic [.str "a"] [mkD (plc v)]]
def schD (v : Int) : D := .ins "Schema" ["tables"] [tabD v]
def st0 (v : Int) : List D := [mkD (plc v), .dic [.str "a"] [.loc 0], .dic [.str "t"] [.loc 1]]
def stQ (v u : Int) : List D :=
  if u = 0 then [.dic [.str "place", .str "index", .str "unique"] [plc v, .bl true, .bl true], .dic [.str "a"] [.loc 0], .dic [.str "t"] [.loc 1]]
  else if u = 1 then [.dic [.str "place", .str "index"] [.str "zz", .bl true], .dic [.str "a"] [.loc 0], .dic [.str "t"] [.loc 1]]
  else if u = 2 then [mkD (plc v), .dic [.str "a", .str "b"] [.loc 0, .dic [.str "place"] [.str "main"]], .dic [.str "t"] [.loc 1]]
  else [mkD (plc v), .dic [.str "a"] [.loc 0], .dic [.str "t", .str "u"] [.loc 1, .dic [] []]]
theorem Q_all (T : TakeOk ns R__law_take) (hc : 0 ≤ c) : ∃ v u : Int, b__law_schema_right R__law_take R_Schema___init__ R_Schema___eq__ R_Woven___eq__ R_Terms___eq__ R_Enough___eq__ R_TooShort___eq__ R_Schema_marked (EQ ns c none none none none none []) =
      some (.rt (.bl true) (EQ ns (c + 1 + 1) (some (.loc 0, .sh)) (some (.loc 2, .sh)) (some (tabD v, .sh)) (some (schD v, .sh)) (some (.int u, .sh)) (stQ v u))) := by
  obtain ⟨v, hv, h1⟩ := Q1 (c := c) T hc
  obtain ⟨u, u0, u1, q⟩ := tkb T (st := st0 v) (r := [some (.loc 0, .sh), some (.loc 2, .sh), some (tabD v, .sh), none, none]) (c := c + 1) (m := 4) (G := oE (fCon (.int 4))) (by omega) (by omega) rfl
  have hu : u = 0 ∨ u = 1 ∨ u = 2 ∨ u = 3 := by omega
  refine ⟨v, u, ?_⟩
  have h2 : ∀ {tail : SF}, bCons (sPar 2 3 (fBox (fDisp [((fCon (.str "t")), (fBox (fDisp [((fCon (.str "a")), (fVar 1))])))])) (fDisp [((fCon (.str "t")), (fDisp [((fCon (.str "a")), (fPrim (porN pDict pDictT) (lCons (oE (fLi (oVar 1))) lNil)))]))])) tail (EQ ns (c + 1) (some (.loc 0, .sh)) none none none none [mkD (plc v)]) = tail (EQ ns (c + 1) (some (.loc 0, .sh)) (some (.loc 2, .sh)) (some (tabD v, .sh)) none none (st0 v)) := fun {tail} => bC_nx (by rcases hv with rfl | rfl <;> rfl)
  have h3 : sPar 4 5 (fMake "Schema" 2 R_Schema___init__ (lCons (oVar 2) lNil)) (fCall 2 R__law_take (lCons (oVar 0) (lCons (oE (fCon (.int 4))) lNil))) (EQ ns (c + 1) (some (.loc 0, .sh)) (some (.loc 2, .sh)) (some (tabD v, .sh)) none none (st0 v)) = some (.nx (EQ ns (c + 1 + 1) (some (.loc 0, .sh)) (some (.loc 2, .sh)) (some (tabD v, .sh)) (some (schD v, .sh)) (some (.int u, .sh)) (st0 v))) :=
    sParG (x := schD v) (fx := false) (E1 := EQ ns (c + 1) (some (.loc 0, .sh)) (some (.loc 2, .sh)) (some (tabD v, .sh)) none none (st0 v)) (by rcases hv with rfl | rfl <;> rfl) q
  refine (bC_nx h1).trans (h2.trans ((bC_nx h3).trans ?_))
  refine (bC_nx (e := EQ ns (c + 1 + 1) (some (.loc 0, .sh)) (some (.loc 2, .sh)) (some (tabD v, .sh)) (some (schD v, .sh)) (some (.int u, .sh)) (stQ v u)) ?_).trans (bC_rt (sRt_of (fr := false) ?_))
  · rcases hv with rfl | rfl <;> rcases hu with rfl | rfl | rfl | rfl <;> rfl
  · rcases hv with rfl | rfl <;> rcases hu with rfl | rfl | rfl | rfl <;> kernel_rfl
theorem schema_right (T : TakeOk ns R__law_take) (hc : 0 ≤ c) : ∃ st', R__law_schema_right [] [(dw ns c, .bo)] = some (.bl true, st', [(dw ns (c + 1 + 1), .bo)]) := by
  obtain ⟨v, u, h⟩ := Q_all (c := c) T hc
  exact ⟨stQ v u, runB_rt (n := 6) (args := [(dw ns c, .bo)]) h rfl⟩
end
end Tx
set_option maxHeartbeats 1000000
namespace Tx
noncomputable section
open PySem PyProof.Rows L2 Dz
variable {st : List D} {c : Int} {ns : List Int}
/-- what can be made: the kind, what is due, the object -/
def trips : List (Int × D × D) := [(0, due0 0, one0 0), (0, due0 1, one0 1), (1, due1 0 0, one1 0 0), (1, due1 0 1, one1 0 1), (1, due1 1 0, one1 1 0), (1, due1 1 1, one1 1 1), (2, due2 0, one2 0), (2, due2 1, one2 1), (3, due3 0, one3 0), (3, due3 1, one3 1)]
def partOk (k : Int) (p : D) : Prop := (k ≠ 2 ∧ ∃ a, p = rowL a) ∨ (k = 2 ∧ ∃ b, p = stD b)
theorem made (T : TakeOk ns R__law_take) (hc : 0 ≤ c) {k : Int} (k0 : 0 ≤ k) (k4 : k < 4) : ∃ (d o : D) (j : Nat) (p : D) (st' : List D), (k, d, o) ∈ trips ∧ st'[j]? = some p ∧ partOk k p ∧
    R__law_made st [(dw ns c, .bo), (.int k, .sh)] = some (.tup [.loc j, d, o], st', [(dw ns (c + 1 + 1), .bo), (.int k, .sh)]) := by
  have hk : k = 0 ∨ k = 1 ∨ k = 2 ∨ k = 3 := by omega
  rcases hk with rfl | rfl | rfl | rfl
  · obtain ⟨a, b, ha, hb, h⟩ := made0 (st := st) T hc
    exact ⟨_, _, _, _, _, by rcases hb with rfl | rfl <;> simp [trips], by simp, .inl ⟨by decide, a, rfl⟩, h⟩
  · obtain ⟨a, b, ha, hb, h⟩ := made1 (st := st) T hc
    exact ⟨_, _, _, _, _, by rcases ha with rfl | rfl <;> rcases hb with rfl | rfl <;> simp [trips], by simp, .inl ⟨by decide, a, rfl⟩, h⟩
  · obtain ⟨a, b, ha, hb, h⟩ := made2 (st := st) T hc
    refine ⟨_, _, _, _, _, by rcases hb with rfl | rfl <;> simp [trips], ?_, .inr ⟨rfl, b, rfl⟩, h⟩
    have l1 : (st ++ [rowL a]).length = st.length + 1 := by simp
    rw [← l1]
    simp
  · obtain ⟨a, b, ha, hb, h⟩ := made3 (st := st) T hc
    exact ⟨_, _, _, _, _, by rcases hb with rfl | rfl <;> simp [trips], by simp, .inl ⟨by decide, a, rfl⟩, h⟩
/-- the law's slots -/
def EL (ns : List Int) (c : Int) (rs : List D) (s3 s4 s5 s6 s7 : Dz.Slot) (st : List D) : En := ⟨[some (scr ns, .sh), some (dw ns c, .ow), some (.lst rs, .ow), s3, s4, s5, s6, s7, none, none, none], st⟩
abbrev eqT : List (Str × Str × Nat × Dz.Run) := [("Schema", "__eq__", 2, R_Schema___eq__), ("Woven", "__eq__", 2, R_Woven___eq__), ("Terms", "__eq__", 2, R_Terms___eq__), ("Enough", "__eq__", 2, R_Enough___eq__), ("TooShort", "__eq__", 2, R_TooShort___eq__)]
abbrev toldE : OF := oE (fCall 2 R__law_told (lCons (oVar 4) (lCons (oVar 6) lNil)))
abbrev tNeDue : TF := tAltF (tCp (fEqO true eqT (nfoP eqL clsL) eqL.contains toldE (oVar 5))) (tCp (fOp2 pNeD toldE (oVar 5)))
theorem B3 {rs : List D} {s3 s7 : Dz.Slot} : ∀ t ∈ trips, sIf tNeDue (bCons (sRt (fCon (.bl false))) bNil) bNil (EL ns c rs s3 (some (.int t.1, .sh)) (some (t.2.1, .sh)) (some (t.2.2, .sh)) s7 st) = some (.nx (EL ns c rs s3 (some (.int t.1, .sh)) (some (t.2.1, .sh)) (some (t.2.2, .sh)) s7 st)) := by
  intro t ht
  simp only [trips, List.mem_cons, List.not_mem_nil, or_false] at ht
  rcases ht with rfl | rfl | rfl | rfl | rfl | rfl | rfl | rfl | rfl | rfl
  all_goals kernel_rfl
abbrev tOneDue : TF := tAltF (tCp (fEqO false eqT (nfoP eqL clsL) eqL.contains (oVar 6) (oVar 5))) (tCp (fOp2 pEqD (oVar 6) (oVar 5)))
theorem B5 {rs : List D} {s3 s7 : Dz.Slot} : ∀ t ∈ trips, sIf (tOrF tNeDue tOneDue) (bCons (sRt (fCon (.bl false))) bNil) bNil (EL ns c rs s3 (some (.int t.1, .sh)) (some (t.2.1, .sh)) (some (t.2.2, .sh)) s7 st) = some (.nx (EL ns c rs s3 (some (.int t.1, .sh)) (some (t.2.1, .sh)) (some (t.2.2, .sh)) s7 st)) := by
  intro t ht
  simp only [trips, List.mem_cons, List.not_mem_nil, or_false] at ht
  rcases ht with rfl | rfl | rfl | rfl | rfl | rfl | rfl | rfl | rfl | rfl
  all_goals kernel_rfl
end
end Tx
set_option maxHeartbeats 1000000
namespace Tx
noncomputable section
open PySem PyProof.Rows L2 Dz
variable {st : List D} {c : Int} {ns : List Int}
theorem prim2_of {p : PrN} {o o2 : OF} {E E1 E2 : En} {op op2 : Opn} {x y z : D} {fr : Bool} (h : o E = some (op, E1)) (h2 : o2 E1 = some (op2, E2)) (hr : res E2 op = some x) (hr2 : res E2 op2 = some y) (hp : p [x, y] = some (z, fr)) : fPrim p (lCons o (lCons o2 lNil)) E = some (z, fr, E2) := by
  unfold fPrim
  rw [lc_of h (lc_of h2 rfl (by rw [hr2]; rfl)) (by rw [hr]; rfl)]
  dsimp only
  rw [show ress E2 [op, op2] = some [x, y] by simp only [ress, hr, hr2, Option.map_some]]
  dsimp only
  rw [hp]
theorem prim2_no {p : PrN} {o o2 : OF} {E E1 E2 : En} {op op2 : Opn} {x y : D} (h : o E = some (op, E1)) (h2 : o2 E1 = some (op2, E2)) (hr : res E2 op = some x) (hr2 : res E2 op2 = some y) (hp : p [x, y] = none) : fPrim p (lCons o (lCons o2 lNil)) E = none := by
  unfold fPrim
  rw [lc_of h (lc_of h2 rfl (by rw [hr2]; rfl)) (by rw [hr]; rfl)]
  dsimp only
  rw [show ress E2 [op, op2] = some [x, y] by simp only [ress, hr, hr2, Option.map_some]]
  dsimp only
  rw [hp]
theorem alt_1 {F G : EF} {E : En} {z : D × Bool × En} (h : F E = some z) : fAlt F G E = some z := by
  unfold fAlt
  rw [h]
theorem alt_2 {F G : EF} {E : En} {z : D × Bool × En} (h : F E = none) (h2 : G E = some z) : fAlt F G E = some z := by
  unfold fAlt
  rw [h]
  exact h2
abbrev isL : LF := lCons (oVar 7) (lCons (oE (fCon (.ty "dict"))) lNil)
abbrev isE : EF := fAlt (fPrim pIsi isL) (fIsiL isL)
theorem tOf_bl {F : EF} {E E1 : En} {b fr : Bool} (h : F E = some (.bl b, fr, E1)) : tOf (oE F) E = some (b, E1) := by
  unfold tOf
  rw [oE_of h]
  rfl
abbrev zzE : EF := fTup (aCons (fCon (.str "zz")) (aCons (fCon (.str "")) (aCons (fCon (.str "")) (aCons (fCon (.str "")) aNil))))
abbrev n9E : EF := fTup (aCons (fCon (.int 9)) (aCons (fCon (.int 1)) aNil))
def zzD : D := .tup [.str "zz", .str "", .str "", .str ""]
theorem B4 {rs : List D} {s3 s4 s5 s6 : Dz.Slot} {k : Int} {j : Nat} {p : D} (h : st[j]? = some p) (hp : partOk k p) : ∃ st', sIf (tOf (oE isE)) (bCons (sAlt2 (sAlt2 (sStL 7 zzE (fCon (.int 5))) (sStD 7 zzE (fCon (.int 5)))) (sStC 7 zzE (fCon (.int 5)))) bNil) (bCons (sAlt2 (sApp 7 n9E) (sAppC 7 n9E)) bNil)
    (EL ns c rs s3 s4 s5 s6 (some (.loc j, .sh)) st) = some (.nx (EL ns c rs s3 s4 s5 s6 (some (.loc j, .sh)) st')) := by
  rcases hp with ⟨_, a, rfl⟩ | ⟨_, b, rfl⟩
  · refine ⟨st.set j (.lst [frP a 1, frP 3 1, frP 9 1]), ?_⟩
    have t := tOf_bl (F := isE) (alt_1 (prim2_of (p := pIsi) (o := oVar 7) (o2 := oE (fCon (.ty "dict"))) (E := EL ns c rs s3 s4 s5 s6 (some (.loc j, .sh)) st) (E1 := EL ns c rs s3 s4 s5 s6 (some (.loc j, .sh)) st) (E2 := EL ns c rs s3 s4 s5 s6 (some (.loc j, .sh)) st) (op := .inl (.loc j)) (op2 := .inl (.ty "dict")) (x := rowL a) (y := .ty "dict") (z := .bl false) (fr := false) rfl rfl (res_at h fun x z => by cases z) rfl rfl))
    unfold sIf
    rw [t]
    dsimp only
    refine (bC_nx (e := EL ns c rs s3 s4 s5 s6 (some (.loc j, .sh)) (st.set j (.lst [frP a 1, frP 3 1, frP 9 1]))) ?_).trans rfl
    unfold sAlt2
    rw [show sApp 7 n9E (EL ns c rs s3 s4 s5 s6 (some (.loc j, .sh)) st) = none from rfl]
    show (match st[j]? with
      | some (.lst _) => (match st[j]? with
        | some (.lst xs) => if xs.length < 100000 then some (Out.nx ⟨(EL ns c rs s3 s4 s5 s6 (some (.loc j, .sh)) st).sl, st.set j (.lst (xs ++ [frP 9 1]))⟩) else none
        | _ => none)
      | _ => none) = _
    rw [h]
    rfl
  · refine ⟨st.set j (.dic [keyD, zzD] [.int b, .int 5]), ?_⟩
    have l2 : isL (EL ns c rs s3 s4 s5 s6 (some (.loc j, .sh)) st) = some ([.inl (.loc j), .inl (.ty "dict")], EL ns c rs s3 s4 s5 s6 (some (.loc j, .sh)) st) := lc_of (E1 := EL ns c rs s3 s4 s5 s6 (some (.loc j, .sh)) st) rfl (lc_of (E1 := EL ns c rs s3 s4 s5 s6 (some (.loc j, .sh)) st) rfl rfl rfl) (by rw [res_at (d := stD b) h fun x z => by cases z]; rfl)
    have i2 : fIsiL isL (EL ns c rs s3 s4 s5 s6 (some (.loc j, .sh)) st) = some (.bl true, false, EL ns c rs s3 s4 s5 s6 (some (.loc j, .sh)) st) := by
      unfold fIsiL
      rw [l2]
      show (match st[j]? with
        | some (.dic _ _) => if tcls.contains "dict" then some (D.bl (isiB "dict" "dict"), false, EL ns c rs s3 s4 s5 s6 (some (.loc j, .sh)) st) else none
        | _ => none) = _
      rw [h]
      rfl
    have t := tOf_bl (F := isE) (alt_2 (prim2_no (p := pIsi) (o := oVar 7) (o2 := oE (fCon (.ty "dict"))) (E := EL ns c rs s3 s4 s5 s6 (some (.loc j, .sh)) st) (E1 := EL ns c rs s3 s4 s5 s6 (some (.loc j, .sh)) st) (E2 := EL ns c rs s3 s4 s5 s6 (some (.loc j, .sh)) st) (op := .inl (.loc j)) (op2 := .inl (.ty "dict")) (x := stD b) (y := .ty "dict") rfl rfl (res_at h fun x z => by cases z) rfl rfl) i2)
    unfold sIf
    rw [t]
    dsimp only
    refine (bC_nx (e := EL ns c rs s3 s4 s5 s6 (some (.loc j, .sh)) (st.set j (.dic [keyD, zzD] [.int b, .int 5]))) ?_).trans rfl
    unfold sAlt2
    rw [show sStL 7 zzE (fCon (.int 5)) (EL ns c rs s3 s4 s5 s6 (some (.loc j, .sh)) st) = none from rfl, show sStD 7 zzE (fCon (.int 5)) (EL ns c rs s3 s4 s5 s6 (some (.loc j, .sh)) st) = none from rfl]
    show (match st[j]? with
        | some (.dic ks xs) => if xs.length < 100000 then match putDic ks xs zzD (.int 5) with
          | some (ks', xs') => some (Out.nx ⟨(EL ns c rs s3 s4 s5 s6 (some (.loc j, .sh)) st).sl, st.set j (.dic ks' xs')⟩)
          | none => none
          else none
        | _ => none) = _
    rw [h]
    rfl
theorem B6 {rs : List D} {s3 s7 : Dz.Slot} {x y z : D} (hl : rs.length < 100000) : sAlt2 (sApp 2 (fTup (aCons (fVar 4) (aCons (fVar 5) (aCons (fVar 6) aNil))))) (sAppC 2 (fTup (aCons (fVar 4) (aCons (fVar 5) (aCons (fVar 6) aNil))))) (EL ns c rs s3 (some (x, .sh)) (some (y, .sh)) (some (z, .sh)) s7 st) =
    some (.nx (EL ns c (rs ++ [.tup [x, y, z]]) s3 (some (x, .sh)) (some (y, .sh)) (some (z, .sh)) s7 st)) := by
  unfold sAlt2
  have e : sApp 2 (fTup (aCons (fVar 4) (aCons (fVar 5) (aCons (fVar 6) aNil)))) (EL ns c rs s3 (some (x, .sh)) (some (y, .sh)) (some (z, .sh)) s7 st) = some (.nx (EL ns c (rs ++ [.tup [x, y, z]]) s3 (some (x, .sh)) (some (y, .sh)) (some (z, .sh)) s7 st)) := by
    show (if rs.length < 100000 then some (Out.nx ((EL ns c rs s3 (some (x, .sh)) (some (y, .sh)) (some (z, .sh)) s7 st).set 2 (some (.lst (rs ++ [.tup [x, y, z]]), .ow)))) else none) = _
    rw [if_pos hl]
    rfl
  rw [e]
/-- a turn -/
abbrev body : SF := bCons (sSet 4 (fCall 2 R__law_take (lCons (oVar 1) (lCons (oE (fCon (.int 4))) lNil)))) (bCons (sAsg (gTp (gsCons (gNm 7) (gsCons (gNm 5) (gsCons (gNm 6) gsNil)))) (fCall 2 R__law_made (lCons (oVar 1) (lCons (oVar 4) lNil)))) (bCons (sIf tNeDue (bCons (sRt (fCon (.bl false))) bNil) bNil)
  (bCons (sIf (tOf (oE isE)) (bCons (sAlt2 (sAlt2 (sStL 7 zzE (fCon (.int 5))) (sStD 7 zzE (fCon (.int 5)))) (sStC 7 zzE (fCon (.int 5)))) bNil) (bCons (sAlt2 (sApp 7 n9E) (sAppC 7 n9E)) bNil))
  (bCons (sIf (tOrF tNeDue tOneDue) (bCons (sRt (fCon (.bl false))) bNil) bNil) (bCons (sAlt2 (sApp 2 (fTup (aCons (fVar 4) (aCons (fVar 5) (aCons (fVar 6) aNil))))) (sAppC 2 (fTup (aCons (fVar 4) (aCons (fVar 5) (aCons (fVar 6) aNil)))))) bNil)))))
def rowOf (t : Int × D × D) : D := .tup [.int t.1, t.2.1, t.2.2]
theorem turn (T : TakeOk ns R__law_take) (hc : 0 ≤ c) {rs : List D} (hl : rs.length < 100000) {s3 s4 s5 s6 s7 : Dz.Slot} : ∃ (c' : Int) (t : Int × D × D) (s4' s5' s6' s7' : Dz.Slot) (st' : List D), 0 ≤ c' ∧ t ∈ trips ∧ body (EL ns c rs s3 s4 s5 s6 s7 st) = some (.nx (EL ns c' (rs ++ [rowOf t]) s3 s4' s5' s6' s7' st')) := by
  obtain ⟨k, k0, k4, h1⟩ := tk T (st := st) (s0 := some (scr ns, .sh)) (r := [some (.lst rs, .ow), s3, s4, s5, s6, s7, none, none, none]) (c := c) (m := 4) (G := oE (fCon (.int 4))) hc (by omega) rfl
  obtain ⟨d, o, j, p, st2, ht, hj, hp, h2⟩ := made (st := st) T (c := c + 1) (by omega) k0 k4
  obtain ⟨st3, h4⟩ := B4 (ns := ns) (c := c + 1 + 1 + 1) (rs := rs) (s3 := s3) (s4 := some (.int k, .sh)) (s5 := some (d, .sh)) (s6 := some (o, .sh)) hj hp
  refine ⟨c + 1 + 1 + 1, (k, d, o), some (.int k, .sh), some (d, .sh), some (o, .sh), some (.loc j, .sh), st3, by omega, ht, ?_⟩
  refine (bC_nx (e := EL ns (c + 1) rs s3 (some (.int k, .sh)) s5 s6 s7 st) (sSet_sh h1)).trans ?_
  refine (bC_nx (e := EL ns (c + 1 + 1 + 1) rs s3 (some (.int k, .sh)) (some (d, .sh)) (some (o, .sh)) (some (.loc j, .sh)) st2) ?_).trans ?_
  · refine sAsg_of (E1 := EL ns (c + 1 + 1 + 1) rs s3 (some (.int k, .sh)) s5 s6 s7 st2) (x := .tup [.loc j, d, o]) (fr := false) ?_ rfl
    exact call_of (os := [.inr 1, .inl (.int k)]) (E1 := EL ns (c + 1) rs s3 (some (.int k, .sh)) s5 s6 s7 st) (args := [(dw ns (c + 1), .bo), (.int k, .sh)]) (args' := [(dw ns (c + 1 + 1 + 1), .bo), (.int k, .sh)]) (lc_of rfl (lc_of rfl rfl rfl) rfl) rfl (List.nodup_cons.mpr ⟨List.not_mem_nil, List.nodup_nil⟩) rfl h2
  refine (bC_nx (B3 (k, d, o) ht)).trans ((bC_nx h4).trans ((bC_nx (B5 (k, d, o) ht)).trans ((bC_nx (B6 hl)).trans rfl)))
end
end Tx
set_option maxHeartbeats 2000000
namespace Tx
noncomputable section
open PySem PyProof.Rows L2 Dz
variable {st : List D} {c : Int} {ns : List Int}
def goodR (rs : List D) : Prop := ∀ r ∈ rs, ∃ t ∈ trips, r = rowOf t
theorem loop (T : TakeOk ns R__law_take) : ∀ (ds : List D) (rs : List D) (c : Int) (st : List D) (s3 s4 s5 s6 s7 : Dz.Slot), 0 ≤ c → rs.length + ds.length < 100000 → goodR rs →
    ∃ (c' : Int) (rs' : List D) (s3' s4' s5' s6' s7' : Dz.Slot) (st' : List D), goodR rs' ∧ forL (gNm 3) body ds (EL ns c rs s3 s4 s5 s6 s7 st) = some (.nx (EL ns c' rs' s3' s4' s5' s6' s7' st'))
  | [], rs, c, st, s3, s4, s5, s6, s7, _, _, hg => ⟨c, rs, s3, s4, s5, s6, s7, st, hg, rfl⟩
  | d :: ds, rs, c, st, s3, s4, s5, s6, s7, hc, hl, hg => by
    rw [List.length_cons] at hl
    obtain ⟨c1, t, s4', s5', s6', s7', st', hc1, ht, h⟩ := turn (st := st) (c := c) T hc (rs := rs) (by omega) (s3 := some (d, .sh)) (s4 := s4) (s5 := s5) (s6 := s6) (s7 := s7)
    obtain ⟨c2, rs2, a3, a4, a5, a6, a7, st2, g2, h2⟩ := loop T ds (rs ++ [rowOf t]) c1 st' (some (d, .sh)) s4' s5' s6' s7' hc1 (by rw [List.length_append, List.length_singleton]; omega) (fun r hr => by
      rcases List.mem_append.mp hr with hr | hr
      · exact hg r hr
      · exact ⟨t, ht, List.mem_singleton.mp hr⟩)
    refine ⟨c2, rs2, a3, a4, a5, a6, a7, st2, g2, ?_⟩
    rw [← h2]
    show (match body (EL ns c rs (some (d, .sh)) s4 s5 s6 s7 st) with
      | some (.nx e2) => forL (gNm 3) body ds e2
      | some (.ct e2) => forL (gNm 3) body ds e2
      | some (.bk e2) => some (.nx e2)
      | r => r) = _
    rw [h]
/-! ### each with each -/
def EP (ns : List Int) (c : Int) (rs : List D) (s3 s4 s5 s6 s7 s8 s9 s10 : Dz.Slot) (st : List D) : En := ⟨[some (scr ns, .sh), some (dw ns c, .ow), some (.lst rs, .sh), s3, s4, s5, s6, s7, s8, s9, s10], st⟩
abbrev inner : SF := (bCons (sIf (tOrF (tAltF (tCp (fOp2 (pEqv true) (oE (fAlt (fEqO false [("Schema", "__eq__", 2, R_Schema___eq__), ("Woven", "__eq__", 2, R_Woven___eq__), ("Terms", "__eq__", 2, R_Terms___eq__), ("Enough", "__eq__", 2, R_Enough___eq__), ("TooShort", "__eq__", 2, R_TooShort___eq__)] (nfoP eqL clsL) eqL.contains (oVar 6) (oVar 10)) (fOp2 pEqD (oVar 6) (oVar 10)))) (oE (vAnd (fAlt (fEqO false [("Schema", "__eq__", 2, R_Schema___eq__), ("Woven", "__eq__", 2, R_Woven___eq__), ("Terms", "__eq__", 2, R_Terms___eq__), ("Enough", "__eq__", 2, R_Enough___eq__), ("TooShort", "__eq__", 2, R_TooShort___eq__)] (nfoP eqL clsL) eqL.contains (oVar 4) (oVar 8)) (fOp2 pEqD (oVar 4) (oVar 8))) (fAlt (fEqO false [("Schema", "__eq__", 2, R_Schema___eq__), ("Woven", "__eq__", 2, R_Woven___eq__), ("Terms", "__eq__", 2, R_Terms___eq__), ("Enough", "__eq__", 2, R_Enough___eq__), ("TooShort", "__eq__", 2, R_TooShort___eq__)] (nfoP eqL clsL) eqL.contains (oVar 5) (oVar 9)) (fOp2 pEqD (oVar 5) (oVar 9))))))) (tCp (fOp2 pNeD (oE (fAlt (fEqO false [("Schema", "__eq__", 2, R_Schema___eq__), ("Woven", "__eq__", 2, R_Woven___eq__), ("Terms", "__eq__", 2, R_Terms___eq__), ("Enough", "__eq__", 2, R_Enough___eq__), ("TooShort", "__eq__", 2, R_TooShort___eq__)] (nfoP eqL clsL) eqL.contains (oVar 6) (oVar 10)) (fOp2 pEqD (oVar 6) (oVar 10)))) (oE (vAnd (fAlt (fEqO false [("Schema", "__eq__", 2, R_Schema___eq__), ("Woven", "__eq__", 2, R_Woven___eq__), ("Terms", "__eq__", 2, R_Terms___eq__), ("Enough", "__eq__", 2, R_Enough___eq__), ("TooShort", "__eq__", 2, R_TooShort___eq__)] (nfoP eqL clsL) eqL.contains (oVar 4) (oVar 8)) (fOp2 pEqD (oVar 4) (oVar 8))) (fAlt (fEqO false [("Schema", "__eq__", 2, R_Schema___eq__), ("Woven", "__eq__", 2, R_Woven___eq__), ("Terms", "__eq__", 2, R_Terms___eq__), ("Enough", "__eq__", 2, R_Enough___eq__), ("TooShort", "__eq__", 2, R_TooShort___eq__)] (nfoP eqL clsL) eqL.contains (oVar 5) (oVar 9)) (fOp2 pEqD (oVar 5) (oVar 9)))))))) (tAltF (tCp (fOp2 (pEqv true) (oE (fAlt (fEqO true [("Schema", "__eq__", 2, R_Schema___eq__), ("Woven", "__eq__", 2, R_Woven___eq__), ("Terms", "__eq__", 2, R_Terms___eq__), ("Enough", "__eq__", 2, R_Enough___eq__), ("TooShort", "__eq__", 2, R_TooShort___eq__)] (nfoP eqL clsL) eqL.contains (oVar 6) (oVar 10)) (fOp2 pNeD (oVar 6) (oVar 10)))) (oE (vOr (fAlt (fEqO true [("Schema", "__eq__", 2, R_Schema___eq__), ("Woven", "__eq__", 2, R_Woven___eq__), ("Terms", "__eq__", 2, R_Terms___eq__), ("Enough", "__eq__", 2, R_Enough___eq__), ("TooShort", "__eq__", 2, R_TooShort___eq__)] (nfoP eqL clsL) eqL.contains (oVar 4) (oVar 8)) (fOp2 pNeD (oVar 4) (oVar 8))) (fAlt (fEqO true [("Schema", "__eq__", 2, R_Schema___eq__), ("Woven", "__eq__", 2, R_Woven___eq__), ("Terms", "__eq__", 2, R_Terms___eq__), ("Enough", "__eq__", 2, R_Enough___eq__), ("TooShort", "__eq__", 2, R_TooShort___eq__)] (nfoP eqL clsL) eqL.contains (oVar 5) (oVar 9)) (fOp2 pNeD (oVar 5) (oVar 9))))))) (tCp (fOp2 pNeD (oE (fAlt (fEqO true [("Schema", "__eq__", 2, R_Schema___eq__), ("Woven", "__eq__", 2, R_Woven___eq__), ("Terms", "__eq__", 2, R_Terms___eq__), ("Enough", "__eq__", 2, R_Enough___eq__), ("TooShort", "__eq__", 2, R_TooShort___eq__)] (nfoP eqL clsL) eqL.contains (oVar 6) (oVar 10)) (fOp2 pNeD (oVar 6) (oVar 10)))) (oE (vOr (fAlt (fEqO true [("Schema", "__eq__", 2, R_Schema___eq__), ("Woven", "__eq__", 2, R_Woven___eq__), ("Terms", "__eq__", 2, R_Terms___eq__), ("Enough", "__eq__", 2, R_Enough___eq__), ("TooShort", "__eq__", 2, R_TooShort___eq__)] (nfoP eqL clsL) eqL.contains (oVar 4) (oVar 8)) (fOp2 pNeD (oVar 4) (oVar 8))) (fAlt (fEqO true [("Schema", "__eq__", 2, R_Schema___eq__), ("Woven", "__eq__", 2, R_Woven___eq__), ("Terms", "__eq__", 2, R_Terms___eq__), ("Enough", "__eq__", 2, R_Enough___eq__), ("TooShort", "__eq__", 2, R_TooShort___eq__)] (nfoP eqL clsL) eqL.contains (oVar 5) (oVar 9)) (fOp2 pNeD (oVar 5) (oVar 9))))))))) (bCons (sRt (fCon (.bl false))) bNil) bNil) bNil)
abbrev gA : GF := gTp (gsCons (gNm 4) (gsCons (gNm 5) (gsCons (gNm 6) gsNil)))
abbrev gB : GF := gTp (gsCons (gNm 8) (gsCons (gNm 9) (gsCons (gNm 10) gsNil)))
theorem pair {rs : List D} {s3 s7 : Dz.Slot} : ∀ t ∈ trips, ∀ u ∈ trips, inner (EP ns c rs s3 (some (.int t.1, .sh)) (some (t.2.1, .sh)) (some (t.2.2, .sh)) s7 (some (.int u.1, .sh)) (some (u.2.1, .sh)) (some (u.2.2, .sh)) st) =
    some (.nx (EP ns c rs s3 (some (.int t.1, .sh)) (some (t.2.1, .sh)) (some (t.2.2, .sh)) s7 (some (.int u.1, .sh)) (some (u.2.1, .sh)) (some (u.2.2, .sh)) st)) := by
  intro t ht u hu
  simp only [trips, List.mem_cons, List.not_mem_nil, or_false] at ht hu
  rcases ht with rfl | rfl | rfl | rfl | rfl | rfl | rfl | rfl | rfl | rfl <;> rcases hu with rfl | rfl | rfl | rfl | rfl | rfl | rfl | rfl | rfl | rfl
  all_goals kernel_rfl
end
end Tx
set_option maxHeartbeats 2000000
namespace Tx
noncomputable section
open PySem PyProof.Rows L2 Dz
variable {st : List D} {c : Int} {ns : List Int}
abbrev tS (t : Int × D × D) : Dz.Slot × Dz.Slot × Dz.Slot := (some (.int t.1, .sh), some (t.2.1, .sh), some (t.2.2, .sh))
theorem inloop {rs : List D} {s3 s7 : Dz.Slot} {t : Int × D × D} (ht : t ∈ trips) : ∀ (us : List D) (s8 s9 s10 : Dz.Slot), goodR us → ∃ s8' s9' s10' : Dz.Slot,
    forL gB inner us (EP ns c rs s3 (some (.int t.1, .sh)) (some (t.2.1, .sh)) (some (t.2.2, .sh)) s7 s8 s9 s10 st) = some (.nx (EP ns c rs s3 (some (.int t.1, .sh)) (some (t.2.1, .sh)) (some (t.2.2, .sh)) s7 s8' s9' s10' st))
  | [], s8, s9, s10, _ => ⟨s8, s9, s10, rfl⟩
  | r :: us, s8, s9, s10, hg => by
    obtain ⟨u, hu, rfl⟩ := hg r List.mem_cons_self
    obtain ⟨a, b, d, h⟩ := inloop (rs := rs) (s3 := s3) (s7 := s7) ht us (some (.int u.1, .sh)) (some (u.2.1, .sh)) (some (u.2.2, .sh)) (fun r hr => hg r (List.mem_cons_of_mem _ hr))
    refine ⟨a, b, d, ?_⟩
    rw [← h]
    show (match inner (EP ns c rs s3 (some (.int t.1, .sh)) (some (t.2.1, .sh)) (some (t.2.2, .sh)) s7 (some (.int u.1, .sh)) (some (u.2.1, .sh)) (some (u.2.2, .sh)) st) with
      | some (.nx e2) => forL gB inner us e2
      | some (.ct e2) => forL gB inner us e2
      | some (.bk e2) => some (.nx e2)
      | r => r) = _
    rw [pair t ht u hu]
theorem outloop {rs : List D} {s3 s7 : Dz.Slot} (hr : goodR rs) : ∀ (ts : List D) (s4 s5 s6 s8 s9 s10 : Dz.Slot), goodR ts → ∃ s4' s5' s6' s8' s9' s10' : Dz.Slot,
    forL gA (bCons (sFor (iSqD (fVar 2)) gB inner) bNil) ts (EP ns c rs s3 s4 s5 s6 s7 s8 s9 s10 st) = some (.nx (EP ns c rs s3 s4' s5' s6' s7 s8' s9' s10' st))
  | [], s4, s5, s6, s8, s9, s10, _ => ⟨s4, s5, s6, s8, s9, s10, rfl⟩
  | r :: ts, s4, s5, s6, s8, s9, s10, hg => by
    obtain ⟨t, ht, rfl⟩ := hg r List.mem_cons_self
    obtain ⟨x8, x9, x10, h1⟩ := inloop (st := st) (c := c) (ns := ns) (rs := rs) (s3 := s3) (s7 := s7) ht rs s8 s9 s10 hr
    obtain ⟨a4, a5, a6, a8, a9, a10, h⟩ := outloop (s3 := s3) (s7 := s7) hr ts (some (.int t.1, .sh)) (some (t.2.1, .sh)) (some (t.2.2, .sh)) x8 x9 x10 (fun r hr => hg r (List.mem_cons_of_mem _ hr))
    refine ⟨a4, a5, a6, a8, a9, a10, ?_⟩
    rw [← h]
    have hb : bCons (sFor (iSqD (fVar 2)) gB inner) bNil (EP ns c rs s3 (some (.int t.1, .sh)) (some (t.2.1, .sh)) (some (t.2.2, .sh)) s7 s8 s9 s10 st) = some (.nx (EP ns c rs s3 (some (.int t.1, .sh)) (some (t.2.1, .sh)) (some (t.2.2, .sh)) s7 x8 x9 x10 st)) := by
      refine (bC_nx (e := EP ns c rs s3 (some (.int t.1, .sh)) (some (t.2.1, .sh)) (some (t.2.2, .sh)) s7 x8 x9 x10 st) ?_).trans rfl
      exact h1
    show (match bCons (sFor (iSqD (fVar 2)) gB inner) bNil (EP ns c rs s3 (some (.int t.1, .sh)) (some (t.2.1, .sh)) (some (t.2.2, .sh)) s7 s8 s9 s10 st) with
      | some (.nx e2) => forL gA (bCons (sFor (iSqD (fVar 2)) gB inner) bNil) ts e2
      | some (.ct e2) => forL gA (bCons (sFor (iSqD (fVar 2)) gB inner) bNil) ts e2
      | some (.bk e2) => some (.nx e2)
      | r => r) = _
    rw [hb]
/-! ### the statements -/
abbrev L2s : SF := (sIf (tNotF (tOfO [("Enough", "__bool__", 1, R_Enough___bool__), ("TooShort", "__bool__", 1, R_TooShort___bool__)] (oE (fCall 1 R__law_schema_right (lCons (oVar 1) lNil))))) (bCons (sRt (fCon (.bl false))) bNil) bNil)
theorem S2 (T : TakeOk ns R__law_take) : ∃ st', L2s ⟨[some (scr ns, .sh), some (dw ns 0, .ow), none, none, none, none, none, none, none, none, none], []⟩ = some (.nx ⟨[some (scr ns, .sh), some (dw ns (0 + 1 + 1), .ow), none, none, none, none, none, none, none, none, none], st'⟩) := by
  obtain ⟨st', h⟩ := schema_right (c := 0) T (by omega)
  refine ⟨st', ?_⟩
  have q : fCall 1 R__law_schema_right (lCons (oVar 1) lNil) ⟨[some (scr ns, .sh), some (dw ns 0, .ow), none, none, none, none, none, none, none, none, none], []⟩ = some (.bl true, false, ⟨[some (scr ns, .sh), some (dw ns (0 + 1 + 1), .ow), none, none, none, none, none, none, none, none, none], st'⟩) :=
    call_of (os := [.inr 1]) (E1 := ⟨[some (scr ns, .sh), some (dw ns 0, .ow), none, none, none, none, none, none, none, none, none], []⟩) (args := [(dw ns 0, .bo)]) (args' := [(dw ns (0 + 1 + 1), .bo)]) (lc_of rfl rfl rfl) rfl (List.nodup_cons.mpr ⟨List.not_mem_nil, List.nodup_nil⟩) rfl h
  unfold L2s sIf tNotF tOfO
  rw [oE_of q]
  rfl
abbrev L6s : SF := (sRt (vAnd (fBoolO [("Enough", "__bool__", 1, R_Enough___bool__), ("TooShort", "__bool__", 1, R_TooShort___bool__)] (oE (fMake "Enough" 2 R_Enough___init__ (lCons (oE (fTup (aCons (fCon (.int 0)) (aCons (fCon (.int 1)) aNil)))) lNil)))) (vAnd (fNotO [("Enough", "__bool__", 1, R_Enough___bool__), ("TooShort", "__bool__", 1, R_TooShort___bool__)] (oE (fMake "TooShort" 5 R_TooShort___init__ (lCons (oE (fTup aNil)) (lCons (oE (fTup (aCons (fCon (.int 0)) (aCons (fCon (.int 1)) aNil)))) (lCons (oE (fTup (aCons (fCon (.int 0)) (aCons (fCon (.int 1)) aNil)))) (lCons (oE (fTup (aCons (fCon (.int 0)) (aCons (fCon (.int 1)) aNil)))) lNil))))))) (vAnd (fAlt (fEqO false [("Schema", "__eq__", 2, R_Schema___eq__), ("Woven", "__eq__", 2, R_Woven___eq__), ("Terms", "__eq__", 2, R_Terms___eq__), ("Enough", "__eq__", 2, R_Enough___eq__), ("TooShort", "__eq__", 2, R_TooShort___eq__)] (nfoP eqL clsL) eqL.contains (oE (fMake "Schema" 2 R_Schema___init__ (lCons (oE (fDisp [((fCon (.str "t")), fNewD)])) lNil))) (oE (fMake "Schema" 2 R_Schema___init__ (lCons (oE (fDisp [((fCon (.str "t")), fNewD)])) lNil)))) (fOp2 pEqD (oE (fMake "Schema" 2 R_Schema___init__ (lCons (oE (fDisp [((fCon (.str "t")), fNewD)])) lNil))) (oE (fMake "Schema" 2 R_Schema___init__ (lCons (oE (fDisp [((fCon (.str "t")), fNewD)])) lNil))))) (vAnd (fAlt (fEqO true [("Schema", "__eq__", 2, R_Schema___eq__), ("Woven", "__eq__", 2, R_Woven___eq__), ("Terms", "__eq__", 2, R_Terms___eq__), ("Enough", "__eq__", 2, R_Enough___eq__), ("TooShort", "__eq__", 2, R_TooShort___eq__)] (nfoP eqL clsL) eqL.contains (oE (fMake "Schema" 2 R_Schema___init__ (lCons (oE fNewD) lNil))) (oE (fMake "Schema" 2 R_Schema___init__ (lCons (oE (fDisp [((fCon (.str "t")), fNewD)])) lNil)))) (fOp2 pNeD (oE (fMake "Schema" 2 R_Schema___init__ (lCons (oE fNewD) lNil))) (oE (fMake "Schema" 2 R_Schema___init__ (lCons (oE (fDisp [((fCon (.str "t")), fNewD)])) lNil))))) (fAlt (fEqO true [("Schema", "__eq__", 2, R_Schema___eq__), ("Woven", "__eq__", 2, R_Woven___eq__), ("Terms", "__eq__", 2, R_Terms___eq__), ("Enough", "__eq__", 2, R_Enough___eq__), ("TooShort", "__eq__", 2, R_TooShort___eq__)] (nfoP eqL clsL) eqL.contains (oE (fMake "Schema" 2 R_Schema___init__ (lCons (oE fNewD) lNil))) (oE (fCon (.int 5)))) (fOp2 pNeD (oE (fMake "Schema" 2 R_Schema___init__ (lCons (oE fNewD) lNil))) (oE (fCon (.int 5))))))))))
theorem S6 {rs : List D} {s3 s4 s5 s6 s7 s8 s9 s10 : Dz.Slot} : L6s (EP ns c rs s3 s4 s5 s6 s7 s8 s9 s10 st) = some (.rt (.bl true) (EP ns c rs s3 s4 s5 s6 s7 s8 s9 s10 st)) := by
  unfold L6s
  kernel_rfl
theorem main (ns : List Int) (hl : ns.length ≤ 63) : ∃ st' args', R_law [] [(scr ns, .sh)] = some (.bl true, st', args') := by
  have T := take_ok ns hl
  obtain ⟨st1, h2⟩ := S2 (ns := ns) T
  obtain ⟨c', rs, s3, s4, s5, s6, s7, st2, hg, h4⟩ := loop (ns := ns) T (rgD 0 9) [] (0 + 1 + 1) st1 none none none none none (by omega) (by decide) (fun r hr => nomatch hr)
  obtain ⟨a4, a5, a6, a8, a9, a10, h5⟩ := outloop (st := st2) (c := c') (ns := ns) (rs := rs) (s3 := s3) (s7 := s7) hg rs s4 s5 s6 none none none hg
  have e1 : sSet 1 (fLst (aCons (fVar 0) (aCons (fCon (.int 0)) aNil))) ⟨[some (scr ns, .sh), none, none, none, none, none, none, none, none, none, none], []⟩ = some (.nx ⟨[some (scr ns, .sh), some (dw ns 0, .ow), none, none, none, none, none, none, none, none, none], []⟩) := rfl
  have e3 : sSet 2 (fLst aNil) ⟨[some (scr ns, .sh), some (dw ns (0 + 1 + 1), .ow), none, none, none, none, none, none, none, none, none], st1⟩ = some (.nx (EL ns (0 + 1 + 1) [] none none none none none st1)) := rfl
  have e4 : sFor (iR1 (fCon (.int 9))) (gNm 3) body (EL ns (0 + 1 + 1) [] none none none none none st1) = some (.nx (EL ns c' rs s3 s4 s5 s6 s7 st2)) := h4
  have e5 : sFor (iSqD (fVar 2)) gA (bCons (sFor (iSqD (fVar 2)) gB inner) bNil) (EL ns c' rs s3 s4 s5 s6 s7 st2) = some (.nx (EP ns c' rs s3 a4 a5 a6 s7 a8 a9 a10 st2)) := h5
  have hb := (bC_nx e1).trans ((bC_nx h2).trans ((bC_nx e3).trans ((bC_nx e4).trans ((bC_nx e5).trans (bC_rt (g := bNil) (S6 (ns := ns) (c := c') (rs := rs) (st := st2) (s3 := s3) (s4 := a4) (s5 := a5) (s6 := a6) (s7 := s7) (s8 := a8) (s9 := a9) (s10 := a10)))))))
  exact ⟨st2, [(scr ns, .sh)], runB_rt (n := 11) (args := [(scr ns, .sh)]) hb rfl⟩
end
end Tx
set_option maxHeartbeats 0
open PySem PySem.W PySem.Calls PyProof.Rows
theorem PySem.Challenge.cw_openchange_k60_whole_objects_holds : PySem.Challenge.rw_openchange_k60_whole_objects.Holds := by
  w_on; o_law
  refine Dz.head_anyI (r := Tx.HR) (q := view Tx.HR.prog [28]) (H := Tx.hk) (ob := Tx.ob) (M := 4000) (M0 := 3000) (loose := Tx.loose) (d := HandSHeadRun.topDef Tx.HR.prog 28) (kwd := []) Tx.ob_eq Tx.run
    (by kernel_rfl) (by kernel_rfl) (by kernel_rfl) (by rfl) (by first | assumption | decide +kernel) (by decide +kernel) ⟨rfl, rfl, rfl, rfl, rfl, by decide +kernel⟩ ?hw ?hc
  case hw => w_witness2
  case hc =>
    refine L2.walk_ofE (l := PySem.Challenge.rw_openchange_k60_whole_objects) (n := 63) (k := 9) (x := "script") (CX := L2.CX0) rfl (by decide) (by kernel_rfl) ⟨rfl, by decide, by decide⟩ ?F (fun _ _ _ _ z => z)
    intro w mg fa h Y G hmg0
    obtain ⟨K, KX, c⟩ := Y
    have hmg : mg ("law" : PySem.Str) = some (.ref fa) := by
      have e : (HandSHeadRun.topDef Tx.HR.prog 28).name = ("law" : PySem.Str) := by kernel_rfl
      rw [← e]
      exact hmg0
    obtain ⟨fd, hb, hF⟩ := Tx.facts (P := (PySem.Challenge.rw_openchange_k60_whole_objects).prog) (w := w) KX G hmg c
    refine ⟨K, fd, Dz.spE K 1 Tx.R_law, KX, hb, fun H a ns hl _ hS => ?_, hF⟩
    obtain ⟨st', args', e⟩ := Tx.main ns hl
    exact Dz.law_sp hS e
