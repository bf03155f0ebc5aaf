import PyProof.Rows.All
import Wide.All
import OpenK.AllK
import Wide.FinOn
import HandS.ForMost
import HandS.ForExc
import HandS.Wide
import HandS.WideBits
import HandS.CallSlots
import HandS.ExcInit
import HandS.ExcField
import HandS.ExcIs
import HandS.IsInst
import HandS.Flow
import HandS.Style
import HandS.Zip
import HandS.Walk
import HandS.Conv
import HandS.RaiseMore
import HandS.TupAny
import HandS.TupLe
import HandS.More
import HandS.TupMul
import KE.GoesMore
import KE.KUnpackStar
import HandS.Ends
import HandS.Text
import PySem.Challenge.RW_wordreach_k03_known_functions
set_option Elab.async false
set_option linter.all false
set_option maxRecDepth 100000
/-! Data, the frame's slots as data, what a step may change. -/
namespace Wr
open PySem PySem.Spec L2
open PyProof.Rows hiding St

/-- what a written dict of the module holds: a def, texts in a tuple -/
inductive GV where
  | fn (x : Str) | tx (xs : List Str) | iv (i : Int)
  deriving DecidableEq
/-- what a written name of the module holds: an int, ints in a tuple -/
inductive GC where
  | int (i : Int) | nums (is : List Int)
  deriving DecidableEq
/-- a value as data -/
inductive D where
  | non | bl (b : Bool) | int (i : Int) | str (x : Str)
  | tup (xs : List D) | lst (xs : List D) | dct (kvs : List (Key × D))
  | fnc (x : Str)
  | kdc (kvs : List (Str × GV))

/-- what a slot holds: nothing known, a shared value, a list or dict of this slot alone, one that the caller's slot holds -/
inductive Sl where
  | no | sh (d : D) | ow (d : D) | io (d : D)
abbrev Rho := List Sl
def Sl.own : Sl → Bool
  | .ow _ => true
  | .io _ => true
  | _ => false
/-- a result: shared, or fresh (no slot holds it) -/
inductive Rs where
  | sh (d : D) | fr (d : D)
def Rs.d : Rs → D
  | .sh d => d
  | .fr d => d
/-- an exception: its class, its fields -/
structure Xn where
  cls : Str
  fs : List (Str × D)

abbrev AP1 := Addr → Prop

/-- a list of the module's written part -/
def KLs (K : PySem.W.Frag) (a : Addr) (xs : List V) : Prop := ∃ (its : List Value) (n : Nat), K.lookup a = some { cls := .type "list", data := .seq its.toArray n } ∧ its.length ≤ sizeLine ∧ Vals xs its
def LsK (K : PySem.W.Frag) (H : Hp) (a : Addr) (xs : List V) : Prop := Rd H a (.lst xs) ∨ KLs K a xs
/-- a list object to be read: tracked and not of O -/
def LsO (K : PySem.W.Frag) (H : Hp) (O : AP1) (a : Addr) (xs : List V) : Prop := (Rd H a (.lst xs) ∧ ¬ O a) ∨ KLs K a xs
def TpO (K : PySem.W.Frag) (H : Hp) (O : AP1) (a : Addr) (xs : List V) : Prop :=
  (Rd H a (.tup xs) ∧ ¬ O a) ∨
    ∃ (o : Obj) (its : Array Value) (n : Nat), K.lookup a = some o ∧ o.cls = .type "tuple" ∧ o.data = .seq its n ∧ its.size ≤ sizeLine ∧ Vals xs its.toList

/-- the module: its written part, its names -/
structure Gm where
  K : PySem.W.Frag
  mg : Str → Option Value
  prm : Params
def gvD : GV → D
  | .fn x => .fnc x
  | .tx xs => .tup (xs.map .str)
  | .iv i => .int i
def gcD : GC → D
  | .int i => .int i
  | .nums is => .tup (is.map .int)
def gvAt (kvs : List (Str × GV)) (x : Str) : Option GV := (kvs.find? fun p => decide (p.1 = x)).map (·.2)
inductive KVal (g : Gm) : V → GV → Prop
  | fn {a : Addr} {x : Str} : g.mg x = some (.ref a) → KVal g (.ref a) (.fn x)
  | tx {a : Addr} {xs : List Str} : (∃ (o : Obj) (its : Array Value) (n : Nat), g.K.lookup a = some o ∧ o.cls = .type "tuple" ∧ o.data = .seq its n ∧ its.size ≤ sizeLine ∧ Vals (xs.map V.str) its.toList) → KVal g (.ref a) (.tx xs)
  | iv {i : Int} : KVal g (.int i) (.iv i)
/-- a written name's value -/
inductive GVal (g : Gm) : V → GC → Prop
  | int {i : Int} : GVal g (.int i) (.int i)
  | nums {a : Addr} {is : List Int} : (∃ (o : Obj) (its : Array Value) (n : Nat), g.K.lookup a = some o ∧ o.cls = .type "tuple" ∧ o.data = .seq its n ∧ its.size ≤ sizeLine ∧ Vals (is.map V.int) its.toList) → GVal g (.ref a) (.nums is)
/-- a written dict of the module -/
def KDs (g : Gm) (a : Addr) (kvs : List (Str × GV)) : Prop := ∃ (es : Array DictEntry) (n : Nat), g.K.lookup a = some ⟨.type "dict", none, .dict es n, #[]⟩ ∧ PySem.W.KeysLit g.prm es.toList ∧ (a == sysModules) = false ∧
  ∀ z, (gvAt kvs z = none → PySem.W.nsIn g.K a z = some none) ∧ ∀ d, gvAt kvs z = some d → ∃ v u, PySem.W.nsIn g.K a z = some (some u) ∧ RelV v u ∧ KVal g v d

mutual
/-- v stands for the data d in H, by objects that are not of O -/
inductive RD (g : Gm) (H : Hp) (O : AP1) : V → D → Prop where
  | non : RD g H O .non .non
  | bl (b : Bool) : RD g H O (.bl b) (.bl b)
  | int (i : Int) : RD g H O (.int i) (.int i)
  | str (x : Str) : RD g H O (.str x) (.str x)
  | tup {a : Addr} {xs : List V} {ds : List D} : TpO g.K H O a xs → RDs g H O xs ds → RD g H O (.ref a) (.tup ds)
  | lst {a : Addr} {xs : List V} {ds : List D} : LsO g.K H O a xs → RDs g H O xs ds → RD g H O (.ref a) (.lst ds)
  | dct {a : Addr} {kvs : List (Key × V)} {kds : List (Key × D)} : H a = some (.dK kvs) → ¬ O a → RDk g H O kvs kds → RD g H O (.ref a) (.dct kds)
  | fnc {a : Addr} {x : Str} : g.mg x = some (.ref a) → RD g H O (.ref a) (.fnc x)
  | kdc {a : Addr} {kvs : List (Str × GV)} : KDs g a kvs → RD g H O (.ref a) (.kdc kvs)
inductive RDs (g : Gm) (H : Hp) (O : AP1) : List V → List D → Prop where
  | nil : RDs g H O [] []
  | cons {v : V} {vs : List V} {d : D} {ds : List D} : RD g H O v d → RDs g H O vs ds → RDs g H O (v :: vs) (d :: ds)
inductive RDk (g : Gm) (H : Hp) (O : AP1) : List (Key × V) → List (Key × D) → Prop where
  | nil : RDk g H O [] []
  | cons {k : Key} {v : V} {vs : List (Key × V)} {d : D} {ds : List (Key × D)} : RD g H O v d → RDk g H O vs ds → RDk g H O ((k, v) :: vs) ((k, d) :: ds)
end

/-- a step from H, O to H', O' that may write the objects of W alone -/
structure Fr (W : AP1) (H : Hp) (O : AP1) (H' : Hp) (O' : AP1) : Prop where
  keep : ∀ b o, H b = some o → ¬ W b → H' b = some o
  there : ∀ b, H' b = none → H b = none
  o1 : ∀ b, O b → ¬ W b → O' b
  o2 : ∀ b, O' b → O b ∨ H b = none

section
variable {g : Gm} {W W' : AP1} {H H1 H2 : Hp} {O O1 O2 : AP1}
theorem Fr.refl (W : AP1) (H : Hp) (O : AP1) : Fr W H O H O := ⟨fun _ _ e _ => e, fun _ e => e, fun _ e _ => e, fun _ e => .inl e⟩
theorem Fr.trans (p : Fr W H O H1 O1) (q : Fr W' H1 O1 H2 O2) (s : ∀ b, W' b → W b) : Fr W H O H2 O2 :=
  ⟨fun b o e n => q.keep b o (p.keep b o e n) fun z => n (s b z), fun b e => p.there b (q.there b e), fun b e n => q.o1 b (p.o1 b e n) fun z => n (s b z),
    fun b e => (q.o2 b e).elim (p.o2 b) fun z => .inr (p.there b z)⟩
theorem Fr.mono (p : Fr W H O H1 O1) (s : ∀ b, W b → W' b) : Fr W' H O H1 O1 :=
  ⟨fun b o e n => p.keep b o e fun z => n (s b z), p.there, fun b e n => p.o1 b e fun z => n (s b z), p.o2⟩
/-- a new object laid -/
theorem Fr.laid {p : Addr} {o : HO} (n : H p = none) : Fr W H O (upd H p o) O := by
  refine ⟨fun b u e _ => ?_, fun b e => ?_, fun _ e _ => e, fun _ e => .inl e⟩
  · rw [upd_ne (ne_of_none e n)]; exact e
  · by_cases z : b = p
    · subst z; rw [upd_same] at e; cases e
    · rw [upd_ne z] at e; exact e
/-- .. and taken into O -/
theorem Fr.laidO {p : Addr} {o : HO} (n : H p = none) : Fr W H O (upd H p o) (fun b => O b ∨ b = p) := by
  have q : Fr W H O (upd H p o) O := Fr.laid n
  exact ⟨q.keep, q.there, fun b e _ => .inl e, fun b e => e.elim .inl fun z => .inr (by rw [z]; exact n)⟩

theorem Rd.some_of {a : Addr} {u : HO} (r : Rd H a u) : ∃ o, H a = some o := by
  rcases r with r | ⟨o, r⟩
  · exact ⟨_, r⟩
  · exact ⟨_, r⟩
theorem Fr.rd {a : Addr} {u : HO} (f : Fr W H O H1 O1) (hw : ¬ W a) (r : Rd H a u) : Rd H1 a u := by
  rcases r with r | ⟨o, r⟩
  · exact .inl (f.keep _ _ r hw)
  · exact .inr ⟨o, f.keep _ _ r hw⟩
theorem Fr.no {a : Addr} {u : HO} (f : Fr W H O H1 O1) (r : Rd H a u) (n : ¬ O a) : ¬ O1 a := fun z => by
  obtain ⟨o, e⟩ := Rd.some_of r
  rcases f.o2 a z with q | q
  · exact n q
  · rw [e] at q; cases q
theorem LsO.fr {K : PySem.W.Frag} {a : Addr} {xs : List V} (f : Fr W H O H1 O1) (hW : ∀ b, W b → O b) (h : LsO K H O a xs) : LsO K H1 O1 a xs := by
  rcases h with ⟨r, n⟩ | h
  · exact .inl ⟨f.rd (fun z => n (hW _ z)) r, f.no r n⟩
  · exact .inr h
theorem TpO.fr {K : PySem.W.Frag} {a : Addr} {xs : List V} (f : Fr W H O H1 O1) (hW : ∀ b, W b → O b) (h : TpO K H O a xs) : TpO K H1 O1 a xs := by
  rcases h with ⟨r, n⟩ | h
  · exact .inl ⟨f.rd (fun z => n (hW _ z)) r, f.no r n⟩
  · exact .inr h
mutual
theorem RD.fr (f : Fr W H O H1 O1) (hW : ∀ b, W b → O b) : ∀ {v : V} {d : D}, RD g H O v d → RD g H1 O1 v d
  | _, _, .non => .non
  | _, _, .bl b => .bl b
  | _, _, .int i => .int i
  | _, _, .str x => .str x
  | _, _, .tup h hs => .tup (h.fr f hW) (RDs.fr f hW hs)
  | _, _, .lst h hs => .lst (h.fr f hW) (RDs.fr f hW hs)
  | _, _, .dct e n hs => .dct (f.keep _ _ e fun z => n (hW _ z)) (f.no (.inl e) n) (RDk.fr f hW hs)
  | _, _, .fnc h => .fnc h
  | _, _, .kdc h => .kdc h
theorem RDs.fr (f : Fr W H O H1 O1) (hW : ∀ b, W b → O b) : ∀ {vs : List V} {ds : List D}, RDs g H O vs ds → RDs g H1 O1 vs ds
  | _, _, .nil => .nil
  | _, _, .cons h hs => .cons (RD.fr f hW h) (RDs.fr f hW hs)
theorem RDk.fr (f : Fr W H O H1 O1) (hW : ∀ b, W b → O b) : ∀ {vs : List (Key × V)} {ds : List (Key × D)}, RDk g H O vs ds → RDk g H1 O1 vs ds
  | _, _, .nil => .nil
  | _, _, .cons h hs => .cons (RD.fr f hW h) (RDk.fr f hW hs)
end
/-- fewer objects are kept apart -/
theorem LsO.anti {K : PySem.W.Frag} {a : Addr} {xs : List V} (s : ∀ b, O1 b → O b) (h : LsO K H O a xs) : LsO K H O1 a xs := h.imp (fun ⟨r, n⟩ => ⟨r, fun z => n (s _ z)⟩) id
theorem TpO.anti {K : PySem.W.Frag} {a : Addr} {xs : List V} (s : ∀ b, O1 b → O b) (h : TpO K H O a xs) : TpO K H O1 a xs := h.imp (fun ⟨r, n⟩ => ⟨r, fun z => n (s _ z)⟩) id
mutual
theorem RD.anti (s : ∀ b, O1 b → O b) : ∀ {v : V} {d : D}, RD g H O v d → RD g H O1 v d
  | _, _, .non => .non
  | _, _, .bl b => .bl b
  | _, _, .int i => .int i
  | _, _, .str x => .str x
  | _, _, .tup h hs => .tup (h.anti s) (RDs.anti s hs)
  | _, _, .lst h hs => .lst (h.anti s) (RDs.anti s hs)
  | _, _, .dct e n hs => .dct e (fun z => n (s _ z)) (RDk.anti s hs)
  | _, _, .fnc h => .fnc h
  | _, _, .kdc h => .kdc h
theorem RDs.anti (s : ∀ b, O1 b → O b) : ∀ {vs : List V} {ds : List D}, RDs g H O vs ds → RDs g H O1 vs ds
  | _, _, .nil => .nil
  | _, _, .cons h hs => .cons (RD.anti s h) (RDs.anti s hs)
theorem RDk.anti (s : ∀ b, O1 b → O b) : ∀ {vs : List (Key × V)} {ds : List (Key × D)}, RDk g H O vs ds → RDk g H O1 vs ds
  | _, _, .nil => .nil
  | _, _, .cons h hs => .cons (RD.anti s h) (RDk.anti s hs)
end

/-! ### lists of related values -/
theorem RDs.len : ∀ {vs : List V} {ds : List D}, RDs g H O vs ds → vs.length = ds.length
  | _, _, .nil => rfl
  | _, _, .cons _ hs => by rw [List.length_cons, List.length_cons, RDs.len hs]
theorem RDs.get : ∀ {vs : List V} {ds : List D} {i : Nat} {d : D}, RDs g H O vs ds → ds[i]? = some d → ∃ v, vs[i]? = some v ∧ RD g H O v d
  | _, _, _, _, .nil, e => by simp at e
  | _, _, 0, _, .cons h _, e => by simp at e; subst e; exact ⟨_, by simp, h⟩
  | _, _, i + 1, d, .cons _ hs, e => by
    obtain ⟨v, e1, h⟩ := RDs.get (i := i) (d := d) hs (by simpa using e)
    exact ⟨v, by simpa using e1, h⟩
theorem RDs.getV : ∀ {vs : List V} {ds : List D} {i : Nat} {v : V}, RDs g H O vs ds → vs[i]? = some v → ∃ d, ds[i]? = some d ∧ RD g H O v d
  | _, _, _, _, .nil, e => by simp at e
  | _, _, 0, _, .cons h _, e => by simp at e; subst e; exact ⟨_, by simp, h⟩
  | _, _, i + 1, v, .cons _ hs, e => by
    obtain ⟨d, e1, h⟩ := RDs.getV (i := i) (v := v) hs (by simpa using e)
    exact ⟨d, by simpa using e1, h⟩
theorem RDs.append : ∀ {vs ws : List V} {ds es : List D}, RDs g H O vs ds → RDs g H O ws es → RDs g H O (vs ++ ws) (ds ++ es)
  | _, _, _, _, .nil, q => q
  | _, _, _, _, .cons h hs, q => .cons h (RDs.append hs q)
theorem RDs.take : ∀ {vs : List V} {ds : List D} (n : Nat), RDs g H O vs ds → RDs g H O (vs.take n) (ds.take n)
  | _, _, 0, _ => .nil
  | _, _, _ + 1, .nil => .nil
  | _, _, n + 1, .cons h hs => .cons h (RDs.take n hs)
theorem RDs.drop : ∀ {vs : List V} {ds : List D} (n : Nat), RDs g H O vs ds → RDs g H O (vs.drop n) (ds.drop n)
  | _, _, 0, r => r
  | _, _, _ + 1, .nil => .nil
  | _, _, n + 1, .cons _ hs => RDs.drop n hs
theorem RDs.set : ∀ {vs : List V} {ds : List D} {v : V} {d : D} (i : Nat), RDs g H O vs ds → RD g H O v d → RDs g H O (vs.set i v) (ds.set i d)
  | _, _, _, _, _, .nil, _ => .nil
  | _, _, _, _, 0, .cons _ hs, q => .cons q hs
  | _, _, _, _, i + 1, .cons h hs, q => .cons h (RDs.set i hs q)
theorem RDs.rev : ∀ {vs : List V} {ds : List D}, RDs g H O vs ds → RDs g H O vs.reverse ds.reverse
  | _, _, .nil => .nil
  | _, _, .cons h hs => by rw [List.reverse_cons, List.reverse_cons]; exact RDs.append (RDs.rev hs) (.cons h .nil)
theorem RDs.rep {vs : List V} {ds : List D} (h : RDs g H O vs ds) : ∀ k : Nat, RDs g H O (List.replicate k vs).flatten (List.replicate k ds).flatten
  | 0 => .nil
  | k + 1 => by rw [List.replicate_succ, List.replicate_succ, List.flatten_cons, List.flatten_cons]; exact RDs.append h (RDs.rep h k)
theorem RDs.ints : ∀ (ns : List Int), RDs g H O (ns.map V.int) (ns.map D.int)
  | [] => .nil
  | n :: r => .cons (.int n) (RDs.ints r)
theorem RDs.strs : ∀ (ns : List Str), RDs g H O (ns.map V.str) (ns.map D.str)
  | [] => .nil
  | n :: r => .cons (.str n) (RDs.strs r)
theorem KVal.rd {v : V} {d : GV} (h : KVal g v d) : RD g H O v (gvD d) := by
  cases h with
  | fn h => exact .fnc h
  | tx h => exact .tup (.inr h) (RDs.strs _)
  | iv => exact .int _
theorem GVal.rd {v : V} {d : GC} (h : GVal g v d) : RD g H O v (gcD d) := by
  cases h with
  | int => exact .int _
  | nums h => exact .tup (.inr h) (RDs.ints _)
theorem RDs.of_ints : ∀ {vs : List V} {ns : List Int}, RDs g H O vs (ns.map D.int) → vs = ns.map V.int
  | _, [], h => by cases h; rfl
  | _, n :: r, h => by
    cases h with
    | cons h hs => cases h; rw [RDs.of_ints hs]; rfl
theorem RDs.of_bls : ∀ {vs : List V} {ns : List Bool}, RDs g H O vs (ns.map D.bl) → vs = ns.map V.bl
  | _, [], h => by cases h; rfl
  | _, n :: r, h => by
    cases h with
    | cons h hs => cases h; rw [RDs.of_bls hs]; rfl
theorem RDs.of_strs : ∀ {vs : List V} {ns : List Str}, RDs g H O vs (ns.map D.str) → vs = ns.map V.str
  | _, [], h => by cases h; rfl
  | _, n :: r, h => by
    cases h with
    | cons h hs => cases h; rw [RDs.of_strs hs]; rfl

/-! ### read, wherever it is held -/
/-- v may be read as d: the object at the top may be of O -/
inductive RB (g : Gm) (H : Hp) (O : AP1) : V → D → Prop where
  | sh {v : V} {d : D} : RD g H O v d → RB g H O v d
  | lst {a : Addr} {xs : List V} {ds : List D} : H a = some (.lst xs) → RDs g H O xs ds → RB g H O (.ref a) (.lst ds)
  | dct {a : Addr} {kvs : List (Key × V)} {kds : List (Key × D)} : H a = some (.dK kvs) → RDk g H O kvs kds → RB g H O (.ref a) (.dct kds)
theorem KLs.sq {K : PySem.W.Frag} {a : Addr} {xs : List V} (h : KLs K a xs) : SqL K H a xs := by
  obtain ⟨its, n, e, z, r⟩ := h
  exact .inr ⟨_, its.toArray, n, e, rfl, rfl, rfl, by rw [List.size_toArray]; exact z, r⟩
theorem LsK.sq {K : PySem.W.Frag} {a : Addr} {xs : List V} (h : LsK K H a xs) : SqL K H a xs := h.elim .inl KLs.sq
theorem LsO.k {K : PySem.W.Frag} {a : Addr} {xs : List V} (h : LsO K H O a xs) : LsK K H a xs := h.imp (·.1) id
theorem LsO.sq {K : PySem.W.Frag} {a : Addr} {xs : List V} (h : LsO K H O a xs) : SqL K H a xs := h.k.sq
theorem TpO.sq {K : PySem.W.Frag} {a : Addr} {xs : List V} (h : TpO K H O a xs) : SqT K H a xs := h.imp (·.1) id
theorem RB.getL {v : V} {ds : List D} (h : RB g H O v (.lst ds)) : ∃ a xs, v = .ref a ∧ LsK g.K H a xs ∧ RDs g H O xs ds := by
  cases h with
  | sh h => cases h with | lst h hs => exact ⟨_, _, rfl, h.k, hs⟩
  | lst e hs => exact ⟨_, _, rfl, .inl (.inl e), hs⟩
theorem RB.tupSh {v : V} {ds : List D} (h : RB g H O v (.tup ds)) : RD g H O v (.tup ds) := by cases h with | sh h => exact h
theorem RB.getT {v : V} {ds : List D} (h : RB g H O v (.tup ds)) : ∃ a xs, v = .ref a ∧ SqT g.K H a xs ∧ RDs g H O xs ds := by
  cases h with
  | sh h => cases h with | tup h hs => exact ⟨_, _, rfl, h.sq, hs⟩
theorem RB.getD {v : V} {ds : List (Key × D)} (h : RB g H O v (.dct ds)) : ∃ a xs, v = .ref a ∧ H a = some (.dK xs) ∧ RDk g H O xs ds := by
  cases h with
  | sh h => cases h with | dct h n hs => exact ⟨_, _, rfl, h, hs⟩
  | dct e hs => exact ⟨_, _, rfl, e, hs⟩
theorem RB.getK {v : V} {kvs : List (Str × GV)} (h : RB g H O v (.kdc kvs)) : ∃ a, v = .ref a ∧ KDs g a kvs := by
  cases h with
  | sh h => cases h with | kdc h => exact ⟨_, rfl, h⟩
theorem RB.getI {v : V} {i : Int} (h : RB g H O v (.int i)) : v = .int i := by cases h with | sh h => cases h; rfl
theorem RB.getB {v : V} {b : Bool} (h : RB g H O v (.bl b)) : v = .bl b := by cases h with | sh h => cases h; rfl
theorem RB.getS {v : V} {x : Str} (h : RB g H O v (.str x)) : v = .str x := by cases h with | sh h => cases h; rfl
theorem RB.getN {v : V} (h : RB g H O v .non) : v = .non := by cases h with | sh h => cases h; rfl
end

/-! ### as the library's data -/
mutual
def toPy : D → Option PyData
  | .non => some .none
  | .bl b => some (.bool b)
  | .int i => some (.int i)
  | .str x => some (.str x)
  | .tup xs => (toPys xs).map .tuple
  | .lst xs => (toPys xs).map .list
  | .dct _ => none
  | .fnc _ => none
  | .kdc _ => none
def toPys : List D → Option (List PyData)
  | [] => some []
  | x :: xs => match toPy x, toPys xs with
    | some p, some ps => some (p :: ps)
    | _, _ => none
end
section
variable {g : Gm} {H : Hp} {O : AP1}
mutual
theorem RD.dp : ∀ {d : D} {v : V} {p : PyData}, RD g H O v d → toPy d = some p → Dp g.K H v p
  | .non, _, _, h, e => by cases h; simp only [toPy, Option.some.injEq] at e; subst e; exact .non
  | .bl b, _, _, h, e => by cases h; simp only [toPy, Option.some.injEq] at e; subst e; exact .bl b
  | .int i, _, _, h, e => by cases h; simp only [toPy, Option.some.injEq] at e; subst e; exact .int i
  | .str x, _, _, h, e => by cases h; simp only [toPy, Option.some.injEq] at e; subst e; exact .str x
  | .tup ds, _, _, h, e => by
    cases h with
    | tup h hs =>
      simp only [toPy, Option.map_eq_some_iff] at e
      obtain ⟨ps, e1, rfl⟩ := e
      exact .tup h.sq (RDs.dp hs e1)
  | .lst ds, _, _, h, e => by
    cases h with
    | lst h hs =>
      simp only [toPy, Option.map_eq_some_iff] at e
      obtain ⟨ps, e1, rfl⟩ := e
      exact .lst h.sq (RDs.dp hs e1)
  | .dct _, _, _, _, e => by simp only [toPy, reduceCtorEq] at e
  | .fnc _, _, _, _, e => by simp only [toPy, reduceCtorEq] at e
  | .kdc _, _, _, _, e => by simp only [toPy, reduceCtorEq] at e
theorem RDs.dp : ∀ {ds : List D} {vs : List V} {ps : List PyData}, RDs g H O vs ds → toPys ds = some ps → DpAll g.K H vs ps
  | [], _, _, h, e => by cases h; simp only [toPys, Option.some.injEq] at e; subst e; exact .nil
  | d :: ds, _, _, h, e => by
    cases h with
    | cons h hs =>
      unfold toPys at e
      split at e
      · rename_i p ps e1 e2
        simp only [Option.some.injEq] at e
        subst e
        exact .cons (RD.dp h e1) (RDs.dp hs e2)
      · cases e
end
theorem RB.dp {d : D} {v : V} {p : PyData} (h : RB g H O v d) (e : toPy d = some p) : Dp g.K H v p := by
  cases h with
  | sh h => exact h.dp e
  | lst h hs =>
    simp only [toPy, Option.map_eq_some_iff] at e
    obtain ⟨ps, e1, rfl⟩ := e
    exact .lst (.of h) (hs.dp e1)
  | dct _ _ => simp only [toPy, reduceCtorEq] at e
end

/-! ### the slots as data -/
/-- the object at a is this slot's own and holds d -/
inductive Ob (g : Gm) (H : Hp) (O : AP1) (a : Addr) : D → Prop where
  | lst {xs : List V} {ds : List D} : H a = some (.lst xs) → RDs g H O xs ds → Ob g H O a (.lst ds)
  | dct {xs : List (Key × V)} {ds : List (Key × D)} : H a = some (.dK xs) → RDk g H O xs ds → Ob g H O a (.dct ds)
inductive SlR (g : Gm) (H : Hp) (O : AP1) : Option V → Sl → Prop where
  | no {v : Option V} : SlR g H O v .no
  | sh {v : V} {d : D} : RD g H O v d → SlR g H O (some v) (.sh d)
  | ow {a : Addr} {d : D} : O a → Ob g H O a d → SlR g H O (some (.ref a)) (.ow d)
  | io {a : Addr} {d : D} : O a → Ob g H O a d → SlR g H O (some (.ref a)) (.io d)
/-- the objects that slots hold alone -/
def Wn (σ : St) (ρ : Rho) : AP1 := fun a => ∃ (i : Nat) (s : Sl), ρ[i]? = some s ∧ s.own = true ∧ σ[i]? = some (some (.ref a))
structure StR (g : Gm) (H : Hp) (O : AP1) (σ : St) (ρ : Rho) : Prop where
  len : σ.length = ρ.length
  at_ : ∀ (i : Nat) (v : Option V) (s : Sl), σ[i]? = some v → ρ[i]? = some s → SlR g H O v s
  one : ∀ (i j : Nat) (s t : Sl) (a : Addr), ρ[i]? = some s → s.own = true → ρ[j]? = some t → t.own = true → σ[i]? = some (some (.ref a)) → σ[j]? = some (some (.ref a)) → i = j
  obj : ∀ b, O b → H b ≠ none
theorem Ob.rb {g : Gm} {H : Hp} {O : AP1} {a : Addr} {d : D} (h : Ob g H O a d) : RB g H O (.ref a) d := by
  cases h with
  | lst e hs => exact .lst e hs
  | dct e hs => exact .dct e hs
theorem Ob.fr {g : Gm} {W : AP1} {H H1 : Hp} {O O1 : AP1} {a : Addr} {d : D} (f : Fr W H O H1 O1) (hW : ∀ b, W b → O b) (n : ¬ W a) (h : Ob g H O a d) : Ob g H1 O1 a d := by
  cases h with
  | lst e hs => exact .lst (f.keep _ _ e n) (hs.fr f hW)
  | dct e hs => exact .dct (f.keep _ _ e n) (hs.fr f hW)
theorem Ob.anti {g : Gm} {H : Hp} {O O1 : AP1} {a : Addr} {d : D} (s : ∀ b, O1 b → O b) (h : Ob g H O a d) : Ob g H O1 a d := by
  cases h with
  | lst e hs => exact .lst e (hs.anti s)
  | dct e hs => exact .dct e (hs.anti s)
theorem Ob.sh {g : Gm} {H : Hp} {O : AP1} {a : Addr} {d : D} (n : ¬ O a) (h : Ob g H O a d) : RD g H O (.ref a) d := by
  cases h with
  | lst e hs => exact .lst (.inl ⟨.inl e, n⟩) hs
  | dct e hs => exact .dct e n hs
section
variable {g : Gm} {H H1 : Hp} {O O1 : AP1} {σ : St} {ρ : Rho} {W : AP1}
theorem StR.wn (S : StR g H O σ ρ) : ∀ b, Wn σ ρ b → O b := fun b ⟨i, s, e1, o, e2⟩ => by
  have h := S.at_ i _ s e2 e1
  cases h with
  | no => simp [Sl.own] at o
  | sh _ => simp [Sl.own] at o
  | ow a _ => exact a
  | io a _ => exact a
/-- behind a step that leaves the slots' own objects as they are -/
theorem StR.fr0 (S : StR g H O σ ρ) (f : Fr W H O H1 O1) (hW : ∀ b, W b → O b) (n : ∀ b, W b → ¬ Wn σ ρ b) (ob : ∀ b, O1 b → H1 b ≠ none) : StR g H1 O1 σ ρ :=
  ⟨S.len, fun i v s e1 e2 => by
    have h := S.at_ i v s e1 e2
    cases h with
    | no => exact .no
    | sh r => exact .sh (r.fr f hW)
    | ow o b =>
      have nw : ¬ W _ := fun z => n _ z ⟨i, _, e2, rfl, e1⟩
      exact .ow (f.o1 _ o nw) (b.fr f hW nw)
    | io o b =>
      have nw : ¬ W _ := fun z => n _ z ⟨i, _, e2, rfl, e1⟩
      exact .io (f.o1 _ o nw) (b.fr f hW nw), S.one, ob⟩
theorem StR.fr1 (S : StR g H O σ ρ) (f : Fr (fun _ => False) H O H1 O1) (ob : ∀ b, O1 b → H1 b ≠ none) : StR g H1 O1 σ ρ :=
  S.fr0 f (fun _ z => z.elim) (fun _ z => z.elim) ob
theorem StR.laid {p : Addr} {o : HO} (S : StR g H O σ ρ) (n : H p = none) : StR g (upd H p o) O σ ρ :=
  S.fr1 (Fr.laid n) fun b z e => S.obj b z ((Fr.laid (W := fun _ => False) (O := O) n).there b e)
theorem StR.laidO {p : Addr} {o : HO} (S : StR g H O σ ρ) (n : H p = none) : StR g (upd H p o) (fun b => O b ∨ b = p) σ ρ :=
  S.fr1 (Fr.laidO n) fun b z e => by
    rcases z with z | z
    · exact S.obj b z ((Fr.laidO (W := fun _ => False) (O := O) n).there b e)
    · rw [z, upd_same] at e; cases e
theorem StR.anti (S : StR g H O σ ρ) (s : ∀ b, O1 b → O b) (k : ∀ b, Wn σ ρ b → O1 b) : StR g H O1 σ ρ :=
  ⟨S.len, fun i v t e1 e2 => by
    have h := S.at_ i v t e1 e2
    cases h with
    | no => exact .no
    | sh r => exact .sh (r.anti s)
    | ow o b => exact .ow (k _ ⟨i, _, e2, rfl, e1⟩) (b.anti s)
    | io o b => exact .io (k _ ⟨i, _, e2, rfl, e1⟩) (b.anti s), S.one, fun b z => S.obj b (s b z)⟩
theorem StR.get {i : Nat} {s : Sl} (S : StR g H O σ ρ) (e : ρ[i]? = some s) : ∃ v, σ[i]? = some v ∧ SlR g H O v s := by
  have hi : i < σ.length := by rw [S.len]; exact (List.getElem?_eq_some_iff.mp e).1
  exact ⟨σ[i], by simp [hi], S.at_ i _ s (by simp [hi]) e⟩
end
end Wr

/-! The core of the language, and what it computes on data. -/
namespace Wr
open PySem L2

/-- a built-in function -/
inductive Bi where
  | len | abs | min2 | max2 | int1 | str1 | repr | sum | maxL | minL | all | any | sorted | listOf | tupleOf
  deriving DecidableEq
def Bi.nm : Bi → String
  | .len => "len" | .abs => "abs" | .min2 => "min" | .max2 => "max" | .int1 => "int" | .str1 => "str" | .repr => "repr" | .sum => "sum" | .maxL => "max" | .minL => "min"
  | .all => "all" | .any => "any" | .sorted => "sorted" | .listOf => "list" | .tupleOf => "tuple"
/-- a class that isinstance is asked about -/
inductive Ty where
  | int | bl | str | tup | lst | dct
  deriving DecidableEq
def Ty.nm : Ty → String
  | .int => "int" | .bl => "bool" | .str => "str" | .tup => "tuple" | .lst => "list" | .dct => "dict"
/-- a target: a name, or names in a tuple -/
inductive CT where
  | nm (i : Nat) | tp (is : List Nat)
def CT.ix : CT → List Nat
  | .nm i => [i]
  | .tp is => is

mutual
inductive CE where
  | var (i : Nat) | int (i : Int) | bl (b : Bool) | non | str (x : Str) | fnc (x : Str)
  | bin (op : Operator) (a b : CE) | neg (a : CE) | inv (a : CE)
  | cmp (op : CmpOp) (a b : CE) | chn (o p : CmpOp) (a b c : CE)
  | bop (isAnd : Bool) (es : CEs) | nt (a : CE) | ite (c a b : CE)
  | tup (es : CEs) | lst (es : CEs)
  | dct (ks : List Str) (es : CEs)
  | gd (x : Str) (kvs : List (Str × GV)) | gc (x : Str) (c : GC) | spl (a b : CE) | ptn (a b : CE)
  | ix (a i : CE) | sl (a : CE) (lo hi : CO)
  | bi (f : Bi) (es : CEs)
  | isi (t : Ty) (a : CE)
  | rngL (es : CEs) | rngT (es : CEs)
  | call (f : Str) (as : CAs) | callK (f : Str) (n : Nat) (as : CAs) (ks : List Str) (es : CEs) (pm : List Nat) | call0 (f : Str) | callV (i : Nat) (fs : List Str) (as : CAs)
  | dget (a k d : CE)
  | lc2 (tg : CT) (it : CI) (tg1 : CT) (it1 : CI) (e : CE)
  | lc (tg : CT) (it : CI) (ifs : CEs) (e : CE)
inductive CO where
  | none | some (e : CE)
inductive CEs where
  | nil | cons (e : CE) (es : CEs)
inductive CAs where
  | nil | ex (e : CE) (as : CAs) | io (j : Nat) (as : CAs)
inductive CI where
  | ex (e : CE) | rng (es : CEs) | enu (e : CE) | zip (a b : CE)
end
mutual
inductive CS where
  | asg (i : Nat) (e : CE)
  | asgT (is : List Nat) (e : CE)
  | par (is : List Nat) (es : CEs)
  | asgS (is : List Nat) (j : Nat) (e : CE)
  | aug (i : Nat) (e : CE)
  | seti (i : Nat) (k e : CE)
  | app (i : Nat) (e : CE)
  | ext (i : Nat) (e : CE)
  | exp (e : CE)
  | ifs (c : CE) (a b : CSs)
  | fors (tg : CT) (it : CI) (body : CSs)
  | whl (fuel : Nat) (c : CE) (body : CSs)
  | ret (e : CE) | retN | pass | brk | cnt
  | nev
inductive CSs where
  | nil | cons (s : CS) (ss : CSs)
end
/-- a def: its parameters' number, its slots' number, its body -/
structure CDef where
  np : Nat
  ns : Nat
  body : CSs

noncomputable section
/-- a condition as a truth value, never evaluated -/
def okB (p : Prop) : Bool := @decide p (Classical.propDecidable p)
theorem okB_of {p : Prop} (h : p) : okB p = true := @decide_eq_true p (Classical.propDecidable p) h
theorem of_okB {p : Prop} (h : okB p = true) : p := @of_decide_eq_true p (Classical.propDecidable p) h
/-- how conditions on sizes are answered: never by evaluation, or by it (for a run of written data) -/
class Oks where
  ok : (p : Prop) → [Decidable p] → Bool
variable [Oks]
/-! ### what an operation gives -/
def tyD : D → Option String
  | .non => some "NoneType"
  | .bl _ => some "bool"
  | .int _ => some "int"
  | .str _ => some "str"
  | .tup _ => some "tuple"
  | .lst _ => some "list"
  | .dct _ => some "dict"
  | .fnc _ => none
  | .kdc _ => none
def isiS (t : Ty) (a : String) : Bool := a == t.nm || (a == "bool" && t.nm == "int")
def isiD (t : Ty) (d : D) : Option Bool := (tyD d).map (isiS t)
def sizeL : Nat := 16777216
def mulOk (a b : Int) : Bool := Oks.ok (a.natAbs.log2 + b.natAbs.log2 < 1000000)
def fdOk (b : Int) : Bool := Oks.ok (0 < b ∧ b.natAbs.log2 < 9000)
def powOk (a b : Int) : Bool := Oks.ok (2 ≤ a ∧ 0 ≤ b ∧ b ≤ 1000 ∧ a.natAbs.log2 < 10000)
def shlOk (a b : Int) : Bool := Oks.ok (0 ≤ b ∧ a.natAbs.log2 < 1000000 ∧ b ≤ 1000000)
def binop : Operator → D → D → Option Rs
  | .Add, .int a, .int b => some (.sh (.int (a + b)))
  | .Sub, .int a, .int b => some (.sh (.int (a - b)))
  | .Mult, .int a, .int b => if mulOk a b = true then some (.sh (.int (a * b))) else none
  | .FloorDiv, .int a, .int b => if fdOk b = true then some (.sh (.int (a / b))) else none
  | .Mod, .int a, .int b => if 0 < b then some (.sh (.int (a % b))) else none
  | .Pow, .int a, .int b => if powOk a b = true then some (.sh (.int (a ^ b.toNat))) else none
  | .LShift, .int a, .int b => if shlOk a b = true then some (.sh (.int (a * 2 ^ b.toNat))) else none
  | .RShift, .int a, .int b => if 0 ≤ b then some (.sh (.int (a / 2 ^ b.toNat))) else none
  | .BitAnd, .int a, .int b => some (.sh (.int (Builtin.bitAnd a b)))
  | .BitOr, .int a, .int b => some (.sh (.int (Builtin.bitOr a b)))
  | .BitXor, .int a, .int b => some (.sh (.int (Builtin.bitXor a b)))
  | .Add, .lst a, .lst b => if a.length + b.length ≤ sizeL then some (.fr (.lst (a ++ b))) else none
  | .Add, .tup a, .tup b => if a.length + b.length ≤ sizeL then some (.sh (.tup (a ++ b))) else none
  | .Add, .str a, .str b => if a.length + b.length ≤ sizeL then some (.sh (.str (a ++ b))) else none
  | .Mult, .lst a, .int k => if k < 1000000 ∧ -1000000 < k ∧ a.length * k.toNat ≤ sizeL then some (.fr (.lst (List.replicate k.toNat a).flatten)) else none
  | .Mult, .tup a, .int k => if a.isEmpty = false ∧ 2 ≤ k ∧ k ≤ 1000 ∧ a.length ≤ 1000 then some (.sh (.tup (List.replicate k.toNat a).flatten)) else none
  | _, _, _ => none
def eqD (a b : D) : Option Bool := match toPy a, toPy b with
  | some p, some q => if SeqAt.shaped p = true ∧ SeqAt.shaped q = true then some (PyData.eqv p q) else none
  | _, _ => none
def flatD : D → Bool
  | .non => true | .bl _ => true | .int _ => true | .str _ => true
  | _ => false
/-- == of flat values -/
def eqF : D → D → Bool
  | .non, .non => true
  | .bl a, .bl b => a == b
  | .bl a, .int b => (if a then 1 else 0) == b
  | .int a, .bl b => a == (if b then 1 else 0)
  | .int a, .int b => a == b
  | .str a, .str b => a == b
  | _, _ => false
/-- what a dict holds at a text -/
def dctAt (kvs : List (Key × D)) (x : Str) : Option D := (kvs.find? fun p => decide (p.1 = .inr x)).map (·.2)
def inD : D → D → Option Bool
  | .str x, .dct kvs => some (dctAt kvs x).isSome
  | .str x, .kdc kvs => some (gvAt kvs x).isSome
  | d, .lst xs => if flatD d = true ∧ xs.all flatD = true then some (xs.any fun y => eqF y d) else none
  | d, .tup xs => if flatD d = true ∧ xs.all flatD = true then some (xs.any fun y => eqF y d) else none
  | _, _ => none
def cmpop : CmpOp → D → D → Option Bool
  | .Lt, .int a, .int b => some (decide (a < b))
  | .LtE, .int a, .int b => some (decide (a ≤ b))
  | .Gt, .int a, .int b => some (decide (b < a))
  | .GtE, .int a, .int b => some (decide (b ≤ a))
  | .Eq, .str a, .str b => some (decide (a = b))
  | .NotEq, .str a, .str b => some (!decide (a = b))
  | .Eq, a, b => eqD a b
  | .NotEq, a, b => (eqD a b).map not
  | .Is, a, .non => match a with
    | .non => some true
    | _ => some false
  | .IsNot, a, .non => match a with
    | .non => some false
    | _ => some true
  | .Is, .bl a, .bl b => some (decide (a = b))
  | .IsNot, .bl a, .bl b => some (!decide (a = b))
  | .In, a, b => inD a b
  | .NotIn, a, b => (inD a b).map not
  | _, _, _ => none
/-- the item of a list at an index of any sign -/
def ixD : D → D → Option D
  | .lst xs, .int i => atI xs i
  | .tup xs, .int i => atI xs i
  | .dct kvs, .str x => dctAt kvs x
  | .kdc kvs, .str x => (gvAt kvs x).map gvD
  | _, _ => none
def cutD {α : Type} (xs : List α) (lo hi : Option Int) : List α := (xs.drop (HT.sIx xs.length 0 lo)).take (HT.sIx xs.length xs.length hi - HT.sIx xs.length 0 lo)
def slD : D → Option Int → Option Int → Option Rs
  | .lst xs, lo, hi => some (.fr (.lst (cutD xs lo hi)))
  | .tup xs, lo, hi => some (.sh (.tup (cutD xs lo hi)))
  | _, _, _ => none
def toInts : List D → Option (List Int)
  | [] => some []
  | .int i :: r => (toInts r).map (i :: ·)
  | _ => none
def toBls : List D → Option (List Bool)
  | [] => some []
  | .bl i :: r => (toBls r).map (i :: ·)
  | _ => none
def toStrs : List D → Option (List Str)
  | [] => some []
  | .str i :: r => (toStrs r).map (i :: ·)
  | _ => none
def insS (x : Str) : List Str → List Str
  | [] => [x]
  | y :: r => if PySem.Spec.ltCps y.cps.toList x.cps.toList = true then y :: insS x r else x :: y :: r
def sortS : List Str → List Str
  | [] => []
  | x :: r => insS x (sortS r)
/-- each one below all behind it -/
def strictS : List Str → Bool
  | [] => true
  | x :: r => (r.all fun y => PySem.Spec.ltCps x.cps.toList y.cps.toList) && strictS r
/-- texts in order, where there is one order alone -/
def sortedD (ns : List Str) : Option Rs := if ns.length < 64 ∧ strictS (sortS ns) = true ∧ (sortS ns).isPerm ns = true then some (.fr (.lst ((sortS ns).map D.str))) else none
def splD : D → D → Option Rs
  | .str x, .str y => if (y.length == 0) = false ∧ x.length + 2 ≤ sizeL then some (.fr (.lst ((Txt.split x y).map D.str))) else none
  | _, _ => none
def ptnD : D → D → Option Rs
  | .str x, .str y => if (y.length == 0) = false ∧ x.length ≤ sizeL then some (.sh (.tup [.str (Txt.partition x y).1, .str (Txt.partition x y).2.1, .str (Txt.partition x y).2.2])) else none
  | _, _ => none
def zipD : D → D → Option (List D)
  | .lst xs, .lst ys => some (List.zipWith (fun x y => .tup [x, y]) xs ys)
  | .tup xs, .tup ys => some (List.zipWith (fun x y => .tup [x, y]) xs ys)
  | _, _ => none
def maxI : Int → List Int → Int
  | a, [] => a
  | a, b :: r => maxI (if a < b then b else a) r
def minI : Int → List Int → Int
  | a, [] => a
  | a, b :: r => minI (if b < a then b else a) r
def reprD (d : D) : Option Rs := match toPy d with
  | some p => if p.showable = true ∧ p.depth ≤ 60 ∧ p.shown.length ≤ sizeL then some (.sh (.str p.shown)) else none
  | none => none
def seqOf : D → Option (List D)
  | .lst xs => some xs
  | .tup xs => some xs
  | _ => none
def biF : Bi → List D → Option Rs
  | .len, [.lst xs] => some (.sh (.int xs.length))
  | .len, [.tup xs] => some (.sh (.int xs.length))
  | .len, [.str x] => if x.length ≤ sizeL then some (.sh (.int x.length)) else none
  | .abs, [.int i] => some (.sh (.int (if i < 0 then -i else i)))
  | .min2, [.int a, .int b] => some (.sh (.int (if b < a then b else a)))
  | .max2, [.int a, .int b] => some (.sh (.int (if b > a then b else a)))
  | .int1, [.int i] => some (.sh (.int i))
  | .int1, [.bl b] => some (.sh (.int (if b then 1 else 0)))
  | .repr, [d] => reprD d
  | .sum, [.lst xs] => (toInts xs).map fun ns => .sh (.int ns.sum)
  | .sum, [.tup xs] => (toInts xs).map fun ns => .sh (.int ns.sum)
  | .maxL, [.lst xs] => match toInts xs with
    | some (a :: r) => some (.sh (.int (maxI a r)))
    | _ => none
  | .maxL, [.tup xs] => match toInts xs with
    | some (a :: r) => some (.sh (.int (maxI a r)))
    | _ => none
  | .minL, [.lst xs] => match toInts xs with
    | some (a :: r) => some (.sh (.int (minI a r)))
    | _ => none
  | .minL, [.tup xs] => match toInts xs with
    | some (a :: r) => some (.sh (.int (minI a r)))
    | _ => none
  | .all, [.lst xs] => (toBls xs).map fun bs => .sh (.bl (bs.all id))
  | .any, [.lst xs] => (toBls xs).map fun bs => .sh (.bl (bs.any id))
  | .sorted, [.lst xs] => (toStrs xs).bind sortedD
  | .listOf, [d] => (seqOf d).map fun xs => .fr (.lst xs)
  | .tupleOf, [d] => (seqOf d).map fun xs => .sh (.tup xs)
  | _, _ => none
def truD : D → Option Bool
  | .non => some false
  | .bl b => some b
  | .int i => some (i != 0)
  | .str x => if x.length ≤ sizeL then some ((x.length : Int) != 0) else none
  | .lst xs => some (!xs.isEmpty)
  | .tup xs => some (!xs.isEmpty)
  | .dct kvs => some (!kvs.isEmpty)
  | _ => none
def rngD (a b : Int) : List D := (List.range (b - a).toNat).map fun i => D.int (a + (i : Nat))
/-- the ends of a range by its one or two arguments -/
def rngEnds : List D → Option (Int × Int)
  | [.int n] => some (0, n)
  | [.int a, .int b] => some (a, b)
  | _ => none
def rngOk (a b : Int) : Bool := Oks.ok (-(2 ^ 62) ≤ a ∧ a < 2 ^ 62 ∧ -(2 ^ 62) ≤ b ∧ b < 2 ^ 62 ∧ (b - a).toNat ≤ 2 ^ 24)
def itemsD : D → Option (List D)
  | .lst xs => some xs
  | .tup xs => some xs
  | _ => none

/-! ### steps -/
inductive Re (α : Type) where
  | ok (a : α) (ρ : Rho)
  | ex (x : Xn) (ρ : Rho)
  | st
def Re.bd {α β : Type} (r : Re α) (f : α → Rho → Re β) : Re β := match r with
  | .ok a ρ => f a ρ
  | .ex x ρ => .ex x ρ
  | .st => .st
def Re.of {α : Type} (o : Option α) (ρ : Rho) : Re α := match o with
  | some a => .ok a ρ
  | none => .st
/-- where an operand is: a value, or in a slot -/
inductive Pl where
  | v (d : D) | s (i : Nat)
def slD? : Sl → Option D
  | .sh d => some d
  | .ow d => some d
  | .io d => some d
  | .no => none
def Pl.at (ρ : Rho) : Pl → Option D
  | .v d => some d
  | .s i => ρ[i]?.bind slD?
def plAll (ρ : Rho) : List Pl → Option (List D)
  | [] => some []
  | p :: ps => match p.at ρ, plAll ρ ps with
    | some d, some ds => some (d :: ds)
    | _, _ => none
/-- a name read where its value may stay -/
def rdVar (i : Nat) (ρ : Rho) : Re Rs := match ρ[i]? with
  | some (.sh d) => .ok (.sh d) ρ
  | some (.ow d) => .ok (.sh d) (ρ.set i (.sh d))
  | _ => .st
/-- a call's end: what comes back, the slots that the callee was lent -/
inductive CR where
  | ok (r : Rs) (back : Rho)
  | ex (x : Xn) (back : Rho)
  | st
abbrev Fn := Str → List Sl → CR
/-- an argument: a shared value, or the own object of a slot -/
abbrev Ag := D ⊕ Nat
def lend (ρ : Rho) : List Ag → Option Rho
  | [] => some []
  | .inl d :: r => (lend ρ r).map (.sh d :: ·)
  | .inr j :: r => match ρ[j]?, lend ρ r with
    | some (.ow d), some q => some (.io d :: q)
    | some (.io d), some q => some (.io d :: q)
    | _, _ => none
def lent : List Ag → List Nat
  | [] => []
  | .inl _ :: r => lent r
  | .inr j :: r => j :: lent r
/-- the lent objects come back -/
def home : List Ag → Rho → Rho → Option Rho
  | [], _, ρ => some ρ
  | .inl _ :: r, _ :: q, ρ => home r q ρ
  | .inr j :: r, .io d :: q, ρ => match ρ[j]? with
    | some (.ow _) => home r q (ρ.set j (.ow d))
    | some (.io _) => home r q (ρ.set j (.io d))
    | _ => none
  | _, _, _ => none
def called (cf : Fn) (f : Str) (as : List Ag) (ρ : Rho) : Re Rs := match lend ρ as with
  | some sls => if (lent as).Nodup then (match cf f sls with
    | .ok r back => (match home as back ρ with
      | some ρ' => .ok r ρ'
      | none => .st)
    | .ex x back => (match home as back ρ with
      | some ρ' => .ex x ρ'
      | none => .st)
    | .st => .st) else .st
  | none => .st
def setSh (i : Nat) (d : D) (ρ : Rho) : Option Rho := match ρ[i]? with
  | some (.io _) => none
  | some _ => some (ρ.set i (.sh d))
  | none => none
def setShs : List Nat → List D → Rho → Option Rho
  | [], [], ρ => some ρ
  | i :: is, d :: ds, ρ => (setSh i d ρ).bind (setShs is ds)
  | _, _, _ => none
def bindT : CT → D → Rho → Option Rho
  | .nm i, d, ρ => setSh i d ρ
  | .tp is, .tup ds, ρ => setShs is ds ρ
  | _, _, _ => none
/-- slots forgotten -/
def wipeR (ρ : Rho) : List Nat → Rho
  | [] => ρ
  | i :: is => (wipeR ρ is).set i .no
/-- slots as they were in ρ0 -/
def backR (ρ0 ρ : Rho) : List Nat → Rho
  | [] => ρ
  | i :: is => match ρ0[i]? with
    | some s => (backR ρ0 ρ is).set i s
    | none => backR ρ0 ρ is
def lcRun (step : D → Rho → Re (Option D)) : List D → Rho → Re (List D)
  | [], ρ => .ok [] ρ
  | x :: xs, ρ => match step x ρ with
    | .ok o ρ1 => (match lcRun step xs ρ1 with
      | .ok ds ρ2 => .ok (o.toList ++ ds) ρ2
      | _ => .st)
    | _ => .st
def noOwn (ρ : Rho) (is : List Nat) : Bool := is.all fun i => match ρ[i]? with
  | some s => !s.own
  | none => false

/-- what an expression does: as a value, as a test, as an operand (a name's value left where it is), as what a return gives -/
structure Sm where
  v : Rho → Re Rs
  t : Rho → Re Bool
  o : Rho → Re Pl
  r : Rho → Re Rs
def Sm.of (v : Rho → Re Rs) : Sm := ⟨v, fun ρ => (v ρ).bd fun r ρ1 => .of (truD r.d) ρ1, fun ρ => (v ρ).bd fun r ρ1 => .ok (.v r.d) ρ1, v⟩
def Sm.vt (v : Rho → Re Rs) (t : Rho → Re Bool) : Sm := ⟨v, t, fun ρ => (v ρ).bd fun r ρ1 => .ok (.v r.d) ρ1, v⟩
def smVar (i : Nat) : Sm where
  v := rdVar i
  t := fun ρ => match ρ[i]?.bind slD? with
    | some d => .of (truD d) ρ
    | none => .st
  o := fun ρ => match ρ[i]?.bind slD? with
    | some _ => .ok (.s i) ρ
    | none => .st
  r := fun ρ => match ρ[i]? with
    | some (.sh d) => .ok (.sh d) ρ
    | some (.ow d) => .ok (.fr d) (ρ.set i .no)
    | _ => .st
def op1 (a : Rho → Re Pl) (k : D → Rho → Re Rs) : Rho → Re Rs := fun ρ => (a ρ).bd fun p ρ1 => match p.at ρ1 with
  | some x => k x ρ1
  | none => .st
def op2 (a b : Rho → Re Pl) (k : D → D → Rho → Re Rs) : Rho → Re Rs := fun ρ => (a ρ).bd fun p ρ1 => (b ρ1).bd fun q ρ2 => match p.at ρ2, q.at ρ2 with
  | some x, some y => k x y ρ2
  | _, _ => .st
def negD : D → Option Rs
  | .int i => some (.sh (.int (-i)))
  | _ => none
def notD (d : D) : Option Rs := (truD d).map fun c => .sh (.bl (!c))
def invD : D → Option Rs
  | .int i => some (.sh (.int (Builtin.bitNot i)))
  | _ => none
def chnV (o o' : CmpOp) (a b c : Rho → Re Pl) : Rho → Re Rs := fun ρ => (a ρ).bd fun p ρ1 => (b ρ1).bd fun q ρ2 => match p.at ρ2, q.at ρ2 with
  | some x, some y => (match cmpop o x y with
    | some false => .ok (.sh (.bl false)) ρ2
    | some true => (c ρ2).bd fun r ρ3 => (match q.at ρ3, r.at ρ3 with
      | some y, some z => .of ((cmpop o' y z).map fun k => .sh (.bl k)) ρ3
      | _, _ => .st)
    | none => .st)
  | _, _ => .st
def evBs : List Sm → Rho → Re (List Pl)
  | [], ρ => .ok [] ρ
  | e :: es, ρ => (e.o ρ).bd fun p ρ1 => (evBs es ρ1).bd fun ps ρ2 => .ok (p :: ps) ρ2
def evEs : List Sm → Rho → Re (List D)
  | [], ρ => .ok [] ρ
  | e :: es, ρ => (e.v ρ).bd fun r ρ1 => (evEs es ρ1).bd fun ds ρ2 => .ok (r.d :: ds) ρ2
def evA : List (Sm ⊕ Nat) → Rho → Re (List Ag)
  | [], ρ => .ok [] ρ
  | .inl e :: es, ρ => (e.v ρ).bd fun r ρ1 => (evA es ρ1).bd fun ds ρ2 => .ok (.inl r.d :: ds) ρ2
  | .inr j :: es, ρ => match ρ[j]? with
    | some s => if s.own = true then (evA es ρ).bd fun ds ρ2 => .ok (.inr j :: ds) ρ2 else .st
    | none => .st
/-- a chain of and (or) as a test -/
def evTo (k : Bool) : List Sm → Rho → Re Bool
  | [], _ => .st
  | [e], ρ => e.t ρ
  | e :: es, ρ => (e.t ρ).bd fun c ρ1 => if c = k then evTo k es ρ1 else .ok c ρ1
/-- a chain of and (or) of truth values, as a value -/
def evO (k : Bool) : List Sm → Rho → Re Rs
  | [], _ => .st
  | [e], ρ => e.v ρ
  | e :: es, ρ => (e.v ρ).bd fun r ρ1 => match r.d with
    | .bl c => if c = k then evO k es ρ1 else .ok (.sh (.bl c)) ρ1
    | _ => .st
/-- the tests of a comprehension: none or one -/
def evTs : List Sm → Rho → Re Bool
  | [], ρ => .ok true ρ
  | [e], ρ => e.t ρ
  | _, _ => .st
def evOp : Option Sm → Rho → Re (Option Int)
  | none, ρ => .ok none ρ
  | some e, ρ => (e.v ρ).bd fun r ρ1 => match r.d with
    | .int i => .ok (some i) ρ1
    | _ => .st
def biV (f : Bi) (es : List Sm) : Rho → Re Rs := fun ρ => (evBs es ρ).bd fun ps ρ1 => match plAll ρ1 ps with
  | some ds => .of (biF f ds) ρ1
  | none => .st
def rngK (ds : List D) (ρ1 : Rho) : Re (List D) := match rngEnds ds with
  | some (a, b) => if rngOk a b = true then .ok (rngD a b) ρ1 else .st
  | none => .st
def rngI (es : List Sm) : Rho → Re (List D) := fun ρ => (evEs es ρ).bd rngK
def rngV (k : List D → Rs) (es : List Sm) : Rho → Re Rs := fun ρ => (rngI es ρ).bd fun ds ρ1 => .ok (k ds) ρ1
def enuD (xs : List D) : List D := xs.zipIdx.map fun p => .tup [.int (p.2 : Nat), p.1]
def enuI (e : Sm) : Rho → Re (List D) := fun ρ => (e.v ρ).bd fun r ρ1 => match itemsD r.d with
  | some xs => .ok (enuD xs) ρ1
  | none => .st
def slV (a : Sm) (lo hi : Option Sm) : Rho → Re Rs := fun ρ => (a.o ρ).bd fun p ρ1 => (evOp lo ρ1).bd fun l ρ2 => (evOp hi ρ2).bd fun h ρ3 => match p.at ρ3 with
  | some x => .of (slD x l h) ρ3
  | none => .st
/-- a method of a text with one text -/
def stV (a b : Sm) (k : D → D → Option Rs) : Rho → Re Rs := fun ρ => (a.v ρ).bd fun r ρ1 => match r.d with
  | .str x => (b.v ρ1).bd fun r2 ρ2 => .of (k (.str x) r2.d) ρ2
  | _ => .st
def zipI (a b : Sm) : Rho → Re (List D) := fun ρ => (a.v ρ).bd fun r ρ1 => (b.v ρ1).bd fun r2 ρ2 => .of (zipD r.d r2.d) ρ2
/-- a display of a dict with texts as keys -/
def dctD (ks : List Str) (ds : List D) : List (Key × D) := List.zipWith (fun k d => (Sum.inr k, d)) ks ds
def lcTurn (tg : CT) (ifs : List Sm) (e : Sm) (x : D) (ρ : Rho) : Re (Option D) := match bindT tg x ρ with
  | some ρ2 => (evTs ifs ρ2).bd fun c ρ3 => if c = true then (e.v ρ3).bd fun r ρ4 => .ok (some r.d) (wipeR ρ4 tg.ix) else .ok none (wipeR ρ3 tg.ix)
  | none => .st
def lcV (tg : CT) (it : Rho → Re (List D)) (ifs : List Sm) (e : Sm) : Rho → Re Rs := fun ρ => (it ρ).bd fun xs ρ1 => if noOwn ρ1 tg.ix = true then
    (match lcRun (lcTurn tg ifs e) xs (wipeR ρ1 tg.ix) with
      | .ok ds ρ5 => if ds.length < sizeL then .ok (.fr (.lst ds)) (backR ρ1 ρ5 tg.ix) else .st
      | _ => .st)
  else .st
/-- a comprehension of two clauses -/
def lcRun2 (step : D → Rho → Re (List D)) : List D → Rho → Re (List D)
  | [], ρ => .ok [] ρ
  | x :: xs, ρ => match step x ρ with
    | .ok o ρ1 => (match lcRun2 step xs ρ1 with
      | .ok ds ρ2 => .ok (o ++ ds) ρ2
      | _ => .st)
    | _ => .st
def lc2Turn (tg : CT) (tg1 : CT) (it1 : Rho → Re (List D)) (e : Sm) (x : D) (ρ : Rho) : Re (List D) := match bindT tg x ρ with
  | some ρ2 => (it1 ρ2).bd fun ys ρ3 => match lcRun (lcTurn tg1 [] e) ys (wipeR ρ3 tg1.ix) with
    | .ok ds ρ4 => .ok ds (wipeR ρ4 (tg.ix ++ tg1.ix))
    | _ => .st
  | none => .st
def lc2V (tg : CT) (it : Rho → Re (List D)) (tg1 : CT) (it1 : Rho → Re (List D)) (e : Sm) : Rho → Re Rs := fun ρ => (it ρ).bd fun xs ρ1 => if noOwn ρ1 (tg.ix ++ tg1.ix) = true then
    (match lcRun2 (lc2Turn tg tg1 it1 e) xs (wipeR ρ1 (tg.ix ++ tg1.ix)) with
      | .ok ds ρ5 => if ds.length < sizeL then .ok (.fr (.lst ds)) (backR ρ1 ρ5 (tg.ix ++ tg1.ix)) else .st
      | _ => .st)
  else .st
/-- a.get(k, d) of a dict -/
def dgetV (a k d : Sm) : Rho → Re Rs := fun ρ => (a.o ρ).bd fun p ρ1 => match p.at ρ1 with
  | some (.dct _) => (k.v ρ1).bd fun r ρ2 => (d.v ρ2).bd fun r2 ρ3 => match p.at ρ3, r.d with
    | some (.dct kvs), .str x => .ok (.sh ((dctAt kvs x).getD r2.d)) ρ3
    | _, _ => .st
  | _ => .st
/-- arguments in the parameters' order -/
def permL {α : Type} (pm : List Nat) (l : List α) : List α := pm.filterMap fun i => l[i]?
def callVV (cf : Fn) (i : Nat) (fs : List Str) (as : List (Sm ⊕ Nat)) : Rho → Re Rs := fun ρ => match ρ[i]? with
  | some (.sh (.fnc x)) => if fs.contains x = true then (evA as ρ).bd fun xs ρ1 => called cf x xs ρ1 else .st
  | _ => .st
mutual
def sm (cf : Fn) : CE → Sm
  | .var i => smVar i
  | .int i => .of fun ρ => .ok (.sh (.int i)) ρ
  | .bl b => .of fun ρ => .ok (.sh (.bl b)) ρ
  | .non => .of fun ρ => .ok (.sh .non) ρ
  | .str x => .of fun ρ => .ok (.sh (.str x)) ρ
  | .fnc x => .of fun ρ => .ok (.sh (.fnc x)) ρ
  | .bin op a b => .of (op2 (sm cf a).o (sm cf b).o fun x y ρ => .of (binop op x y) ρ)
  | .neg a => .of (op1 (sm cf a).o fun x ρ => .of (negD x) ρ)
  | .inv a => .of (op1 (sm cf a).o fun x ρ => .of (invD x) ρ)
  | .cmp op a b => .of (op2 (sm cf a).o (sm cf b).o fun x y ρ => .of ((cmpop op x y).map fun k => .sh (.bl k)) ρ)
  | .chn o o' a b c => .of (chnV o o' (sm cf a).o (sm cf b).o (sm cf c).o)
  | .bop k es => .vt (evO k (sms cf es)) (evTo k (sms cf es))
  | .nt a => .vt (op1 (sm cf a).o fun x ρ => .of (notD x) ρ) (fun ρ => ((sm cf a).t ρ).bd fun c ρ1 => .ok (!c) ρ1)
  | .ite c a b => .vt (fun ρ => ((sm cf c).t ρ).bd fun t ρ1 => if t = true then (sm cf a).v ρ1 else (sm cf b).v ρ1) (fun _ => .st)
  | .tup es => .of fun ρ => (evEs (sms cf es) ρ).bd fun ds ρ1 => if ds.length ≤ sizeL then .ok (.sh (.tup ds)) ρ1 else .st
  | .lst es => .of fun ρ => (evEs (sms cf es) ρ).bd fun ds ρ1 => if ds.length ≤ sizeL then .ok (.fr (.lst ds)) ρ1 else .st
  | .dct ks es => .of fun ρ => (evEs (sms cf es) ρ).bd fun ds ρ1 => .ok (.fr (.dct (dctD ks ds))) ρ1
  | .gd _ kvs => .of fun ρ => .ok (.sh (.kdc kvs)) ρ
  | .gc _ c => .of fun ρ => .ok (.sh (gcD c)) ρ
  | .spl a b => .of (stV (sm cf a) (sm cf b) splD)
  | .ptn a b => .of (stV (sm cf a) (sm cf b) ptnD)
  | .ix a i => .of (op2 (sm cf a).o (sm cf i).o fun x y ρ => .of ((ixD x y).map .sh) ρ)
  | .sl a lo hi => .of (slV (sm cf a) (smO cf lo) (smO cf hi))
  | .bi f es => .of (biV f (sms cf es))
  | .isi t a => .of (op1 (sm cf a).o fun x ρ => .of ((isiD t x).map fun b => .sh (.bl b)) ρ)
  | .rngL es => .of (rngV (fun ds => .fr (.lst ds)) (sms cf es))
  | .rngT es => .of (rngV (fun ds => .sh (.tup ds)) (sms cf es))
  | .call f as => .of fun ρ => (evA (smA cf as) ρ).bd fun xs ρ1 => called cf f xs ρ1
  | .callK f n as ks es pm => .of fun ρ => (evA (smA cf as) ρ).bd fun xs ρ1 => (evEs (sms cf es) ρ1).bd fun ds ρ2 => if xs.length = n ∧ ds.length = ks.length then called cf f (permL pm (xs ++ ds.map .inl)) ρ2 else .st
  | .call0 f => .of fun ρ => called cf f [] ρ
  | .callV i fs as => .of (callVV cf i fs (smA cf as))
  | .dget a k d => .of (dgetV (sm cf a) (sm cf k) (sm cf d))
  | .lc2 tg it tg1 it1 e => .of (lc2V tg (smI cf it) tg1 (smI cf it1) (sm cf e))
  | .lc tg it ifs e => .of (lcV tg (smI cf it) (sms cf ifs) (sm cf e))
def smO (cf : Fn) : CO → Option Sm
  | .none => none
  | .some e => some (sm cf e)
def sms (cf : Fn) : CEs → List Sm
  | .nil => []
  | .cons e es => sm cf e :: sms cf es
def smA (cf : Fn) : CAs → List (Sm ⊕ Nat)
  | .nil => []
  | .ex e es => .inl (sm cf e) :: smA cf es
  | .io j es => .inr j :: smA cf es
def smI (cf : Fn) : CI → Rho → Re (List D)
  | .ex e => fun ρ => ((sm cf e).v ρ).bd fun r ρ1 => .of (itemsD r.d) ρ1
  | .rng es => rngI (sms cf es)
  | .enu e => enuI (sm cf e)
  | .zip a b => zipI (sm cf a) (sm cf b)
end

/-! ### statements -/
inductive Out where
  | nx | bk | ct
  | rt (r : Rs)
def setRs (i : Nat) (r : Rs) (ρ : Rho) : Option Rho := match ρ[i]? with
  | some (.io _) => none
  | some _ => some (ρ.set i (match r with
    | .sh d => .sh d
    | .fr d => .ow d))
  | none => none
/-- the slot's own list, changed -/
def chg (i : Nat) (f : List D → Option (List D)) (ρ : Rho) : Option Rho := match ρ[i]? with
  | some (.ow (.lst xs)) => (f xs).map fun ys => ρ.set i (.ow (.lst ys))
  | some (.io (.lst xs)) => (f xs).map fun ys => ρ.set i (.io (.lst ys))
  | _ => none
def forRun (step : D → Rho → Re Out) : List D → Rho → Re Out
  | [], ρ => .ok .nx ρ
  | x :: xs, ρ => match step x ρ with
    | .ok .nx ρ1 => forRun step xs ρ1
    | .ok .ct ρ1 => forRun step xs ρ1
    | .ok .bk ρ1 => .ok .nx ρ1
    | .ok (.rt r) ρ1 => .ok (.rt r) ρ1
    | .ex x ρ1 => .ex x ρ1
    | .st => .st
def whlRun (test : Rho → Re Bool) (step : Rho → Re Out) : Nat → Rho → Re Out
  | 0, _ => .st
  | n + 1, ρ => (test ρ).bd fun c ρ1 => if c = true then (match step ρ1 with
    | .ok .nx ρ2 => whlRun test step n ρ2
    | .ok .ct ρ2 => whlRun test step n ρ2
    | .ok .bk ρ2 => .ok .nx ρ2
    | .ok (.rt r) ρ2 => .ok (.rt r) ρ2
    | .ex x ρ2 => .ex x ρ2
    | .st => .st) else .ok .nx ρ1
def asgV (i : Nat) (e : Sm) : Rho → Re Out := fun ρ => (e.v ρ).bd fun r ρ1 => match setRs i r ρ1 with
  | some ρ2 => .ok .nx ρ2
  | none => .st
def asgTV (is : List Nat) (e : Sm) : Rho → Re Out := fun ρ => (e.v ρ).bd fun r ρ1 => match bindT (.tp is) r.d ρ1 with
  | some ρ2 => .ok .nx ρ2
  | none => .st
/-- several values, each as it comes -/
def evRs : List Sm → Rho → Re (List Rs)
  | [], ρ => .ok [] ρ
  | e :: es, ρ => (e.v ρ).bd fun r ρ1 => (evRs es ρ1).bd fun rs ρ2 => .ok (r :: rs) ρ2
def setRss : List Nat → List Rs → Rho → Option Rho
  | [], [], ρ => some ρ
  | i :: is, r :: rs, ρ => (setRs i r ρ).bind (setRss is rs)
  | _, _, _ => none
def parV (is : List Nat) (es : List Sm) : Rho → Re Out := fun ρ => (evRs es ρ).bd fun rs ρ1 => match setRss is rs ρ1 with
  | some ρ2 => .ok .nx ρ2
  | none => .st
/-- a, .., *r = e -/
def asgSV (is : List Nat) (j : Nat) (e : Sm) : Rho → Re Out := fun ρ => (e.v ρ).bd fun r ρ1 => match itemsD r.d with
  | some xs => if is.length ≤ xs.length ∧ xs.length ≤ 10000 then (match (setShs is (xs.take is.length) ρ1).bind (setRs j (.fr (.lst (xs.drop is.length)))) with
    | some ρ2 => .ok .nx ρ2
    | none => .st) else .st
  | none => .st
/-- a += e of numbers -/
def augV (i : Nat) (e : Sm) : Rho → Re Out := fun ρ => match ρ[i]? with
  | some (.sh (.int a)) => (e.v ρ).bd fun r ρ1 => (match r.d with
    | .int b => (match setSh i (.int (a + b)) ρ1 with
      | some ρ2 => .ok .nx ρ2
      | none => .st)
    | _ => .st)
  | _ => .st
def ownL (i : Nat) (ρ : Rho) : Bool := match ρ[i]? with
  | some (.ow (.lst _)) => true
  | some (.io (.lst _)) => true
  | _ => false
def setiV (i : Nat) (k e : Sm) : Rho → Re Out := fun ρ => (e.v ρ).bd fun r ρ1 => if ownL i ρ1 = true then (k.v ρ1).bd fun p ρ2 => (match p.d with
  | .int j => (match chg i (fun xs => (ixN xs.length j).map fun n => xs.set n r.d) ρ2 with
    | some ρ3 => .ok .nx ρ3
    | none => .st)
  | _ => .st) else .st
def appV (i : Nat) (e : Sm) : Rho → Re Out := fun ρ => if ownL i ρ = true then (e.v ρ).bd fun r ρ1 => (match chg i (fun xs => if xs.length < sizeL then some (xs ++ [r.d]) else none) ρ1 with
  | some ρ2 => .ok .nx ρ2
  | none => .st) else .st
def extV (i : Nat) (e : Sm) : Rho → Re Out := fun ρ => if ownL i ρ = true then (e.v ρ).bd fun r ρ1 => (match r with
  | .fr (.lst ys) => (match chg i (fun xs => if xs.length + ys.length ≤ sizeL then some (xs ++ ys) else none) ρ1 with
    | some ρ2 => .ok .nx ρ2
    | none => .st)
  | _ => .st) else .st
def forTurn (tg : CT) (body : Rho → Re Out) (x : D) (ρ : Rho) : Re Out := match bindT tg x ρ with
  | some ρ2 => body ρ2
  | none => .st
mutual
def ss (cf : Fn) : CS → Rho → Re Out
  | .asg i e => asgV i (sm cf e)
  | .asgT is e => asgTV is (sm cf e)
  | .par is es => parV is (sms cf es)
  | .asgS is j e => asgSV is j (sm cf e)
  | .aug i e => augV i (sm cf e)
  | .seti i k e => setiV i (sm cf k) (sm cf e)
  | .app i e => appV i (sm cf e)
  | .ext i e => extV i (sm cf e)
  | .exp e => fun ρ => ((sm cf e).v ρ).bd fun _ ρ1 => .ok .nx ρ1
  | .ifs c a b => fun ρ => ((sm cf c).t ρ).bd fun t ρ1 => if t = true then sss cf a ρ1 else sss cf b ρ1
  | .fors tg it body => fun ρ => (smI cf it ρ).bd fun xs ρ1 => forRun (forTurn tg (sss cf body)) xs ρ1
  | .whl n c body => whlRun (sm cf c).t (sss cf body) n
  | .ret e => fun ρ => ((sm cf e).r ρ).bd fun r ρ1 => .ok (.rt r) ρ1
  | .retN => fun ρ => .ok (.rt (.sh .non)) ρ
  | .pass => fun ρ => .ok .nx ρ
  | .brk => fun ρ => .ok .bk ρ
  | .cnt => fun ρ => .ok .ct ρ
  | .nev => fun _ => .st
def sss (cf : Fn) : CSs → Rho → Re Out
  | .nil => fun ρ => .ok .nx ρ
  | .cons s r => fun ρ => (ss cf s ρ).bd fun o ρ1 => match o with
    | .nx => sss cf r ρ1
    | o => .ok o ρ1
end
/-- a def run -/
def runD (cf : Fn) (c : CDef) (args : List Sl) : CR :=
  if args.length = c.np then (match sss cf c.body (args ++ List.replicate (c.ns - c.np) .no) with
    | .ok (.rt r) ρ => .ok r (ρ.take c.np)
    | .ok .nx ρ => .ok (.sh .non) (ρ.take c.np)
    | .ex x ρ => .ex x (ρ.take c.np)
    | _ => .st)
  else .st
/-- the defs of a table, n calls deep -/
def fnN (Δ : Str → Option CDef) : Nat → Fn
  | 0, _, _ => .st
  | n + 1, f, args => match Δ f with
    | some c => runD (fnN Δ n) c args
    | none => .st
end
noncomputable instance oksB : Oks := ⟨fun p _ => okB p⟩
@[reducible] def oksC : Oks := ⟨fun p i => @decide p i⟩
theorem oks_eq : oksB = oksC := by
  have h : (fun (p : Prop) (_ : Decidable p) => okB p) = fun p i => @decide p i := by
    funext p i
    unfold okB
    congr
  show Oks.mk _ = Oks.mk _
  rw [h]
end Wr

/-! Steps over states, and what the operations of values ask. -/
namespace Wr
open PySem PySem.Spec L2
open PyProof.Rows hiding St

/-- an exception as it flies: its class, its dict -/
def XnR (g : Gm) (H : Hp) (O : AP1) (x : Xn) (c : Value) (dx : Option Addr) : Prop :=
  ∃ C, g.mg x.cls = some (.ref C) ∧ c = .ref C ∧
    ((x.fs = [] ∧ dx = none) ∨ ∃ d fv, dx = some d ∧ H d = some (.xd fv) ∧ fv.map (·.1) = x.fs.map (·.1) ∧ RDs g H O (fv.map (·.2)) (x.fs.map (·.2)))

/-- a step of a frame: from ρ, H, O to ρ', H', O' -/
structure Stp (g : Gm) (σ : St) (ρ : Rho) (H : Hp) (O : AP1) (ρ' : Rho) (H' : Hp) (O' : AP1) : Prop where
  fr : Fr (Wn σ ρ) H O H' O'
  st : StR g H' O' σ ρ'
  sub : ∀ b, Wn σ ρ' b → Wn σ ρ b
  io : ∀ (i : Nat) (d : D), ρ[i]? = some (Sl.io d) → ∃ d' : D, ρ'[i]? = some (Sl.io d')
section
variable {g : Gm} {σ : St} {ρ ρ1 ρ2 : Rho} {H H1 H2 : Hp} {O O1 O2 : AP1}
theorem Stp.refl (S : StR g H O σ ρ) : Stp g σ ρ H O ρ H O := ⟨.refl _ _ _, S, fun _ z => z, fun _ d e => ⟨d, e⟩⟩
theorem Stp.trans (p : Stp g σ ρ H O ρ1 H1 O1) (q : Stp g σ ρ1 H1 O1 ρ2 H2 O2) : Stp g σ ρ H O ρ2 H2 O2 :=
  ⟨p.fr.trans q.fr p.sub, q.st, fun b z => p.sub b (q.sub b z), fun i d e => let ⟨_, e1⟩ := p.io i d e; q.io i _ e1⟩
theorem Stp.rd (p : Stp g σ ρ H O ρ1 H1 O1) (S : StR g H O σ ρ) {v : V} {d : D} (h : RD g H O v d) : RD g H1 O1 v d := h.fr p.fr S.wn
theorem Stp.rds (p : Stp g σ ρ H O ρ1 H1 O1) (S : StR g H O σ ρ) {v : List V} {d : List D} (h : RDs g H O v d) : RDs g H1 O1 v d := h.fr p.fr S.wn

/-- a result's value behind a step from H -/
def RsR (g : Gm) (H : Hp) (σ : St) (ρ' : Rho) (H' : Hp) (O' : AP1) (v : V) : Rs → Prop
  | .sh d => RD g H' O' v d
  | .fr d => ∃ a, v = .ref a ∧ H a = none ∧ O' a ∧ ¬ Wn σ ρ' a ∧ Ob g H' O' a d
/-- a fresh object becomes a shared one -/
theorem RsR.share {v : V} {r : Rs} (S : StR g H O σ ρ) (p : Stp g σ ρ H O ρ1 H1 O1) (h : RsR g H σ ρ1 H1 O1 v r) : ∃ O2, Stp g σ ρ H O ρ1 H1 O2 ∧ RD g H1 O2 v r.d := by
  cases r with
  | sh d => exact ⟨O1, p, h⟩
  | fr d =>
    obtain ⟨a, rfl, na, oa, nw, ob⟩ := h
    have sub : ∀ b, (O1 b ∧ b ≠ a) → O1 b := fun _ z => z.1
    refine ⟨fun b => O1 b ∧ b ≠ a, ⟨⟨p.fr.keep, p.fr.there, fun b z n => ⟨p.fr.o1 b z n, fun e => ?_⟩, fun b z => p.fr.o2 b z.1⟩, p.st.anti sub fun b z => ⟨p.st.wn b z, fun e => nw (e ▸ z)⟩, p.sub, p.io⟩, ?_⟩
    · subst e
      exact S.obj b z na
    · exact (ob.anti sub).sh fun z => z.2 rfl

/-- what is asked of a step's outcome -/
def RW (W : WX) (g : Gm) (σ : St) (ρ : Rho) (H : Hp) (O : AP1) {α : Type} (r : Re α) (K : α → Rho → Prop) : Prop := match r with
  | .ok a ρ' => K a ρ'
  | .ex x ρ' => ∀ c dx H' O', Stp g σ ρ H O ρ' H' O' → XnR g H' O' x c dx → W c dx σ H'
  | .st => False
variable {W : WX} {α β : Type}
theorem RW.imp {r : Re α} {K K' : α → Rho → Prop} (h : RW W g σ ρ H O r K) (f : ∀ a ρ', K a ρ' → K' a ρ') : RW W g σ ρ H O r K' := by
  cases r with
  | ok a ρ' => exact f a ρ' h
  | ex x ρ' => exact h
  | st => exact h
theorem RW.bd {r : Re α} {f : α → Rho → Re β} {K : β → Rho → Prop} (h : RW W g σ ρ H O (r.bd f) K) : RW W g σ ρ H O r fun a ρ' => RW W g σ ρ H O (f a ρ') K := by
  cases r with
  | ok a ρ' => exact h
  | ex x ρ' => exact h
  | st => exact h
theorem RW.rebase {r : Re α} {K : α → Rho → Prop} (p : Stp g σ ρ H O ρ1 H1 O1) (h : RW W g σ ρ H O r K) : RW W g σ ρ1 H1 O1 r K := by
  cases r with
  | ok a ρ' => exact h
  | ex x ρ' => exact fun c dx H' O' s x' => h c dx H' O' (p.trans s) x'
  | st => exact h
theorem RW.okE {a : α} {K : α → Rho → Prop} (h : RW W g σ ρ H O (.ok a ρ1) K) : K a ρ1 := h
theorem RW.of {o : Option α} {K : α → Rho → Prop} (h : RW W g σ ρ H O (Re.of o ρ1) K) : ∃ a, o = some a ∧ K a ρ1 := by
  cases o with
  | some a => exact ⟨a, rfl, h⟩
  | none => exact h.elim
end

/-! ### values that operations make -/
/-- v, H', O': a result made from H, O without any slot -/
inductive Nw (g : Gm) (H : Hp) (O : AP1) : Rs → V → Hp → AP1 → Prop where
  | same {v : V} {d : D} : RD g H O v d → Nw g H O (.sh d) v H O
  | laid {p : Addr} {o : HO} {d : D} : H p = none → RD g (upd H p o) O (.ref p) d → Nw g H O (.sh d) (.ref p) (upd H p o) O
  | own {p : Addr} {o : HO} {d : D} : H p = none → Ob g (upd H p o) (fun b => O b ∨ b = p) p d → Nw g H O (.fr d) (.ref p) (upd H p o) (fun b => O b ∨ b = p)
section
variable {g : Gm} {σ : St} {ρ : Rho} {H H1 : Hp} {O O1 : AP1} {r : Rs} {v : V}
theorem Nw.stp (n : Nw g H O r v H1 O1) (S : StR g H O σ ρ) : Stp g σ ρ H O ρ H1 O1 ∧ RsR g H σ ρ H1 O1 v r := by
  cases n with
  | same h => exact ⟨.refl S, h⟩
  | laid n h => exact ⟨⟨Fr.laid n, S.laid n, fun _ z => z, fun _ d e => ⟨d, e⟩⟩, h⟩
  | own n h => exact ⟨⟨Fr.laidO n, S.laidO n, fun _ z => z, fun _ d e => ⟨d, e⟩⟩, _, rfl, n, .inr rfl, fun z => S.obj _ (S.wn _ z) n, h⟩
end
/-- what the making of r wants -/
def Mk1 (g : Gm) (H : Hp) (O : AP1) (r : Rs) (Q : VK) : Prop := ∀ v H' O', Nw g H O r v H' O' → Q v H'
section
variable {g : Gm} {H : Hp} {O : AP1} {Q : VK}
theorem Mk1.int {i : Int} (h : Mk1 g H O (.sh (.int i)) Q) : Q (.int i) H := h _ _ _ (.same (.int i))
theorem Mk1.bl {b : Bool} (h : Mk1 g H O (.sh (.bl b)) Q) : Q (.bl b) H := h _ _ _ (.same (.bl b))
theorem Mk1.str {x : Str} (h : Mk1 g H O (.sh (.str x)) Q) : Q (.str x) H := h _ _ _ (.same (.str x))
theorem up_fr {p : Addr} {o : HO} (n : H p = none) : Fr (fun _ => False) H O (upd H p o) O := Fr.laid n
theorem Mk1.tup {ds : List D} {vs : List V} (ob : ∀ b, O b → H b ≠ none) (hs : RDs g H O vs ds) (h : Mk1 g H O (.sh (.tup ds)) Q) : ∀ p, H p = none → Q (.ref p) (upd H p (.tup vs)) := fun p n =>
  h _ _ _ (.laid n (.tup (.inl ⟨.inl upd_same, fun z => ob p z n⟩) (hs.fr (up_fr n) fun _ z => z.elim)))
theorem Mk1.lstS {ds : List D} {vs : List V} (ob : ∀ b, O b → H b ≠ none) (hs : RDs g H O vs ds) (h : Mk1 g H O (.sh (.lst ds)) Q) : ∀ p, H p = none → Q (.ref p) (upd H p (.lst vs)) := fun p n =>
  h _ _ _ (.laid n (.lst (.inl ⟨.inl upd_same, fun z => ob p z n⟩) (hs.fr (up_fr n) fun _ z => z.elim)))
theorem Mk1.lst {ds : List D} {vs : List V} (hs : RDs g H O vs ds) (h : Mk1 g H O (.fr (.lst ds)) Q) : ∀ p, H p = none → Q (.ref p) (upd H p (.lst vs)) := fun p n =>
  h _ _ _ (.own n (.lst upd_same (hs.fr (Fr.laidO (W := fun _ => False) n) fun _ z => z.elim)))
end

theorem sizeL_eq : sizeL = sizeLine := by rw [sizeLine_eq]; rfl

/-! ### operations -/
section
variable {X : Cx} {g : Gm}
theorem rdL {pins : List (Addr × Obj)} {σ : St} {H : Hp} {s : Shared} {l : Addr} {xs : List V} (I : Inv X pins σ H s) (h : LsK X.K H l xs) :
    xs.length ≤ sizeLine ∧ ∃ (its : List Value) (n : Nat), Vals xs its ∧ s.heap.get? l = some { cls := .type "list", data := .seq its.toArray n } := by
  rcases h with h | ⟨its, n, e, z, r⟩
  · exact h.ok I.hok
  · exact ⟨by rw [r.length]; exact z, its, n, r, I.kIn _ _ e⟩
theorem opr_cat : OpR X (binaryOp .Add) (fun x y H Q => ∃ l b xs zs, x = .ref l ∧ y = .ref b ∧ LsK X.K H l xs ∧ LsK X.K H b zs ∧ xs.length + zs.length ≤ sizeLine ∧ ∀ p, H p = none → Q (.ref p) (upd H p (.lst (xs ++ zs)))) := by
  intro pins s σ H x y v u Q I rx ry h
  obtain ⟨l, b, xs, zs, rfl, rfl, hH, hB, hz, q⟩ := h
  cases rx
  cases ry
  obtain ⟨_, is1, n1, r1, e1⟩ := rdL I hH
  obtain ⟨_, is2, n2, r2, e2⟩ := rdL I hB
  have w1 := r1.length
  have w2 := r2.length
  refine PySem.P.add_list e1 e2 ?_ (by simp only [List.size_toArray]; omega)
  rw [show is1.toArray ++ is2.toArray = (is1 ++ is2).toArray by simp]
  exact ⟨.ref _, _, I.lnew (t' := s.toks) (r1.append r2) (by simp only [List.length_append]; omega), rfl, q _ I.fresh⟩
theorem opr_rep : OpR X (binaryOp .Mult) (fun x y H Q => ∃ l k xs, x = .ref l ∧ y = .int k ∧ LsK X.K H l xs ∧ -(2 ^ 63) ≤ k ∧ k < 2 ^ 63 ∧ xs.length * k.toNat ≤ sizeLine ∧
    ∀ p, H p = none → Q (.ref p) (upd H p (.lst (List.replicate k.toNat xs).flatten))) := by
  intro pins s σ H x y v u Q I rx ry h
  obtain ⟨l, k, xs, rfl, rfl, hH, h1, h2, hz, q⟩ := h
  cases rx
  obtain ⟨t, rfl⟩ := ry
  obtain ⟨_, is, n, r, e⟩ := rdL I hH
  have w := r.length
  have wz : is.toArray.size * k.toNat ≤ sizeLine := by simp only [List.size_toArray]; rw [← w]; exact hz
  have c1 : ¬ (!Builtin.List.listFitsIndex k) = true := by rw [fitsIndex_both h1 h2]; decide
  have c2 : ¬ is.toArray.size * k.toNat > (2 ^ 63 - 1) / 8 := by
    have z : (sizeLine : Nat) ≤ (2 ^ 63 - 1) / 8 := by decide
    omega
  have c3 : ¬ Builtin.List.listTooLong (is.toArray.size * k.toNat) = true := by rw [notLongL wz]; decide
  have out : List.foldl (fun a b => a ++ b) #[] (List.replicate (if is.toArray.isEmpty = true then 0 else k.toNat) is.toArray) = (List.replicate k.toNat is).flatten.toArray := by
    have z := fun m : Nat => foldl_rep is m []
    simp only [List.nil_append] at z
    cases is with
    | nil => rw [z]; simp
    | cons a b => rw [if_neg (by simp)]; exact z _
  refine wpAny_binaryOp_repeat_ref (T := "list") (U := "int") (by decide) ⟨_, e, rfl⟩ (fun s' => typeIs_int s' k t) noFill_list_mul F.fills_int_mul F.slot_int_rmul repeat_list F.slot_int_index.lookup ?_
  refine call_meets F.slot_int_rmul (typeIs_int s k t) F.entry_int_rmul (F.args_int_rmul_2 _ _) (int___rmul___int_list k t l is.toArray n) ⟨e, rfl, ⟨_, e, rfl⟩, ?_⟩
  refine call_meets F.slot_list_mul ⟨_, e, rfl⟩ F.entry_list_mul (F.args_list_mul_2 _ _) (AutoListH.list___mul___list_int_3 l is.toArray n k t c1 c2 c3) ⟨e, ?_⟩
  rw [out]
  exact ⟨.ref _, _, I.lnew (t' := s.toks) (r.rep k.toNat) (by rw [PyProof.Rows.lm_len_rep_flat, Nat.mul_comm]; exact hz), rfl, q _ I.fresh⟩
/-- an operation on two values, by data -/
def rD2 (g : Gm) (k : D → D → Option Rs) : R2 := fun x y H Q => ∃ O d e r, (∀ b, O b → H b ≠ none) ∧ RB g H O x d ∧ RB g H O y e ∧ k d e = some r ∧ Mk1 g H O r Q
theorem opr_bin (hK : X.K = g.K) (op : Operator) : OpR X (binaryOp op) (rD2 g (binop op)) := by
  intro pins s σ H x y v u Q I rx ry h
  obtain ⟨O, d, e, r, ob, hx, hy, hk, q⟩ := h
  unfold binop at hk
  split at hk
  · cases hx.getI; cases hy.getI; cases hk; exact op_add pins s σ H _ _ v u Q I rx ry ⟨_, _, rfl, rfl, q.int⟩
  · cases hx.getI; cases hy.getI; cases hk; exact op_sub pins s σ H _ _ v u Q I rx ry ⟨_, _, rfl, rfl, q.int⟩
  · split at hk
    · rename_i hc
      replace hc := of_okB hc
      cases hx.getI; cases hy.getI; cases hk; exact op_mulW pins s σ H _ _ v u Q I rx ry ⟨_, _, rfl, rfl, hc, q.int⟩
    · cases hk
  · split at hk
    · rename_i hc
      replace hc := of_okB hc
      cases hx.getI; cases hy.getI; cases hk; exact op_fdivW pins s σ H _ _ v u Q I rx ry ⟨_, _, rfl, rfl, hc, q.int⟩
    · cases hk
  · split at hk
    · rename_i hc
      cases hx.getI; cases hy.getI; cases hk; exact op_mod pins s σ H _ _ v u Q I rx ry ⟨_, _, rfl, rfl, hc, q.int⟩
    · cases hk
  · split at hk
    · rename_i i j hc
      obtain ⟨h1, h2, h3, h4⟩ := of_okB hc
      cases hx.getI; cases hy.getI; cases hk
      obtain ⟨t, rfl⟩ := rx
      obtain ⟨t', rfl⟩ := ry
      have hb : Builtin.Int.intBits i ≤ 10000 := by
        unfold Builtin.Int.intBits
        split <;> omega
      have ht : ¬ Builtin.Int.intTooBig (((Builtin.Int.intBits i : Nat) : Int) * j) = true := by
        intro z
        unfold Builtin.Int.intTooBig at z
        have z3 := of_decide_eq_true z
        rw [show bitsLine = 134217728 by decide] at z3
        have : ((Builtin.Int.intBits i : Nat) : Int) * j ≤ 10000 * 1000 := Int.mul_le_mul (by omega) h3 h2 (by omega)
        omega
      by_cases hj : j = 0
      · subst hj
        exact PySem.AutoIntOps.pow_0 (by decide) (by decide) ⟨.int _, H, I.tok _, ⟨_, rfl⟩, by simpa using q.int⟩
      · exact PySem.AutoIntOps.pow_4 h2 (by simpa using hj) (by simp; omega) (by simp; omega) ht ⟨.int _, H, I.tok _, ⟨_, rfl⟩, q.int⟩
    · cases hk
  · split at hk
    · rename_i hc
      obtain ⟨h1, h2, h3⟩ := of_okB hc
      cases hx.getI; cases hy.getI; cases hk
      refine op_shlW pins s σ H _ _ v u Q I rx ry ⟨_, _, rfl, rfl, ⟨h1, ?_⟩, q.int⟩
      unfold Builtin.Int.intBits
      split <;> omega
    · cases hk
  · split at hk
    · rename_i hc
      cases hx.getI; cases hy.getI; cases hk; exact op_shr pins s σ H _ _ v u Q I rx ry ⟨_, _, rfl, rfl, hc, q.int⟩
    · cases hk
  · cases hx.getI; cases hy.getI; cases hk; exact op_and pins s σ H _ _ v u Q I rx ry ⟨_, _, rfl, rfl, q.int⟩
  · cases hx.getI; cases hy.getI; cases hk; exact op_or pins s σ H _ _ v u Q I rx ry ⟨_, _, rfl, rfl, q.int⟩
  · cases hx.getI; cases hy.getI; cases hk; exact op_xor pins s σ H _ _ v u Q I rx ry ⟨_, _, rfl, rfl, q.int⟩
  · split at hk
    · rename_i hc
      obtain ⟨a, xs, rfl, hX, hxs⟩ := hx.getL
      obtain ⟨b, ys, rfl, hY, hys⟩ := hy.getL
      cases hk
      rw [← hK] at hX hY
      exact opr_cat pins s σ H _ _ v u Q I rx ry ⟨a, b, xs, ys, rfl, rfl, hX, hY, by rw [hxs.len, hys.len, ← sizeL_eq]; exact hc, q.lst (hxs.append hys)⟩
    · cases hk
  · split at hk
    · rename_i hc
      obtain ⟨a, xs, rfl, hX, hxs⟩ := hx.getT
      obtain ⟨b, ys, rfl, hY, hys⟩ := hy.getT
      cases hk
      rw [← hK] at hX hY
      refine op_catA pins s σ H _ _ v u Q I rx ry ⟨a, b, xs, ys, rfl, rfl, hX, hY, by rw [hxs.len, hys.len, ← sizeL_eq]; exact hc, fun e => ?_, fun _ e => ?_, fun _ _ => q.tup ob (hxs.append hys)⟩
      · subst e
        cases hxs
        exact q _ _ _ (.same hy.tupSh)
      · subst e
        cases hys
        rw [List.append_nil] at q
        exact q _ _ _ (.same hx.tupSh)
    · cases hk
  · split at hk
    · rename_i hc
      cases hx.getS; cases hy.getS; cases hk; exact op_add_str pins s σ H _ _ v u Q I rx ry ⟨_, _, rfl, rfl, by rw [← sizeL_eq]; exact hc, q.str⟩
    · cases hk
  · split at hk
    · rename_i hc
      obtain ⟨h1, h2, h3⟩ := hc
      obtain ⟨a, xs, rfl, hX, hxs⟩ := hx.getL
      cases hy.getI
      cases hk
      rw [← hK] at hX
      exact opr_rep pins s σ H _ _ v u Q I rx ry ⟨a, _, xs, rfl, rfl, hX, by omega, by omega, by rw [hxs.len, ← sizeL_eq]; exact h3, q.lst (hxs.rep _)⟩
    · cases hk
  · split at hk
    · rename_i hc
      obtain ⟨h0, h1, h2, h3⟩ := hc
      obtain ⟨a, xs, rfl, hX, hxs⟩ := hx.getT
      cases hy.getI
      cases hk
      rw [← hK] at hX
      refine op_repT pins s σ H _ _ v u Q I rx ry ⟨a, _, xs, rfl, rfl, hX, fun e => ?_, h1, h2, by rw [hxs.len]; exact h3, q.tup ob (hxs.rep _)⟩
      subst e
      cases hxs
      cases h0
    · cases hk
  · cases hk
end
end Wr

/-! Comparisons, items, slices, built-in functions, by data. -/
namespace Wr
open PySem PySem.Spec L2
open PyProof.Rows hiding St
section
variable {prog : Program} {w : World} {A : Around} {E : Value → Shared → Prop} {s : Shared} {l : Addr} {xs : Array (Int × Tok)}
/-- iter(t) of a tuple of ints -/
theorem iterTup {Q : Value → Shared → Prop} (hl : s.heap.IsTuple l (intItems xs))
    (h : ∀ s2 : Shared, s2 = { s with heap := s.heap.push { cls := .type "tuple_iterator", data := .fields #[.ref l, .int 0 0] } } → (s2.heap.IsTupleIter s.heap.objs.size l 0 ∧ s2.heap.IsTuple l (intItems xs)) → (∀ b ∈ [s.heap.objs.size, l], b < s2.heap.objs.size) → l ≠ s.heap.objs.size → Q (.ref s.heap.objs.size) s2) :
    wpAny (model prog w) A (pyIter (.ref l)) Q E s := by
  have lt : l < s.heap.objs.size := by
    obtain ⟨_, e, _⟩ := hl
    exact Heap.lt_size e
  refine wpAny_pyIter_tuple hl (h _ rfl ⟨⟨_, Heap.get?_push_size _ rfl, rfl, rfl⟩, hl.push _⟩ (fun b hb => ?_) (Nat.ne_of_lt lt))
  show b < (s.heap.push _).objs.size
  rw [Heap.size_push]
  rcases List.mem_cons.mp hb with e | hb
  · subst e
    exact Nat.lt_succ_self _
  · obtain rfl := List.mem_singleton.mp hb
    exact Nat.lt_succ_of_lt lt
theorem keptTup {h' : Heap} {o : Obj} (hk : ∀ b x, b ∉ [s.heap.objs.size] → (s.heap.push o).get? b = some x → h'.get? b = some x) : ∀ b x, s.heap.get? b = some x → h'.get? b = some x := fun b x e =>
  hk b x (fun hm => absurd ((List.mem_singleton.mp hm) ▸ Heap.lt_size e) (Nat.lt_irrefl _)) (Heap.get?_push_of_some _ e)
theorem sumTup {its : List Value} {ns : List Int} {Q : Value → Shared → Prop} (hh : A.handled = none) (hl : s.heap.IsTuple l its.toArray) (hi : IntsAre its ns)
    (h : ∀ h' tk t', (∀ b o, s.heap.get? b = some o → h'.get? b = some o) → Q (.int ns.sum t') { s with heap := h', toks := tk }) : wpAny (model prog w) A (call (.builtin "sum") [.ref l]) Q E s := by
  obtain ⟨xs, e⟩ := hi.allInts.items
  have hn : numsOf (intItems xs).toList = ns := by rw [← e]; exact hi.numsOf
  rw [nums_intItems] at hn
  rw [e] at hl
  refine call_sum_walkG (iterTup hl fun s2 e2 st fp ne => ?_)
  subst e2
  refine ⟨_, _, _, _, _, _, numAt xs, rfl, Walks.tuple (A := A.in1) hh _ l ne (intItems xs), st, fp, (fun _ _ => intItems_at), fun h' tk t' hk => ?_⟩
  have g := h h' tk t' (keptTup hk)
  have p : preSum (numAt xs) (intItems xs).size = ns.sum := by
    rw [show (intItems xs).size = xs.size by simp [intItems], preSum_eq, List.take_of_length_le (by simp), hn]
  rw [← p] at g
  exact g
theorem maxTup {its : List Value} {ns : List Int} {Q : Value → Shared → Prop} (hh : A.handled = none) (hl : s.heap.IsTuple l its.toArray) (hi : IntsAre its ns) (hne : 0 < ns.length)
    (h : ∀ h' tk M t', (∀ b o, s.heap.get? b = some o → h'.get? b = some o) → M ∈ ns → (∀ a, a ∈ ns → a ≤ M) → Q (.int M t') { s with heap := h', toks := tk }) : wpAny (model prog w) A (call (.builtin "max") [.ref l]) Q E s := by
  obtain ⟨xs, e⟩ := hi.allInts.items
  have hn : numsOf (intItems xs).toList = ns := by rw [← e]; exact hi.numsOf
  rw [nums_intItems] at hn
  subst hn
  rw [e] at hl
  have sz : (intItems xs).size = xs.size := by simp [intItems]
  refine call_max_walk (iterTup hl fun s2 e2 st fp ne => ?_)
  subst e2
  refine ⟨_, _, _, _, _, _, _, rfl, Walks.tuple (A := A.in1) hh _ l ne (intItems xs), st, fp, by rw [sz]; simpa using hne, CmpOf.ints_gt (numAt xs) (fun _ _ => intItems_at), fun v h' tk hP hk => ?_⟩
  rw [sz] at hP
  obtain ⟨t, rfl⟩ := intItems_at hP
  obtain ⟨h1, h2⟩ := argBest_gt (numAt xs) (xs.size - 1)
  have hs : 0 < xs.size := by simpa using hne
  refine h h' tk _ t (keptTup hk) ?_ fun a ha => ?_
  · rw [numAt_eq]; exact PySem.getD_mem (by rw [List.length_map, Array.length_toList]; omega)
  · obtain ⟨j, hj, rfl⟩ := mem_getD ha
    rw [List.length_map, Array.length_toList] at hj
    rw [← numAt_eq]; exact h2 j (by omega)
theorem minTup {its : List Value} {ns : List Int} {Q : Value → Shared → Prop} (hh : A.handled = none) (hl : s.heap.IsTuple l its.toArray) (hi : IntsAre its ns) (hne : 0 < ns.length)
    (h : ∀ h' tk M t', (∀ b o, s.heap.get? b = some o → h'.get? b = some o) → M ∈ ns → (∀ a, a ∈ ns → M ≤ a) → Q (.int M t') { s with heap := h', toks := tk }) : wpAny (model prog w) A (call (.builtin "min") [.ref l]) Q E s := by
  obtain ⟨xs, e⟩ := hi.allInts.items
  have hn : numsOf (intItems xs).toList = ns := by rw [← e]; exact hi.numsOf
  rw [nums_intItems] at hn
  subst hn
  rw [e] at hl
  have sz : (intItems xs).size = xs.size := by simp [intItems]
  refine call_min_walk (iterTup hl fun s2 e2 st fp ne => ?_)
  subst e2
  refine ⟨_, _, _, _, _, _, _, rfl, Walks.tuple (A := A.in1) hh _ l ne (intItems xs), st, fp, by rw [sz]; simpa using hne, CmpOf.ints_lt (numAt xs) (fun _ _ => intItems_at), fun v h' tk hP hk => ?_⟩
  rw [sz] at hP
  obtain ⟨t, rfl⟩ := intItems_at hP
  obtain ⟨h1, h2⟩ := argBest_lt (numAt xs) (xs.size - 1)
  have hs : 0 < xs.size := by simpa using hne
  refine h h' tk _ t (keptTup hk) ?_ fun a ha => ?_
  · rw [numAt_eq]; exact PySem.getD_mem (by rw [List.length_map, Array.length_toList]; omega)
  · obtain ⟨j, hj, rfl⟩ := mem_getD ha
    rw [List.length_map, Array.length_toList] at hj
    rw [← numAt_eq]; exact h2 j (by omega)
end
section
variable {X : Cx}
theorem cr_sumT (hc : X.calm = true) : CallR X (.builtin "sum") (fun vs H Q => ∃ (a : Addr) (ns : List Int), vs = [V.ref a] ∧ SqT X.K H a (ns.map V.int) ∧ Q (.int ns.sum) H) := by
  intro pins s σ H vs us Q I r ⟨a, ns, e, hs, q⟩
  subst e
  obtain ⟨its, rv, hl, _⟩ := I.tuple hs
  rw [Vals.ref1 r]
  exact sumTup (I.ok.hd hc) hl rv.ints fun h' tk t' hk => ⟨.int _, H, I.kept hk, ⟨_, rfl⟩, q⟩
theorem cr_maxT (hc : X.calm = true) : CallR X (.builtin "max") (fun vs H Q => ∃ (a : Addr) (ns : List Int), vs = [V.ref a] ∧ SqT X.K H a (ns.map V.int) ∧ 0 < ns.length ∧ ∀ m, m ∈ ns → (∀ y, y ∈ ns → y ≤ m) → Q (.int m) H) := by
  intro pins s σ H vs us Q I r ⟨a, ns, e, hs, hne, q⟩
  subst e
  obtain ⟨its, rv, hl, _⟩ := I.tuple hs
  rw [Vals.ref1 r]
  exact maxTup (I.ok.hd hc) hl rv.ints hne fun h' tk m t' hk h1 h2 => ⟨.int _, H, I.kept hk, ⟨_, rfl⟩, q m h1 h2⟩
theorem cr_minT (hc : X.calm = true) : CallR X (.builtin "min") (fun vs H Q => ∃ (a : Addr) (ns : List Int), vs = [V.ref a] ∧ SqT X.K H a (ns.map V.int) ∧ 0 < ns.length ∧ ∀ m, m ∈ ns → (∀ y, y ∈ ns → m ≤ y) → Q (.int m) H) := by
  intro pins s σ H vs us Q I r ⟨a, ns, e, hs, hne, q⟩
  subst e
  obtain ⟨its, rv, hl, _⟩ := I.tuple hs
  rw [Vals.ref1 r]
  exact minTup (I.ok.hd hc) hl rv.ints hne fun h' tk m t' hk h1 h2 => ⟨.int _, H, I.kept hk, ⟨_, rfl⟩, q m h1 h2⟩
end
section
variable {X : Cx} {g : Gm}
def rC2 (g : Gm) (k : D → D → Option Bool) : R2 := fun x y H Q => ∃ O d e c, RB g H O x d ∧ RB g H O y e ∧ k d e = some c ∧ Q (.bl c) H
theorem RB.nnon {H : Hp} {O : AP1} {v : V} {d : D} (h : RB g H O v d) (hd : d ≠ .non) : v ≠ .non := by
  cases h with
  | sh h => cases h <;> first | exact absurd rfl hd | (intro z; cases z)
  | lst _ _ => intro z; cases z
  | dct _ _ => intro z; cases z
theorem eqD_some {d e : D} {c : Bool} (h : eqD d e = some c) : ∃ p q, toPy d = some p ∧ toPy e = some q ∧ SeqAt.shaped p = true ∧ SeqAt.shaped q = true ∧ PyData.eqv p q = c := by
  unfold eqD at h
  split at h
  · rename_i p q h1 h2
    split at h
    · rename_i hs
      cases h
      exact ⟨p, q, h1, h2, hs.1, hs.2, rfl⟩
    · cases h
  · cases h
theorem eqF_rel {H : Hp} {O : AP1} {x y : V} {d e : D} (hx : RD g H O x d) (hy : RD g H O y e) (fx : flatD d = true) (fy : flatD e = true) : flatV x = true ∧ flatV y = true ∧ eqV x y = eqF d e := by
  cases hx <;> first | (cases fx; done) | (cases hy <;> first | (cases fy; done) | exact ⟨rfl, rfl, rfl⟩)
theorem RB.flat {H : Hp} {O : AP1} {x : V} {d : D} (h : RB g H O x d) (f : flatD d = true) : RD g H O x d := by
  cases h with
  | sh h => exact h
  | lst _ _ => cases f
  | dct _ _ => cases f
theorem inV_rel {H : Hp} {O : AP1} {x : V} {d : D} (hx : RD g H O x d) (fx : flatD d = true) : ∀ {ys : List V} {es : List D}, RDs g H O ys es → es.all flatD = true → flatV x = true ∧ ys.all flatV = true ∧ inV x ys = es.any fun y => eqF y d
  | [], _, .nil, _ => ⟨by cases hx <;> first | (cases fx; done) | rfl, rfl, rfl⟩
  | y :: ys, _, .cons (d := e) h hs, f => by
    rw [List.all_cons, Bool.and_eq_true] at f
    obtain ⟨h1, h2, h3⟩ := inV_rel hx fx hs f.2
    obtain ⟨g1, g2, g3⟩ := eqF_rel h hx f.1 fx
    refine ⟨g2, by rw [List.all_cons, g1, h2]; rfl, ?_⟩
    unfold inV at h3 ⊢
    rw [List.any_cons, List.any_cons, g3, h3]
theorem val_rel {H : Hp} {O : AP1} {x : Str} : ∀ {xs : List (Key × V)} {ds : List (Key × D)}, RDk g H O xs ds → (valV xs (.inr x)).isSome = (dctAt ds x).isSome ∧ ∀ d, dctAt ds x = some d → ∃ v, valV xs (.inr x) = some v ∧ RD g H O v d
  | [], _, .nil => ⟨rfl, fun d e => by cases e⟩
  | (k, v) :: xs, _, .cons (d := d0) (ds := ds) h hs => by
    by_cases e : k = .inr x
    · subst e
      have e1 : dctAt ((.inr x, d0) :: ds) x = some d0 := by simp [dctAt]
      have e2 : valV ((.inr x, v) :: xs) (.inr x) = some v := valV_pos rfl
      rw [e1, e2]
      exact ⟨rfl, fun d z => by cases z; exact ⟨v, rfl, h⟩⟩
    · have e1 : dctAt ((k, d0) :: ds) x = dctAt ds x := by simp [dctAt, e]
      have e2 : valV ((k, v) :: xs) (.inr x) = valV xs (.inr x) := valV_neg e
      rw [e1, e2]
      exact val_rel hs
theorem opr_in (hK : X.K = g.K) (hP : X.w.params = g.prm) (hu : X.A.units + 64 < cLine) : OpR X (compareOp .In) (rC2 g inD) := by
  intro pins s σ H x y v u Q I rx ry h
  obtain ⟨O, d, e, c, hx, hy, hk, q⟩ := h
  unfold inD at hk
  split at hk
  · rename_i z kvs
    cases hk
    cases hx.getS
    obtain ⟨a, xs, rfl, hX, hxs⟩ := hy.getD
    cases ry
    have e1 := (val_rel (x := z) hxs).1
    refine d_in (by omega) I (DGet.k (k := .inr z) hX) rx fun s' I' => ⟨.bl _, H, I', rfl, ?_⟩
    rw [e1]
    exact q
  · rename_i z kvs
    cases hk
    cases hx.getS
    obtain ⟨a, rfl, es, n, k1, k2, k3, hz⟩ := hy.getK
    have D : L2.KDict X.K X.w a es n := ⟨by rw [hK]; exact k1, by rw [hP]; exact k2, k3⟩
    cases ec : gvAt kvs z with
    | none =>
      rw [ec] at q
      exact op_in_kd D pins s σ H _ _ v u Q I rx ry ⟨z, none, rfl, rfl, by rw [hK]; exact (hz z).1 ec, q⟩
    | some d =>
      rw [ec] at q
      obtain ⟨v0, u0, e0, _, _⟩ := (hz z).2 d ec
      exact op_in_kd D pins s σ H _ _ v u Q I rx ry ⟨z, some u0, rfl, rfl, by rw [hK]; exact e0, q⟩
  · split at hk
    · rename_i hc
      cases hk
      obtain ⟨a, xs, rfl, hX, hxs⟩ := hy.getL
      rw [← hK] at hX
      obtain ⟨f1, f2, f3⟩ := inV_rel (hx.flat hc.1) hc.1 hxs hc.2
      exact op_in_seq pins s σ H _ _ v u Q I rx ry ⟨a, xs, rfl, .inl hX.sq, f1, f2, by rw [f3]; exact q⟩
    · cases hk
  · split at hk
    · rename_i hc
      cases hk
      obtain ⟨a, xs, rfl, hX, hxs⟩ := hy.getT
      rw [← hK] at hX
      obtain ⟨f1, f2, f3⟩ := inV_rel (hx.flat hc.1) hc.1 hxs hc.2
      exact op_in_seq pins s σ H _ _ v u Q I rx ry ⟨a, xs, rfl, .inr hX, f1, f2, by rw [f3]; exact q⟩
    · cases hk
  · cases hk
theorem opr_notIn (hK : X.K = g.K) (hP : X.w.params = g.prm) (hu : X.A.units + 64 < cLine) : OpR X (compareOp .NotIn) (fun x y H Q => ∃ O d e c, RB g H O x d ∧ RB g H O y e ∧ inD d e = some c ∧ Q (.bl (!c)) H) := by
  intro pins s σ H x y v u Q I rx ry h
  obtain ⟨O, d, e, c, hx, hy, hk, q⟩ := h
  unfold inD at hk
  split at hk
  · rename_i z kvs
    cases hk
    cases hx.getS
    obtain ⟨a, xs, rfl, hX, hxs⟩ := hy.getD
    cases ry
    have e1 := (val_rel (x := z) hxs).1
    refine d_notIn (by omega) I (DGet.k (k := .inr z) hX) rx fun s' I' => ⟨.bl _, H, I', rfl, ?_⟩
    rw [e1]
    exact q
  · rename_i z kvs
    cases hk
    cases hx.getS
    obtain ⟨a, rfl, es, n, k1, k2, k3, hz⟩ := hy.getK
    have D : L2.KDict X.K X.w a es n := ⟨by rw [hK]; exact k1, by rw [hP]; exact k2, k3⟩
    cases ec : gvAt kvs z with
    | none =>
      rw [ec] at q
      exact op_notIn_kd D pins s σ H _ _ v u Q I rx ry ⟨z, none, rfl, rfl, by rw [hK]; exact (hz z).1 ec, q⟩
    | some d =>
      rw [ec] at q
      obtain ⟨v0, u0, e0, _, _⟩ := (hz z).2 d ec
      exact op_notIn_kd D pins s σ H _ _ v u Q I rx ry ⟨z, some u0, rfl, rfl, by rw [hK]; exact e0, q⟩
  · split at hk
    · rename_i hc
      cases hk
      obtain ⟨a, xs, rfl, hX, hxs⟩ := hy.getL
      rw [← hK] at hX
      obtain ⟨f1, f2, f3⟩ := inV_rel (hx.flat hc.1) hc.1 hxs hc.2
      exact op_notIn_seq pins s σ H _ _ v u Q I rx ry ⟨a, xs, rfl, .inl hX.sq, f1, f2, by rw [f3]; exact q⟩
    · cases hk
  · split at hk
    · rename_i hc
      cases hk
      obtain ⟨a, xs, rfl, hX, hxs⟩ := hy.getT
      rw [← hK] at hX
      obtain ⟨f1, f2, f3⟩ := inV_rel (hx.flat hc.1) hc.1 hxs hc.2
      exact op_notIn_seq pins s σ H _ _ v u Q I rx ry ⟨a, xs, rfl, .inr hX, f1, f2, by rw [f3]; exact q⟩
    · cases hk
  · cases hk
theorem opr_cmp (hK : X.K = g.K) (hP : X.w.params = g.prm) (hu : X.A.units + 64 < cLine) (op : CmpOp) : OpR X (compareOp op) (rC2 g (cmpop op)) := by
  intro pins s σ H x y v u Q I rx ry h
  obtain ⟨O, d, e, c, hx, hy, hk, q⟩ := h
  unfold cmpop at hk
  split at hk
  · cases hx.getI; cases hy.getI; cases hk; exact op_lt pins s σ H _ _ v u Q I rx ry ⟨_, _, rfl, rfl, q⟩
  · cases hx.getI; cases hy.getI; cases hk; exact op_le pins s σ H _ _ v u Q I rx ry ⟨_, _, rfl, rfl, q⟩
  · cases hx.getI; cases hy.getI; cases hk; exact op_gt pins s σ H _ _ v u Q I rx ry ⟨_, _, rfl, rfl, q⟩
  · cases hx.getI; cases hy.getI; cases hk; exact op_ge pins s σ H _ _ v u Q I rx ry ⟨_, _, rfl, rfl, q⟩
  · rename_i a b
    cases hx.getS; cases hy.getS; cases hk
    refine op_eq pins s σ H _ _ v u Q I rx ry ⟨rfl, ?_⟩
    rw [show decide (V.str a = V.str b) = decide (a = b) by simp]
    exact q
  · rename_i a b
    cases hx.getS; cases hy.getS; cases hk
    refine op_ne pins s σ H _ _ v u Q I rx ry ⟨rfl, ?_⟩
    rw [show decide (V.str a = V.str b) = decide (a = b) by simp]
    exact q
  · obtain ⟨p, p', e1, e2, s1, s2, rfl⟩ := eqD_some hk
    have h1 := hx.dp e1
    have h2 := hy.dp e2
    rw [← hK] at h1 h2
    exact op_eqD hu pins s σ H _ _ v u Q I rx ry ⟨p, p', h1, h2, s1, s2, q⟩
  · obtain ⟨c', hk', rfl⟩ := Option.map_eq_some_iff.mp hk
    obtain ⟨p, p', e1, e2, s1, s2, rfl⟩ := eqD_some hk'
    have h1 := hx.dp e1
    have h2 := hy.dp e2
    rw [← hK] at h1 h2
    exact op_neD hu pins s σ H _ _ v u Q I rx ry ⟨p, p', h1, h2, s1, s2, q⟩
  · cases hy.getN
    refine op_isN pins s σ H _ _ v u Q I rx ry ⟨rfl, ?_⟩
    split at hk
    · cases hx.getN; cases hk; exact q
    · rename_i hd
      cases hk
      rw [decide_eq_false (hx.nnon hd)]
      exact q
  · cases hy.getN
    refine op_notN pins s σ H _ _ v u Q I rx ry ⟨rfl, ?_⟩
    split at hk
    · cases hx.getN; cases hk; exact q
    · rename_i hd
      cases hk
      rw [decide_eq_false (hx.nnon hd)]
      exact q
  · cases hx.getB
    cases hy.getB
    cases hk
    exact op_isBl pins s σ H _ _ v u Q I rx ry ⟨_, _, rfl, rfl, q⟩
  · cases hx.getB
    cases hy.getB
    cases hk
    exact op_notBl pins s σ H _ _ v u Q I rx ry ⟨_, _, rfl, rfl, q⟩
  · exact opr_in hK hP hu pins s σ H x y v u Q I rx ry ⟨O, d, e, c, hx, hy, hk, q⟩
  · obtain ⟨c', hk', rfl⟩ := Option.map_eq_some_iff.mp hk
    exact opr_notIn hK hP hu pins s σ H x y v u Q I rx ry ⟨O, d, e, c', hx, hy, hk', q⟩
  · cases hk

/-! ### items -/
theorem atI_rel {H : Hp} {O : AP1} {vs : List V} {ds : List D} {i : Int} {d : D} (h : RDs g H O vs ds) (e : atI ds i = some d) : ∃ v, atI vs i = some v ∧ RD g H O v d := by
  unfold atI at e ⊢
  rw [h.len]
  cases q : ixN ds.length i with
  | none => rw [q] at e; cases e
  | some j =>
    rw [q] at e
    exact h.get e
def rIxD (g : Gm) : R2 := fun x y H Q => ∃ O d e r, RB g H O x d ∧ RB g H O y e ∧ ixD d e = some r ∧ ∀ v, RD g H O v r → Q v H
theorem ixr (hK : X.K = g.K) (hP : X.w.params = g.prm) (hu : X.A.units + 64 < cLine) : IxR X (rIxD g) := by
  have base := ix_seq (X := X)
  rw [hK] at base
  intro ve se pins s σ H x y v u Q I rx ry h hs
  obtain ⟨O, d, e, r, hx, hy, hk, q⟩ := h
  unfold ixD at hk
  split at hk
  · refine base ve se pins s σ H x y v u Q I rx ry ?_ hs
    obtain ⟨a, xs, rfl, hX, hxs⟩ := hx.getL
    cases hy.getI
    obtain ⟨w, hw, rw'⟩ := atI_rel hxs hk
    exact .inl ⟨a, xs, _, w, rfl, rfl, hX.sq, hw, q _ rw'⟩
  · refine base ve se pins s σ H x y v u Q I rx ry ?_ hs
    obtain ⟨a, xs, rfl, hX, hxs⟩ := hx.getT
    cases hy.getI
    obtain ⟨w, hw, rw'⟩ := atI_rel hxs hk
    exact .inr (.inl ⟨a, xs, _, w, rfl, rfl, hX, hw, q _ rw'⟩)
  · rename_i kvs z
    obtain ⟨a, xs, rfl, hX, hxs⟩ := hx.getD
    cases hy.getS
    obtain ⟨w, hw, rw'⟩ := (val_rel (x := z) hxs).2 _ hk
    cases rx
    have ty := (isD_at I (.inl ⟨xs, .inl hX⟩)).1
    have dg : DGet H a (.str z) (some w) := by
      have := DGet.k (k := .inr z) hX
      rw [hw] at this
      exact this
    exact tail_any ty slot_dict_getitem.lookup (d_getItem (by omega) I dg ry fun w' s' I' r' => ⟨w, H, I', r', q _ rw'⟩) hs
  · rename_i kvs z
    obtain ⟨d', ec, rfl⟩ := Option.map_eq_some_iff.mp hk
    obtain ⟨a, rfl, es, n, k1, k2, k3, hz⟩ := hx.getK
    cases hy.getS
    obtain ⟨v0, u0, e0, r0, kv⟩ := (hz z).2 d' ec
    refine ix_kdict (X := X) ve se pins s σ H _ _ v u Q I rx ry ⟨a, z, v0, rfl, rfl, ⟨es, n, u0, by rw [hK]; exact k1, by rw [hP]; exact k2, by rw [hK]; exact e0, r0⟩, q _ kv.rd⟩ hs
  · cases hk

/-! ### slices -/
theorem RDs.cut {H : Hp} {O : AP1} {vs : List V} {ds : List D} (h : RDs g H O vs ds) (lo hi : Option Int) : RDs g H O (cutV vs lo hi) (cutD ds lo hi) := by
  unfold cutV cutD
  rw [h.len]
  exact (h.drop _).take _
theorem cutD_all {α : Type} {ds : List α} {lo hi : Option Int} (h1 : HT.sIx ds.length 0 lo = 0) (h2 : HT.sIx ds.length ds.length hi = ds.length) : cutD ds lo hi = ds := by
  unfold cutD
  rw [h1, h2, List.drop_zero, Nat.sub_zero]
  exact List.take_of_length_le (Nat.le_refl _)
def rSlD (g : Gm) : V → Option Int → Option Int → Hp → VK → Prop := fun x lo hi H Q => ∃ O d r, (∀ b, O b → H b ≠ none) ∧ RB g H O x d ∧ slD d lo hi = some r ∧ Mk1 g H O r Q
theorem slr (hK : X.K = g.K) : L2.SlR X (rSlD g) := by
  have b1 := sl_list (X := X)
  have b2 := sl_tupA (X := X)
  rw [hK] at b1 b2
  intro pins s σ H x v vl vu lo hi sl Q I rx hs pl pu h
  obtain ⟨O, d, r, ob, hx, hk, q⟩ := h
  unfold slD at hk
  split at hk
  · obtain ⟨a, xs, rfl, hX, hxs⟩ := hx.getL
    cases hk
    exact b1 pins s σ H _ v vl vu lo hi sl Q I rx hs pl pu ⟨a, xs, rfl, hX.sq, q.lst (hxs.cut lo hi)⟩
  · obtain ⟨a, xs, rfl, hX, hxs⟩ := hx.getT
    cases hk
    refine b2 pins s σ H _ v vl vu lo hi sl Q I rx hs pl pu ⟨a, xs, rfl, hX, fun z => ?_, fun _ => q.tup ob (hxs.cut lo hi)⟩
    rw [hxs.len] at z
    rw [cutD_all z.1 z.2] at q
    exact q _ _ _ (.same hx.tupSh)
  · cases hk

/-! ### built-in functions -/
def Bi.val : Bi → Value
  | .len => .builtin "len" | .abs => .builtin "abs" | .min2 => .builtin "min" | .max2 => .builtin "max" | .int1 => .type "int" | .str1 => .type "str" | .repr => .builtin "repr" | .sum => .builtin "sum"
  | .maxL => .builtin "max" | .minL => .builtin "min" | .all => .builtin "all" | .any => .builtin "any" | .sorted => .builtin "sorted" | .listOf => .type "list" | .tupleOf => .type "tuple"
abbrev RBs (g : Gm) (H : Hp) (O : AP1) : List V → List D → Prop := Paired (RB g H O)
theorem toInts_rel {H : Hp} {O : AP1} : ∀ {ds : List D} {vs : List V} {ns : List Int}, RDs g H O vs ds → toInts ds = some ns → vs = ns.map V.int
  | [], _, _, h, e => by cases h; cases e; rfl
  | .int i :: r, _, ns, h, e => by
    cases h with
    | cons h hs =>
      simp only [toInts, Option.map_eq_some_iff] at e
      obtain ⟨ms, e1, rfl⟩ := e
      cases h
      rw [toInts_rel hs e1]
      rfl
  | .non :: _, _, _, _, e => by cases e
  | .bl _ :: _, _, _, _, e => by cases e
  | .str _ :: _, _, _, _, e => by cases e
  | .tup _ :: _, _, _, _, e => by cases e
  | .lst _ :: _, _, _, _, e => by cases e
  | .dct _ :: _, _, _, _, e => by cases e
  | .fnc _ :: _, _, _, _, e => by cases e
  | .kdc _ :: _, _, _, _, e => by cases e
theorem toBls_rel {H : Hp} {O : AP1} : ∀ {ds : List D} {vs : List V} {ns : List Bool}, RDs g H O vs ds → toBls ds = some ns → vs = ns.map V.bl
  | [], _, _, h, e => by cases h; cases e; rfl
  | .bl i :: r, _, ns, h, e => by
    cases h with
    | cons h hs =>
      simp only [toBls, Option.map_eq_some_iff] at e
      obtain ⟨ms, e1, rfl⟩ := e
      cases h
      rw [toBls_rel hs e1]
      rfl
  | .non :: _, _, _, _, e => by cases e
  | .int _ :: _, _, _, _, e => by cases e
  | .str _ :: _, _, _, _, e => by cases e
  | .tup _ :: _, _, _, _, e => by cases e
  | .lst _ :: _, _, _, _, e => by cases e
  | .dct _ :: _, _, _, _, e => by cases e
  | .fnc _ :: _, _, _, _, e => by cases e
  | .kdc _ :: _, _, _, _, e => by cases e
theorem toStrs_rel {H : Hp} {O : AP1} : ∀ {ds : List D} {vs : List V} {ns : List Str}, RDs g H O vs ds → toStrs ds = some ns → vs = ns.map V.str
  | [], _, _, h, e => by cases h; cases e; rfl
  | .str i :: r, _, ns, h, e => by
    cases h with
    | cons h hs =>
      simp only [toStrs, Option.map_eq_some_iff] at e
      obtain ⟨ms, e1, rfl⟩ := e
      cases h
      rw [toStrs_rel hs e1]
      rfl
  | .non :: _, _, _, _, e => by cases e
  | .bl _ :: _, _, _, _, e => by cases e
  | .int _ :: _, _, _, _, e => by cases e
  | .tup _ :: _, _, _, _, e => by cases e
  | .lst _ :: _, _, _, _, e => by cases e
  | .dct _ :: _, _, _, _, e => by cases e
  | .fnc _ :: _, _, _, _, e => by cases e
  | .kdc _ :: _, _, _, _, e => by cases e
theorem rising_no {y : Str} : ∀ (l : List Str) (z : Str), risingS z l = true → y ∈ l → ∃ p, (p = z ∨ p ∈ l) ∧ ltCps y.cps.toList p.cps.toList = false
  | x :: r, z, h, hy => by
    unfold risingS at h
    rw [Bool.and_eq_true] at h
    rcases List.mem_cons.mp hy with rfl | hy
    · exact ⟨z, .inl rfl, by simpa using h.1⟩
    · obtain ⟨p, hp, e⟩ := rising_no r x h.2 hy
      rcases hp with rfl | hp
      · exact ⟨p, .inr List.mem_cons_self, e⟩
      · exact ⟨p, .inr (List.mem_cons_of_mem _ hp), e⟩
theorem rising_tail {x : Str} {r : List Str} (h : sortedS (x :: r) = true) : sortedS r = true := by
  cases r with
  | nil => rfl
  | cons y t =>
    have h' : risingS x (y :: t) = true := h
    unfold risingS at h'
    rw [Bool.and_eq_true] at h'
    exact h'.2
/-- one order alone -/
theorem strict_uniq : ∀ {ys zs : List Str}, strictS ys = true → zs.Perm ys → sortedS zs = true → zs = ys
  | [], zs, _, hp, _ => List.Perm.eq_nil hp
  | y :: r, zs, h, hp, hs => by
    unfold strictS at h
    rw [Bool.and_eq_true] at h
    have lt : ∀ x ∈ r, ltCps y.cps.toList x.cps.toList = true := List.all_eq_true.mp h.1
    cases zs with
    | nil => exact absurd hp.length_eq (by simp)
    | cons z t =>
      by_cases e : z = y
      · subst e
        rw [strict_uniq h.2 (List.Perm.cons_inv hp) (rising_tail hs)]
      · exfalso
        have hy : y ∈ t := by
          have := hp.mem_iff.mpr (List.mem_cons_self (a := y) (l := r))
          rcases List.mem_cons.mp this with q | q
          · exact absurd q.symm e
          · exact q
        -- the first place of y
        have key : ∀ (l : List Str) (p : Str), risingS p l = true → p ≠ y → (∀ x ∈ l, x = y ∨ x ∈ r) → p ∈ r → y ∈ l → False := by
          intro l
          induction l with
          | nil => intro p _ _ _ _ h; cases h
          | cons x l ih =>
            intro p h' np hm hpr hy
            unfold risingS at h'
            rw [Bool.and_eq_true] at h'
            by_cases ex : x = y
            · subst ex
              have := lt p hpr
              rw [this] at h'
              cases h'.1
            · have hx : x ∈ r := (hm x List.mem_cons_self).resolve_left ex
              refine ih x h'.2 ex (fun w hw => hm w (List.mem_cons_of_mem _ hw)) hx ?_
              rcases List.mem_cons.mp hy with q | q
              · exact absurd q.symm ex
              · exact q
        have zr : z ∈ r := by
          have := hp.mem_iff.mp (List.mem_cons_self (a := z) (l := t))
          exact (List.mem_cons.mp this).resolve_left e
        exact key t z hs e (fun x hx => List.mem_cons.mp (hp.mem_iff.mp (List.mem_cons_of_mem _ hx))) zr hy
theorem maxI_of : ∀ (r : List Int) (a m : Int), m ∈ a :: r → (∀ y ∈ a :: r, y ≤ m) → m = maxI a r
  | [], a, m, h, _ => by simpa [maxI] using h
  | b :: r, a, m, h, hm => by
    have ha := hm a (by simp)
    have hb := hm b (by simp)
    unfold maxI
    split
    · rename_i hlt
      refine maxI_of r b m ?_ fun y hy => hm y (List.mem_cons_of_mem _ hy)
      rcases List.mem_cons.mp h with e | e
      · exfalso; omega
      · exact e
    · rename_i hlt
      refine maxI_of r a m ?_ fun y hy => ?_
      · rcases List.mem_cons.mp h with e | e
        · exact e ▸ List.mem_cons_self
        · rcases List.mem_cons.mp e with e | e
          · have : m = a := by omega
            exact this ▸ List.mem_cons_self
          · exact List.mem_cons_of_mem _ e
      · rcases List.mem_cons.mp hy with e | e
        · exact e ▸ ha
        · exact hm y (List.mem_cons_of_mem _ (List.mem_cons_of_mem _ e))
theorem minI_of : ∀ (r : List Int) (a m : Int), m ∈ a :: r → (∀ y ∈ a :: r, m ≤ y) → m = minI a r
  | [], a, m, h, _ => by simpa [minI] using h
  | b :: r, a, m, h, hm => by
    have ha := hm a (by simp)
    have hb := hm b (by simp)
    unfold minI
    split
    · rename_i hlt
      refine minI_of r b m ?_ fun y hy => hm y (List.mem_cons_of_mem _ hy)
      rcases List.mem_cons.mp h with e | e
      · exfalso; omega
      · exact e
    · rename_i hlt
      refine minI_of r a m ?_ fun y hy => ?_
      · rcases List.mem_cons.mp h with e | e
        · exact e ▸ List.mem_cons_self
        · rcases List.mem_cons.mp e with e | e
          · have : m = a := by omega
            exact this ▸ List.mem_cons_self
          · exact List.mem_cons_of_mem _ e
      · rcases List.mem_cons.mp hy with e | e
        · exact e ▸ ha
        · exact hm y (List.mem_cons_of_mem _ (List.mem_cons_of_mem _ e))

theorem noDict_dp {K : PySem.W.Frag} {H : Hp} : ∀ {v : V} {p : PyData}, Dp K H v p → p.hasDict = false := by
  intro v p h
  exact Dp.rec (motive_1 := fun _ p _ => p.hasDict = false) (motive_2 := fun _ ps _ => PyData.hasDictAll ps = false) rfl (fun _ => rfl) (fun _ => rfl) (fun _ => rfl)
    (fun _ _ ih => by simp only [PyData.hasDict]; exact ih) (fun _ _ ih => by simp only [PyData.hasDict]; exact ih) (by simp only [PyData.hasDictAll]) (fun _ _ h1 h2 => by simp only [PyData.hasDictAll, h1, h2, Bool.or_self]) h
theorem call_repr (hK : X.K = g.K) (hu : X.A.units + 64 < cLine) (hg : X.A.guards = some []) {pins : List (Addr × Obj)} {s : Shared} {σ : St} {H : Hp} {v : V} {u : Value} {Q : VK} {O : AP1} {d : D} {r : Rs} (I : Inv X pins σ H s) (rx : RelV v u)
    (hx : RB g H O v d) (hk : reprD d = some r) (q : Mk1 g H O r Q) : wpAny (model X.prog X.w) X.A (call (.builtin "repr") [u]) (EP X pins σ Q) X.xe s := by
  unfold reprD at hk
  split at hk
  · rename_i p hp
    split at hk
    · rename_i hc
      obtain ⟨h1, h2, h3⟩ := hc
      cases hk
      have hd := hx.dp hp
      rw [← hK] at hd
      obtain ⟨as, rd⟩ := Dp.reads I p v u hd rx
      have q' := q.str
      rw [sizeL_eq] at h3
      cases hd with
      | non =>
        cases rx
        exact PySem.P.repr_of_none ⟨.str _, H, I.tok _, ⟨_, rfl⟩, q'⟩
      | bl b =>
        cases rx
        exact PySem.P.repr_of_bool ⟨.str _, H, I.tok _, ⟨_, rfl⟩, by cases b <;> exact q'⟩
      | int i =>
        obtain ⟨t, rfl⟩ := rx
        exact PySem.P.repr_of_int (by simpa [PyData.showable] using h1) ⟨.str _, H, I.tok _, ⟨_, rfl⟩, q'⟩
      | str x =>
        obtain ⟨t, rfl⟩ := rx
        exact PySem.P.repr_of_str ⟨.str _, H, I.tok _, ⟨_, rfl⟩, q'⟩ h3
      | lst hs ha =>
        cases rx
        exact repr_of_reads' rd h1 (PyData.noDict_hsm (noDict_dp (.lst hs ha))) hg (by omega) (fun _ _ e => e) (fun h' u tk hk => ⟨.str _, H, I.kept hk, ⟨_, rfl⟩, q'⟩) h3
      | tup hs ha =>
        cases rx
        exact repr_of_reads' rd h1 (PyData.noDict_hsm (noDict_dp (.tup hs ha))) hg (by omega) (fun _ _ e => e) (fun h' u tk hk => ⟨.str _, H, I.kept hk, ⟨_, rfl⟩, q'⟩) h3
    · cases hk
  · cases hk
def rBi (g : Gm) (f : Bi) : List V → Hp → VK → Prop := fun xs H Q => ∃ O ds r, (∀ b, O b → H b ≠ none) ∧ RBs g H O xs ds ∧ biF f ds = some r ∧ Mk1 g H O r Q
theorem bir (hK : X.K = g.K) (hc : X.calm = true) (hu : X.A.units + 64 < cLine) (hg : X.A.guards = some []) (f : Bi) : CallR X f.val (rBi g f) := by
  intro pins s σ H xs us Q I rv h
  obtain ⟨O, ds, r, ob, hx, hk, q⟩ := h
  have two : ∀ {d e : D}, RBs g H O xs [d, e] → ∃ x y, xs = [x, y] ∧ RB g H O x d ∧ RB g H O y e := fun h => by
    cases h with
    | cons h1 h2 =>
      cases h2 with
      | cons h2 h3 => cases h3; exact ⟨_, _, rfl, h1, h2⟩
  have one : ∀ {d : D}, RBs g H O xs [d] → ∃ x, xs = [x] ∧ RB g H O x d := fun h => by
    cases h with
    | cons h1 h2 => cases h2; exact ⟨_, rfl, h1⟩
  unfold biF at hk
  split at hk
  · obtain ⟨x, rfl, h1⟩ := one hx
    obtain ⟨a, ys, rfl, hX, hxs⟩ := h1.getL
    rw [← hK] at hX
    cases hk
    exact call_len_seq pins s σ H _ us Q I rv ⟨a, ys, rfl, .inl hX.sq, by rw [hxs.len]; exact q.int⟩
  · obtain ⟨x, rfl, h1⟩ := one hx
    obtain ⟨a, ys, rfl, hX, hxs⟩ := h1.getT
    cases hk
    rw [← hK] at hX
    exact call_len_seq pins s σ H _ us Q I rv ⟨a, ys, rfl, .inr hX, by rw [hxs.len]; exact q.int⟩
  · obtain ⟨x, rfl, h1⟩ := one hx
    split at hk
    · rename_i hz
      cases h1.getS
      cases hk
      exact call_len_str pins s σ H _ us Q I rv ⟨_, rfl, by rw [← sizeL_eq]; exact hz, q.int⟩
    · cases hk
  · obtain ⟨x, rfl, h1⟩ := one hx
    cases h1.getI
    cases hk
    exact call_abs pins s σ H _ us Q I rv ⟨_, rfl, q.int⟩
  · obtain ⟨x, y, rfl, h1, h2⟩ := two hx
    cases h1.getI
    cases h2.getI
    cases hk
    exact call_min2 hc pins s σ H _ us Q I rv ⟨_, _, rfl, q.int⟩
  · obtain ⟨x, y, rfl, h1, h2⟩ := two hx
    cases h1.getI
    cases h2.getI
    cases hk
    exact call_max2 hc pins s σ H _ us Q I rv ⟨_, _, rfl, q.int⟩
  · obtain ⟨x, rfl, h1⟩ := one hx
    cases h1.getI
    cases hk
    exact call_int1 pins s σ H _ us Q I rv (.inl ⟨_, rfl, q.int⟩)
  · obtain ⟨x, rfl, h1⟩ := one hx
    cases h1.getB
    cases hk
    exact call_int1 pins s σ H _ us Q I rv (.inr ⟨_, rfl, q.int⟩)
  · obtain ⟨x, rfl, h1⟩ := one hx
    obtain ⟨u, rfl, rx⟩ := Vals.one rv
    exact call_repr hK hu hg I rx h1 hk q
  · obtain ⟨x, rfl, h1⟩ := one hx
    obtain ⟨ns, e, rfl⟩ := Option.map_eq_some_iff.mp hk
    obtain ⟨a, ys, rfl, hX, hxs⟩ := h1.getL
    rw [← hK] at hX
    cases toInts_rel hxs e
    exact cr_sum hc pins s σ H _ us Q I rv ⟨a, ns, rfl, hX.sq, q.int⟩
  · obtain ⟨x, rfl, h1⟩ := one hx
    obtain ⟨ns, e, rfl⟩ := Option.map_eq_some_iff.mp hk
    obtain ⟨a, ys, rfl, hX, hxs⟩ := h1.getT
    rw [← hK] at hX
    cases toInts_rel hxs e
    exact cr_sumT hc pins s σ H _ us Q I rv ⟨a, ns, rfl, hX, q.int⟩
  · obtain ⟨x, rfl, h1⟩ := one hx
    split at hk
    · rename_i b t e
      obtain ⟨a, ys, rfl, hX, hxs⟩ := h1.getL
      rw [← hK] at hX
      cases toInts_rel hxs e
      cases hk
      exact cr_max hc pins s σ H _ us Q I rv ⟨a, _, rfl, hX.sq, by simp, fun m hm hle => by rw [maxI_of _ _ _ hm hle]; exact q.int⟩
    · cases hk
  · obtain ⟨x, rfl, h1⟩ := one hx
    split at hk
    · rename_i b t e
      obtain ⟨a, ys, rfl, hX, hxs⟩ := h1.getT
      rw [← hK] at hX
      cases toInts_rel hxs e
      cases hk
      exact cr_maxT hc pins s σ H _ us Q I rv ⟨a, _, rfl, hX, by simp, fun m hm hle => by rw [maxI_of _ _ _ hm hle]; exact q.int⟩
    · cases hk
  · obtain ⟨x, rfl, h1⟩ := one hx
    split at hk
    · rename_i b t e
      obtain ⟨a, ys, rfl, hX, hxs⟩ := h1.getL
      rw [← hK] at hX
      cases toInts_rel hxs e
      cases hk
      exact cr_min hc pins s σ H _ us Q I rv ⟨a, _, rfl, hX.sq, by simp, fun m hm hle => by rw [minI_of _ _ _ hm hle]; exact q.int⟩
    · cases hk
  · obtain ⟨x, rfl, h1⟩ := one hx
    split at hk
    · rename_i b t e
      obtain ⟨a, ys, rfl, hX, hxs⟩ := h1.getT
      rw [← hK] at hX
      cases toInts_rel hxs e
      cases hk
      exact cr_minT hc pins s σ H _ us Q I rv ⟨a, _, rfl, hX, by simp, fun m hm hle => by rw [minI_of _ _ _ hm hle]; exact q.int⟩
    · cases hk
  · obtain ⟨x, rfl, h1⟩ := one hx
    obtain ⟨bs, e, rfl⟩ := Option.map_eq_some_iff.mp hk
    obtain ⟨a, ys, rfl, hX, hxs⟩ := h1.getL
    rw [← hK] at hX
    cases toBls_rel hxs e
    exact cr_all hc pins s σ H _ us Q I rv ⟨a, bs, rfl, hX.sq, q.bl⟩
  · obtain ⟨x, rfl, h1⟩ := one hx
    obtain ⟨bs, e, rfl⟩ := Option.map_eq_some_iff.mp hk
    obtain ⟨a, ys, rfl, hX, hxs⟩ := h1.getL
    rw [← hK] at hX
    cases toBls_rel hxs e
    exact cr_any hc pins s σ H _ us Q I rv ⟨a, bs, rfl, hX.sq, q.bl⟩
  · obtain ⟨x, rfl, h1⟩ := one hx
    obtain ⟨ns, e, e2⟩ := Option.bind_eq_some_iff.mp hk
    unfold sortedD at e2
    split at e2
    · rename_i hcs
      cases e2
      obtain ⟨a, ys, rfl, hX, hxs⟩ := h1.getL
      rw [← hK] at hX
      cases toStrs_rel hxs e
      refine cr_sortedS pins s σ H _ us Q I rv ⟨a, ns, rfl, hX.sq, hcs.1, fun ys p hp hs np => ?_⟩
      have eq := strict_uniq hcs.2.1 (hp.trans (List.isPerm_iff.mp hcs.2.2).symm) hs
      subst eq
      exact q.lst (RDs.strs _) p np
    · cases e2
  · obtain ⟨x, rfl, h1⟩ := one hx
    obtain ⟨es, e, rfl⟩ := Option.map_eq_some_iff.mp hk
    unfold seqOf at e
    split at e
    · obtain ⟨a, ys, rfl, hX, hxs⟩ := h1.getL
      rw [← hK] at hX
      cases e
      exact call_list_of pins s σ H _ us Q I rv ⟨a, ys, rfl, .inl hX.sq, q.lst hxs⟩
    · obtain ⟨a, ys, rfl, hX, hxs⟩ := h1.getT
      cases e
      rw [← hK] at hX
      exact call_list_of pins s σ H _ us Q I rv ⟨a, ys, rfl, .inr hX, q.lst hxs⟩
    · cases e
  · obtain ⟨x, rfl, h1⟩ := one hx
    obtain ⟨es, e, rfl⟩ := Option.map_eq_some_iff.mp hk
    unfold seqOf at e
    split at e
    · obtain ⟨a, ys, rfl, hX, hxs⟩ := h1.getL
      rw [← hK] at hX
      cases e
      exact call_tuple_of pins s σ H _ us Q I rv ⟨a, ys, rfl, .inl ⟨hX.sq, q.tup ob hxs⟩⟩
    · have h2 := h1
      obtain ⟨a, ys, rfl, hX, hxs⟩ := h1.getT
      cases e
      rw [← hK] at hX
      exact call_tuple_of pins s σ H _ us Q I rv ⟨a, ys, rfl, .inr ⟨hX, q _ _ _ (.same h2.tupSh)⟩⟩
    · cases e
  · cases hk

/-! ### truth -/
theorem tru_rel (hK : X.K = g.K) {H : Hp} {O : AP1} {v : V} {d : D} {k : Bool} (h : RB g H O v d) (e : truD d = some k) : TruV X.K v H k := by
  unfold truD at e
  split at e
  · cases h.getN; cases e; rfl
  · cases h.getB; cases e; rfl
  · cases h.getI; cases e; rfl
  · split at e
    · rename_i hz
      cases h.getS; cases e
      exact ⟨by rw [← sizeL_eq]; exact hz, rfl⟩
    · cases e
  · obtain ⟨a, ys, rfl, hX, hxs⟩ := h.getL
    rw [← hK] at hX
    cases e
    exact .inl ⟨ys, hX.sq, by cases hxs <;> rfl⟩
  · obtain ⟨a, ys, rfl, hX, hxs⟩ := h.getT
    cases e
    rw [← hK] at hX
    exact .inr (.inl ⟨ys, hX, by cases hxs <;> rfl⟩)
  · obtain ⟨a, ys, rfl, hX, hxs⟩ := h.getD
    cases e
    exact .inr (.inr ⟨ys, hX, by cases hxs <;> rfl⟩)
  · cases e
end
end Wr

/-! Expressions: each form's rule over data. -/
namespace Wr
open PySem PySem.Spec L2
open PyProof.Rows hiding St

/-- the frame that runs -/
structure CtxOk (g : Gm) (X : Cx) : Prop where
  hK : X.K = g.K
  hmg : X.mg = g.mg
  hP : X.w.params = g.prm
  calm : X.calm = true
  nd : X.N.Nodup
  gd : X.A.guards = some []
  un : X.A.units + 64 < cLine

/-! ### readings -/
def PlR (g : Gm) (H : Hp) (O : AP1) (σ : St) (v : V) : Pl → Prop
  | .v d => RD g H O v d
  | .s i => σ[i]? = some (some v)
def tE (g : Gm) (W : WX) (f : Rho → Re Rs) : TE := fun σ H Q => ∃ O ρ, StR g H O σ ρ ∧ RW W g σ ρ H O (f ρ) fun r ρ' => ∀ v H' O', Stp g σ ρ H O ρ' H' O' → RsR g H σ ρ' H' O' v r → Q v H'
def tP (g : Gm) (W : WX) (f : Rho → Re Pl) : TE := fun σ H Q => ∃ O ρ, StR g H O σ ρ ∧ RW W g σ ρ H O (f ρ) fun p ρ' => ∀ v H' O', Stp g σ ρ H O ρ' H' O' → PlR g H' O' σ v p → Q v H'
def tQ (g : Gm) (W : WX) (f : Rho → Re Bool) : TT := fun σ H Q => ∃ O ρ, StR g H O σ ρ ∧ RW W g σ ρ H O (f ρ) fun b ρ' => ∀ H' O', Stp g σ ρ H O ρ' H' O' → Q b H'
def tAs (g : Gm) (W : WX) (f : Rho → Re (List D)) : TA := fun σ H Q => ∃ O ρ, StR g H O σ ρ ∧ RW W g σ ρ H O (f ρ) fun ds ρ' => ∀ vs H' O', Stp g σ ρ H O ρ' H' O' → RDs g H' O' vs ds → Q vs H'
def tBs (g : Gm) (W : WX) (f : Rho → Re (List Pl)) : TA := fun σ H Q => ∃ O ρ, StR g H O σ ρ ∧ RW W g σ ρ H O (f ρ) fun ps ρ' => ∀ vs H' O', Stp g σ ρ H O ρ' H' O' → Paired (PlR g H' O' σ) vs ps → Q vs H'
/-- what return gives: made here, or a slot's own -/
def RtR (g : Gm) (H : Hp) (σ : St) (ρ ρ' : Rho) (H' : Hp) (O' : AP1) (v : V) : Rs → Prop
  | .sh d => RD g H' O' v d
  | .fr d => ∃ a, v = .ref a ∧ O' a ∧ ¬ Wn σ ρ' a ∧ Ob g H' O' a d ∧ (H a = none ∨ ∃ (i : Nat) (e : D), ρ[i]? = some (Sl.ow e) ∧ σ[i]? = some (some (.ref a)))
def tRt (g : Gm) (W : WX) (f : Rho → Re Rs) : TE := fun σ H Q => ∃ O ρ, StR g H O σ ρ ∧ RW W g σ ρ H O (f ρ) fun r ρ' => ∀ v H' O', Stp g σ ρ H O ρ' H' O' → RtR g H σ ρ ρ' H' O' v r → Q v H'

theorem peImp {X : Cx} {e : Expr} {t t' : TE} (h : PE X e t) (f : ∀ σ H Q, t' σ H Q → t σ H Q) : PE X e t' := ⟨fun pins s σ H Q I q => h.run pins s σ H Q I (f σ H Q q)⟩
theorem ptImp {X : Cx} {e : Expr} {t t' : TT} (h : PT X e t) (f : ∀ σ H Q, t' σ H Q → t σ H Q) : PT X e t' := ⟨fun pins s σ H Q I q => h.run pins s σ H Q I (f σ H Q q)⟩
theorem pwImp {X : Cx} {e : Expr} {t t' : TT} (h : PW X e t) (f : ∀ σ H Q, t' σ H Q → t σ H Q) : PW X e t' := ⟨fun wh pins s σ H Q I q => h.run wh pins s σ H Q I (f σ H Q q)⟩
theorem paImp {X : Cx} {e : List Expr} {t t' : TA} (h : PA X e t) (f : ∀ σ H Q, t' σ H Q → t σ H Q) : PA X e t' := ⟨fun pos pins s σ H Q I q => h.run pos pins s σ H Q I (f σ H Q q)⟩

section
variable {g : Gm} {W : WX} {σ : St} {ρ ρ1 ρ2 : Rho} {H H1 H2 : Hp} {O O1 O2 : AP1}
theorem PlR.stp {p : Pl} {v : V} (h : PlR g H O σ v p) (S : StR g H O σ ρ) (s : Stp g σ ρ H O ρ1 H1 O1) : PlR g H1 O1 σ v p := by
  cases p with
  | v d => exact s.rd S h
  | s i => exact h
theorem PlR.rb {p : Pl} {v : V} {d : D} (h : PlR g H O σ v p) (S : StR g H O σ ρ) (e : p.at ρ = some d) : RB g H O v d := by
  cases p with
  | v d' => cases e; exact .sh h
  | s i =>
    have e' : ρ[i]?.bind slD? = some d := e
    cases q : ρ[i]? with
    | none => rw [q] at e'; cases e'
    | some t =>
      rw [q] at e'
      have z := S.at_ i _ t h q
      cases z with
      | no => cases e'
      | sh r => cases e'; exact .sh r
      | ow _ b => cases e'; exact b.rb
      | io _ b => cases e'; exact b.rb
theorem RsR.base {v : V} {r : Rs} (h : RsR g H1 σ ρ2 H2 O2 v r) (f : ∀ b, H1 b = none → H b = none) : RsR g H σ ρ2 H2 O2 v r := by
  cases r with
  | sh d => exact h
  | fr d =>
    obtain ⟨a, e, n, r⟩ := h
    exact ⟨a, e, f _ n, r⟩
theorem RsR.rt {v : V} {r : Rs} (h : RsR g H σ ρ2 H2 O2 v r) : RtR g H σ ρ ρ2 H2 O2 v r := by
  cases r with
  | sh d => exact h
  | fr d =>
    obtain ⟨a, e, n, o, w, b⟩ := h
    exact ⟨a, e, o, w, b, .inl n⟩
variable {β : Type} {K : β → Rho → Prop}
theorem run_v {f : Rho → Re Rs} {k : Rs → Rho → Re β} {Q : VK} (S : StR g H O σ ρ) (h : RW W g σ ρ H O ((f ρ).bd k) K)
    (next : ∀ r ρ1 v H1 O1, Stp g σ ρ H O ρ1 H1 O1 → RsR g H σ ρ1 H1 O1 v r → RW W g σ ρ1 H1 O1 (k r ρ1) K → Q v H1) : tE g W f σ H Q :=
  ⟨O, ρ, S, (RW.bd h).imp fun r ρ1 h1 v H1 O1 s1 r1 => next r ρ1 v H1 O1 s1 r1 (h1.rebase s1)⟩
/-- .. the value shared -/
theorem run_s {f : Rho → Re Rs} {k : Rs → Rho → Re β} {Q : VK} (S : StR g H O σ ρ) (h : RW W g σ ρ H O ((f ρ).bd k) K)
    (next : ∀ r ρ1 v H1 O1, Stp g σ ρ H O ρ1 H1 O1 → RD g H1 O1 v r.d → RW W g σ ρ1 H1 O1 (k r ρ1) K → Q v H1) : tE g W f σ H Q :=
  ⟨O, ρ, S, (RW.bd h).imp fun r ρ1 h1 v H1 O1 s1 r1 => let ⟨O2, s2, r2⟩ := r1.share S s1; next r ρ1 v H1 O2 s2 r2 (h1.rebase s2)⟩
theorem run_p {f : Rho → Re Pl} {k : Pl → Rho → Re β} {Q : VK} (S : StR g H O σ ρ) (h : RW W g σ ρ H O ((f ρ).bd k) K)
    (next : ∀ p ρ1 v H1 O1, Stp g σ ρ H O ρ1 H1 O1 → PlR g H1 O1 σ v p → RW W g σ ρ1 H1 O1 (k p ρ1) K → Q v H1) : tP g W f σ H Q :=
  ⟨O, ρ, S, (RW.bd h).imp fun r ρ1 h1 v H1 O1 s1 r1 => next r ρ1 v H1 O1 s1 r1 (h1.rebase s1)⟩
theorem run_q {f : Rho → Re Bool} {k : Bool → Rho → Re β} {Q : Bool → Hp → Prop} (S : StR g H O σ ρ) (h : RW W g σ ρ H O ((f ρ).bd k) K)
    (next : ∀ b ρ1 H1 O1, Stp g σ ρ H O ρ1 H1 O1 → RW W g σ ρ1 H1 O1 (k b ρ1) K → Q b H1) : tQ g W f σ H Q :=
  ⟨O, ρ, S, (RW.bd h).imp fun r ρ1 h1 H1 O1 s1 => next r ρ1 H1 O1 s1 (h1.rebase s1)⟩
theorem run_as {f : Rho → Re (List D)} {k : List D → Rho → Re β} {Q : List V → Hp → Prop} (S : StR g H O σ ρ) (h : RW W g σ ρ H O ((f ρ).bd k) K)
    (next : ∀ ds ρ1 vs H1 O1, Stp g σ ρ H O ρ1 H1 O1 → RDs g H1 O1 vs ds → RW W g σ ρ1 H1 O1 (k ds ρ1) K → Q vs H1) : tAs g W f σ H Q :=
  ⟨O, ρ, S, (RW.bd h).imp fun r ρ1 h1 v H1 O1 s1 r1 => next r ρ1 v H1 O1 s1 r1 (h1.rebase s1)⟩
theorem run_bs {f : Rho → Re (List Pl)} {k : List Pl → Rho → Re β} {Q : List V → Hp → Prop} (S : StR g H O σ ρ) (h : RW W g σ ρ H O ((f ρ).bd k) K)
    (next : ∀ ds ρ1 vs H1 O1, Stp g σ ρ H O ρ1 H1 O1 → Paired (PlR g H1 O1 σ) vs ds → RW W g σ ρ1 H1 O1 (k ds ρ1) K → Q vs H1) : tBs g W f σ H Q :=
  ⟨O, ρ, S, (RW.bd h).imp fun r ρ1 h1 v H1 O1 s1 r1 => next r ρ1 v H1 O1 s1 r1 (h1.rebase s1)⟩
end

/-! ### an expression in its four uses -/
structure ES (g : Gm) (W : WX) (X : Cx) (e : Expr) (s : Sm) : Prop where
  v : PE X e (tE g W s.v)
  t : PT X e (tQ g W s.t)
  o : PE X e (tP g W s.o)
  r : PE X e (tRt g W s.r)
/-- the test of an expression is its value's truth -/
def PlainT (e : Expr) (env : Env) : Prop := ∀ whole, isTrue e env whole = (do let v ← whole; standAt e.pos; holding [v] (truthy v))
section
variable {g : Gm} {W : WX} {X : Cx} {e a b c : Expr} {pos : Pos} (C : CtxOk g X)
include C
theorem es_of {f : Rho → Re Rs} (h : PE X e (tE g W f)) (hp : PlainT e X.env) : ES g W X e (.of f) := by
  refine ⟨h, ?_, ?_, ?_⟩
  · refine ptImp (pt_truth h hp) fun σ H Q ⟨O, ρ, S, q⟩ => ?_
    refine run_s S q fun r ρ1 v H1 O1 s1 rv q1 => ?_
    obtain ⟨k, ek, qk⟩ := q1.of
    exact ⟨k, tru_rel C.hK (.sh rv) ek, qk H1 O1 s1⟩
  · refine peImp h fun σ H Q ⟨O, ρ, S, q⟩ => ?_
    exact run_s S q fun r ρ1 v H1 O1 s1 rv q1 => q1 v H1 O1 s1 rv
  · refine peImp h fun σ H Q ⟨O, ρ, S, q⟩ => ?_
    exact ⟨O, ρ, S, q.imp fun r ρ1 q1 v H1 O1 s1 rv => q1 v H1 O1 s1 rv.rt⟩
theorem es_vt {f : Rho → Re Rs} {t : Rho → Re Bool} (h : PE X e (tE g W f)) (ht : PT X e (tQ g W t)) : ES g W X e (.vt f t) := by
  refine ⟨h, ht, ?_, ?_⟩
  · refine peImp h fun σ H Q ⟨O, ρ, S, q⟩ => ?_
    exact run_s S q fun r ρ1 v H1 O1 s1 rv q1 => q1 v H1 O1 s1 rv
  · refine peImp h fun σ H Q ⟨O, ρ, S, q⟩ => ?_
    exact ⟨O, ρ, S, q.imp fun r ρ1 q1 v H1 O1 s1 rv => q1 v H1 O1 s1 rv.rt⟩
omit C in
theorem de_const {v : V} {d : D} (h : PE X e (tC v)) (r : ∀ H O, RD g H O v d) : PE X e (tE g W fun ρ => .ok (.sh d) ρ) :=
  peImp h fun σ H Q ⟨O, ρ, S, q⟩ => q v H O (.refl S) (r H O)

/-- an operation of two operands, by its rule -/
theorem de_op2 {fa fb : Rho → Re Pl} {k : D → D → Option Rs} (hop : ∀ {ta tb : TE}, PE X a ta → PE X b tb → PE X e (tOp (rD2 g k) ta tb)) (ha : PE X a (tP g W fa)) (hb : PE X b (tP g W fb)) :
    PE X e (tE g W (op2 fa fb fun x y ρ => .of (k x y) ρ)) := by
  refine peImp (hop ha hb) fun σ H Q ⟨O, ρ, S, q⟩ => ?_
  refine run_p S q fun p ρ1 x H1 O1 s1 px q1 => run_p s1.st q1 fun p' ρ2 y H2 O2 s2 py q2 => ?_
  split at q2
  · rename_i d e' e1 e2
    obtain ⟨r, er, qr⟩ := q2.of
    refine ⟨O2, d, e', r, s2.st.obj, (px.stp s1.st s2).rb s2.st e1, py.rb s2.st e2, er, fun v H' O' n => ?_⟩
    obtain ⟨s3, rv⟩ := n.stp s2.st
    exact qr v H' O' ((s1.trans s2).trans s3) (rv.base (s1.trans s2).fr.there)
  · exact q2.elim
theorem de_bin {fa fb : Rho → Re Pl} {op : Operator} (ha : PE X a (tP g W fa)) (hb : PE X b (tP g W fb)) : PE X (.BinOp a op b pos) (tE g W (op2 fa fb fun x y ρ => .of (binop op x y) ρ)) :=
  de_op2 C (fun h1 h2 => pe_op (opr_bin C.hK op) h1 h2) ha hb
theorem de_cmp {fa fb : Rho → Re Pl} {op : CmpOp} (ha : PE X a (tP g W fa)) (hb : PE X b (tP g W fb)) (hm : behindInMarks op b = false) :
    PE X (.Compare a [op] [b] pos) (tE g W (op2 fa fb fun x y ρ => .of ((cmpop op x y).map fun k => .sh (.bl k)) ρ)) := by
  refine peImp (pe_cmpR (opr_cmp C.hK C.hP C.un op) ha hb hm) fun σ H Q ⟨O, ρ, S, q⟩ => ?_
  refine run_p S q fun p ρ1 x H1 O1 s1 px q1 => run_p s1.st q1 fun p' ρ2 y H2 O2 s2 py q2 => ?_
  split at q2
  · rename_i d e' e1 e2
    obtain ⟨r, er, qr⟩ := q2.of
    obtain ⟨k, ek, rfl⟩ := Option.map_eq_some_iff.mp er
    exact ⟨O2, d, e', k, (px.stp s1.st s2).rb s2.st e1, py.rb s2.st e2, ek, qr _ H2 O2 (s1.trans s2) (.bl k)⟩
  · exact q2.elim
/-- a comparison, as a test -/
theorem dt_cmp {fa fb : Rho → Re Pl} {op : CmpOp} (ha : PE X a (tP g W fa)) (hb : PE X b (tP g W fb)) (hm : behindInMarks op b = false) :
    PT X (.Compare a [op] [b] pos) (tQ g W (Sm.of (op2 fa fb fun x y ρ => .of ((cmpop op x y).map fun k => .sh (.bl k)) ρ)).t) := by
  refine ptImp (pt_cmpR (opr_cmp C.hK C.hP C.un op) ha hb hm) fun σ H Q ⟨O, ρ, S, q⟩ => ?_
  have q := q.bd
  refine run_p S q fun p ρ1 x H1 O1 s1 px q1 => run_p s1.st q1 fun p' ρ2 y H2 O2 s2 py q2 => ?_
  split at q2
  · rename_i d e' e1 e2
    obtain ⟨r, er, qr⟩ := q2.of
    obtain ⟨k, ek, rfl⟩ := Option.map_eq_some_iff.mp er
    obtain ⟨k', ek', qk⟩ := qr.of
    cases ek'
    exact ⟨O2, d, e', k, (px.stp s1.st s2).rb s2.st e1, py.rb s2.st e2, ek, k, rfl, qk H2 O2 (s1.trans s2)⟩
  · exact q2.elim
theorem es_cmp {fa fb : Sm} {op : CmpOp} (ha : ES g W X a fa) (hb : ES g W X b fb) (hm : behindInMarks op b = false) :
    ES g W X (.Compare a [op] [b] pos) (.of (op2 fa.o fb.o fun x y ρ => .of ((cmpop op x y).map fun k => .sh (.bl k)) ρ)) := by
  have h := es_vt C (de_cmp (pos := pos) C ha.o hb.o hm) (dt_cmp (pos := pos) C ha.o hb.o hm)
  exact ⟨h.v, h.t, h.o, h.r⟩
theorem de_chain {fa fb fc : Rho → Re Pl} {o o' : CmpOp} (ha : PE X a (tP g W fa)) (hb : PE X b (tP g W fb)) (hc : PE X c (tP g W fc)) (hm : lastMarks [o, o'] [b, c] = false) :
    PE X (.Compare a [o, o'] [b, c] pos) (tE g W (chnV o o' fa fb fc)) := by
  refine peImp (pe_chain (opr_cmp C.hK C.hP C.un o) (opr_cmp C.hK C.hP C.un o') ha hb hc hm) fun σ H Q ⟨O, ρ, S, q⟩ => ?_
  refine run_p S q fun p ρ1 x H1 O1 s1 px q1 => run_p s1.st q1 fun p' ρ2 y H2 O2 s2 py q2 => ?_
  split at q2
  · rename_i d e' e1 e2
    split at q2
    · rename_i ec
      exact ⟨O2, d, e', _, (px.stp s1.st s2).rb s2.st e1, py.rb s2.st e2, ec, false, rfl, q2 _ H2 O2 (s1.trans s2) (.bl false)⟩
    · rename_i ec
      refine ⟨O2, d, e', _, (px.stp s1.st s2).rb s2.st e1, py.rb s2.st e2, ec, true, rfl, ?_⟩
      rw [if_pos rfl]
      refine run_p s2.st q2 fun p3 ρ3 z H3 O3 s3 pz q3 => ?_
      split at q3
      · rename_i y' z' e3 e4
        obtain ⟨r, er, qr⟩ := q3.of
        obtain ⟨k, ek, rfl⟩ := Option.map_eq_some_iff.mp er
        exact ⟨O3, y', z', k, (py.stp s2.st s3).rb s3.st e3, pz.rb s3.st e4, ek, qr _ H3 O3 ((s1.trans s2).trans s3) (.bl k)⟩
      · exact q3.elim
    · exact q2.elim
  · exact q2.elim
theorem dt_chain {fa fb fc : Rho → Re Pl} {o o' : CmpOp} (ha : PE X a (tP g W fa)) (hb : PE X b (tP g W fb)) (hc : PE X c (tP g W fc)) (hm : lastMarks [o, o'] [b, c] = false) :
    PT X (.Compare a [o, o'] [b, c] pos) (tQ g W (Sm.of (chnV o o' fa fb fc)).t) := by
  refine ptImp (pt_chain (opr_cmp C.hK C.hP C.un o) (opr_cmp C.hK C.hP C.un o') ha hb hc hm) fun σ H Q ⟨O, ρ, S, q⟩ => ?_
  have q := q.bd
  refine run_p S q fun p ρ1 x H1 O1 s1 px q1 => run_p s1.st q1 fun p' ρ2 y H2 O2 s2 py q2 => ?_
  split at q2
  · rename_i d e' e1 e2
    split at q2
    · rename_i ec
      obtain ⟨k', ek', qk⟩ := RW.of (RW.okE q2)
      cases ek'
      exact ⟨O2, d, e', _, (px.stp s1.st s2).rb s2.st e1, py.rb s2.st e2, ec, false, rfl, false, rfl, qk H2 O2 (s1.trans s2)⟩
    · rename_i ec
      refine ⟨O2, d, e', _, (px.stp s1.st s2).rb s2.st e1, py.rb s2.st e2, ec, true, rfl, ?_⟩
      rw [if_pos rfl]
      refine run_p s2.st q2 fun p3 ρ3 z H3 O3 s3 pz q3 => ?_
      split at q3
      · rename_i y' z' e3 e4
        obtain ⟨r, er, qr⟩ := q3.of
        obtain ⟨k, ek, rfl⟩ := Option.map_eq_some_iff.mp er
        obtain ⟨k', ek', qk⟩ := RW.of qr
        cases ek'
        exact ⟨O3, y', z', k, (py.stp s2.st s3).rb s3.st e3, pz.rb s3.st e4, ek, k, rfl, qk H3 O3 ((s1.trans s2).trans s3)⟩
      · exact q3.elim
    · exact q2.elim
  · exact q2.elim
theorem es_chain {fa fb fc : Sm} {o o' : CmpOp} (ha : ES g W X a fa) (hb : ES g W X b fb) (hc : ES g W X c fc) (hm : lastMarks [o, o'] [b, c] = false) :
    ES g W X (.Compare a [o, o'] [b, c] pos) (.of (chnV o o' fa.o fb.o fc.o)) := by
  have h := es_vt C (de_chain (pos := pos) C ha.o hb.o hc.o hm) (dt_chain (pos := pos) C ha.o hb.o hc.o hm)
  exact ⟨h.v, h.t, h.o, h.r⟩
omit C in
theorem de_op1 {fa : Rho → Re Pl} {op : UnaryOp} {k : D → Option Rs} {f : Int → Int} (ho : UnR X (unaryOp op) (rU fun i => .int (f i))) (hk : ∀ d r, k d = some r → ∃ i, d = .int i ∧ r = .sh (.int (f i))) (ha : PE X a (tP g W fa)) :
    PE X (.UnaryOp op a pos) (tE g W (op1 fa fun x ρ => .of (k x) ρ)) := by
  refine peImp (pe_un ho ha) fun σ H Q ⟨O, ρ, S, q⟩ => ?_
  refine run_p S q fun p ρ1 x H1 O1 s1 px q1 => ?_
  split at q1
  · rename_i d e1
    obtain ⟨r, er, qr⟩ := q1.of
    obtain ⟨i, rfl, rfl⟩ := hk _ _ er
    cases (px.rb s1.st e1).getI
    exact ⟨i, rfl, qr _ H1 O1 s1 (.int _)⟩
  · exact q1.elim
omit C in
theorem de_neg {fa : Rho → Re Pl} (ha : PE X a (tP g W fa)) : PE X (.UnaryOp .USub a pos) (tE g W (op1 fa fun x ρ => .of (negD x) ρ)) :=
  de_op1 un_neg (fun d r e => by cases d <;> first | (cases e; exact ⟨_, rfl, rfl⟩) | cases e) ha
omit C in
theorem de_inv {fa : Rho → Re Pl} (ha : PE X a (tP g W fa)) : PE X (.UnaryOp .Invert a pos) (tE g W (op1 fa fun x ρ => .of (invD x) ρ)) :=
  de_op1 un_inv (fun d r e => by cases d <;> first | (cases e; exact ⟨_, rfl, rfl⟩) | cases e) ha
theorem de_ix {fa fb : Rho → Re Pl} (ha : PE X a (tP g W fa)) (hb : PE X b (tP g W fb)) (hs : PlainIx b) : PE X (.Subscript a b pos) (tE g W (op2 fa fb fun x y ρ => .of ((ixD x y).map .sh) ρ)) := by
  refine peImp (pe_ix (ixr C.hK C.hP C.un) ha hb hs) fun σ H Q ⟨O, ρ, S, q⟩ => ?_
  refine run_p S q fun p ρ1 x H1 O1 s1 px q1 => run_p s1.st q1 fun p' ρ2 y H2 O2 s2 py q2 => ?_
  split at q2
  · rename_i d e' e1 e2
    obtain ⟨r, er, qr⟩ := q2.of
    obtain ⟨k, ek, rfl⟩ := Option.map_eq_some_iff.mp er
    exact ⟨O2, d, e', k, (px.stp s1.st s2).rb s2.st e1, py.rb s2.st e2, ek, fun v rv => qr _ H2 O2 (s1.trans s2) rv⟩
  · exact q2.elim
/-- an optional bound of a slice -/
def tOO (g : Gm) (W : WX) (f : Rho → Re (Option Int)) : TO := fun σ H Q => ∃ O ρ, StR g H O σ ρ ∧ RW W g σ ρ H O (f ρ) fun b ρ' => ∀ H' O', Stp g σ ρ H O ρ' H' O' → Q b H'
omit C in
theorem do_none : PO X none (tOO g W (evOp none)) := by
  have h := po_none (X := X)
  exact ⟨fun pins s σ H Q I ⟨O, ρ, S, q⟩ => h.run pins s σ H Q I (q H O (.refl S))⟩
omit C in
theorem do_some {f : Sm} (ha : PE X a (tE g W f.v)) : PO X (some a) (tOO g W (evOp (some f))) := by
  have h := po_some ha
  refine ⟨fun pins s σ H Q I ⟨O, ρ, S, q⟩ => h.run pins s σ H Q I (run_s S q fun r ρ1 v H1 O1 s1 rv q1 => ?_)⟩
  split at q1
  · rename_i i e
    rw [e] at rv
    cases rv
    exact ⟨i, rfl, q1 H1 O1 s1⟩
  · exact q1.elim
omit C in
theorem run_oo {σ : St} {ρ : Rho} {H : Hp} {O : AP1} {β : Type} {K : β → Rho → Prop} {f : Rho → Re (Option Int)} {k : Option Int → Rho → Re β} {Q : Option Int → Hp → Prop} (S : StR g H O σ ρ) (h : RW W g σ ρ H O ((f ρ).bd k) K)
    (next : ∀ b ρ1 H1 O1, Stp g σ ρ H O ρ1 H1 O1 → RW W g σ ρ1 H1 O1 (k b ρ1) K → Q b H1) : tOO g W f σ H Q :=
  ⟨O, ρ, S, (RW.bd h).imp fun r ρ1 h1 H1 O1 s1 => next r ρ1 H1 O1 s1 (h1.rebase s1)⟩
theorem de_sl {fa : Sm} {lo hi : Option Expr} {fl fh : Option Sm} {p2 : Pos} (ha : PE X a (tP g W fa.o)) (hl : PO X lo (tOO g W (evOp fl))) (hh : PO X hi (tOO g W (evOp fh))) :
    PE X (.Subscript a (.Slice lo hi none p2) pos) (tE g W (slV fa fl fh)) := by
  refine peImp (pe_slice (slr C.hK) ha hl hh) fun σ H Q ⟨O, ρ, S, q⟩ => ?_
  refine run_p S q fun p ρ1 x H1 O1 s1 px q1 => run_oo s1.st q1 fun l ρ2 H2 O2 s2 q2 => run_oo s2.st q2 fun h ρ3 H3 O3 s3 q3 => ?_
  split at q3
  · rename_i d e1
    obtain ⟨r, er, qr⟩ := q3.of
    refine ⟨O3, d, r, s3.st.obj, (px.stp s1.st (s2.trans s3)).rb s3.st e1, er, fun v H' O' n => ?_⟩
    obtain ⟨s4, rv⟩ := n.stp s3.st
    exact qr v H' O' (((s1.trans s2).trans s3).trans s4) (rv.base ((s1.trans s2).trans s3).fr.there)
  · exact q3.elim
omit C in
theorem de_ite {fc fa fb : Sm} (hc : PT X c (tQ g W fc.t)) (ha : PE X a (tE g W fa.v)) (hb : PE X b (tE g W fb.v)) :
    PE X (.IfExp c a b pos) (tE g W fun ρ => (fc.t ρ).bd fun t ρ1 => if t = true then fa.v ρ1 else fb.v ρ1) := by
  refine peImp (pe_ifExp hc ha hb) fun σ H Q ⟨O, ρ, S, q⟩ => ?_
  refine run_q S q fun t ρ1 H1 O1 s1 q1 => ?_
  cases t with
  | true =>
    rw [if_pos rfl] at q1 ⊢
    exact ⟨O1, ρ1, s1.st, q1.imp fun r ρ2 q2 v H2 O2 s2 rv => q2 v H2 O2 (s1.trans s2) (rv.base s1.fr.there)⟩
  | false =>
    rw [if_neg Bool.false_ne_true] at q1 ⊢
    exact ⟨O1, ρ1, s1.st, q1.imp fun r ρ2 q2 v H2 O2 s2 rv => q2 v H2 O2 (s1.trans s2) (rv.base s1.fr.there)⟩
omit C in
theorem dt_not {fa : Sm} (ha : PT X a (tQ g W fa.t)) : PT X (.UnaryOp .Not a pos) (tQ g W fun ρ => (fa.t ρ).bd fun c ρ1 => .ok (!c) ρ1) := by
  refine ptImp (pt_not ha) fun σ H Q ⟨O, ρ, S, q⟩ => ?_
  exact run_q S q fun t ρ1 H1 O1 s1 q1 => q1 H1 O1 s1
end
end Wr

/-! Names, lists of expressions, displays, ranges, calls of built-ins. -/
namespace Wr
open PySem PySem.Spec L2
open PyProof.Rows hiding St

/-! ### a slot's content exchanged -/
section
variable {g : Gm} {σ : St} {ρ ρ1 : Rho} {H H1 : Hp} {O O1 : AP1}
theorem Wn.set_no {i : Nat} {b : Addr} (h : Wn σ (ρ.set i .no) b) : Wn σ ρ b := by
  obtain ⟨j, s, e1, o, e2⟩ := h
  by_cases hj : i = j
  · subst hj
    by_cases hl : i < ρ.length
    · rw [List.getElem?_set_self hl] at e1; cases e1; cases o
    · rw [List.getElem?_eq_none (by simpa using hl)] at e1; cases e1
  · rw [List.getElem?_set_ne hj] at e1
    exact ⟨j, s, e1, o, e2⟩
theorem Wn.set_sh {i : Nat} {b : Addr} {s' : Sl} (hs : s'.own = false) (h : Wn σ (ρ.set i s') b) : Wn σ (ρ.set i .no) b := by
  obtain ⟨j, s, e1, o, e2⟩ := h
  by_cases hj : i = j
  · subst hj
    by_cases hl : i < ρ.length
    · rw [List.getElem?_set_self hl] at e1; cases e1; rw [hs] at o; cases o
    · rw [List.getElem?_eq_none (by simpa using hl)] at e1; cases e1
  · rw [List.getElem?_set_ne hj] at e1
    exact ⟨j, s, by rw [List.getElem?_set_ne hj]; exact e1, o, e2⟩
/-- a slot's own object is not another slot's -/
theorem Wn.set_ne {i : Nat} {a b : Addr} {s : Sl} (S : StR g H O σ ρ) (e : ρ[i]? = some s) (o : s.own = true) (ea : σ[i]? = some (some (.ref a))) (h : Wn σ (ρ.set i .no) b) : b ≠ a := by
  rintro rfl
  obtain ⟨j, t, e1, o1, e2⟩ := h
  by_cases hj : i = j
  · subst hj
    by_cases hl : i < ρ.length
    · rw [List.getElem?_set_self hl] at e1; cases e1; cases o1
    · rw [List.getElem?_eq_none (by simpa using hl)] at e1; cases e1
  · rw [List.getElem?_set_ne hj] at e1
    exact hj (S.one i j s t b e o e1 o1 ea e2)
theorem StR.set_no (S : StR g H O σ ρ) (i : Nat) : StR g H O σ (ρ.set i .no) := by
  refine ⟨by rw [List.length_set]; exact S.len, fun j v s e1 e2 => ?_, fun j k s t a e1 o1 e2 o2 f1 f2 => ?_, S.obj⟩
  · by_cases hj : i = j
    · subst hj
      by_cases hl : i < ρ.length
      · rw [List.getElem?_set_self hl] at e2; cases e2; exact .no
      · rw [List.getElem?_eq_none (by simpa using hl)] at e2; cases e2
    · rw [List.getElem?_set_ne hj] at e2
      exact S.at_ j v s e1 e2
  · have q : ∀ {j : Nat} {s : Sl}, (ρ.set i .no)[j]? = some s → s.own = true → ρ[j]? = some s := fun {j s} e o => by
      by_cases hj : i = j
      · subst hj
        by_cases hl : i < ρ.length
        · rw [List.getElem?_set_self hl] at e; cases e; cases o
        · rw [List.getElem?_eq_none (by simpa using hl)] at e; cases e
      · rwa [List.getElem?_set_ne hj] at e
    exact S.one j k s t a (q e1 o1) o1 (q e2 o2) o2 f1 f2
/-- a shared value into a slot (of the same frame's values) -/
theorem StR.set_sh {i : Nat} {d : D} (S : StR g H O σ ρ) (h : ∀ v, σ[i]? = some v → ∃ w, v = some w ∧ RD g H O w d) : StR g H O σ (ρ.set i (.sh d)) := by
  have S0 := S.set_no i
  refine ⟨by rw [List.length_set]; exact S.len, fun j v s e1 e2 => ?_, fun j k s t a e1 o1 e2 o2 f1 f2 => ?_, S.obj⟩
  · by_cases hj : i = j
    · subst hj
      by_cases hl : i < ρ.length
      · rw [List.getElem?_set_self hl] at e2; cases e2
        obtain ⟨w, rfl, r⟩ := h v e1
        exact .sh r
      · rw [List.getElem?_eq_none (by simpa using hl)] at e2; cases e2
    · rw [List.getElem?_set_ne hj] at e2
      exact S.at_ j v s e1 e2
  · have q : ∀ {j : Nat} {s : Sl}, (ρ.set i (.sh d))[j]? = some s → s.own = true → ρ[j]? = some s := fun {j s} e o => by
      by_cases hj : i = j
      · subst hj
        by_cases hl : i < ρ.length
        · rw [List.getElem?_set_self hl] at e; cases e; cases o
        · rw [List.getElem?_eq_none (by simpa using hl)] at e; cases e
      · rwa [List.getElem?_set_ne hj] at e
    exact S.one j k s t a (q e1 o1) o1 (q e2 o2) o2 f1 f2
theorem set_io {i : Nat} {s : Sl} {d : D} (e : ρ[i]? = some (.ow d)) : ∀ (j : Nat) (f : D), ρ[j]? = some (Sl.io f) → ∃ f' : D, (ρ.set i s)[j]? = some (Sl.io f') := fun j f q => by
  have hj : i ≠ j := fun z => by subst z; rw [e] at q; cases q
  exact ⟨f, by rw [List.getElem?_set_ne hj]; exact q⟩
/-- a slot's own object is given away -/
theorem StR.freeze {i : Nat} {d : D} (S : StR g H O σ ρ) (e : ρ[i]? = some (.ow d)) :
    ∃ a O', σ[i]? = some (some (.ref a)) ∧ Stp g σ ρ H O (ρ.set i (.sh d)) H O' ∧ RD g H O' (.ref a) d := by
  obtain ⟨v, ev, r⟩ := S.get e
  cases r with
  | ow oa ob =>
    rename_i a
    have sub : ∀ b, (O b ∧ b ≠ a) → O b := fun _ z => z.1
    have S0 : StR g H (fun b => O b ∧ b ≠ a) σ (ρ.set i .no) := (S.set_no i).anti sub fun b z => ⟨S.wn b z.set_no, Wn.set_ne S e rfl ev z⟩
    have rd : RD g H (fun b => O b ∧ b ≠ a) (.ref a) d := (ob.anti sub).sh fun z => z.2 rfl
    have S1 := S0.set_sh (i := i) (d := d) fun v q => by rw [ev] at q; cases q; exact ⟨_, rfl, rd⟩
    rw [List.set_set] at S1
    refine ⟨a, _, ev, ⟨⟨fun _ _ q _ => q, fun _ q => q, fun b z n => ⟨z, fun q => n ⟨i, _, e, rfl, by rw [q]; exact ev⟩⟩, fun b z => .inl z.1⟩, S1, fun b z => (Wn.set_sh rfl z).set_no, set_io e⟩, rd⟩
end

/-! ### names -/
section
variable {g : Gm} {W : WX} {X : Cx} {e a b c : Expr} {pos : Pos} (C : CtxOk g X)
theorem slot_rb {σ : St} {ρ : Rho} {H : Hp} {O : AP1} {i : Nat} {d : D} (S : StR g H O σ ρ) (e : ρ[i]?.bind slD? = some d) : ∃ v, σ[i]? = some (some v) ∧ RB g H O v d := by
  cases q : ρ[i]? with
  | none => rw [q] at e; cases e
  | some s =>
    rw [q] at e
    obtain ⟨v, ev, r⟩ := S.get q
    cases r with
    | no => cases e
    | sh r => cases e; exact ⟨_, ev, .sh r⟩
    | ow _ b => cases e; exact ⟨_, ev, b.rb⟩
    | io _ b => cases e; exact ⟨_, ev, b.rb⟩
include C
theorem es_var {i : Nat} {x : Str} (hN : X.N[i]? = some x) (hv : Vis X.env.scope x) (hd : (x == ("__debug__" : Str)) = false) (hcd : (x == ("__classdict__" : Str)) = false) : ES g W X (.Name x pos) (smVar i) := by
  have h : PE X (.Name x pos) (tVar i) := pe_var hN hv hd hcd
  refine ⟨peImp h fun σ H Q ⟨O, ρ, S, q⟩ => ?_, ptImp (pt_truth h fun _ => rfl) fun σ H Q ⟨O, ρ, S, q⟩ => ?_, peImp h fun σ H Q ⟨O, ρ, S, q⟩ => ?_, peImp h fun σ H Q ⟨O, ρ, S, q⟩ => ?_⟩
  · simp only [smVar, rdVar] at q
    split at q
    · rename_i d e
      obtain ⟨v, ev, r⟩ := S.get e
      cases r with | sh r => exact ⟨_, ev, q _ H O (.refl S) r⟩
    · rename_i d e
      obtain ⟨a, O', ev, s, r⟩ := S.freeze e
      exact ⟨_, ev, q _ H O' s r⟩
    · exact q.elim
  · simp only [smVar] at q
    split at q
    · rename_i d e
      obtain ⟨k, ek, qk⟩ := q.of
      obtain ⟨v, ev, r⟩ := slot_rb S e
      exact ⟨v, ev, k, tru_rel C.hK r ek, qk H O (.refl S)⟩
    · exact q.elim
  · simp only [smVar] at q
    split at q
    · rename_i d e
      obtain ⟨v, ev, r⟩ := slot_rb S e
      exact ⟨v, ev, q v H O (.refl S) ev⟩
    · exact q.elim
  · simp only [smVar] at q
    split at q
    · rename_i d e
      obtain ⟨v, ev, r⟩ := S.get e
      cases r with | sh r => exact ⟨_, ev, q _ H O (.refl S) r⟩
    · rename_i d e
      obtain ⟨v, ev, r⟩ := S.get e
      cases r with
      | ow oa ob =>
        have n := fun z => Wn.set_ne S e rfl ev z rfl
        exact ⟨_, ev, q _ H O ⟨.refl _ _ _, S.set_no i, fun b z => z.set_no, set_io e⟩ ⟨_, rfl, oa, n, ob, .inr ⟨i, d, e, ev⟩⟩⟩
    · exact q.elim
/-- a def of the module, as a value -/
theorem de_fnc {x : Str} {f : Addr} (hg : Gl X x) (hm : X.mg x = some (.ref f)) (hd : (x == ("__debug__" : Str)) = false) : PE X (.Name x pos) (tE g W fun ρ => .ok (.sh (.fnc x)) ρ) :=
  de_const (v := .ref f) (pe_glob hg hm rfl hd) fun _ _ => .fnc (by rw [← C.hmg]; exact hm)

/-! ### and, or, not -/
def bopOf (k : Bool) : BoolOp := if k = true then .And else .Or
theorem dw_one {k : Bool} {s : Sm} (ha : PT X a (tQ g W s.t)) : PW X (.BoolOp (bopOf k) [a] pos) (tQ g W (evTo k [s])) := by
  cases k with
  | true => exact pw_and1 ha
  | false => exact pw_or1 ha
theorem dw_cons {k : Bool} {s s' : Sm} {ss : List Sm} {rest : List Expr} (ha : PT X a (tQ g W s.t)) (hb : PW X (.BoolOp (bopOf k) (b :: rest) pos) (tQ g W (evTo k (s' :: ss)))) :
    PW X (.BoolOp (bopOf k) (a :: b :: rest) pos) (tQ g W (evTo k (s :: s' :: ss))) := by
  cases k with
  | true =>
    refine pwImp (pw_and ha hb) fun σ H Q ⟨O, ρ, S, q⟩ => ?_
    refine run_q S q fun t ρ1 H1 O1 s1 q1 => ?_
    cases t with
    | true =>
      rw [if_pos rfl] at q1 ⊢
      exact ⟨O1, ρ1, s1.st, q1.imp fun c ρ2 q2 H2 O2 s2 => q2 H2 O2 (s1.trans s2)⟩
    | false =>
      rw [if_neg Bool.false_ne_true] at q1 ⊢
      exact q1 H1 O1 s1
  | false =>
    refine pwImp (pw_or ha hb) fun σ H Q ⟨O, ρ, S, q⟩ => ?_
    refine run_q S q fun t ρ1 H1 O1 s1 q1 => ?_
    cases t with
    | false =>
      rw [if_pos rfl] at q1
      rw [if_neg Bool.false_ne_true]
      exact ⟨O1, ρ1, s1.st, q1.imp fun c ρ2 q2 H2 O2 s2 => q2 H2 O2 (s1.trans s2)⟩
    | true =>
      rw [if_neg (by decide)] at q1
      rw [if_pos rfl]
      exact q1 H1 O1 s1
theorem do_one {k : Bool} {s : Sm} (ha : PE X a (tE g W s.v)) : PE X (.BoolOp (bopOf k) [a] pos) (tE g W (evO k [s])) := pe_one ha
theorem do_cons {k : Bool} {s s' : Sm} {ss : List Sm} {rest : List Expr} (ha : PE X a (tE g W s.v)) (hb : PE X (.BoolOp (bopOf k) (b :: rest) pos) (tE g W (evO k (s' :: ss)))) :
    PE X (.BoolOp (bopOf k) (a :: b :: rest) pos) (tE g W (evO k (s :: s' :: ss))) := by
  cases k with
  | true =>
    refine peImp (pe_and ha hb) fun σ H Q ⟨O, ρ, S, q⟩ => ?_
    refine run_s S q fun r ρ1 v H1 O1 s1 rv q1 => ?_
    split at q1
    · rename_i c ec
      rw [ec] at rv
      cases rv
      refine ⟨c, rfl, ?_⟩
      cases c with
      | true =>
        rw [if_pos rfl] at q1 ⊢
        exact ⟨O1, ρ1, s1.st, q1.imp fun c ρ2 q2 v H2 O2 s2 rv => q2 v H2 O2 (s1.trans s2) (rv.base s1.fr.there)⟩
      | false =>
        rw [if_neg Bool.false_ne_true] at q1 ⊢
        exact q1 _ H1 O1 s1 (.bl false)
    · exact q1.elim
  | false =>
    refine peImp (pe_or ha hb) fun σ H Q ⟨O, ρ, S, q⟩ => ?_
    refine run_s S q fun r ρ1 v H1 O1 s1 rv q1 => ?_
    split at q1
    · rename_i c ec
      rw [ec] at rv
      cases rv
      refine ⟨c, rfl, ?_⟩
      cases c with
      | false =>
        rw [if_pos rfl] at q1
        rw [if_neg Bool.false_ne_true]
        exact ⟨O1, ρ1, s1.st, q1.imp fun c ρ2 q2 v H2 O2 s2 rv => q2 v H2 O2 (s1.trans s2) (rv.base s1.fr.there)⟩
      | true =>
        rw [if_neg (by decide)] at q1
        rw [if_pos rfl]
        exact q1 _ H1 O1 s1 (.bl true)
    · exact q1.elim
theorem unr_not : UnR X (unaryOp .Not) (fun x H Q => ∃ O d k, RB g H O x d ∧ truD d = some k ∧ Q (.bl (!k)) H) := by
  intro pins s σ H x v Q I rx h
  obtain ⟨O, d, k, hd, e, q⟩ := h
  exact not_of (thn (tru_ok pins s σ H x v (fun b H' => b = k ∧ H' = H) I rx ⟨k, tru_rel C.hK hd e, rfl, rfl⟩) fun b s1 ⟨H', I1, e1, e2⟩ => by
    subst e1 e2
    exact ⟨.bl _, H', I1, rfl, q⟩)
theorem de_not {fa : Rho → Re Pl} (ha : PE X a (tP g W fa)) : PE X (.UnaryOp .Not a pos) (tE g W (op1 fa fun x ρ => .of (notD x) ρ)) := by
  refine peImp (pe_un (unr_not C) ha) fun σ H Q ⟨O, ρ, S, q⟩ => ?_
  refine run_p S q fun p ρ1 x H1 O1 s1 px q1 => ?_
  split at q1
  · rename_i d e1
    obtain ⟨r, er, qr⟩ := q1.of
    obtain ⟨k, ek, rfl⟩ := Option.map_eq_some_iff.mp er
    exact ⟨O1, d, k, px.rb s1.st e1, ek, qr _ H1 O1 s1 (.bl _)⟩
  · exact q1.elim
end

/-! ### lists of expressions -/
def NotStar (e : Expr) : Prop := ∀ es env, starEach (e :: es) env = (false, eval e env) :: starEach es env
structure AS (g : Gm) (W : WX) (X : Cx) (e : Expr) (s : Sm) : Prop where
  es : ES g W X e s
  ns : NotStar e
section
variable {g : Gm} {W : WX} {X : Cx} {pos : Pos}
theorem pas_es : ∀ {es : List Expr} {ss : List Sm}, Paired (AS g W X) es ss → PA X es (tAs g W (evEs ss))
  | [], _, .nil => paImp pa_nil fun σ H Q ⟨O, ρ, S, q⟩ => q [] H O (.refl S) .nil
  | e :: es, _, .cons h hs => by
    refine paImp (pa_cons h.es.v (pas_es hs) (h.ns es _)) fun σ H Q ⟨O, ρ, S, q⟩ => ?_
    refine run_s S q fun r ρ1 v H1 O1 s1 rv q1 => run_as s1.st q1 fun ds ρ2 vs H2 O2 s2 rvs q2 => ?_
    exact q2 (v :: vs) H2 O2 (s1.trans s2) (.cons (s2.rd s1.st rv) rvs)
theorem pas_bs : ∀ {es : List Expr} {ss : List Sm}, Paired (AS g W X) es ss → PA X es (tBs g W (evBs ss))
  | [], _, .nil => paImp pa_nil fun σ H Q ⟨O, ρ, S, q⟩ => q [] H O (.refl S) .nil
  | e :: es, _, .cons h hs => by
    refine paImp (pa_cons h.es.o (pas_bs hs) (h.ns es _)) fun σ H Q ⟨O, ρ, S, q⟩ => ?_
    refine run_p S q fun r ρ1 v H1 O1 s1 rv q1 => run_bs s1.st q1 fun ds ρ2 vs H2 O2 s2 rvs q2 => ?_
    exact q2 (v :: vs) H2 O2 (s1.trans s2) (.cons (rv.stp s1.st s2) rvs)
theorem no_star : ∀ {es : List Expr} {ss : List Sm}, Paired (AS g W X) es ss → ∀ (pos : Pos) (env : Env), (backTo pos (starEach es env)).any (·.1) = false
  | [], _, .nil, _, _ => rfl
  | e :: es, _, .cons h hs, pos, env => by
    have z := no_star hs pos env
    unfold backTo at z ⊢
    rw [h.ns es env, List.map_cons, List.any_cons, z]
    rfl
variable {es : List Expr} {ss : List Sm}
theorem de_tup {x1 : Nat} (h : Paired (AS g W X) es ss) : PE X (.Tuple es x1 pos) (tE g W fun ρ => (evEs ss ρ).bd fun ds ρ1 => if ds.length ≤ sizeL then .ok (.sh (.tup ds)) ρ1 else .st) := by
  refine peImp (pe_tup (pas_es h)) fun σ H Q ⟨O, ρ, S, q⟩ => ?_
  refine run_as S q fun ds ρ1 vs H1 O1 s1 rvs q1 => ?_
  split at q1
  · rename_i hz
    refine ⟨by rw [rvs.len, ← sizeL_eq]; exact hz, Mk1.tup (g := g) (O := O1) (ds := ds) s1.st.obj rvs fun v H' O' n => ?_⟩
    obtain ⟨s2, rv⟩ := n.stp s1.st
    exact q1 v H' O' (s1.trans s2) rv
  · exact q1.elim
theorem de_lst (h : Paired (AS g W X) es ss) : PE X (.List es pos) (tE g W fun ρ => (evEs ss ρ).bd fun ds ρ1 => if ds.length ≤ sizeL then .ok (.fr (.lst ds)) ρ1 else .st) := by
  refine peImp (pe_lst (pas_es h)) fun σ H Q ⟨O, ρ, S, q⟩ => ?_
  refine run_as S q fun ds ρ1 vs H1 O1 s1 rvs q1 => ?_
  split at q1
  · rename_i hz
    refine ⟨by rw [rvs.len, ← sizeL_eq]; exact hz, Mk1.lst (g := g) (O := O1) (ds := ds) rvs fun v H' O' n => ?_⟩
    obtain ⟨s2, rv⟩ := n.stp s1.st
    exact q1 v H' O' (s1.trans s2) (rv.base s1.fr.there)
  · exact q1.elim
/-- the keys of a display: texts -/
inductive KyS : List (Option Expr) → List Str → Prop where
  | nil : KyS [] []
  | cons {x : Str} {j : Nat} {p : Pos} {ks : List (Option Expr)} {xs : List Str} : KyS ks xs → KyS (some (.Constant (.str x) j p) :: ks) (x :: xs)
def trsOf (g : Gm) (W : WX) : List Str → List Sm → List (TE × TE)
  | x :: xs, s :: ss => (tC (.str x), tE g W s.v) :: trsOf g W xs ss
  | _, _ => []
theorem pps_of : ∀ {ks : List (Option Expr)} {xs : List Str} {es : List Expr} {ss : List Sm}, KyS ks xs → Paired (AS g W X) es ss → xs.length = es.length → PPs X pos ks es (trsOf g W xs ss)
  | _, _, _, _, .nil, .nil, _ => pps_nil
  | _, _, _, _, .cons h, .cons a as, e => pps_cons pe_str a.es.v (pps_of h as (by simpa using e))
  | _, _, _, _, .nil, .cons _ _, e => by cases e
  | _, _, _, _, .cons _, .nil, e => by cases e
theorem pairs_run {σ : St} {β : Type} {Kp : β → Rho → Prop} : ∀ {xs : List Str} {ss : List Sm} {ρ : Rho} {H : Hp} {O : AP1} {k : List D → Rho → Re β} {Q : List (V × V) → Hp → Prop}, xs.length = ss.length → StR g H O σ ρ → RW W g σ ρ H O ((evEs ss ρ).bd k) Kp →
    (∀ ds ρ1 vs H1 O1, Stp g σ ρ H O ρ1 H1 O1 → RDs g H1 O1 vs ds → xs.length = vs.length → RW W g σ ρ1 H1 O1 (k ds ρ1) Kp → Q (List.zipWith (fun x v => (V.str x, v)) xs vs) H1) → tPairs (trsOf g W xs ss) σ H Q
  | [], [], ρ, H, O, k, Q, _, S, q, n => n [] ρ [] H O (.refl S) .nil rfl q
  | x :: xs, s :: ss, ρ, H, O, k, Q, e, S, q, n => by
    have q' : RW W g σ ρ H O ((s.v ρ).bd fun r ρ1 => (evEs ss ρ1).bd fun ds ρ2 => k (r.d :: ds) ρ2) Kp := by
      have e1 : (evEs (s :: ss) ρ).bd k = ((s.v ρ).bd fun r ρ1 => (evEs ss ρ1).bd fun ds ρ2 => k (r.d :: ds) ρ2) := by
        show ((s.v ρ).bd fun r ρ1 => (evEs ss ρ1).bd fun ds ρ2 => Re.ok (r.d :: ds) ρ2).bd k = _
        cases s.v ρ with
        | ok r ρ1 =>
          show ((evEs ss ρ1).bd fun ds ρ2 => Re.ok (r.d :: ds) ρ2).bd k = (evEs ss ρ1).bd fun ds ρ2 => k (r.d :: ds) ρ2
          cases evEs ss ρ1 <;> rfl
        | ex _ _ => rfl
        | st => rfl
      rw [← e1]
      exact q
    refine (show tC (.str x) σ H fun y H1 => tE g W s.v σ H1 fun z H2 => tPairs (trsOf g W xs ss) σ H2 fun ps H3 => Q ((y, z) :: ps) H3 from ?_)
    refine run_s S q' fun r ρ1 v H1 O1 s1 rv q1 => ?_
    refine pairs_run (k := fun ds ρ2 => k (r.d :: ds) ρ2) (by simpa using e) s1.st q1 fun ds ρ2 vs H2 O2 s2 rvs le q2 => ?_
    exact n (r.d :: ds) ρ2 (v :: vs) H2 O2 (s1.trans s2) (.cons (s2.rd s1.st rv) rvs) (by simp [le]) q2
  | [], _ :: _, _, _, _, _, _, e, _, _, _ => by cases e
  | _ :: _, [], _, _, _, _, _, e, _, _, _ => by cases e
theorem rdk_of {H : Hp} {O : AP1} : ∀ {xs : List Str} {vs : List V} {ds : List D}, RDs g H O vs ds → RDk g H O (List.zipWith (fun x v => ((Sum.inr x : Key), v)) xs vs) (dctD xs ds)
  | [], _, _, _ => .nil
  | _ :: _, _, _, .nil => .nil
  | _ :: _, _, _, .cons h hs => .cons h (rdk_of hs)
theorem merge_of : ∀ (xs : List Str) (vs : List V) (acc : List (Key × V)), (∀ x ∈ xs, ∀ p ∈ acc, p.1 ≠ .inr x) → xs.Nodup → mergeK acc (List.zipWith (fun x v => ((Sum.inr x : Key), v)) xs vs) = acc ++ List.zipWith (fun x v => ((Sum.inr x : Key), v)) xs vs
  | [], _, acc, _, _ => by simp [mergeK]
  | _ :: _, [], acc, _, _ => by simp [mergeK]
  | x :: xs, v :: vs, acc, h, nd => by
    have e1 : putK acc (Sum.inr x : Key) v = acc ++ [(Sum.inr x, v)] := by
      unfold putK
      rw [if_neg]
      intro z
      obtain ⟨p, hp, e⟩ := List.any_eq_true.mp z
      exact h x List.mem_cons_self p hp (of_decide_eq_true e)
    show mergeK (putK acc (Sum.inr x) v) (List.zipWith _ xs vs) = acc ++ ((Sum.inr x, v) :: List.zipWith _ xs vs)
    rw [e1, merge_of xs vs _ (fun y hy p hp => ?_) (List.nodup_cons.mp nd).2, List.append_assoc]
    · rfl
    · rcases List.mem_append.mp hp with hp | hp
      · exact h y (List.mem_cons_of_mem _ hy) p hp
      · rw [List.mem_singleton] at hp
        subst hp
        intro z
        have := Sum.inr.inj z
        exact (List.nodup_cons.mp nd).1 (this ▸ hy)
theorem kys_len : ∀ {ks : List (Option Expr)} {xs : List Str}, KyS ks xs → ks.length = xs.length ∧ ks.all (·.isSome) = true
  | _, _, .nil => ⟨rfl, rfl⟩
  | _, _, .cons h => ⟨by rw [List.length_cons, List.length_cons, (kys_len h).1], by rw [List.all_cons, (kys_len h).2]; rfl⟩
theorem pairedLen {α β : Type} {F : α → β → Prop} : ∀ {xs : List α} {ys : List β}, Paired F xs ys → xs.length = ys.length
  | _, _, .nil => rfl
  | _, _, .cons _ h => by rw [List.length_cons, List.length_cons, pairedLen h]
theorem de_dct1 {ks : List (Option Expr)} {xs : List Str} (hk : KyS ks xs) (h : Paired (AS g W X) es ss) (hl : xs.length = es.length) (h0 : xs ≠ []) (h15 : xs.length ≤ 15) (nd : xs.Nodup) :
    PE X (.Dict ks es pos) (tE g W fun ρ => (evEs ss ρ).bd fun ds ρ1 => .ok (.fr (.dct (dctD xs ds))) ρ1) := by
  obtain ⟨kl, ka⟩ := kys_len hk
  refine peImp (pe_disp (pps_of hk h hl) ka (by rw [kl, hl]) (fun z => h0 (List.eq_nil_of_length_eq_zero (by rw [← kl, z]; rfl))) (by rw [kl]; exact h15)) fun σ H Q ⟨O, ρ, S, q⟩ p np => ?_
  have S1 := S.laidO (o := .dK []) np
  have s1 : Stp g σ ρ H O ρ (upd H p (.dK [])) (fun b => O b ∨ b = p) := ⟨Fr.laidO np, S1, fun _ z => z, fun _ d e => ⟨d, e⟩⟩
  have nw : ¬ Wn σ ρ p := fun z => S.obj p (S.wn p z) np
  refine pairs_run (by rw [hl, pairedLen h]) S1 (q.rebase s1) fun ds ρ2 vs H2 O2 s2 rvs le q2 => ?_
  have at2 : H2 p = some (.dK []) := s2.fr.keep p _ upd_same nw
  have o2 : O2 p := s2.fr.o1 p (.inr rfl) nw
  have nw2 : ¬ Wn σ ρ2 p := fun z => nw (s2.sub p z)
  refine ⟨at2, List.zipWith (fun x v => ((Sum.inr x : Key), v)) xs vs, ?_, ?_, ?_⟩
  · rw [List.map_zipWith]; rfl
  · rw [List.length_zipWith]; omega
  · rw [merge_of xs vs [] (fun _ _ p hp => by cases hp) nd, List.nil_append]
    let o : HO := .dK (List.zipWith (fun x v => ((Sum.inr x : Key), v)) xs vs)
    have f : Fr (fun b => b = p) H2 O2 (upd H2 p o) O2 := by
      refine ⟨fun b o e n => by rw [upd_ne n]; exact e, fun b e => ?_, fun _ e _ => e, fun _ e => .inl e⟩
      by_cases hb : b = p
      · subst hb; rw [upd_same] at e; cases e
      · rw [upd_ne hb] at e; exact e
    have hD : ∀ b, b = p → O2 b := fun b e => by rw [e]; exact o2
    have st3 : StR g (upd H2 p o) O2 σ ρ2 := s2.st.fr0 f hD (fun b e z => nw2 (e ▸ z)) fun b z e => s2.st.obj b z (f.there b e)
    refine q2 (.ref p) (upd H2 p o) O2 ?_ ?_
    · refine ⟨⟨fun b u e n => ?_, fun b e => (s1.trans s2).fr.there b (f.there b e), (s1.trans s2).fr.o1, (s1.trans s2).fr.o2⟩, st3, (s1.trans s2).sub, (s1.trans s2).io⟩
      rw [upd_ne fun z => by rw [z, np] at e; cases e]
      exact (s1.trans s2).fr.keep b u e n
    · exact ⟨p, rfl, np, o2, nw2, .dct upd_same ((rdk_of rvs).fr f hD)⟩
theorem de_dct {ks : List (Option Expr)} {xs : List Str} (hk : KyS ks xs) (h : Paired (AS g W X) es ss) (hl : xs.length = es.length) (h15 : xs.length ≤ 15) (nd : xs.Nodup) :
    PE X (.Dict ks es pos) (tE g W fun ρ => (evEs ss ρ).bd fun ds ρ1 => .ok (.fr (.dct (dctD xs ds))) ρ1) := by
  by_cases h0 : xs = []
  · subst h0
    cases hk
    obtain rfl : es = [] := List.eq_nil_of_length_eq_zero hl.symm
    cases h
    refine peImp pe_dnewK fun σ H Q ⟨O, ρ, S, q⟩ p np => ?_
    have S1 := S.laidO (o := .dK []) np
    have s1 : Stp g σ ρ H O ρ (upd H p (.dK [])) (fun b => O b ∨ b = p) := ⟨Fr.laidO np, S1, fun _ z => z, fun _ d e => ⟨d, e⟩⟩
    exact q (.ref p) _ _ s1 ⟨p, rfl, np, .inr rfl, fun z => S.obj p (S.wn p z) np, .dct upd_same .nil⟩
  · exact de_dct1 hk h hl h0 h15 nd
end

/-! ### methods of texts, written dicts -/
section
variable {g : Gm} {W : WX} {X : Cx} {pos : Pos} {a b : Expr}
theorem de_spl {apos : Pos} {sa sb : Sm} (ha : PE X a (tE g W sa.v)) (hb : PE X b (tE g W sb.v)) (hs : starEach [b] X.env = [(false, eval b X.env)]) (hbase : attributeBase a "split" X.env (eval a X.env) = eval a X.env) (hl : (apos.endLine == pos.line) = true) :
    PE X (.Call (.Attribute a "split" apos) [b] [] pos) (tE g W (stV sa sb splD)) := by
  refine peImp (pe_split ha hb hs hbase hl) fun σ H Q ⟨O, ρ, S, q⟩ => ?_
  refine run_s S q fun r ρ1 v H1 O1 s1 rv q1 => ?_
  split at q1
  · rename_i x ex
    rw [ex] at rv
    cases rv
    refine ⟨⟨_, rfl⟩, run_s s1.st q1 fun r2 ρ2 v2 H2 O2 s2 rv2 q2 => ?_⟩
    obtain ⟨r, er, qr⟩ := q2.of
    unfold splD at er
    split at er
    · rename_i x' y e1 e2
      cases e1
      split at er
      · rename_i hc
        cases er
        rw [e2] at rv2
        cases rv2
        refine ⟨_, _, rfl, rfl, hc.1, by rw [← sizeL_eq]; exact hc.2, Mk1.lst (g := g) (O := O2) (RDs.strs _) fun v H' O' n => ?_⟩
        obtain ⟨s3, rv⟩ := n.stp s2.st
        exact qr v H' O' ((s1.trans s2).trans s3) (rv.base (s1.trans s2).fr.there)
      · cases er
    · cases er
  · exact q1.elim
theorem de_ptn {apos : Pos} {sa sb : Sm} (ha : PE X a (tE g W sa.v)) (hb : PE X b (tE g W sb.v)) (hs : starEach [b] X.env = [(false, eval b X.env)]) (hbase : attributeBase a "partition" X.env (eval a X.env) = eval a X.env) (hl : (apos.endLine == pos.line) = true) :
    PE X (.Call (.Attribute a "partition" apos) [b] [] pos) (tE g W (stV sa sb ptnD)) := by
  refine peImp (pe_partition ha hb hs hbase hl) fun σ H Q ⟨O, ρ, S, q⟩ => ?_
  refine run_s S q fun r ρ1 v H1 O1 s1 rv q1 => ?_
  split at q1
  · rename_i x ex
    rw [ex] at rv
    cases rv
    refine ⟨⟨_, rfl⟩, run_s s1.st q1 fun r2 ρ2 v2 H2 O2 s2 rv2 q2 => ?_⟩
    obtain ⟨r, er, qr⟩ := q2.of
    unfold ptnD at er
    split at er
    · rename_i x' y e1 e2
      cases e1
      split at er
      · rename_i hc
        cases er
        rw [e2] at rv2
        cases rv2
        refine ⟨_, _, rfl, rfl, hc.1, by rw [← sizeL_eq]; exact hc.2, Mk1.tup (g := g) (O := O2) s2.st.obj (.cons (.str _) (.cons (.str _) (.cons (.str _) .nil))) fun v H' O' n => ?_⟩
        obtain ⟨s3, rv⟩ := n.stp s2.st
        exact qr v H' O' ((s1.trans s2).trans s3) rv
      · cases er
    · cases er
  · exact q1.elim
theorem de_dget (C : CtxOk g X) {c : Expr} {apos : Pos} {sa sb sc : Sm} (ha : PE X a (tP g W sa.o)) (hb : AS g W X b sb) (hc : AS g W X c sc) (hbase : attributeBase a "get" X.env (eval a X.env) = eval a X.env) (hl : (apos.endLine == pos.line) = true) :
    PE X (.Call (.Attribute a "get" apos) [b, c] [] pos) (tE g W (dgetV sa sb sc)) := by
  have few : ((backTo pos (starEach [b, c] X.env)).all (fun x => !x.1) && (backToKw pos (keywordEach [] X.env)).all (fun x => x.1.isSome)
      && decide (([b, c] : List Expr).length + ([] : List Keyword).length + (if ([] : List Keyword).isEmpty then 0 else 1) < 30)) = true := by
    rw [hb.ns [c] _, hc.ns [] _]
    rfl
  have trees : backTo pos (starEach [b, c] X.env) = [(false, eval b X.env), (false, eval c X.env)] := by
    rw [hb.ns [c] _, hc.ns [] _]
    rfl
  refine peImp (pe_dget2 (by have := C.un; omega) ha hb.es.v hc.es.v ⟨hbase, few, hl, trees⟩) fun σ H Q ⟨O, ρ, S, q⟩ => ?_
  refine run_p S q fun p ρ1 x H1 O1 s1 px q1 => ?_
  split at q1
  · rename_i kvs0 ep
    obtain ⟨ad, xs, rfl, hX, hxs⟩ := (px.rb s1.st ep).getD
    refine ⟨ad, rfl, .inl ⟨xs, .inl hX⟩, ?_⟩
    refine run_s s1.st q1 fun r ρ2 v2 H2 O2 s2 rv2 q2 => run_s s2.st q2 fun r3 ρ3 v3 H3 O3 s3 rv3 q3 => ?_
    split at q3
    · rename_i kvs z e1 e2
      obtain ⟨ad', ys, ea, hY, hys⟩ := (((px.stp s1.st s2).stp s2.st s3).rb s3.st e1).getD
      cases ea
      have rv2' := s3.rd s2.st rv2
      rw [e2] at rv2'
      cases rv2'
      refine ⟨_, DGet.k (k := .inr z) hY, ?_⟩
      refine q3 _ H3 O3 ((s1.trans s2).trans s3) ?_
      have h1 := val_rel (x := z) hys
      cases ed : dctAt kvs z with
      | some d =>
        obtain ⟨w, ew, rw'⟩ := h1.2 d ed
        rw [ew]
        exact rw'
      | none =>
        have h2 := h1.1
        rw [ed] at h2
        cases ev : valV ys (.inr z) with
        | none => exact rv3
        | some w => rw [ev] at h2; cases h2
    · exact q3.elim
  · exact q1.elim
theorem de_gd (C : CtxOk g X) {x : Str} {kvs : List (Str × GV)} {d : Addr} (hg : Gl X x) (hm : g.mg x = some (.ref d)) (hk : KDs g d kvs) (hd : (x == ("__debug__" : Str)) = false) : PE X (.Name x pos) (tE g W fun ρ => .ok (.sh (.kdc kvs)) ρ) :=
  de_const (v := .ref d) (pe_glob hg (by rw [C.hmg]; exact hm) rfl hd) fun _ _ => .kdc hk
theorem de_gc (C : CtxOk g X) {x : Str} {c : GC} {v : V} {u : Value} (hg : Gl X x) (hm : g.mg x = some u) (hr : RelV v u) (hv : GVal g v c) (hd : (x == ("__debug__" : Str)) = false) : PE X (.Name x pos) (tE g W fun ρ => .ok (.sh (gcD c)) ρ) :=
  de_const (pe_glob hg (by rw [C.hmg]; exact hm) hr hd) fun _ _ => hv.rd
end

/-! ### built-in functions, ranges -/
section
variable {g : Gm} {W : WX} {X : Cx} {pos : Pos} {es : List Expr} {ss : List Sm} (C : CtxOk g X)
theorem plAll_rb {σ : St} {ρ : Rho} {H : Hp} {O : AP1} (S : StR g H O σ ρ) : ∀ {ps : List Pl} {vs : List V} {ds : List D}, Paired (PlR g H O σ) vs ps → plAll ρ ps = some ds → RBs g H O vs ds
  | [], _, _, .nil, e => by cases e; exact .nil
  | p :: ps, _, _, .cons h hs, e => by
    unfold plAll at e
    split at e
    · rename_i d ds e1 e2
      cases e
      exact .cons (h.rb S e1) (plAll_rb S hs e2)
    · cases e
include C
theorem de_bi {x : Str} {p : Pos} {f : Bi} (hx : x = (f.nm : Str)) (hg : Gl X x) (hm : X.mg x = none) (h : Paired (AS g W X) es ss) (hne : es ≠ []) : PE X (.Call (.Name x p) es [] pos) (tE g W (biV f ss)) := by
  subst hx
  obtain ⟨e, es, rfl⟩ : ∃ e r, es = e :: r := by
    cases es with
    | nil => exact absurd rfl hne
    | cons e r => exact ⟨e, r, rfl⟩
  have key : ∀ {r}, CallR X f.val r → PE X (.Call (.Name (f.nm : Str) p) (e :: es) [] pos) (tCB r (tBs g W (evBs ss))) := fun {r} hr => by
    have ha := pas_bs h
    cases h with
    | cons h hs =>
      cases f <;> first
        | exact pe_callB hr hg hm (by decide +kernel) ha (by decide) (by decide) (h.ns es _) (no_star hs _ _)
        | exact pe_callTy hr hg hm (by decide +kernel) ha (by decide) (by decide) (h.ns es _) (no_star hs _ _)
  refine peImp (key (bir C.hK C.calm C.un C.gd f)) fun σ H Q ⟨O, ρ, S, q⟩ => ?_
  refine run_bs S q fun ps ρ1 vs H1 O1 s1 rvs q1 => ?_
  split at q1
  · rename_i ds e1
    obtain ⟨r, er, qr⟩ := q1.of
    refine ⟨O1, ds, r, s1.st.obj, plAll_rb s1.st rvs e1, er, fun v H' O' n => ?_⟩
    obtain ⟨s2, rv⟩ := n.stp s1.st
    exact qr v H' O' (s1.trans s2) (rv.base s1.fr.there)
  · exact q1.elim
/-- range(..) of one or two ints, made -/
def tRg (g : Gm) (W : WX) (f : Rho → Re (List D)) : St → Hp → (Int → Int → Hp → Prop) → Prop := fun σ H Q => ∃ O ρ, StR g H O σ ρ ∧ RW W g σ ρ H O (f ρ) fun ds ρ' => ∃ a b, rngEnds ds = some (a, b) ∧ ∀ H' O', Stp g σ ρ H O ρ' H' O' → Q a b H'
omit C in
theorem dg_range {p : Pos} (hg : Gl X "range") (hm : X.mg "range" = none) (h : Paired (AS g W X) es ss) (hl : es.length = 1 ∨ es.length = 2) : PRg X (.Call (.Name "range" p) es [] pos) (tRg g W (evEs ss)) := by
  match es, ss, h with
  | [a], [sa], .cons ha .nil =>
    intro pins s σ H Q I ⟨O, ρ, S, q⟩
    refine prg_1 hg hm ha.es.v (ha.ns [] _) pins s σ H Q I ?_
    refine run_s S q fun r ρ1 v H1 O1 s1 rv q1 => ?_
    obtain ⟨x, y, e, q2⟩ := q1
    unfold rngEnds at e
    split at e
    · rename_i n e2
      cases e
      rw [List.cons.inj e2 |>.1] at rv
      cases rv
      exact ⟨y, rfl, q2 H1 O1 s1⟩
    · rename_i e2
      exact absurd (congrArg List.length e2) (by simp)
    · cases e
  | [a, b], [sa, sb], .cons ha (.cons hb .nil) =>
    intro pins s σ H Q I ⟨O, ρ, S, q⟩
    have hp : (backTo pos (starEach [b] X.env)).any (·.1) = false := no_star (ss := [sb]) (.cons hb .nil) pos X.env
    refine prg_2 hg hm ha.es.v hb.es.v (ha.ns [b] _) (hb.ns [] _) hp pins s σ H Q I ?_
    refine run_s S q fun r ρ1 v H1 O1 s1 rv q1 => ?_
    refine run_s s1.st q1.bd fun r2 ρ2 v2 H2 O2 s2 rv2 q2 => ?_
    obtain ⟨x, y, e, q3⟩ := q2
    unfold rngEnds at e
    split at e
    · rename_i e2
      exact absurd (congrArg List.length e2) (by simp)
    · rename_i i j e2
      cases e
      rw [List.cons.inj e2 |>.1] at rv
      rw [List.cons.inj (List.cons.inj e2).2 |>.1] at rv2
      cases rv
      cases rv2
      exact ⟨x, y, rfl, rfl, q3 H2 O2 (s1.trans s2)⟩
    · cases e
  | [], _, _ => simp at hl
  | _ :: _ :: _ :: _, _, _ => simp at hl
end
end Wr

/-! enumerate(t), t a tuple -/
namespace Wr
open PySem PySem.Spec L2
open PyProof.Rows hiding St
theorem enumT_meets (t : Addr) (its : Array Value) (k : Nat) (dd : Option Addr) (sl : Array (Option Value)) :
    Meets (Builtin.«enumerate.__new__» ⟨[.type "enumerate", .ref t], []⟩) (fun _ R s => s.heap.get? t = some { cls := .type "tuple", dict := dd, data := .seq its k, slots := sl } ∧
      R (.ok (.ret (.ref (s.heap.push { cls := .type "tuple_iterator", data := .fields #[.ref t, .int 0 0] }).objs.size)))
        { s with heap := (s.heap.push { cls := .type "tuple_iterator", data := .fields #[.ref t, .int 0 0] }).push { cls := .type "enumerate", data := .fields #[.none, .bool false, .ref s.heap.objs.size, rawInt 0, .none, .none] } }) := by
  refine .of_wp fun prog w A R s h => ?_
  obtain ⟨hp, g, d, tk, os⟩ := s
  obtain ⟨ht, h⟩ := h
  have hsub := sub_enumerate
  have hT : Heap.IsTuple (Shared.heap ⟨hp, g, d, tk, os⟩) t its := ⟨_, ht, rfl, k, rfl⟩
  wp_walk using AutoSeq1.wpAny_loadPart' ht
  refine wpAny_stack_any fun st => wpAny_pure ?_
  split
  · rename_i c _ _ _ _ _
    cases (c == Value.type "enumerate")
    · wp_walk using AutoSeq1.wpAny_loadPart' ht, wpAny_pyIter_tuple hT
      exact ⟨_, rfl, h⟩
    · wp_walk using AutoSeq1.wpAny_loadPart' ht, wpAny_pyIter_tuple hT
      exact ⟨_, rfl, h⟩
  · wp_walk using AutoSeq1.wpAny_loadPart' ht, wpAny_pyIter_tuple hT
    exact ⟨_, rfl, h⟩
theorem enumT_call {prog : Program} {w : World} {A : Around} {E : Value → Shared → Prop} {s : Shared} {t : Addr} {its : Array Value} {Q : Value → Shared → Prop} (hT : s.heap.IsTuple t its)
    (h : ∀ h', IsEnum h' (s.heap.objs.size + 1) s.heap.objs.size 0 .none → h'.IsTupleIter s.heap.objs.size t 0 → (∀ b o, s.heap.get? b = some o → h'.get? b = some o) → Q (.ref (s.heap.objs.size + 1)) { s with heap := h' }) :
    wpAny (model prog w) A (call (.type "enumerate") [.ref t]) Q E s := by
  obtain ⟨⟨c, dd, dt, sl⟩, ht, hc, k, hd⟩ := hT
  obtain rfl : c = .type "tuple" := hc
  obtain rfl : dt = .seq its k := hd
  refine callType_new F.called_enumerate (by decide) (F.typeCall_enumerate_1 _) (F.newCall_enumerate_1 _) (fun obj => F.args_object_init_2 obj _) F.entry_enumerate_new (enumT_meets t its k dd sl) ⟨ht, ?_⟩
  have z1 : (s.heap.push { cls := .type "tuple_iterator", data := .fields #[.ref t, .int 0 0] }).objs.size = s.heap.objs.size + 1 := Heap.size_push ..
  show _ ∧ _
  rw [z1]
  generalize hh1 : s.heap.push { cls := .type "tuple_iterator", data := .fields #[.ref t, .int 0 0] } = h1 at z1 ⊢
  have he : (h1.push { cls := .type "enumerate", data := .fields #[.none, .bool false, .ref s.heap.objs.size, rawInt 0, .none, .none] }).get? (s.heap.objs.size + 1) = some { cls := .type "enumerate", data := .fields #[.none, .bool false, .ref s.heap.objs.size, rawInt 0, .none, .none] } := by
    rw [← z1]
    exact Heap.get?_push_size _ rfl
  have hi : h1.get? s.heap.objs.size = some { cls := .type "tuple_iterator", data := .fields #[.ref t, .int 0 0] } := by rw [← hh1]; exact Heap.get?_push_size _ rfl
  have hk : ∀ b o, s.heap.get? b = some o → h1.get? b = some o := fun b o e => by rw [← hh1]; exact Heap.get?_push_of_some _ e
  exact ⟨⟨_, he, rfl⟩, h _ he ⟨_, Heap.get?_push_of_some _ hi, rfl, rfl⟩ fun b o e => Heap.get?_push_of_some _ (hk b o e)⟩
/-- a tuple's items with their numbers, each in a new pair -/
def IteT (K : PySem.W.Frag) (a : Addr) : It where
  go := fun i H => ∃ (xs : List V) (x : V), SqT K H a xs ∧ xs[i]? = some x
  yld := fun i H v H' => ∃ T x, v = .ref T ∧ H T = none ∧ H' = upd H T (.tup [.int (i : Nat), x]) ∧ ∀ xs, SqT K H a xs → xs[i]? = some x
  stop := fun i H => ∃ xs : List V, SqT K H a xs ∧ xs.length = i
theorem walk_enumT {K : PySem.W.Frag} {a : Addr} {xs : List V} : Walk (IteT K a) xs.length (fun H => SqT K H a xs) (YPair (fun i => some (.int (i : Nat))) (fun i => xs[i]?)) where
  goes := fun i _ hi q => ⟨xs, xs[i], q, by simp [hi]⟩
  stops := fun _ q => ⟨xs, q, rfl⟩
  yields := fun i H v H' _ q ⟨T, x, e1, e2, e3, e4⟩ => ⟨T, .int (i : Nat), x, e1, e2, e3, rfl, e4 xs q⟩
theorem turn_enumT {P : Program} {w : World} {K : PySem.W.Frag} {elts : List Expr} {kk : Nat} {tpos : Pos} (a e it : Addr) :
    Turn P w K (.Tuple elts kk tpos) (IteT K a) [e, it] e (fun i h => (∃ old, IsEnum h e it ((i : Nat) : Int) old) ∧ h.IsTupleIter it a i ∧ e ≠ it ∧ a ≠ it ∧ e ≠ a) where
  mem := List.mem_cons_self
  obj := fun i h st b hb => by
    obtain ⟨⟨old, he⟩, ⟨o, ho, hc, hd⟩, _⟩ := st
    rcases List.mem_cons.mp hb with rfl | hb
    · exact ⟨_, he, fun v q => nomatch q⟩
    · obtain rfl : b = it := by simpa using hb
      exact ⟨o, ho, fun v q => by rw [hd] at q; cases q⟩
  keep := fun i h h' ⟨⟨old, he⟩, ⟨o, ho, q⟩, r⟩ k => ⟨⟨old, k e (by simp) _ he⟩, ⟨o, k it (by simp) o ho, q⟩, r⟩
  item := by
    intro X hP hw hK hc i pins s σ H E I hf st hg
    subst hP hw hK
    obtain ⟨⟨old, he⟩, hit, n1, n2, n3⟩ := st
    obtain ⟨xs, x, hq, hx⟩ := hg
    obtain ⟨its, rv, p, hz⟩ := I.tuple hq
    obtain ⟨u, hu, ru⟩ := rv.get hx
    have hil : i < its.toArray.size := by
      rw [List.size_toArray]
      exact (List.getElem?_eq_some_iff.mp hu).1
    have hel : e < s.heap.objs.size := Heap.lt_size he
    have hitl : it < s.heap.objs.size := by obtain ⟨_, q, _⟩ := hit; exact Heap.lt_size q
    have D := Draws.tuple (prog := X.prog) (w := X.w) (A := X.A.in1) (I.ok.hd hc) it a n2 its.toArray
    refine wpAny_pyNext_enum_itemD D he ⟨hit, p⟩ hil n1 (by simp [n1, n3]) fun y h' tk hy ho hst' hT hsz hk => ?_
    have hu' : its.toArray[i]? = some u := by simpa using hu
    rw [hu'] at hy
    cases hy
    refine ⟨_, rfl, wpAny_letOwnedTupleGo_enum (s := { s with heap := h', toks := tk + 1 }) ho fun h'' he' sb => ?_⟩
    have new : ObjOk X.prog X.w (upd H s.heap.objs.size (.tup [.int (i : Nat), x])) h'' s.heap.objs.size (.tup [.int (i : Nat), x]) :=
      ⟨by show 2 ≤ sizeLine; decide, [.int i tk, u], .cons ⟨_, rfl⟩ (.cons ru .nil), ⟨_, (sb.2 _ (Nat.ne_of_gt hel)).trans hT, rfl, _, rfl⟩⟩
    have I1 : Inv X pins σ (upd H s.heap.objs.size (.tup [.int (i : Nat), x])) { s with heap := h'', toks := tk + 1 } :=
      I.turnedNew (ch := [e, it]) (fun b ob hb q => (sb.2 b fun z => hb (by simp [z])).trans (hk b ob (fun z => hb (by simp [z])) (fun z => hb (by simp [z])) q)) hf (Nat.le_refl _) new
    obtain ⟨⟨o2, ho2, q2⟩, _⟩ := hst'
    refine ⟨.ref s.heap.objs.size, _, I1, rfl, ⟨_, x, rfl, I.hok.fresh (Nat.le_refl _), rfl, fun ys hy => by rw [I.tuple_inj hy hq]; exact hx⟩, ⟨⟨u, he'⟩, ⟨o2, (sb.2 it (Ne.symm n1)).trans ho2, q2⟩, n1, n2, n3⟩, fun b hb => ?_⟩
    have hb' : b < s.heap.objs.size := by
      rcases List.mem_cons.mp hb with rfl | hb
      · exact hel
      · obtain rfl : b = it := by simpa using hb
        exact hitl
    rw [upd_ne (Nat.ne_of_lt hb')]
    exact (hf b hb).1
  done := by
    intro X hP hw hK hc i pins s σ H E I hf st hg
    subst hP hw hK
    obtain ⟨⟨old, he⟩, hit, n1, n2, n3⟩ := st
    obtain ⟨xs, hq, hx⟩ := hg
    obtain ⟨its, rv, p, hz⟩ := I.tuple hq
    have hl := rv.length
    have D := Draws.tuple (prog := X.prog) (w := X.w) (A := X.A.in1) (I.ok.hd hc) it a n2 its.toArray
    obtain ⟨f0, f1, f2, f3, f4, f5⟩ := hf it (by simp)
    have ei : i = its.toArray.size := by rw [List.size_toArray]; omega
    rw [ei] at hit he
    exact wpAny_pyNext_enum_endD D he ⟨hit, p⟩ fun h' eb => ⟨rfl, I.turned (t' := s.toks) (fun b o hb q => eb b o hb q) f0 f1 f3 f4 f5⟩
  self := fun A i s Q E st h => let ⟨⟨_, he⟩, _⟩ := st; wpAny_pyIter_enum he h
def iEnumT (K : PySem.W.Frag) (ta : TA) : TI := fun σ H R => ta σ H fun vs H1 => ∃ a xs, vs = [.ref a] ∧ ((SqL K H1 a xs ∧ R (Ite K a) H1) ∨ (SqT K H1 a xs ∧ R (IteT K a) H1))
theorem pi_enumT {X : Cx} {e : Expr} {ta : TA} {p pos tpos : Pos} {elts : List Expr} {kk : Nat} (hg : Gl X "enumerate") (hm : X.mg "enumerate" = none) (ha : PA X [e] ta) (hs : starEach [e] X.env = [(false, eval e X.env)]) :
    PI X (.Tuple elts kk tpos) (.Call (.Name "enumerate" p) [e] [] pos) (iEnumT X.K ta) := by
  refine ⟨fun pins s σ H R I h => ?_⟩
  refine Call_ (ld_blt I hg hm boot_enumerate (PyProof.Rows.callWith_type1 (thn (ha.run pos pins s σ H _ I h) fun us s1 ⟨vs, H1, I1, r1, q1⟩ => ?_) hs rfl))
  obtain ⟨a, xs, rfl, q⟩ := q1
  obtain ⟨u, rfl, ru⟩ := Vals.one r1
  cases ru
  have fin : ∀ b, b = s1.heap.objs.size + 1 ∨ b = s1.heap.objs.size → FpOk X pins H1 b := fun b e => by
    have hle : s1.heap.objs.size ≤ b := by
      rcases e with z | z
      · rw [z]; exact Nat.le_add_right _ _
      · rw [z]; exact Nat.le_refl _
    exact I1.fpOk hle (I1.hok.fresh hle)
  rcases q with ⟨hq, q⟩ | ⟨hq, q⟩
  · obtain ⟨its, rv, p', hz⟩ := I1.list hq
    refine call_enumerate_list p'.isList fun h' he hit hsz hk => wpAny_pyIter_enum he ?_
    exact ⟨_, _, _, _, H1, rfl, I1.kept (t' := s1.toks) hk, turn_enum a (s1.heap.objs.size + 1) s1.heap.objs.size, ⟨⟨.none, he⟩, hit, Nat.succ_ne_self _⟩, fun b hb => fin b (by simpa using hb), q⟩
  · obtain ⟨its, rv, p', hz⟩ := I1.tuple hq
    have hlt : a < s1.heap.objs.size := by obtain ⟨o, e, _⟩ := p'; exact Heap.lt_size e
    refine enumT_call p' fun h' he hit hk => wpAny_pyIter_enum he ?_
    exact ⟨_, _, _, _, H1, rfl, I1.kept (t' := s1.toks) hk, turn_enumT a (s1.heap.objs.size + 1) s1.heap.objs.size, ⟨⟨.none, he⟩, hit, Nat.succ_ne_self _, Nat.ne_of_lt hlt, Nat.ne_of_gt (Nat.lt_succ_of_lt hlt)⟩, fun b hb => fin b (by simpa using hb), q⟩
end Wr

/-! isinstance. -/
namespace Wr
open PySem PySem.Spec L2
open PyProof.Rows hiding St

section
variable {g : Gm} {W : WX} {X : Cx} {pos : Pos} {e : Expr} (C : CtxOk g X)
include C
theorem ty_rel {H : Hp} {O : AP1} {v : V} {d : D} {a : String} (h : RB g H O v d) (e : tyD d = some a) : TyX X.K H v (.type a) := by
  cases d with
  | non => cases h.getN; cases e; exact .base .non
  | bl b => cases h.getB; cases e; exact .base (.bl b)
  | int i => cases h.getI; cases e; exact .base (.int i)
  | str x => cases h.getS; cases e; exact .base (.str x)
  | lst ds =>
    obtain ⟨a, xs, rfl, hX, _⟩ := h.getL
    cases e
    rcases hX with (hX | ⟨o, hX⟩) | ⟨its, n, hX, _⟩
    · exact .base (.lst hX)
    · exact .base (.frz hX)
    · exact .kList (by rw [C.hK]; exact hX) rfl
  | tup ds =>
    obtain ⟨a, xs, rfl, hX, _⟩ := h.getT
    cases e
    rcases hX with (hX | ⟨o, hX⟩) | ⟨o, its, n, hX, hc, _⟩
    · exact .base (.tup hX)
    · exact .fTuple hX
    · exact .kTuple (by rw [C.hK]; exact hX) hc
  | dct ds =>
    obtain ⟨a, xs, rfl, hX, _⟩ := h.getD
    cases e
    exact .base (.dK hX)
  | fnc x => cases e
  | kdc x => cases e
omit C in
theorem kit_isi {K : PySem.W.Frag} {t : Ty} {a : String} {d : D} (e : tyD d = some a) : PySem.W.kitOne K (.type a) (.type t.nm) = some (isiS t a) := by
  refine kit_ty ?_
  cases d <;> cases e <;> cases t <;> decide +kernel
theorem de_isi {x : Str} {p1 p2 : Pos} {t : Ty} {s : Sm} (hx : x = (t.nm : Str)) (hg : Gl X "isinstance") (hm : X.mg "isinstance" = none) (hg2 : Gl X x) (hm2 : X.mg x = none) (he : AS g W X e s) :
    PE X (.Call (.Name "isinstance" p1) [e, .Name x p2] [] pos) (tE g W (op1 s.o fun x ρ => .of ((isiD t x).map fun b => .sh (.bl b)) ρ)) := by
  subst hx
  have hc : PE X (.Name (t.nm : Str) p2) (tC (.ty t.nm)) := pe_bltn hg2 hm2 (u := .type t.nm) (by cases t <;> decide +kernel) rfl (by cases t <;> decide) (by cases t <;> decide)
  have ha := pa_cons he.es.o (pa_cons hc pa_nil rfl) (he.ns _ _)
  refine peImp (pe_callB call_isi hg hm boot_isinstance ha (by decide) (by decide) (he.ns _ _) rfl) fun σ H Q ⟨O, ρ, S, q⟩ => ?_
  refine run_p S q fun p ρ1 v H1 O1 s1 px q1 => ?_
  split at q1
  · rename_i d ed
    obtain ⟨r, er, qr⟩ := q1.of
    obtain ⟨b, eb, rfl⟩ := Option.map_eq_some_iff.mp er
    obtain ⟨a, ea, rfl⟩ := Option.map_eq_some_iff.mp eb
    exact ⟨v, .ty t.nm, .type a, .type t.nm, _, rfl, .ty _, ty_rel C (px.rb s1.st ed) ea, kit_isi ea, qr _ H1 O1 s1 (.bl _)⟩
  · exact q1.elim
end
end Wr

/-! Targets, what is walked, comprehensions. -/
namespace Wr
open PySem PySem.Spec L2
open PyProof.Rows hiding St

section
variable {g : Gm} {W : WX} {X : Cx} {pos : Pos} {es : List Expr} {ss : List Sm} (C : CtxOk g X)
include C
theorem rngD_rel {H : Hp} {O : AP1} (a b : Int) : RDs g H O (rgV a b) (rngD a b) := by
  have e1 : rgV a b = ((List.range (b - a).toNat).map fun i => a + ((i : Nat) : Int)).map V.int := by unfold rgV; rw [List.map_map]; rfl
  have e2 : rngD a b = ((List.range (b - a).toNat).map fun i => a + ((i : Nat) : Int)).map D.int := by unfold rngD; rw [List.map_map]; rfl
  rw [e1, e2]
  exact RDs.ints _
omit C in
theorem rngOk_ok {a b : Int} (h : rngOk a b = true) : RgOk a b := by
  exact of_okB h
omit C in
theorem rngK_ok {σ : St} {ρ ρ1 : Rho} {H : Hp} {O : AP1} {ds : List D} {K : List D → Rho → Prop} (q : RW W g σ ρ H O (rngK ds ρ1) K) : ∃ a b, rngEnds ds = some (a, b) ∧ RgOk a b ∧ K (rngD a b) ρ1 := by
  unfold rngK at q
  split at q
  · rename_i a b e
    by_cases hr : rngOk a b = true
    · rw [if_pos hr] at q
      exact ⟨a, b, e, rngOk_ok hr, q⟩
    · rw [if_neg hr] at q
      exact q.elim
  · exact q.elim
omit C in
theorem dg_use {σ : St} {H : Hp} {Q : Int → Int → Hp → Prop} {ρ : Rho} {O : AP1} {k : List D → Rs} {K : Rs → Rho → Prop} (S : StR g H O σ ρ) (q : RW W g σ ρ H O (rngV k ss ρ) K)
    (next : ∀ a b ρ1 H1 O1, Stp g σ ρ H O ρ1 H1 O1 → RgOk a b → K (k (rngD a b)) ρ1 → Q a b H1) : tRg g W (evEs ss) σ H Q := by
  refine ⟨O, ρ, S, (RW.bd (RW.bd q)).imp fun ds ρ1 q1 => ?_⟩
  obtain ⟨a, b, e, ok, q2⟩ := rngK_ok q1
  exact ⟨a, b, e, fun H1 O1 s1 => next a b ρ1 H1 O1 s1 ok q2⟩
theorem de_rngL {p p2 pos2 : Pos} (hg : Gl X "list") (hm : X.mg "list" = none) (hg2 : Gl X "range") (hm2 : X.mg "range" = none) (h : Paired (AS g W X) es ss) (hl : es.length = 1 ∨ es.length = 2) :
    PE X (.Call (.Name "list" p) [.Call (.Name "range" p2) es [] pos2] [] pos) (tE g W (rngV (fun ds => .fr (.lst ds)) ss)) := by
  refine peImp (pe_listRg C.calm hg hm (dg_range hg2 hm2 h hl)) fun σ H Q ⟨O, ρ, S, q⟩ => ?_
  refine dg_use S q fun a b ρ1 H1 O1 s1 ok q1 => ⟨ok, Mk1.lst (g := g) (O := O1) (ds := rngD a b) (rngD_rel C a b) fun v H' O' n => ?_⟩
  obtain ⟨s2, rv⟩ := n.stp s1.st
  exact q1 v H' O' (s1.trans s2) (rv.base s1.fr.there)
theorem de_rngT {p p2 pos2 : Pos} (hg : Gl X "tuple") (hm : X.mg "tuple" = none) (hg2 : Gl X "range") (hm2 : X.mg "range" = none) (h : Paired (AS g W X) es ss) (hl : es.length = 1 ∨ es.length = 2) :
    PE X (.Call (.Name "tuple" p) [.Call (.Name "range" p2) es [] pos2] [] pos) (tE g W (rngV (fun ds => .sh (.tup ds)) ss)) := by
  refine peImp (pe_tupRg C.calm hg hm (dg_range hg2 hm2 h hl)) fun σ H Q ⟨O, ρ, S, q⟩ => ?_
  refine dg_use S q fun a b ρ1 H1 O1 s1 ok q1 => ⟨ok, Mk1.tup (g := g) (O := O1) (ds := rngD a b) s1.st.obj (rngD_rel C a b) fun v H' O' n => ?_⟩
  obtain ⟨s2, rv⟩ := n.stp s1.st
  exact q1 v H' O' (s1.trans s2) rv
end

/-! ### what is walked -/
/-- J walks the items ds as long as the heap only grows from H1 (apart from what is not of O's others) -/
structure Wk (g : Gm) (H1 : Hp) (O1 : AP1) (J : It) (ds : List D) where
  G : Hp → Prop
  Y : Nat → Hp → V → Hp → Prop
  walk : Walk J ds.length G Y
  good : ∀ W H O, Fr W H1 O1 H O → (∀ b, W b → O1 b) → G H
  item : ∀ W H O i v H' d, Fr W H1 O1 H O → (∀ b, W b → O1 b) → (∀ b, O b → H b ≠ none) → Y i H v H' → ds[i]? = some d → RD g H' O v d ∧ (H' = H ∨ ∃ T o, H T = none ∧ H' = upd H T o)
def tI (g : Gm) (W : WX) (f : Rho → Re (List D)) : TI := fun σ H R => ∃ O ρ, StR g H O σ ρ ∧ RW W g σ ρ H O (f ρ) fun ds ρ' => ∀ J H' O', Stp g σ ρ H O ρ' H' O' → Nonempty (Wk g H' O' J ds) → R J H'
theorem piImp {X : Cx} {tg e : Expr} {t t' : TI} (h : PI X tg e t) (f : ∀ σ H Q, t' σ H Q → t σ H Q) : PI X tg e t' := ⟨fun pins s σ H Q I q => h.run pins s σ H Q I (f σ H Q q)⟩
section
variable {g : Gm} {W : WX} {X : Cx} {pos : Pos} {tg e : Expr} {es : List Expr} {ss : List Sm} (C : CtxOk g X)
def wk_list {H1 : Hp} {O1 : AP1} {a : Addr} {xs : List V} {ds : List D} (h : LsO g.K H1 O1 a xs) (hs : RDs g H1 O1 xs ds) : Wk g H1 O1 (Itl g.K a) ds where
  G := fun H => SqL g.K H a xs
  Y := YAt xs
  walk := by rw [← hs.len]; exact walk_list
  good := fun W H O f hW => (h.fr f hW).sq
  item := fun W H O i v H' d f hW ob y e => by
    obtain ⟨rfl, y⟩ := y
    obtain ⟨w, ew, r⟩ := hs.get e
    rw [y] at ew
    cases ew
    exact ⟨r.fr f hW, .inl rfl⟩
def wk_tup {H1 : Hp} {O1 : AP1} {a : Addr} {xs : List V} {ds : List D} (h : TpO g.K H1 O1 a xs) (hs : RDs g H1 O1 xs ds) : Wk g H1 O1 (Itt g.K a) ds where
  G := fun H => SqT g.K H a xs
  Y := YAt xs
  walk := by rw [← hs.len]; exact walk_tup
  good := fun W H O f hW => (h.fr f hW).sq
  item := fun W H O i v H' d f hW ob y e => by
    obtain ⟨rfl, y⟩ := y
    obtain ⟨w, ew, r⟩ := hs.get e
    rw [y] at ew
    cases ew
    exact ⟨r.fr f hW, .inl rfl⟩
theorem enu_get {xs : List D} {i : Nat} {d : D} (h : (enuD xs)[i]? = some d) : ∃ x, xs[i]? = some x ∧ d = .tup [.int (i : Nat), x] := by
  unfold enuD at h
  rw [List.getElem?_map, List.getElem?_zipIdx] at h
  cases q : xs[i]? with
  | none => rw [q] at h; simp at h
  | some x =>
    rw [q] at h
    simp at h
    exact ⟨x, rfl, h.symm⟩
theorem enu_item {H1 H H' : Hp} {O1 O : AP1} {xs : List V} {ds : List D} {i : Nat} {v : V} {d : D} {W : AP1} (hs : RDs g H1 O1 xs ds) (f : Fr W H1 O1 H O) (hW : ∀ b, W b → O1 b) (ob : ∀ b, O b → H b ≠ none)
    (y : YPair (fun i => some (.int (i : Nat))) (fun i => xs[i]?) i H v H') (e : (enuD ds)[i]? = some d) : RD g H' O v d ∧ (H' = H ∨ ∃ T o, H T = none ∧ H' = upd H T o) := by
  obtain ⟨x, ex, rfl⟩ := enu_get e
  obtain ⟨T, n, z, rfl, nT, rfl, e1, e2⟩ := y
  cases e1
  obtain ⟨w, ew, r⟩ := hs.get ex
  have e2' : xs[i]? = some z := e2
  obtain rfl : w = z := Option.some.inj (ew.symm.trans e2')
  have r' := (r.fr f hW).fr (up_fr (o := .tup [V.int (i : Nat), w]) (O := O) nT) fun _ z => z.elim
  exact ⟨.tup (.inl ⟨.inl upd_same, fun z => ob T z nT⟩) (.cons (.int _) (.cons r' .nil)), .inr ⟨T, _, nT, rfl⟩⟩
theorem enuD_len (xs : List D) : (enuD xs).length = xs.length := by unfold enuD; rw [List.length_map, List.length_zipIdx]
def wk_enuL {H1 : Hp} {O1 : AP1} {a : Addr} {xs : List V} {ds : List D} (h : LsO g.K H1 O1 a xs) (hs : RDs g H1 O1 xs ds) : Wk g H1 O1 (Ite g.K a) (enuD ds) where
  G := fun H => SqL g.K H a xs
  Y := YPair (fun i => some (.int (i : Nat))) (fun i => xs[i]?)
  walk := by rw [enuD_len, ← hs.len]; exact walk_enum
  good := fun W H O f hW => (h.fr f hW).sq
  item := fun W H O i v H' d f hW ob y e => enu_item hs f hW ob y e
def wk_enuT {H1 : Hp} {O1 : AP1} {a : Addr} {xs : List V} {ds : List D} (h : TpO g.K H1 O1 a xs) (hs : RDs g H1 O1 xs ds) : Wk g H1 O1 (IteT g.K a) (enuD ds) where
  G := fun H => SqT g.K H a xs
  Y := YPair (fun i => some (.int (i : Nat))) (fun i => xs[i]?)
  walk := by rw [enuD_len, ← hs.len]; exact walk_enumT
  good := fun W H O f hW => (h.fr f hW).sq
  item := fun W H O i v H' d f hW ob y e => enu_item hs f hW ob y e
theorem zip_get {xs ys : List D} {i : Nat} {d : D} (h : (List.zipWith (fun x y => D.tup [x, y]) xs ys)[i]? = some d) : ∃ x y, xs[i]? = some x ∧ ys[i]? = some y ∧ d = .tup [x, y] := by
  rw [List.getElem?_zipWith] at h
  cases q : xs[i]? with
  | none => rw [q] at h; cases h
  | some x =>
    cases q2 : ys[i]? with
    | none => rw [q, q2] at h; cases h
    | some y => rw [q, q2] at h; cases h; exact ⟨x, y, rfl, rfl, rfl⟩
theorem zip_item {H1 H H' : Hp} {O1 O : AP1} {xs ys : List V} {ds es : List D} {i : Nat} {v : V} {d : D} {W : AP1} (hs : RDs g H1 O1 xs ds) (hs2 : RDs g H1 O1 ys es) (f : Fr W H1 O1 H O) (hW : ∀ b, W b → O1 b) (ob : ∀ b, O b → H b ≠ none)
    (y : YPair (fun i => xs[i]?) (fun i => ys[i]?) i H v H') (e : (List.zipWith (fun x y => D.tup [x, y]) ds es)[i]? = some d) : RD g H' O v d ∧ (H' = H ∨ ∃ T o, H T = none ∧ H' = upd H T o) := by
  obtain ⟨x, z, ex, ez, rfl⟩ := zip_get e
  obtain ⟨T, n, m, rfl, nT, rfl, e1, e2⟩ := y
  have up : ∀ {w : V} {d : D}, RD g H1 O1 w d → RD g (upd H T (.tup [n, m])) O w d := fun r => (r.fr f hW).fr (up_fr nT) fun _ z => z.elim
  obtain ⟨w, ew, r⟩ := hs.get ex
  obtain ⟨w2, ew2, r2⟩ := hs2.get ez
  have e1' : xs[i]? = some n := e1
  have e2' : ys[i]? = some m := e2
  obtain rfl : w = n := Option.some.inj (ew.symm.trans e1')
  obtain rfl : w2 = m := Option.some.inj (ew2.symm.trans e2')
  exact ⟨.tup (.inl ⟨.inl upd_same, fun z => ob T z nT⟩) (.cons (up r) (.cons (up r2) .nil)), .inr ⟨T, _, nT, rfl⟩⟩
theorem zipW_len (xs ys : List D) : (List.zipWith (fun x y => D.tup [x, y]) xs ys).length = min xs.length ys.length := List.length_zipWith
theorem walk_zipT {K : PySem.W.Frag} {a b : Addr} {xs ys : List V} {n : Nat} (hn : n = min xs.length ys.length) : Walk (RZ.ItzT K a b) n (fun H => SqT K H a xs ∧ SqT K H b ys) (YPair (fun i => xs[i]?) (fun i => ys[i]?)) := by
  subst hn
  refine ⟨fun i _ hi q => ?_, fun _ q => ⟨xs, ys, q.1, q.2, by omega⟩, fun i H v H' _ q y => ?_⟩
  · have h1 : i < xs.length := by omega
    have h2 : i < ys.length := by omega
    exact ⟨xs, ys, xs[i], ys[i], q.1, q.2, by simp [h1], by simp [h2]⟩
  · obtain ⟨T, x, z, h1, h2, h3, h4, h5⟩ := y
    exact ⟨T, x, z, h1, h2, h3, h4 xs q.1, h5 ys q.2⟩
def wk_zipL {H1 : Hp} {O1 : AP1} {a b : Addr} {xs ys : List V} {ds es : List D} (h : LsO g.K H1 O1 a xs) (hs : RDs g H1 O1 xs ds) (h2 : LsO g.K H1 O1 b ys) (hs2 : RDs g H1 O1 ys es) : Wk g H1 O1 (Itz g.K a b) (List.zipWith (fun x y => D.tup [x, y]) ds es) where
  G := fun H => SqL g.K H a xs ∧ SqL g.K H b ys
  Y := YPair (fun i => xs[i]?) (fun i => ys[i]?)
  walk := by rw [zipW_len, ← hs.len, ← hs2.len]; exact walk_zip rfl
  good := fun W H O f hW => ⟨(h.fr f hW).sq, (h2.fr f hW).sq⟩
  item := fun W H O i v H' d f hW ob y e => zip_item hs hs2 f hW ob y e
def wk_zipT {H1 : Hp} {O1 : AP1} {a b : Addr} {xs ys : List V} {ds es : List D} (h : TpO g.K H1 O1 a xs) (hs : RDs g H1 O1 xs ds) (h2 : TpO g.K H1 O1 b ys) (hs2 : RDs g H1 O1 ys es) : Wk g H1 O1 (RZ.ItzT g.K a b) (List.zipWith (fun x y => D.tup [x, y]) ds es) where
  G := fun H => SqT g.K H a xs ∧ SqT g.K H b ys
  Y := YPair (fun i => xs[i]?) (fun i => ys[i]?)
  walk := by rw [zipW_len, ← hs.len, ← hs2.len]; exact walk_zipT rfl
  good := fun W H O f hW => ⟨(h.fr f hW).sq, (h2.fr f hW).sq⟩
  item := fun W H O i v H' d f hW ob y e => zip_item hs hs2 f hW ob y e
theorem rngD_get {a b : Int} {i : Nat} {d : D} (h : (rngD a b)[i]? = some d) : d = .int (a + (i : Nat)) := by
  unfold rngD at h
  rw [List.getElem?_map] at h
  cases q : (List.range (b - a).toNat)[i]? with
  | none => rw [q] at h; cases h
  | some j =>
    rw [q] at h
    obtain ⟨hl, rfl⟩ := List.getElem?_eq_some_iff.mp q
    rw [List.getElem_range] at h
    cases h
    rfl
theorem rngD_len (a b : Int) : (rngD a b).length = (b - a).toNat := by unfold rngD; rw [List.length_map, List.length_range]
def wk_rng {H1 : Hp} {O1 : AP1} {a b : Int} : Wk g H1 O1 (Itr a (b - a).toNat) (rngD a b) where
  G := fun _ => True
  Y := YFn fun i => .int (a + i)
  walk := by rw [rngD_len]; exact walk_range
  good := fun _ _ _ _ _ => trivial
  item := fun W H O i v H' d f hW ob y e => by
    obtain ⟨rfl, rfl⟩ := y
    rw [rngD_get e]
    exact ⟨.int _, .inl rfl⟩
theorem pi_seq {te : TE} (h : PE X e te) : PI X tg e (fun σ H R => te σ H fun x H1 => ∃ a, x = .ref a ∧ (((∃ xs, SqL X.K H1 a xs) ∧ R (Itl X.K a) H1) ∨ ((∃ xs, SqT X.K H1 a xs) ∧ R (Itt X.K a) H1))) := by
  refine ⟨fun pins s σ H R I q => thn (h.run pins s σ H _ I q) fun v s1 ⟨x, H1, I1, r1, q1⟩ => ?_⟩
  obtain ⟨a, rfl, q1⟩ := q1
  cases r1
  have fin : ∀ b ∈ [s1.heap.objs.size], FpOk X pins H1 b := fun b hb => by
    obtain rfl : b = s1.heap.objs.size := by simpa using hb
    exact I1.fpOk (Nat.le_refl _) (I1.hok.fresh (Nat.le_refl _))
  rcases q1 with ⟨⟨xs, hq⟩, q⟩ | ⟨⟨xs, hq⟩, q⟩
  · obtain ⟨its, rv, p, hz⟩ := I1.list hq
    exact wpAny_pyIter_list p.isList ⟨_, _, _, _, H1, rfl, I1.kept (t' := s1.toks) fun b o e => Heap.get?_push_of_some _ e, turn_list a _, ⟨_, Heap.get?_push_size _ rfl, rfl, rfl⟩, fin, q⟩
  · obtain ⟨its, rv, p, hz⟩ := I1.tuple hq
    exact wpAny_pyIter_tuple (show s1.heap.IsTuple a its.toArray from p) ⟨_, _, _, _, H1, rfl, I1.kept (t' := s1.toks) fun b o e => Heap.get?_push_of_some _ e, turn_tuple a _, ⟨_, Heap.get?_push_size _ rfl, rfl, rfl⟩, fin, q⟩
include C
theorem di_ex {s : Sm} (h : PE X e (tE g W s.v)) : PI X tg e (tI g W fun ρ => (s.v ρ).bd fun r ρ1 => .of (itemsD r.d) ρ1) := by
  refine piImp (pi_seq h) fun σ H Q ⟨O, ρ, S, q⟩ => ?_
  refine run_s S q fun r ρ1 v H1 O1 s1 rv q1 => ?_
  obtain ⟨xs, ex, q2⟩ := q1.of
  rw [C.hK]
  unfold itemsD at ex
  split at ex
  · rename_i ds ed
    cases ex
    rw [ed] at rv
    cases rv with
    | lst h hs => exact ⟨_, rfl, .inl ⟨⟨_, h.sq⟩, q2 _ H1 O1 s1 ⟨wk_list h hs⟩⟩⟩
  · rename_i ds ed
    cases ex
    rw [ed] at rv
    cases rv with
    | tup h hs => exact ⟨_, rfl, .inr ⟨⟨_, h.sq⟩, q2 _ H1 O1 s1 ⟨wk_tup h hs⟩⟩⟩
  · cases ex
omit C in
theorem di_rng {p : Pos} (hg : Gl X "range") (hm : X.mg "range" = none) (h : Paired (AS g W X) es ss) (hl : es.length = 1 ∨ es.length = 2) : PI X tg (.Call (.Name "range" p) es [] pos) (tI g W (rngI ss)) := by
  match es, ss, h with
  | [a], [sa], .cons h1 .nil =>
    refine piImp (pi_range1 hg hm (pa_cons h1.es.v pa_nil (h1.ns [] _)) (h1.ns [] _)) fun σ H Q ⟨O, ρ, S, q⟩ => ?_
    refine run_s S (RW.bd q) fun r ρ1 v H1 O1 s1 rv q1 => ?_
    obtain ⟨x, y, e, ⟨b1, b2, b3, b4, b5⟩, q2⟩ := rngK_ok (RW.okE q1)
    unfold rngEnds at e
    split at e
    · rename_i n e2
      obtain ⟨rfl, rfl⟩ := Prod.mk.inj (Option.some.inj e)
      rw [(List.cons.inj e2).1] at rv
      cases rv
      have wk := wk_rng (g := g) (H1 := H1) (O1 := O1) (a := 0) (b := n)
      refine ⟨n, rfl, b3, b4, q2 _ H1 O1 s1 ⟨?_⟩⟩
      rw [show n.toNat = (n - 0).toNat by rw [Int.sub_zero]]
      exact wk
    · rename_i e2
      exact absurd (congrArg List.length e2) (by simp)
    · cases e
  | [a, b], [sa, sb], .cons h1 (.cons h2 .nil) =>
    have n2 := h2.ns [] X.env
    refine piImp (pi_range2 hg hm (pa_cons h1.es.v (pa_cons h2.es.v pa_nil n2) (h1.ns [b] _)) ((h1.ns [b] _).trans (by rw [n2]; rfl)) n2) fun σ H Q ⟨O, ρ, S, q⟩ => ?_
    refine run_s S (RW.bd q) fun r ρ1 v H1 O1 s1 rv q1 => run_s s1.st (RW.bd q1) fun r2 ρ2 v2 H2 O2 s2 rv2 q2 => ?_
    obtain ⟨x, y, e, ⟨b1, b2, b3, b4, b5⟩, q3⟩ := rngK_ok (RW.okE q2)
    unfold rngEnds at e
    split at e
    · rename_i e2
      exact absurd (congrArg List.length e2) (by simp)
    · rename_i i j e2
      obtain ⟨rfl, rfl⟩ := Prod.mk.inj (Option.some.inj e)
      rw [(List.cons.inj e2).1] at rv
      rw [(List.cons.inj (List.cons.inj e2).2).1] at rv2
      cases rv
      cases rv2
      exact ⟨i, j, rfl, ⟨b1, b2, b3, b4⟩, q3 _ H2 O2 (s1.trans s2) ⟨wk_rng⟩⟩
    · cases e
  | [], _, _ => simp at hl
  | _ :: _ :: _ :: _, _, _ => simp at hl
theorem di_enu {p tpos : Pos} {elts : List Expr} {kk : Nat} {s : Sm} (hg : Gl X "enumerate") (hm : X.mg "enumerate" = none) (h : AS g W X e s) : PI X (.Tuple elts kk tpos) (.Call (.Name "enumerate" p) [e] [] pos) (tI g W (enuI s)) := by
  refine piImp (pi_enumT hg hm (pa_cons h.es.v pa_nil (h.ns [] _)) (h.ns [] _)) fun σ H Q ⟨O, ρ, S, q⟩ => ?_
  refine run_s S q fun r ρ1 v H1 O1 s1 rv q1 => ?_
  rw [C.hK]
  split at q1
  · rename_i xs ex
    unfold itemsD at ex
    split at ex
    · rename_i ds ed
      cases ex
      rw [ed] at rv
      cases rv with
      | lst h hs => exact ⟨_, _, rfl, .inl ⟨h.sq, q1 _ H1 O1 s1 ⟨wk_enuL h hs⟩⟩⟩
    · rename_i ds ed
      cases ex
      rw [ed] at rv
      cases rv with
      | tup h hs => exact ⟨_, _, rfl, .inr ⟨h.sq, q1 _ H1 O1 s1 ⟨wk_enuT h hs⟩⟩⟩
    · cases ex
  · exact q1.elim
theorem di_zip {p tpos : Pos} {elts : List Expr} {kk : Nat} {e2 : Expr} {sa sb : Sm} (hg : Gl X "zip") (hm : X.mg "zip" = none) (h : AS g W X e sa) (h2 : AS g W X e2 sb) : PI X (.Tuple elts kk tpos) (.Call (.Name "zip" p) [e, e2] [] pos) (tI g W (zipI sa sb)) := by
  refine piImp (RZ.pi_zipA hg hm (pa_cons h.es.v (pa_cons h2.es.v pa_nil (h2.ns [] _)) (h.ns [e2] _)) (h.ns [e2] _) (by rw [h2.ns [] _]; rfl)) fun σ H Q ⟨O, ρ, S, q⟩ => ?_
  refine run_s S q fun r ρ1 v H1 O1 s1 rv q1 => run_s s1.st q1 fun r2 ρ2 v2 H2 O2 s2 rv2 q2 => ?_
  obtain ⟨ds, ez, q3⟩ := q2.of
  have rv1 := s2.rd s1.st rv
  rw [C.hK]
  unfold zipD at ez
  split at ez
  · rename_i xs ys e1 e2
    cases ez
    rw [e1] at rv1
    rw [e2] at rv2
    cases rv1 with
    | lst h hs => cases rv2 with
      | lst h2 hs2 => exact ⟨_, _, _, _, rfl, .inl ⟨h.sq, h2.sq, q3 _ H2 O2 (s1.trans s2) ⟨wk_zipL h hs h2 hs2⟩⟩⟩
  · rename_i xs ys e1 e2
    cases ez
    rw [e1] at rv1
    rw [e2] at rv2
    cases rv1 with
    | tup h hs => cases rv2 with
      | tup h2 hs2 => exact ⟨_, _, _, _, rfl, .inr ⟨h.sq, h2.sq, q3 _ H2 O2 (s1.trans s2) ⟨wk_zipT h hs h2 hs2⟩⟩⟩
  · cases ez
end
end Wr

/-! Comprehensions. -/
namespace Wr
open PySem PySem.Spec L2
open PyProof.Rows hiding St

/-! ### wiped slots -/
theorem wipe_get {σ : St} {i : Nat} : ∀ {vs : List Nat}, (wipe σ vs)[i]? = if i ∈ vs then (if i < σ.length then some none else none) else σ[i]?
  | [] => by simp [wipe]
  | v :: vs => by
    unfold wipe
    by_cases hi : v = i
    · subst hi
      by_cases hl : v < σ.length
      · rw [List.getElem?_set_self (by rw [wipe_length]; exact hl)]; simp [hl]
      · rw [List.getElem?_eq_none (by simp [wipe_length]; omega)]; simp [hl]
    · rw [List.getElem?_set_ne hi, wipe_get (vs := vs)]
      have : (i ∈ v :: vs) ↔ i ∈ vs := by simp [Ne.symm hi]
      simp only [this]
theorem wipeR_len {ρ : Rho} : ∀ {vs : List Nat}, (wipeR ρ vs).length = ρ.length
  | [] => rfl
  | v :: vs => by unfold wipeR; rw [List.length_set, wipeR_len]
theorem wipeR_get {ρ : Rho} {i : Nat} : ∀ {vs : List Nat}, (wipeR ρ vs)[i]? = if i ∈ vs then (if i < ρ.length then some .no else none) else ρ[i]?
  | [] => by simp [wipeR]
  | v :: vs => by
    unfold wipeR
    by_cases hi : v = i
    · subst hi
      by_cases hl : v < ρ.length
      · rw [List.getElem?_set_self (by rw [wipeR_len]; exact hl)]; simp [hl]
      · rw [List.getElem?_eq_none (by simp [wipeR_len]; omega)]; simp [hl]
    · rw [List.getElem?_set_ne hi, wipeR_get (vs := vs)]
      have : (i ∈ v :: vs) ↔ i ∈ vs := by simp [Ne.symm hi]
      simp only [this]
theorem wipe_same {σ σ' : St} {vs : List Nat} (hl : σ'.length = σ.length) (h : ∀ i, i ∉ vs → σ'[i]? = σ[i]?) : wipe σ' vs = wipe σ vs := by
  refine List.ext_getElem? fun i => ?_
  rw [wipe_get, wipe_get, hl]
  split
  · rfl
  · rename_i hi; exact h i hi
section
variable {g : Gm} {H : Hp} {O : AP1} {σ : St} {ρ : Rho}
/-- some slots forgotten -/
theorem StR.wipe (S : StR g H O σ ρ) (vs : List Nat) : StR g H O (L2.wipe σ vs) (wipeR ρ vs) := by
  refine ⟨by rw [wipe_length, wipeR_len]; exact S.len, fun i v s e1 e2 => ?_, fun i j s t a e1 o1 e2 o2 f1 f2 => ?_, S.obj⟩
  · rw [wipe_get] at e1
    rw [wipeR_get] at e2
    by_cases hi : i ∈ vs
    · rw [if_pos hi] at e2
      split at e2
      · cases e2; exact .no
      · cases e2
    · rw [if_neg hi] at e1 e2
      exact S.at_ i v s e1 e2
  · have q : ∀ {j : Nat} {s : Sl}, (wipeR ρ vs)[j]? = some s → s.own = true → ρ[j]? = some s ∧ j ∉ vs := fun {j s} e o => by
      rw [wipeR_get] at e
      by_cases hj : j ∈ vs
      · rw [if_pos hj] at e
        split at e
        · cases e; cases o
        · cases e
      · rw [if_neg hj] at e
        exact ⟨e, hj⟩
    obtain ⟨g1, n1⟩ := q e1 o1
    obtain ⟨g2, n2⟩ := q e2 o2
    rw [wipe_get, if_neg n1] at f1
    rw [wipe_get, if_neg n2] at f2
    exact S.one i j s t a g1 o1 g2 o2 f1 f2
theorem Wn.wipe {vs : List Nat} {b : Addr} (h : Wn (L2.wipe σ vs) (wipeR ρ vs) b) : Wn σ ρ b := by
  obtain ⟨i, s, e1, o, e2⟩ := h
  rw [wipeR_get] at e1
  by_cases hi : i ∈ vs
  · rw [if_pos hi] at e1
    split at e1
    · cases e1; cases o
    · cases e1
  · rw [if_neg hi] at e1
    rw [wipe_get, if_neg hi] at e2
    exact ⟨i, s, e1, o, e2⟩
/-- a shared value stored -/
theorem StR.bind {i : Nat} {v : V} {d : D} (S : StR g H O σ ρ) (r : RD g H O v d) : StR g H O (σ.set i (some v)) (ρ.set i (.sh d)) := by
  refine ⟨by rw [List.length_set, List.length_set]; exact S.len, fun j w s e1 e2 => ?_, fun j k s t a e1 o1 e2 o2 f1 f2 => ?_, S.obj⟩
  · by_cases hj : i = j
    · subst hj
      by_cases hl : i < ρ.length
      · rw [List.getElem?_set_self hl] at e2
        rw [List.getElem?_set_self (by rw [S.len]; exact hl)] at e1
        cases e1; cases e2
        exact .sh r
      · rw [List.getElem?_eq_none (by simpa using hl)] at e2; cases e2
    · rw [List.getElem?_set_ne hj] at e1 e2
      exact S.at_ j w s e1 e2
  · have q : ∀ {j : Nat} {s : Sl}, (ρ.set i (.sh d))[j]? = some s → s.own = true → ρ[j]? = some s ∧ i ≠ j := fun {j s} e o => by
      by_cases hj : i = j
      · subst hj
        by_cases hl : i < ρ.length
        · rw [List.getElem?_set_self hl] at e; cases e; cases o
        · rw [List.getElem?_eq_none (by simpa using hl)] at e; cases e
      · rw [List.getElem?_set_ne hj] at e
        exact ⟨e, hj⟩
    obtain ⟨g1, n1⟩ := q e1 o1
    obtain ⟨g2, n2⟩ := q e2 o2
    rw [List.getElem?_set_ne n1] at f1
    rw [List.getElem?_set_ne n2] at f2
    exact S.one j k s t a g1 o1 g2 o2 f1 f2
theorem Wn.bind {i : Nat} {v : Option V} {d : D} {b : Addr} (h : Wn (σ.set i v) (ρ.set i (.sh d)) b) : Wn σ ρ b := by
  obtain ⟨j, s, e1, o, e2⟩ := h
  by_cases hj : i = j
  · subst hj
    by_cases hl : i < ρ.length
    · rw [List.getElem?_set_self hl] at e1; cases e1; cases o
    · rw [List.getElem?_eq_none (by simpa using hl)] at e1; cases e1
  · rw [List.getElem?_set_ne hj] at e1 e2
    exact ⟨j, s, e1, o, e2⟩
end

/-! ### targets -/
def gNs : List Nat → TGs
  | [] => gNil
  | i :: is => gCons (gName i) (gNs is)
def gT (K : PySem.W.Frag) : CT → TG
  | .nm i => gName i
  | .tp is => gTup K is.length (gNs is)
/-- slots stored: nothing else is changed -/
structure Bnd (g : Gm) (H : Hp) (O : AP1) (vs : List Nat) (σ : St) (ρ : Rho) (σ' : St) (ρ' : Rho) : Prop where
  st : StR g H O σ' ρ'
  wn : ∀ b, Wn σ' ρ' b → Wn σ ρ b
  out : ∀ i, i ∉ vs → σ'[i]? = σ[i]? ∧ ρ'[i]? = ρ[i]?
  len : σ'.length = σ.length
  io : ∀ (i : Nat) (d : D), ρ[i]? = some (Sl.io d) → ρ'[i]? = some (Sl.io d) ∧ σ'[i]? = σ[i]?
section
variable {g : Gm} {H : Hp} {O : AP1} {σ σ1 σ2 : St} {ρ ρ1 ρ2 : Rho} {vs ws : List Nat}
theorem Bnd.refl (S : StR g H O σ ρ) : Bnd g H O vs σ ρ σ ρ := ⟨S, fun _ z => z, fun _ _ => ⟨rfl, rfl⟩, rfl, fun _ _ e => ⟨e, rfl⟩⟩
theorem Bnd.trans (p : Bnd g H O vs σ ρ σ1 ρ1) (q : Bnd g H O vs σ1 ρ1 σ2 ρ2) : Bnd g H O vs σ ρ σ2 ρ2 :=
  ⟨q.st, fun b z => p.wn b (q.wn b z), fun i n => ⟨(q.out i n).1.trans (p.out i n).1, (q.out i n).2.trans (p.out i n).2⟩, q.len.trans p.len, fun i d e => let ⟨e1, e2⟩ := p.io i d e; let ⟨f1, f2⟩ := q.io i d e1; ⟨f1, f2.trans e2⟩⟩
theorem Bnd.mono (p : Bnd g H O vs σ ρ σ1 ρ1) (h : ∀ i ∈ vs, i ∈ ws) : Bnd g H O ws σ ρ σ1 ρ1 := ⟨p.st, p.wn, fun i n => p.out i fun z => n (h i z), p.len, p.io⟩
theorem bnd_sh {i : Nat} {v : V} {d : D} (S : StR g H O σ ρ) (r : RD g H O v d) (e : setSh i d ρ = some ρ1) : Bnd g H O [i] σ ρ (σ.set i (some v)) ρ1 := by
  unfold setSh at e
  split at e
  · cases e
  · rename_i s hs es
    cases e
    refine ⟨S.bind r, fun b z => z.bind, fun j n => ?_, List.length_set, fun j f q => ?_⟩
    · have hj : i ≠ j := fun z => n (by simp [z])
      rw [List.getElem?_set_ne hj, List.getElem?_set_ne hj]
      exact ⟨rfl, rfl⟩
    · have hj : i ≠ j := fun z => by subst z; rw [q] at es; cases es; exact hs _ rfl
      rw [List.getElem?_set_ne hj, List.getElem?_set_ne hj]
      exact ⟨q, rfl⟩
  · cases e
theorem gNs_of : ∀ {is : List Nat} {vs : List V} {ds : List D} {σ : St} {ρ ρ1 : Rho} {Q : St → Hp → Prop}, StR g H O σ ρ → RDs g H O vs ds → setShs is ds ρ = some ρ1 → (∀ σ1, Bnd g H O is σ ρ σ1 ρ1 → Q σ1 H) → gNs is vs σ H Q
  | [], _, _, _, _, _, _, S, .nil, e, q => by cases e; exact ⟨rfl, q _ (.refl S)⟩
  | i :: is, _, _, σ, ρ, ρ1, Q, S, .cons (v := v) (vs := vs) (d := d) (ds := ds) r rs, e, q => by
    obtain ⟨ρ2, e1, e2⟩ := Option.bind_eq_some_iff.mp (show (setSh i d ρ).bind (setShs is ds) = some ρ1 from e)
    have b1 := bnd_sh S r e1
    refine ⟨v, vs, rfl, gNs_of b1.st rs e2 fun σ1 b2 => q σ1 ?_⟩
    exact (b1.mono fun j hj => by simp at hj; simp [hj]).trans (b2.mono fun j hj => List.mem_cons_of_mem _ hj)
  | [], _, _, _, _, _, _, _, .cons _ _, e, _ => by cases e
  | _ :: _, _, _, _, _, _, _, _, .nil, e, _ => by cases e
theorem setShs_len : ∀ {is : List Nat} {ds : List D} {ρ ρ1 : Rho}, setShs is ds ρ = some ρ1 → is.length = ds.length
  | [], [], _, _, _ => rfl
  | i :: is, d :: ds, ρ, ρ1, e => by
    obtain ⟨ρ2, e1, e2⟩ := Option.bind_eq_some_iff.mp (show (setSh i d ρ).bind (setShs is ds) = some ρ1 from e)
    rw [List.length_cons, List.length_cons, setShs_len e2]
  | [], _ :: _, _, _, e => by cases e
  | _ :: _, [], _, _, e => by cases e
theorem gT_of {tg : CT} {v : V} {d : D} {Q : St → Hp → Prop} (S : StR g H O σ ρ) (r : RD g H O v d) (e : bindT tg d ρ = some ρ1) (q : ∀ σ1, Bnd g H O tg.ix σ ρ σ1 ρ1 → Q σ1 H) : gT g.K tg v σ H Q := by
  cases tg with
  | nm i => exact q _ (bnd_sh S r e)
  | tp is =>
    cases d with
    | tup ds =>
      have e' : setShs is ds ρ = some ρ1 := e
      cases r with
      | tup h hs => exact ⟨_, _, rfl, h.sq, by rw [hs.len, setShs_len e'], gNs_of S hs e' q⟩
    | _ => cases e
end

/-! ### comprehensions -/
abbrev WF : WX := fun _ _ _ _ => False
/-- the tests of a comprehension -/
structure TSs (g : Gm) (W : WX) (X : Cx) (ifs : List Expr) (ss : List Sm) : Prop where
  run : PTs X ifs (tQ g W (evTs ss))
theorem pts_imp {X : Cx} {e : List Expr} {t t' : TT} (h : PTs X e t) (f : ∀ σ H Q, t' σ H Q → t σ H Q) : PTs X e t' := ⟨fun pins s σ H Q I q => h.run pins s σ H Q I (f σ H Q q)⟩
section
variable {g : Gm} {W : WX} {X : Cx} {pos : Pos} (C : CtxOk g X)
theorem ts_nil : PTs X [] (tQ g W (evTs [])) := pts_imp pts_nil fun σ H Q ⟨O, ρ, S, q⟩ => q H O (.refl S)
theorem ts_one {e : Expr} {s : Sm} (h : PT X e (tQ g W s.t)) : PTs X [e] (tQ g W (evTs [s])) := pts_one h
theorem CtxOk.blk (C : CtxOk g X) (s : Shared) (H : Hp) (scope : Scope) (cenv : Env) (fp : List Addr) : CtxOk g (X.blk s H scope cenv fp) := ⟨C.hK, C.hmg, C.hP, C.calm, C.nd, C.gd, C.un⟩
/-- the block's state between two turns: from ρ1, H1, O1 at its start; the new list at D -/
structure LcI (g : Gm) (σ : St) (vs : List Nat) (ρ1 : Rho) (H1 : Hp) (O1 : AP1) (D : Addr) (H : Hp) (O : AP1) (ρ : Rho) (acc : List V) (dacc : List Wr.D) : Prop where
  st : StR g H O (wipe σ vs) ρ
  fr : Fr (Wn σ ρ1) H1 O1 H O
  wn : ∀ b, Wn (wipe σ vs) ρ b → Wn σ ρ1 b
  io : ∀ (i : Nat) (d : Wr.D), i ∉ vs → ρ1[i]? = some (Sl.io d) → ∃ d' : Wr.D, ρ[i]? = some (Sl.io d')
  no : ∀ i ∈ vs, ∀ s, ρ[i]? = some s → s = .no
  new : H1 D = none
  own : O D
  nwn : ¬ Wn (wipe σ vs) ρ D
  at_ : H D = some (.lst acc)
  rel : RDs g H O acc dacc
theorem lcRun_cons {step : Wr.D → Rho → Re (Option Wr.D)} {x : Wr.D} {xs : List Wr.D} {ρ ρ' : Rho} {ds : List Wr.D} (h : lcRun step (x :: xs) ρ = .ok ds ρ') :
    ∃ o ρ1 ds', step x ρ = .ok o ρ1 ∧ lcRun step xs ρ1 = .ok ds' ρ' ∧ ds = o.toList ++ ds' := by
  unfold lcRun at h
  split at h
  · rename_i o ρ1 e1
    split at h
    · rename_i ds' ρ2 e2
      cases h
      exact ⟨o, ρ1, ds', e1, e2, rfl⟩
    · cases h
  · cases h

theorem backR_get {ρ0 ρ : Rho} {i : Nat} (hl : ρ.length = ρ0.length) : ∀ {vs : List Nat}, (backR ρ0 ρ vs)[i]? = (if i ∈ vs then ρ0[i]? else ρ[i]?) ∧ (backR ρ0 ρ vs).length = ρ.length
  | [] => by simp [backR]
  | v :: vs => by
    have ih := @backR_get ρ0 ρ i hl vs
    have e : (i ∈ v :: vs) ↔ (i = v ∨ i ∈ vs) := by simp
    unfold backR
    split
    · rename_i s hs
      refine ⟨?_, by rw [List.length_set]; exact ih.2⟩
      have hv : v < ρ0.length := (List.getElem?_eq_some_iff.mp hs).1
      by_cases hi : v = i
      · subst hi
        rw [List.getElem?_set_self (by rw [ih.2, hl]; exact hv), if_pos (by simp), hs]
      · rw [List.getElem?_set_ne hi, ih.1]
        have : (i ∈ v :: vs) ↔ i ∈ vs := by simp [Ne.symm hi]
        simp only [this]
    · rename_i hs
      refine ⟨?_, ih.2⟩
      rw [ih.1]
      by_cases hi : v = i
      · subst hi
        have hv : ρ0.length ≤ v := List.getElem?_eq_none_iff.mp hs
        have e2 : ρ[v]? = none := List.getElem?_eq_none (by omega)
        rw [e2, hs]
        split <;> simp
      · have : (i ∈ v :: vs) ↔ i ∈ vs := by simp [Ne.symm hi]
        simp only [this]
section
variable {σ : St} {vs : List Nat} {ρ1 ρ ρ' : Rho} {H1 H H' : Hp} {O1 O O' : AP1} {D : Addr} {acc : List V} {dacc : List Wr.D}
theorem LcI.grow (L : LcI g σ vs ρ1 H1 O1 D H O ρ acc dacc) (h : H' = H ∨ ∃ T o, H T = none ∧ H' = upd H T o) : LcI g σ vs ρ1 H1 O1 D H' O ρ acc dacc := by
  rcases h with rfl | ⟨T, o, n, rfl⟩
  · exact L
  · exact ⟨L.st.laid n, L.fr.trans (Fr.laid (W := fun _ => False) n) fun _ z => z.elim, L.wn, L.io, L.no, L.new, L.own, L.nwn, by rw [upd_ne (ne_of_none L.at_ n)]; exact L.at_, L.rel.fr (up_fr n) fun _ z => z.elim⟩
/-- behind a turn's steps -/
theorem LcI.next {σ2 : St} {ρ2 ρ3 : Rho} (L : LcI g σ vs ρ1 H1 O1 D H O ρ acc dacc) (b : Bnd g H O vs (L2.wipe σ vs) ρ σ2 ρ2) (hw : L2.wipe σ2 vs = L2.wipe σ vs) (s : Stp g σ2 ρ2 H O ρ3 H' O') : LcI g σ vs ρ1 H1 O1 D H' O' (wipeR ρ3 vs) acc dacc := by
  have nD : ¬ Wn σ2 ρ2 D := fun z => L.nwn (b.wn D z)
  have wn2 : ∀ c, Wn (L2.wipe σ vs) (wipeR ρ3 vs) c → Wn (L2.wipe σ vs) ρ c := fun c z => by
    rw [← hw] at z
    exact b.wn c (s.sub c z.wipe)
  refine ⟨by rw [← hw]; exact s.st.wipe vs, L.fr.trans s.fr fun c z => L.wn c (b.wn c z), fun c z => L.wn c (wn2 c z), fun i d n e => ?_, fun i hi t e => ?_, L.new, s.fr.o1 D L.own nD, fun z => L.nwn (wn2 D z), s.fr.keep D _ L.at_ nD, L.rel.fr s.fr fun c z => L.st.wn c (b.wn c z)⟩
  · obtain ⟨d', e1⟩ := L.io i d n e
    obtain ⟨e2, _⟩ := b.io i d' e1
    obtain ⟨d2, e3⟩ := s.io i d' e2
    exact ⟨d2, by rw [wipeR_get, if_neg n]; exact e3⟩
  · rw [wipeR_get, if_pos hi] at e
    split at e <;> cases e
    rfl
/-- the new item behind the list -/
theorem LcI.push {y : V} {d : Wr.D} (L : LcI g σ vs ρ1 H1 O1 D H O ρ acc dacc) (r : RD g H O y d) : LcI g σ vs ρ1 H1 O1 D (upd H D (.lst (acc ++ [y]))) O ρ (acc ++ [y]) (dacc ++ [d]) := by
  have f : Fr (fun b => b = D) H O (upd H D (.lst (acc ++ [y]))) O := by
    refine ⟨fun b o e n => by rw [upd_ne n]; exact e, fun b e => ?_, fun _ e _ => e, fun _ e => .inl e⟩
    by_cases hb : b = D
    · subst hb; rw [upd_same] at e; cases e
    · rw [upd_ne hb] at e; exact e
  have hD : ∀ b, b = D → O b := fun b e => by rw [e]; exact L.own
  refine ⟨L.st.fr0 f hD (fun b e z => L.nwn (e ▸ z)) fun b z e => L.st.obj b z (f.there b e), ⟨fun b o e n => ?_, fun b e => L.fr.there b (f.there b e), L.fr.o1, L.fr.o2⟩, L.wn, L.io, L.no, L.new, L.own, L.nwn, upd_same, (L.rel.fr f hD).append (.cons (r.fr f hD) .nil)⟩
  rw [upd_ne fun z => by rw [z, L.new] at e; cases e]
  exact L.fr.keep b o e n
end
theorem run_i {it : Rho → Re (List Wr.D)} {β : Type} {K : β → Rho → Prop} {k : List Wr.D → Rho → Re β} {σ : St} {ρ : Rho} {H : Hp} {O : AP1} {R : It → Hp → Prop} (S : StR g H O σ ρ) (h : RW W g σ ρ H O ((it ρ).bd k) K)
    (next : ∀ ds ρ1 J H1 O1, Stp g σ ρ H O ρ1 H1 O1 → Wk g H1 O1 J ds → RW W g σ ρ1 H1 O1 (k ds ρ1) K → R J H1) : tI g W it σ H R :=
  ⟨O, ρ, S, (RW.bd h).imp fun ds ρ1 h1 J H1 O1 s1 ⟨wk⟩ => next ds ρ1 J H1 O1 s1 wk (h1.rebase s1)⟩
theorem noOwn_at {ρ : Rho} {vs : List Nat} (h : noOwn ρ vs = true) {i : Nat} (hi : i ∈ vs) : ∃ s, ρ[i]? = some s ∧ s.own = false := by
  unfold noOwn at h
  have z := List.all_eq_true.mp h i hi
  split at z
  · rename_i s e
    exact ⟨s, e, by simpa using z⟩
  · cases z
include C
theorem lc_red {elt tg iter : Expr} {ifs : List Expr} {it : Rho → Re (List Wr.D)} {sifs : List Sm} {se : Sm} {ct : CT} {σ : St} {H : Hp} {Q : VK} (h : tE g W (lcV ct it sifs se) σ H Q) :
    tLc (tI g W it) (gT X.K ct) (tQ g WF (evTs sifs)) (tE g WF se.v) ct.ix σ H Q := by
  obtain ⟨O, ρ, S, q⟩ := h
  refine run_i S q fun xs ρ1 J H1 O1 s1 wk q1 D nD => ?_
  rw [C.hK]
  by_cases hno : noOwn ρ1 ct.ix = true
  · rw [if_pos hno] at q1
    cases er : lcRun (lcTurn ct sifs se) xs (wipeR ρ1 ct.ix) with
    | ok ds ρ5 =>
      rw [er] at q1
      by_cases hz : ds.length < sizeL
      · dsimp only at q1
        rw [if_pos hz] at q1
        refine lc_it wk.walk (fun i H => ∃ O ρ acc dacc rest, LcI g σ ct.ix ρ1 H1 O1 D H O ρ acc dacc ∧ lcRun (lcTurn ct sifs se) (xs.drop i) ρ = .ok rest ρ5 ∧ dacc ++ rest = ds) ?_ ?_ ?_ ?_
        · refine ⟨fun b => O1 b ∨ b = D, wipeR ρ1 ct.ix, [], [], ds, ⟨(s1.st.laidO nD).wipe _, Fr.laidO nD, fun b z => z.wipe, fun i d n e => ⟨d, by rw [wipeR_get, if_neg n]; exact e⟩, fun i hi t e => ?_, nD, .inr rfl, fun z => s1.st.obj D (s1.st.wn D z.wipe) nD, upd_same, .nil⟩, by rw [List.drop_zero]; exact er, rfl⟩
          rw [wipeR_get, if_pos hi] at e
          split at e <;> cases e
          rfl
        · rintro i H _ ⟨O, ρ, acc, dacc, rest, L, _⟩
          exact wk.good _ H O L.fr s1.st.wn
        · rintro i x H H' hi ⟨O, ρ, acc, dacc, rest, L, er, ed⟩ y
          obtain ⟨d, hd⟩ : ∃ d, xs[i]? = some d := ⟨xs[i], by simp [hi]⟩
          have edrop : xs.drop i = d :: xs.drop (i + 1) := by
            rw [List.drop_eq_getElem_cons hi]
            rw [List.getElem?_eq_getElem hi] at hd
            cases hd
            rfl
          rw [edrop] at er
          obtain ⟨o, ρn, rest', es, er', rfl⟩ := lcRun_cons er
          obtain ⟨rd, gr⟩ := wk.item _ H O i x H' d L.fr s1.st.wn L.st.obj y hd
          have L' := L.grow gr
          unfold lcTurn at es
          split at es
          · rename_i ρ2 eb
            refine gT_of L'.st rd eb fun σ2 b => ?_
            have hw : L2.wipe σ2 ct.ix = L2.wipe σ ct.ix := wipe_same (by rw [b.len, wipe_length]) fun j n => by rw [(b.out j n).1, wipe_get, if_neg n]
            refine ⟨hw, O, ρ2, b.st, ?_⟩
            cases et : evTs sifs ρ2 with
            | ok c ρ3 =>
              rw [et] at es
              refine fun H3 O3 s3 => ?_
              cases c with
              | true =>
                rw [if_pos rfl]
                have es : ((se.v ρ3).bd fun r ρ4 => Re.ok (some r.d) (wipeR ρ4 ct.ix)) = Re.ok o ρn := es
                refine ⟨O3, ρ3, s3.st, ?_⟩
                cases ev : se.v ρ3 with
                | ok r ρ4 =>
                  rw [ev] at es
                  cases es
                  refine fun v H4 O4 s4 rv => ?_
                  obtain ⟨O5, s5, rv5⟩ := rv.share s3.st s4
                  have L2 := L'.next b hw (s3.trans s5)
                  refine ⟨acc, L2.at_, ?_, O5, _, _, _, rest', L2.push rv5, er', by rw [← ed]; simp⟩
                  rw [L2.rel.len, ← sizeL_eq]
                  have := congrArg List.length ed
                  simp only [List.length_append] at this
                  omega
                | ex x' ρ4 => rw [ev] at es; cases es
                | st => rw [ev] at es; cases es
              | false =>
                rw [if_neg Bool.false_ne_true]
                cases es
                exact ⟨O3, _, acc, dacc, rest', L'.next b hw s3, er', by rw [← ed]; simp⟩
            | ex x' ρ3 => rw [et] at es; cases es
            | st => rw [et] at es; cases es
          · cases es
        · rintro H' ⟨O', ρ', acc, dacc, rest, L, er', ed⟩
          rw [List.drop_length] at er'
          cases er'
          rw [List.append_nil] at ed
          subst ed
          have hlen : ρ5.length = ρ1.length := by rw [← L.st.len, wipe_length, s1.st.len]
          have bk := fun i => (backR_get (i := i) hlen (vs := ct.ix)).1
          have own_out : ∀ {i : Nat} {s : Sl}, (backR ρ1 ρ5 ct.ix)[i]? = some s → s.own = true → i ∉ ct.ix ∧ ρ5[i]? = some s := fun {i s} e o => by
            rw [bk] at e
            by_cases hi : i ∈ ct.ix
            · rw [if_pos hi] at e
              obtain ⟨s', e', o'⟩ := noOwn_at hno hi
              rw [e] at e'
              cases e'
              rw [o] at o'
              cases o'
            · rw [if_neg hi] at e
              exact ⟨hi, e⟩
          have sub : ∀ b, Wn σ (backR ρ1 ρ5 ct.ix) b → Wn (wipe σ ct.ix) ρ5 b := fun b ⟨i, s, e1, o, e2⟩ => by
            obtain ⟨n, e⟩ := own_out e1 o
            exact ⟨i, s, e, o, by rw [wipe_get, if_neg n]; exact e2⟩
          have stf : StR g H' O' σ (backR ρ1 ρ5 ct.ix) := by
            refine ⟨by rw [(backR_get (i := 0) hlen (vs := ct.ix)).2, ← L.st.len, wipe_length], fun i v s e1 e2 => ?_, fun i j s t a e1 o1 e2 o2 f1 f2 => ?_, L.st.obj⟩
            · rw [bk] at e2
              by_cases hi : i ∈ ct.ix
              · rw [if_pos hi] at e2
                obtain ⟨s', e', o'⟩ := noOwn_at hno hi
                rw [e2] at e'
                cases e'
                have z := s1.st.at_ i v s e1 e2
                cases z with
                | no => exact .no
                | sh r => exact .sh (r.fr L.fr s1.st.wn)
                | ow _ _ => cases o'
                | io _ _ => cases o'
              · rw [if_neg hi] at e2
                exact L.st.at_ i v s (by rw [wipe_get, if_neg hi]; exact e1) e2
            · obtain ⟨n1, g1⟩ := own_out e1 o1
              obtain ⟨n2, g2⟩ := own_out e2 o2
              exact L.st.one i j s t a g1 o1 g2 o2 (by rw [wipe_get, if_neg n1]; exact f1) (by rw [wipe_get, if_neg n2]; exact f2)
          refine q1 _ H' O' (s1.trans ⟨L.fr, stf, fun b z => L.wn b (sub b z), fun i d e => ?_⟩) ⟨D, rfl, s1.fr.there D nD, L.own, fun z => L.nwn (sub D z), .lst L.at_ L.rel⟩
          have n : i ∉ ct.ix := fun hi => by
            obtain ⟨s', e', o'⟩ := noOwn_at hno hi
            rw [e] at e'
            cases e'
            cases o'
          obtain ⟨d', e'⟩ := L.io i d n e
          exact ⟨d', by rw [bk, if_neg n]; exact e'⟩
      · dsimp only at q1
        rw [if_neg hz] at q1
        exact q1.elim
    | ex x ρ5 => rw [er] at q1; exact q1.elim
    | st => rw [er] at q1; exact q1.elim
  · rw [if_neg hno] at q1
    exact q1.elim
variable {elt tg iter : Expr} {ifs : List Expr} {scope : Scope} {own : List (Str × Nat)} {it : Rho → Re (List Wr.D)} {sifs : List Sm} {se : Sm} {ct : CT}
theorem de_lc (hi : PI X tg iter (tI g W it)) (ok : BlkOk X.N X.env.scope scope own) (hix : own.map (·.2) = ct.ix)
    (hg : ∀ (s : Shared) (H : Hp) (C : Addr) (cl : List (Str × Addr)) (fp : List Addr), PG (X.blk s H scope (compEnvC scope cl C X.env) fp) tg (gT X.K ct)) (ht : ∀ (s : Shared) (H : Hp) (C : Addr) (cl : List (Str × Addr)) (fp : List Addr), PTs (X.blk s H scope (compEnvC scope cl C X.env) fp) ifs (tQ g WF (evTs sifs)))
    (he : ∀ (s : Shared) (H : Hp) (C : Addr) (cl : List (Str × Addr)) (fp : List Addr), PE (X.blk s H scope (compEnvC scope cl C X.env) fp) elt (tE g WF se.v)) (hs : ∀ x, foldedSetIterable iter X.env x = pure x) :
    PE X (.ListComp elt [⟨tg, iter, ifs, 0⟩] scope pos) (tE g W (lcV ct it sifs se)) := by
  have h := pe_lc (pos := pos) C.calm C.nd hi ok hg ht he hs
  rw [hix] at h
  exact peImp h fun σ H Q q => lc_red (elt := elt) (tg := tg) (iter := iter) (ifs := ifs) C q
/-! two clauses -/
structure LcJ (g : Gm) (σ σ' : St) (vs : List Nat) (ρ1 : Rho) (H1 : Hp) (O1 : AP1) (D : Addr) (H : Hp) (O : AP1) (ρ : Rho) (acc : List V) (dacc : List Wr.D) : Prop where
  st : StR g H O σ' ρ
  fr : Fr (Wn σ ρ1) H1 O1 H O
  wn : ∀ b, Wn σ' ρ b → Wn σ ρ1 b
  io : ∀ (i : Nat) (d : Wr.D), i ∉ vs → ρ1[i]? = some (Sl.io d) → ∃ d' : Wr.D, ρ[i]? = some (Sl.io d')
  new : H1 D = none
  own : O D
  nwn : ¬ Wn σ' ρ D
  at_ : H D = some (.lst acc)
  rel : RDs g H O acc dacc
omit C in
section
variable {σ σ' σ2 : St} {vs ws : List Nat} {ρ1 ρ ρ' ρ2 : Rho} {H1 H H' : Hp} {O1 O O' : AP1} {D : Addr} {acc : List V} {dacc : List Wr.D}
omit C in
theorem LcJ.grow (L : LcJ g σ σ' vs ρ1 H1 O1 D H O ρ acc dacc) (h : H' = H ∨ ∃ T o, H T = none ∧ H' = upd H T o) : LcJ g σ σ' vs ρ1 H1 O1 D H' O ρ acc dacc := by
  rcases h with rfl | ⟨T, o, n, rfl⟩
  · exact L
  · exact ⟨L.st.laid n, L.fr.trans (Fr.laid (W := fun _ => False) n) fun _ z => z.elim, L.wn, L.io, L.new, L.own, L.nwn, by rw [upd_ne (ne_of_none L.at_ n)]; exact L.at_, L.rel.fr (up_fr n) fun _ z => z.elim⟩
omit C in
theorem LcJ.step (L : LcJ g σ σ' vs ρ1 H1 O1 D H O ρ acc dacc) (s : Stp g σ' ρ H O ρ' H' O') : LcJ g σ σ' vs ρ1 H1 O1 D H' O' ρ' acc dacc :=
  ⟨s.st, L.fr.trans s.fr fun c z => L.wn c z, fun c z => L.wn c (s.sub c z), fun i d n e => by
    obtain ⟨d', e1⟩ := L.io i d n e
    exact s.io i d' e1, L.new, s.fr.o1 D L.own L.nwn, fun z => L.nwn (s.sub D z), s.fr.keep D _ L.at_ L.nwn, L.rel.fr s.fr fun c z => L.st.wn c z⟩
omit C in
theorem LcJ.bnd (L : LcJ g σ σ' vs ρ1 H1 O1 D H O ρ acc dacc) (b : Bnd g H O ws σ' ρ σ2 ρ2) : LcJ g σ σ2 vs ρ1 H1 O1 D H O ρ2 acc dacc :=
  ⟨b.st, L.fr, fun c z => L.wn c (b.wn c z), fun i d n e => by
    obtain ⟨d', e1⟩ := L.io i d n e
    exact ⟨d', (b.io i d' e1).1⟩, L.new, L.own, fun z => L.nwn (b.wn D z), L.at_, L.rel⟩
omit C in
theorem LcJ.wipe (L : LcJ g σ σ' vs ρ1 H1 O1 D H O ρ acc dacc) (hs : ∀ i ∈ ws, i ∈ vs) : LcJ g σ (L2.wipe σ' ws) vs ρ1 H1 O1 D H O (wipeR ρ ws) acc dacc :=
  ⟨L.st.wipe ws, L.fr, fun c z => L.wn c z.wipe, fun i d n e => by
    obtain ⟨d', e1⟩ := L.io i d n e
    exact ⟨d', by rw [wipeR_get, if_neg fun z => n (hs i z)]; exact e1⟩, L.new, L.own, fun z => L.nwn z.wipe, L.at_, L.rel⟩
omit C in
theorem LcJ.push {y : V} {d : Wr.D} (L : LcJ g σ σ' vs ρ1 H1 O1 D H O ρ acc dacc) (r : RD g H O y d) : LcJ g σ σ' vs ρ1 H1 O1 D (upd H D (.lst (acc ++ [y]))) O ρ (acc ++ [y]) (dacc ++ [d]) := by
  have f : Fr (fun b => b = D) H O (upd H D (.lst (acc ++ [y]))) O := by
    refine ⟨fun b o e n => by rw [upd_ne n]; exact e, fun b e => ?_, fun _ e _ => e, fun _ e => .inl e⟩
    by_cases hb : b = D
    · subst hb; rw [upd_same] at e; cases e
    · rw [upd_ne hb] at e; exact e
  have hD : ∀ b, b = D → O b := fun b e => by rw [e]; exact L.own
  refine ⟨L.st.fr0 f hD (fun b e z => L.nwn (e ▸ z)) fun b z e => L.st.obj b z (f.there b e), ⟨fun b o e n => ?_, fun b e => L.fr.there b (f.there b e), L.fr.o1, L.fr.o2⟩, L.wn, L.io, L.new, L.own, L.nwn, upd_same, (L.rel.fr f hD).append (.cons (r.fr f hD) .nil)⟩
  rw [upd_ne fun z => by rw [z, L.new] at e; cases e]
  exact L.fr.keep b o e n
end
omit C in
/-- a walk from any heap -/
theorem walk_it {J : It} {n : Nat} {G : Hp → Prop} {Y : Nat → Hp → V → Hp → Prop} (w : Walk J n G Y) {Qd : Hp → Prop} {Hs : Hp} {R : Nat → Hp → V → Hp → (Hp → Prop) → Prop} (Pv : Nat → Hp → Prop) (h0 : Pv 0 Hs) (hG : ∀ i H, i ≤ n → Pv i H → G H)
    (hs : ∀ i x H H', i < n → Pv i H → Y i H x H' → R i H x H' (Pv (i + 1))) (hd : ∀ H, Pv n H → Qd H) :
    ∃ W : Nat → Nat → Hp → Prop, (∃ m, W 0 m Hs) ∧ ∀ i m H, W i m H →
      (J.stop i H ∧ Qd H) ∨ (J.go i H ∧ ∃ Nx : Hp → Prop, (∀ H', Nx H' → ∃ m', m' < m ∧ W (i + 1) m' H') ∧ ∀ x H', J.yld i H x H' → R i H x H' Nx) := by
  refine ⟨fun i m H => m = n - i ∧ i ≤ n ∧ Pv i H, ⟨n, by simp, Nat.zero_le _, h0⟩, ?_⟩
  rintro i m H ⟨rfl, hi, p⟩
  have q := hG i H hi p
  by_cases hlt : i < n
  · exact .inr ⟨w.goes i H hlt q, Pv (i + 1), fun H' p' => ⟨n - (i + 1), by omega, rfl, hlt, p'⟩, fun x H' y => hs i x H H' hlt p (w.yields i H x H' hlt q y)⟩
  · have e : i = n := by omega
    subst e
    exact .inl ⟨w.stops H q, hd H p⟩
omit C in
theorem lcRun2_cons {step : Wr.D → Rho → Re (List Wr.D)} {x : Wr.D} {xs : List Wr.D} {ρ ρ' : Rho} {ds : List Wr.D} (h : lcRun2 step (x :: xs) ρ = .ok ds ρ') :
    ∃ o ρ1 ds', step x ρ = .ok o ρ1 ∧ lcRun2 step xs ρ1 = .ok ds' ρ' ∧ ds = o ++ ds' := by
  unfold lcRun2 at h
  split at h
  · rename_i o ρ1 e1
    split at h
    · rename_i ds' ρ2 e2
      cases h
      exact ⟨o, ρ1, ds', e1, e2, rfl⟩
    · cases h
  · cases h
omit C in
theorem wipe_wipe {σ2 : St} {vs ws : List Nat} (hs : ∀ i ∈ ws, i ∈ vs) : L2.wipe (L2.wipe σ2 ws) vs = L2.wipe σ2 vs := by
  refine List.ext_getElem? fun i => ?_
  rw [wipe_get, wipe_get, wipe_get, wipe_length]
  by_cases h : i ∈ vs
  · rw [if_pos h, if_pos h]
  · rw [if_neg h, if_neg h, if_neg fun z => h (hs i z)]
omit C in
theorem wipeR_wipeR {ρ : Rho} {vs ws : List Nat} (hs : ∀ i ∈ ws, i ∈ vs) : wipeR (wipeR ρ ws) vs = wipeR ρ vs := by
  refine List.ext_getElem? fun i => ?_
  rw [wipeR_get, wipeR_get, wipeR_get, wipeR_len]
  by_cases h : i ∈ vs
  · rw [if_pos h, if_pos h]
  · rw [if_neg h, if_neg h, if_neg fun z => h (hs i z)]
theorem lc2_red {elt tg iter : Expr} {it it1 : Rho → Re (List Wr.D)} {se : Sm} {ct ct1 : CT} {σ : St} {H : Hp} {Q : VK} (h : tE g W (lc2V ct it ct1 it1 se) σ H Q) :
    tLc2 (tI g W it) (gT X.K ct) (tQ g WF (evTs [])) (tI g WF it1) (gT X.K ct1) (tQ g WF (evTs [])) (tE g WF se.v) (ct.ix ++ ct1.ix) ct1.ix σ H Q := by
  obtain ⟨O, ρ, S, q⟩ := h
  have hs1 : ∀ i ∈ ct1.ix, i ∈ ct.ix ++ ct1.ix := fun i hi => List.mem_append_right _ hi
  have hs0 : ∀ i ∈ ct.ix, i ∈ ct.ix ++ ct1.ix := fun i hi => List.mem_append_left _ hi
  refine run_i S q fun xs ρ1 J H1 O1 s1 wk q1 D nD => ?_
  rw [C.hK]
  by_cases hno : noOwn ρ1 (ct.ix ++ ct1.ix) = true
  · rw [if_pos hno] at q1
    cases er : lcRun2 (lc2Turn ct ct1 it1 se) xs (wipeR ρ1 (ct.ix ++ ct1.ix)) with
    | ok ds ρ5 =>
      rw [er] at q1
      by_cases hz : ds.length < sizeL
      · dsimp only at q1
        rw [if_pos hz] at q1
        refine walk_it wk.walk (R := fun i H x H' Nx => gT g.K ct x (L2.wipe σ (ct.ix ++ ct1.ix)) H' fun σ2 H2 => L2.wipe σ2 (ct.ix ++ ct1.ix) = L2.wipe σ (ct.ix ++ ct1.ix) ∧ tQ g WF (evTs []) σ2 H2 fun b H3 =>
            if b = true then tI g WF it1 σ2 H3 fun J1 H4 => ∃ W1 : Nat → Nat → Hp → Prop, (∃ m, W1 0 m H4) ∧ ∀ j k H, W1 j k H →
              (J1.stop j H ∧ Nx H) ∨ (J1.go j H ∧ ∃ Nx1 : Hp → Prop, (∀ H', Nx1 H' → ∃ k', k' < k ∧ W1 (j + 1) k' H') ∧ ∀ x H', J1.yld j H x H' → gT g.K ct1 x (L2.wipe σ2 ct1.ix) H' fun σ3 H5 => L2.wipe σ3 ct1.ix = L2.wipe σ2 ct1.ix ∧ tQ g WF (evTs []) σ3 H5 fun b H6 =>
                if b = true then tE g WF se.v σ3 H6 fun y H7 => ∃ acc, H7 D = some (.lst acc) ∧ acc.length < sizeLine ∧ Nx1 (upd H7 D (.lst (acc ++ [y]))) else Nx1 H6)
            else Nx H3)
          (fun i H => ∃ O ρ acc dacc rest, LcJ g σ (L2.wipe σ (ct.ix ++ ct1.ix)) (ct.ix ++ ct1.ix) ρ1 H1 O1 D H O ρ acc dacc ∧ (∀ i ∈ ct.ix ++ ct1.ix, ∀ s, ρ[i]? = some s → s = .no) ∧ lcRun2 (lc2Turn ct ct1 it1 se) (xs.drop i) ρ = .ok rest ρ5 ∧ dacc ++ rest = ds) ?_ ?_ ?_ ?_
        · refine ⟨fun b => O1 b ∨ b = D, wipeR ρ1 (ct.ix ++ ct1.ix), [], [], ds, ⟨(s1.st.laidO nD).wipe _, Fr.laidO nD, fun b z => z.wipe, fun i d n e => ⟨d, by rw [wipeR_get, if_neg n]; exact e⟩, nD, .inr rfl, fun z => s1.st.obj D (s1.st.wn D z.wipe) nD, upd_same, .nil⟩, fun i hi t e => ?_, by rw [List.drop_zero]; exact er, rfl⟩
          rw [wipeR_get, if_pos hi] at e
          split at e <;> cases e
          rfl
        · rintro i H _ ⟨O, ρ, acc, dacc, rest, L, _⟩
          exact wk.good _ H O L.fr s1.st.wn
        · rintro i x H H' hi ⟨O, ρ, acc, dacc, rest, L, _, er, ed⟩ y
          obtain ⟨d, hd⟩ : ∃ d, xs[i]? = some d := ⟨xs[i], by simp [hi]⟩
          have edrop : xs.drop i = d :: xs.drop (i + 1) := by
            rw [List.drop_eq_getElem_cons hi]
            rw [List.getElem?_eq_getElem hi] at hd
            cases hd
            rfl
          rw [edrop] at er
          obtain ⟨o, ρn, rest', es, er', rfl⟩ := lcRun2_cons er
          obtain ⟨rd, gr⟩ := wk.item _ H O i x H' d L.fr s1.st.wn L.st.obj y hd
          have L' := L.grow gr
          unfold lc2Turn at es
          split at es
          · rename_i ρ2 eb
            refine gT_of L'.st rd eb fun σ2 b => ?_
            have hw : L2.wipe σ2 (ct.ix ++ ct1.ix) = L2.wipe σ (ct.ix ++ ct1.ix) := wipe_same (by rw [b.len, wipe_length]) fun j n => by rw [(b.out j fun z => n (hs0 j z)).1, wipe_get, if_neg n]
            refine ⟨hw, O, ρ2, b.st, ?_⟩
            show RW WF g σ2 ρ2 H' O (Re.ok true ρ2) _
            refine fun H3 O3 s3 => ?_
            show (if (true : Bool) = true then _ else _)
            rw [if_pos rfl]
            have L3 := (L'.bnd b).step s3
            cases ei : it1 ρ2 with
            | ok ys ρ3 =>
              rw [ei] at es
              have es : (match lcRun (lcTurn ct1 [] se) ys (wipeR ρ3 ct1.ix) with
                | .ok ds ρ4 => (Re.ok ds (wipeR ρ4 (ct.ix ++ ct1.ix)) : Re (List Wr.D))
                | _ => .st) = Re.ok o ρn := es
              cases el : lcRun (lcTurn ct1 [] se) ys (wipeR ρ3 ct1.ix) with
              | ok o5 ρ4 =>
                rw [el] at es
                cases es
                refine ⟨O3, ρ2, s3.st, ?_⟩
                rw [ei]
                rintro J1 H4 O4 s4 ⟨wk1⟩
                have L4 := (L3.step s4).wipe hs1
                have hW5 : ∀ b, (Wn σ2 ρ3 b ∨ b = D) → O4 b := fun b z => z.elim (s4.st.wn b) fun e => by rw [e]; exact (L3.step s4).own
                refine walk_it wk1.walk (R := fun j H x H' Nx1 => gT g.K ct1 x (L2.wipe σ2 ct1.ix) H' fun σ3 H5 => L2.wipe σ3 ct1.ix = L2.wipe σ2 ct1.ix ∧ tQ g WF (evTs []) σ3 H5 fun b H6 =>
                    if b = true then tE g WF se.v σ3 H6 fun y H7 => ∃ acc, H7 D = some (.lst acc) ∧ acc.length < sizeLine ∧ Nx1 (upd H7 D (.lst (acc ++ [y]))) else Nx1 H6)
                  (fun j H => ∃ O ρ acc' dacc' rest2, LcJ g σ (L2.wipe σ2 ct1.ix) (ct.ix ++ ct1.ix) ρ1 H1 O1 D H O ρ acc' dacc' ∧ Fr (fun b => Wn σ2 ρ3 b ∨ b = D) H4 O4 H O ∧ (∀ b, Wn (L2.wipe σ2 ct1.ix) ρ b → Wn σ2 ρ3 b) ∧ lcRun (lcTurn ct1 [] se) (ys.drop j) ρ = .ok rest2 ρ4 ∧ dacc' ++ rest2 = dacc ++ o) ?_ ?_ ?_ ?_
                · exact ⟨O4, wipeR ρ3 ct1.ix, acc, dacc, o, L4, .refl _ _ _, fun b z => z.wipe, by rw [List.drop_zero]; exact el, rfl⟩
                · rintro j H _ ⟨O, ρ, acc', dacc', rest2, L5, f5, _⟩
                  exact wk1.good _ H O f5 hW5
                · rintro j x2 H5 H6 hj ⟨O5, ρ6, acc', dacc', rest2, L5, f5, w5, el5, ed5⟩ y2
                  obtain ⟨d2, hd2⟩ : ∃ d, ys[j]? = some d := ⟨ys[j], by simp [hj]⟩
                  have edrop2 : ys.drop j = d2 :: ys.drop (j + 1) := by
                    rw [List.drop_eq_getElem_cons hj]
                    rw [List.getElem?_eq_getElem hj] at hd2
                    cases hd2
                    rfl
                  rw [edrop2] at el5
                  obtain ⟨o2, ρm, rest3, es2, el6, rfl⟩ := lcRun_cons el5
                  obtain ⟨rd2, gr2⟩ := wk1.item _ H5 O5 j x2 H6 d2 f5 hW5 L5.st.obj y2 hd2
                  have L6 := L5.grow gr2
                  have f6 : Fr (fun b => Wn σ2 ρ3 b ∨ b = D) H4 O4 H6 O5 := by
                    rcases gr2 with rfl | ⟨T, ob, n, rfl⟩
                    · exact f5
                    · exact f5.trans (Fr.laid (W := fun _ => False) n) fun _ z => z.elim
                  unfold lcTurn at es2
                  split at es2
                  · rename_i ρ7 eb2
                    refine gT_of L6.st rd2 eb2 fun σ3 b2 => ?_
                    have hw2 : L2.wipe σ3 ct1.ix = L2.wipe σ2 ct1.ix := wipe_same (by rw [b2.len, wipe_length]) fun k n => by rw [(b2.out k n).1, wipe_get, if_neg n]
                    refine ⟨hw2, O5, ρ7, b2.st, ?_⟩
                    show RW WF g σ3 ρ7 H6 O5 (Re.ok true ρ7) _
                    refine fun H7 O7 s7 => ?_
                    show (if (true : Bool) = true then _ else _)
                    rw [if_pos rfl]
                    have es2 : ((se.v ρ7).bd fun r ρ4 => Re.ok (some r.d) (wipeR ρ4 ct1.ix)) = Re.ok o2 ρm := es2
                    refine ⟨O7, ρ7, s7.st, ?_⟩
                    cases ev : se.v ρ7 with
                    | ok r ρ8 =>
                      rw [ev] at es2
                      cases es2
                      refine fun v H8 O8 s8 rv => ?_
                      obtain ⟨O9, s9, rv9⟩ := rv.share s7.st s8
                      have L9 := ((L6.bnd b2).step (s7.trans s9)).wipe (ws := ct1.ix) hs1
                      rw [hw2] at L9
                      have w9 : ∀ b, Wn σ3 ρ7 b → Wn σ2 ρ3 b := fun b z => w5 b (b2.wn b z)
                      have f9 : Fr (fun b => Wn σ2 ρ3 b ∨ b = D) H4 O4 H8 O9 := f6.trans (s7.trans s9).fr fun c z => .inl (w9 c z)
                      refine ⟨acc', L9.at_, ?_, O9, _, _, _, rest3, L9.push rv9, ?_, fun b z => w9 b ((s7.trans s9).sub b (by rw [← hw2] at z; exact z.wipe)), el6, by rw [← ed5]; simp⟩
                      · rw [L9.rel.len, ← sizeL_eq]
                        have e1 := congrArg List.length ed
                        have e2 := congrArg List.length ed5
                        simp only [List.length_append] at e1 e2
                        omega
                      · refine ⟨fun b ob e n => ?_, fun b e => f9.there b ?_, f9.o1, f9.o2⟩
                        · rw [upd_ne fun hb => n (.inr hb)]
                          exact f9.keep b ob e n
                        · by_cases hb : b = D
                          · subst hb; rw [upd_same] at e; cases e
                          · rw [upd_ne hb] at e; exact e
                    | ex x' ρ8 => rw [ev] at es2; cases es2
                    | st => rw [ev] at es2; cases es2
                  · cases es2
                · rintro H5 ⟨O5, ρ6, acc', dacc', rest2, L5, _, _, el5, ed5⟩
                  rw [List.drop_length] at el5
                  cases el5
                  rw [List.append_nil] at ed5
                  subst ed5
                  have L7 := L5.wipe (ws := ct.ix ++ ct1.ix) fun _ h => h
                  rw [wipe_wipe hs1, hw] at L7
                  refine ⟨O5, _, _, _, rest', L7, fun i hi t e => ?_, er', by rw [List.append_assoc]; exact ed⟩
                  rw [wipeR_get, if_pos hi] at e
                  split at e <;> cases e
                  rfl
              | ex x' ρ4 => rw [el] at es; cases es
              | st => rw [el] at es; cases es
            | ex x' ρ3 => rw [ei] at es; cases es
            | st => rw [ei] at es; cases es
          · cases es
        · rintro H' ⟨O', ρ', acc, dacc, rest, L, _, er', ed⟩
          rw [List.drop_length] at er'
          cases er'
          rw [List.append_nil] at ed
          subst ed
          have hlen : ρ5.length = ρ1.length := by rw [← L.st.len, wipe_length, s1.st.len]
          have bk := fun i => (backR_get (i := i) hlen (vs := ct.ix ++ ct1.ix)).1
          have own_out : ∀ {i : Nat} {s : Sl}, (backR ρ1 ρ5 (ct.ix ++ ct1.ix))[i]? = some s → s.own = true → i ∉ ct.ix ++ ct1.ix ∧ ρ5[i]? = some s := fun {i s} e o => by
            rw [bk] at e
            by_cases hi : i ∈ ct.ix ++ ct1.ix
            · rw [if_pos hi] at e
              obtain ⟨s', e', o'⟩ := noOwn_at hno hi
              rw [e] at e'
              cases e'
              rw [o] at o'
              cases o'
            · rw [if_neg hi] at e
              exact ⟨hi, e⟩
          have sub : ∀ b, Wn σ (backR ρ1 ρ5 (ct.ix ++ ct1.ix)) b → Wn (L2.wipe σ (ct.ix ++ ct1.ix)) ρ5 b := fun b ⟨i, s, e1, o, e2⟩ => by
            obtain ⟨n, e⟩ := own_out e1 o
            exact ⟨i, s, e, o, by rw [wipe_get, if_neg n]; exact e2⟩
          have stf : StR g H' O' σ (backR ρ1 ρ5 (ct.ix ++ ct1.ix)) := by
            refine ⟨by rw [(backR_get (i := 0) hlen (vs := ct.ix ++ ct1.ix)).2, ← L.st.len, wipe_length], fun i v s e1 e2 => ?_, fun i j s t a e1 o1 e2 o2 f1 f2 => ?_, L.st.obj⟩
            · rw [bk] at e2
              by_cases hi : i ∈ ct.ix ++ ct1.ix
              · rw [if_pos hi] at e2
                obtain ⟨s', e', o'⟩ := noOwn_at hno hi
                rw [e2] at e'
                cases e'
                have z := s1.st.at_ i v s e1 e2
                cases z with
                | no => exact .no
                | sh r => exact .sh (r.fr L.fr s1.st.wn)
                | ow _ _ => cases o'
                | io _ _ => cases o'
              · rw [if_neg hi] at e2
                exact L.st.at_ i v s (by rw [wipe_get, if_neg hi]; exact e1) e2
            · obtain ⟨n1, g1⟩ := own_out e1 o1
              obtain ⟨n2, g2⟩ := own_out e2 o2
              exact L.st.one i j s t a g1 o1 g2 o2 (by rw [wipe_get, if_neg n1]; exact f1) (by rw [wipe_get, if_neg n2]; exact f2)
          refine q1 _ H' O' (s1.trans ⟨L.fr, stf, fun b z => L.wn b (sub b z), fun i d e => ?_⟩) ⟨D, rfl, s1.fr.there D nD, L.own, fun z => L.nwn (sub D z), .lst L.at_ L.rel⟩
          have n : i ∉ ct.ix ++ ct1.ix := fun hi => by
            obtain ⟨s', e', o'⟩ := noOwn_at hno hi
            rw [e] at e'
            cases e'
            cases o'
          obtain ⟨d', e'⟩ := L.io i d n e
          exact ⟨d', by rw [bk, if_neg n]; exact e'⟩
      · dsimp only at q1
        rw [if_neg hz] at q1
        exact q1.elim
    | ex x ρ5 => rw [er] at q1; exact q1.elim
    | st => rw [er] at q1; exact q1.elim
  · rw [if_neg hno] at q1
    exact q1.elim
theorem de_lc2 {elt tg iter tg1 iter1 : Expr} {scope : Scope} {own : List (Str × Nat)} {it it1 : Rho → Re (List Wr.D)} {se : Sm} {ct ct1 : CT} (hi : PI X tg iter (tI g W it)) (ok : BlkOk X.N X.env.scope scope own) (hix : own.map (·.2) = ct.ix ++ ct1.ix)
    (hg : ∀ (s : Shared) (H : Hp) (C : Addr) (cl : List (Str × Addr)) (fp : List Addr), PG (X.blk s H scope (compEnvC scope cl C X.env) fp) tg (gT X.K ct))
    (hi1 : ∀ (s : Shared) (H : Hp) (C : Addr) (cl : List (Str × Addr)) (fp : List Addr), PI (X.blk s H scope (compEnvC scope cl C X.env) fp) tg1 iter1 (tI g WF it1))
    (hg1 : ∀ (s : Shared) (H : Hp) (C : Addr) (cl : List (Str × Addr)) (fp : List Addr), PG (X.blk s H scope (compEnvC scope cl C X.env) fp) tg1 (gT X.K ct1))
    (he : ∀ (s : Shared) (H : Hp) (C : Addr) (cl : List (Str × Addr)) (fp : List Addr), PE (X.blk s H scope (compEnvC scope cl C X.env) fp) elt (tE g WF se.v)) (hs : ∀ x, foldedSetIterable iter X.env x = pure x) (hs1 : ∀ env x, foldedSetIterable iter1 env x = pure x) :
    PE X (.ListComp elt [⟨tg, iter, [], 0⟩, ⟨tg1, iter1, [], 0⟩] scope pos) (tE g W (lc2V ct it ct1 it1 se)) := by
  have h := pe_lc2 (pos := pos) (vs1 := ct1.ix) (tt := tQ g WF (evTs [])) (tt1 := tQ g WF (evTs [])) C.calm C.nd hi ok (by rw [hix]; exact fun i hi => List.mem_append_right _ hi) hg (fun _ _ _ _ _ => ts_nil) hi1 hg1 (fun _ _ _ _ _ => ts_nil) he hs hs1
  rw [hix] at h
  exact peImp h fun σ H Q q => lc2_red (elt := elt) (tg := tg) (iter := iter) C q
end
end Wr

/-! Calls of the text's own defs. -/
namespace Wr
open PySem PySem.Spec L2
open PyProof.Rows hiding St

/-- a def's promise where nothing is being shown by repr around it -/
structure FnG (g : Gm) (P : Program) (w : World) (base : Heap) (k : Nat) (f : Addr) (fd : FuncData) (ps : List Str) (sp : Sp) : Prop where
  len : ∀ vs H Q E, sp vs H Q E → vs.length = ps.length
  run : ∀ (A : Around) (outer : List Env) (s : Shared) (H : Hp) (args : Args) (us : List Value) (vs : List V) (Q : VK) (E : XK), Room k A → A.guards = some [] →
    Env0 P w g.K g.mg base A outer s H → BindsTo s fd args (ps.zip us) → Vals vs us → sp vs H Q E → codeAny (model P w) A (.call (.ref f) args) (L2.CR (L2.CX P w) outer P w H s Q E) s

/-- behind a call: what was lent has come back -/
structure CBk (g : Gm) (vs : List V) (args back : Rho) (H : Hp) (O : AP1) (H' : Hp) (O' : AP1) : Prop where
  fr : Fr (Wn (vs.map some) args) H O H' O'
  obj : ∀ b, O' b → H' b ≠ none
  io : ∀ (k : Nat) (d : D), args[k]? = some (Sl.io d) → ∃ (a : Addr) (d' : D), vs[k]? = some (.ref a) ∧ back[k]? = some (Sl.io d') ∧ O' a ∧ Ob g H' O' a d'
def RsF (g : Gm) (H : Hp) (H' : Hp) (O' : AP1) (v : V) : Rs → Prop
  | .sh d => RD g H' O' v d
  | .fr d => ∃ a, v = .ref a ∧ H a = none ∧ O' a ∧ Ob g H' O' a d
def CRo (g : Gm) (vs : List V) (args : Rho) (H : Hp) (O : AP1) (Q : VK) (E : XK) : CR → Prop
  | .ok r back => ∀ v H' O', CBk g vs args back H O H' O' → RsF g H H' O' v r → Q v H'
  | .ex x back => ∀ c dx H' O', CBk g vs args back H O H' O' → XnR g H' O' x c dx → E c dx H'
  | .st => False
def lentS : Sl → Bool
  | .sh _ => true
  | .io _ => true
  | _ => false
/-- the promise of a def that computes cf -/
def spF (g : Gm) (cf : List Sl → CR) : Sp := fun vs H Q E => ∃ O args, StR g H O (vs.map some) args ∧ args.all lentS = true ∧ CRo g vs args H O Q E (cf args)

/-! ### arguments -/
def AgR (g : Gm) (H : Hp) (O : AP1) (σ : St) (v : V) : Ag → Prop
  | .inl d => RD g H O v d
  | .inr j => σ[j]? = some (some v)
def tAg (g : Gm) (W : WX) (f : Rho → Re (List Ag)) : TA := fun σ H Q => ∃ O ρ, StR g H O σ ρ ∧ RW W g σ ρ H O (f ρ) fun as ρ' => ∀ vs H' O', Stp g σ ρ H O ρ' H' O' → Paired (AgR g H' O' σ) vs as → Q vs H'
inductive ArR (g : Gm) (W : WX) (X : Cx) : Expr → (Sm ⊕ Nat) → Prop where
  | ex {e : Expr} {s : Sm} : AS g W X e s → ArR g W X e (.inl s)
  | io {x : Str} {p : Pos} {j : Nat} : PE X (.Name x p) (tVar j) → ArR g W X (.Name x p) (.inr j)
section
variable {g : Gm} {W : WX} {X : Cx} {pos : Pos}
theorem ArR.ns {e : Expr} {s : Sm ⊕ Nat} (h : ArR g W X e s) : NotStar e := by
  cases h with
  | ex h => exact h.ns
  | io h => exact fun _ _ => rfl
theorem run_ag {β : Type} {K : β → Rho → Prop} {k : List Ag → Rho → Re β} {f : Rho → Re (List Ag)} {σ : St} {ρ : Rho} {H : Hp} {O : AP1} {Q : List V → Hp → Prop} (S : StR g H O σ ρ) (h : RW W g σ ρ H O ((f ρ).bd k) K)
    (next : ∀ ds ρ1 vs H1 O1, Stp g σ ρ H O ρ1 H1 O1 → Paired (AgR g H1 O1 σ) vs ds → RW W g σ ρ1 H1 O1 (k ds ρ1) K → Q vs H1) : tAg g W f σ H Q :=
  ⟨O, ρ, S, (RW.bd h).imp fun r ρ1 h1 v H1 O1 s1 r1 => next r ρ1 v H1 O1 s1 r1 (h1.rebase s1)⟩
theorem AgR.stp {H H1 : Hp} {O O1 : AP1} {σ : St} {ρ ρ1 : Rho} {v : V} {a : Ag} (h : AgR g H O σ v a) (S : StR g H O σ ρ) (s : Stp g σ ρ H O ρ1 H1 O1) : AgR g H1 O1 σ v a := by
  cases a with
  | inl d => exact s.rd S h
  | inr j => exact h
theorem pas_ag : ∀ {es : List Expr} {ss : List (Sm ⊕ Nat)}, Paired (ArR g W X) es ss → PA X es (tAg g W (evA ss))
  | [], _, .nil => paImp pa_nil fun σ H Q ⟨O, ρ, S, q⟩ => q [] H O (.refl S) .nil
  | e :: es, _, .cons h hs => by
    have ih := pas_ag hs
    cases h with
    | ex h =>
      refine paImp (pa_cons h.es.v ih (h.ns es _)) fun σ H Q ⟨O, ρ, S, q⟩ => ?_
      refine run_s S q fun r ρ1 v H1 O1 s1 rv q1 => run_ag s1.st q1 fun ds ρ2 vs H2 O2 s2 rvs q2 => ?_
      exact q2 (v :: vs) H2 O2 (s1.trans s2) (.cons (s2.rd s1.st rv) rvs)
    | io h =>
      refine paImp (pa_cons h ih rfl) fun σ H Q ⟨O, ρ, S, q⟩ => ?_
      simp only [evA] at q
      split at q
      · rename_i s es
        split at q
        · rename_i o
          obtain ⟨v, ev, r⟩ := S.get es
          cases r with
          | no => cases o
          | sh _ => cases o
          | ow oa ob => exact ⟨_, ev, run_ag S q fun ds ρ2 vs H2 O2 s2 rvs q2 => q2 (_ :: vs) H2 O2 s2 (.cons ev rvs)⟩
          | io oa ob => exact ⟨_, ev, run_ag S q fun ds ρ2 vs H2 O2 s2 rvs q2 => q2 (_ :: vs) H2 O2 s2 (.cons ev rvs)⟩
        · exact q.elim
      · exact q.elim
theorem no_starA : ∀ {es : List Expr} {ss : List (Sm ⊕ Nat)}, Paired (ArR g W X) es ss → ∀ (pos : Pos) (env : Env), (backTo pos (starEach es env)).any (·.1) = false
  | [], _, .nil, _, _ => rfl
  | e :: es, _, .cons h hs, pos, env => by
    have z := no_starA hs pos env
    unfold backTo at z ⊢
    rw [h.ns es env, List.map_cons, List.any_cons, z]
    rfl

/-! ### lending -/
theorem lend_get {ρ : Rho} : ∀ {as : List Ag} {sls : Rho}, lend ρ as = some sls → sls.length = as.length ∧ ∀ (k : Nat) (a : Ag), as[k]? = some a → ∃ s, sls[k]? = some s ∧ (match a with
    | .inl d => s = .sh d
    | .inr j => ∃ d, s = .io d ∧ (ρ[j]? = some (.ow d) ∨ ρ[j]? = some (.io d)))
  | [], _, e => by cases e; exact ⟨rfl, fun k a h => by simp at h⟩
  | .inl d :: r, _, e => by
    obtain ⟨q, e1, rfl⟩ := Option.map_eq_some_iff.mp (show (lend ρ r).map (.sh d :: ·) = some _ from e)
    obtain ⟨h1, h2⟩ := lend_get e1
    refine ⟨by rw [List.length_cons, List.length_cons, h1], fun k a h => ?_⟩
    cases k with
    | zero => cases h; exact ⟨_, rfl, rfl⟩
    | succ k => exact h2 k a h
  | .inr j :: r, _, e => by
    unfold lend at e
    split at e
    · rename_i d q e1 e2
      cases e
      obtain ⟨h1, h2⟩ := lend_get e2
      refine ⟨by rw [List.length_cons, List.length_cons, h1], fun k a h => ?_⟩
      cases k with
      | zero => cases h; exact ⟨_, rfl, d, rfl, .inl e1⟩
      | succ k => exact h2 k a h
    · rename_i d q e1 e2
      cases e
      obtain ⟨h1, h2⟩ := lend_get e2
      refine ⟨by rw [List.length_cons, List.length_cons, h1], fun k a h => ?_⟩
      cases k with
      | zero => cases h; exact ⟨_, rfl, d, rfl, .inr e1⟩
      | succ k => exact h2 k a h
    · cases e
theorem lent_mem : ∀ {as : List Ag} {k j : Nat}, as[k]? = some (.inr j) → j ∈ lent as
  | [], _, _, h => by simp at h
  | .inl _ :: r, 0, _, h => by cases h
  | .inl _ :: r, k + 1, j, h => lent_mem (as := r) (k := k) h
  | .inr i :: r, 0, j, h => by cases h; exact List.mem_cons_self
  | .inr i :: r, k + 1, j, h => List.mem_cons_of_mem _ (lent_mem (as := r) (k := k) h)
theorem lent_one : ∀ {as : List Ag} {k l j : Nat}, (lent as).Nodup → as[k]? = some (.inr j) → as[l]? = some (.inr j) → k = l
  | [], _, _, _, _, h, _ => by simp at h
  | .inl _ :: r, 0, _, _, _, h, _ => by cases h
  | .inl _ :: r, _ + 1, 0, _, _, _, h => by cases h
  | .inl _ :: r, k + 1, l + 1, j, n, h, h' => congrArg (· + 1) (lent_one (as := r) n h h')
  | .inr i :: r, 0, 0, j, n, h, h' => rfl
  | .inr i :: r, 0, l + 1, j, n, h, h' => by
    cases h
    exact absurd (lent_mem (as := r) (k := l) h') (List.nodup_cons.mp n).1
  | .inr i :: r, k + 1, 0, j, n, h, h' => by
    cases h'
    exact absurd (lent_mem (as := r) (k := k) h) (List.nodup_cons.mp n).1
  | .inr i :: r, k + 1, l + 1, j, n, h, h' => congrArg (· + 1) (lent_one (as := r) (List.nodup_cons.mp n).2 h h')
theorem lent_at : ∀ {as : List Ag} {j : Nat}, j ∈ lent as → ∃ k : Nat, as[k]? = some (.inr j)
  | [], _, h => by cases h
  | .inl _ :: r, j, h => by
    obtain ⟨k, e⟩ := lent_at (as := r) h
    exact ⟨k + 1, e⟩
  | .inr i :: r, j, h => by
    rcases List.mem_cons.mp h with rfl | h
    · exact ⟨0, rfl⟩
    · obtain ⟨k, e⟩ := lent_at (as := r) h
      exact ⟨k + 1, e⟩
structure HomeR (as : List Ag) (back ρ ρ' : Rho) : Prop where
  len : ρ'.length = ρ.length
  out : ∀ i, i ∉ lent as → ρ'[i]? = ρ[i]?
  at_ : ∀ (k j : Nat), as[k]? = some (.inr j) → ∃ d d' : D, back[k]? = some (Sl.io d') ∧ ((ρ[j]? = some (Sl.ow d) ∧ ρ'[j]? = some (Sl.ow d')) ∨ (ρ[j]? = some (Sl.io d) ∧ ρ'[j]? = some (Sl.io d')))
theorem home_of : ∀ {as : List Ag} {back ρ ρ' : Rho}, (lent as).Nodup → home as back ρ = some ρ' → HomeR as back ρ ρ'
  | [], _, _, _, _, e => by cases e; exact ⟨rfl, fun _ _ => rfl, fun k j h => by simp at h⟩
  | .inl _ :: r, [], _, _, _, e => by cases e
  | .inl _ :: r, _ :: q, ρ, ρ', n, e => by
    have h := home_of (as := r) n (show home r q ρ = some ρ' from e)
    refine ⟨h.len, h.out, fun k j hk => ?_⟩
    cases k with
    | zero => cases hk
    | succ k => exact h.at_ k j hk
  | .inr j :: r, [], _, _, _, e => by cases e
  | .inr j :: r, .no :: q, _, _, _, e => by cases e
  | .inr j :: r, .sh _ :: q, _, _, _, e => by cases e
  | .inr j :: r, .ow _ :: q, _, _, _, e => by cases e
  | .inr j :: r, .io d' :: q, ρ, ρ', n, e => by
    obtain ⟨nj, n'⟩ := List.nodup_cons.mp n
    have e : (match ρ[j]? with
      | some (.ow _) => home r q (ρ.set j (.ow d'))
      | some (.io _) => home r q (ρ.set j (.io d'))
      | _ => none) = some ρ' := e
    have go : ∀ (s s' : Sl), ρ[j]? = some s → HomeR r q (ρ.set j s') ρ' → ((∃ d, s = .ow d) ∧ s' = .ow d' ∨ (∃ d, s = .io d) ∧ s' = .io d') → HomeR (.inr j :: r) (.io d' :: q) ρ ρ' := fun s s' hs h c => by
      have hl : j < ρ.length := (List.getElem?_eq_some_iff.mp hs).1
      refine ⟨by rw [h.len, List.length_set], fun i hi => ?_, fun k i hk => ?_⟩
      · have h1 : i ∉ lent r := fun z => hi (List.mem_cons_of_mem _ z)
        have h2 : j ≠ i := fun z => hi (by rw [z]; exact List.mem_cons_self)
        rw [h.out i h1, List.getElem?_set_ne h2]
      · cases k with
        | zero =>
          cases hk
          have ej : ρ'[j]? = some s' := by rw [h.out j nj, List.getElem?_set_self hl]
          rcases c with ⟨⟨d, rfl⟩, rfl⟩ | ⟨⟨d, rfl⟩, rfl⟩
          · exact ⟨d, d', rfl, .inl ⟨hs, ej⟩⟩
          · exact ⟨d, d', rfl, .inr ⟨hs, ej⟩⟩
        | succ k =>
          have hk' : r[k]? = some (.inr i) := hk
          have hne : j ≠ i := fun z => nj (by rw [z]; exact lent_mem hk')
          obtain ⟨d, d2, e1, e2⟩ := h.at_ k i hk'
          rw [List.getElem?_set_ne hne] at e2
          exact ⟨d, d2, e1, e2⟩
    split at e
    · rename_i d hs
      exact go _ _ hs (home_of n' e) (.inl ⟨⟨d, rfl⟩, rfl⟩)
    · rename_i d hs
      exact go _ _ hs (home_of n' e) (.inr ⟨⟨d, rfl⟩, rfl⟩)
    · cases e

section
variable {σ : St} {ρ ρ' : Rho} {H H' : Hp} {O O' : AP1} {as : List Ag} {vs : List V} {sls back : Rho}
theorem pairedGet {α β : Type} {F : α → β → Prop} : ∀ {xs : List α} {ys : List β} {i : Nat} {x : α}, Paired F xs ys → xs[i]? = some x → ∃ y, ys[i]? = some y ∧ F x y
  | _, _, _, _, .nil, e => by simp at e
  | _, _, 0, _, .cons h _, e => by simp at e; subst e; exact ⟨_, by simp, h⟩
  | _, _, i + 1, x, .cons _ hs, e => by
    obtain ⟨y, e1, h⟩ := pairedGet (i := i) (x := x) hs (by simpa using e)
    exact ⟨y, by simpa using e1, h⟩
theorem pairedGetR {α β : Type} {F : α → β → Prop} : ∀ {xs : List α} {ys : List β} {i : Nat} {y : β}, Paired F xs ys → ys[i]? = some y → ∃ x, xs[i]? = some x ∧ F x y
  | _, _, _, _, .nil, e => by simp at e
  | _, _, 0, _, .cons h _, e => by simp at e; subst e; exact ⟨_, by simp, h⟩
  | _, _, i + 1, x, .cons _ hs, e => by
    obtain ⟨y, e1, h⟩ := pairedGetR (i := i) (y := x) hs (by simpa using e)
    exact ⟨y, by simpa using e1, h⟩
/-- an argument's slot of the callee, by the caller's -/
theorem lend_at (S : StR g H O σ ρ) (hv : Paired (AgR g H O σ) vs as) (hl : lend ρ as = some sls) {k : Nat} {v : V} {s : Sl} (ev : vs[k]? = some v) (es : sls[k]? = some s) :
    (∃ d, s = .sh d ∧ RD g H O v d) ∨ ∃ (a : Addr) (d : D) (j : Nat), s = .io d ∧ v = .ref a ∧ as[k]? = some (.inr j) ∧ O a ∧ Ob g H O a d ∧ σ[j]? = some (some (.ref a)) ∧ (ρ[j]? = some (.ow d) ∨ ρ[j]? = some (.io d)) := by
  obtain ⟨a, ea, r⟩ := pairedGet hv ev
  obtain ⟨s', es', m⟩ := (lend_get hl).2 k a ea
  rw [es] at es'
  cases es'
  cases a with
  | inl d =>
    have m' : s = .sh d := m
    exact .inl ⟨d, m', r⟩
  | inr j =>
    obtain ⟨d, rfl, hd⟩ := m
    have r' : σ[j]? = some (some v) := r
    rcases hd with hd | hd
    · have z := S.at_ j _ _ r' hd
      cases z with
      | ow oa ob => exact .inr ⟨_, d, j, rfl, rfl, ea, oa, ob, r', .inl hd⟩
    · have z := S.at_ j _ _ r' hd
      cases z with
      | io oa ob => exact .inr ⟨_, d, j, rfl, rfl, ea, oa, ob, r', .inr hd⟩
theorem lend_st (S : StR g H O σ ρ) (hv : Paired (AgR g H O σ) vs as) (hl : lend ρ as = some sls) (nd : (lent as).Nodup) : StR g H O (vs.map some) sls := by
  have hlen : vs.length = sls.length := by rw [(lend_get hl).1]; exact Paired.length hv
  have at1 : ∀ {k : Nat} {w : Option V}, (vs.map some)[k]? = some w → ∃ v, w = some v ∧ vs[k]? = some v := fun {k w} e => by
    rw [List.getElem?_map] at e
    cases q : vs[k]? with
    | none => rw [q] at e; cases e
    | some v => rw [q] at e; cases e; exact ⟨v, rfl, rfl⟩
  refine ⟨by rw [List.length_map]; exact hlen, fun k w s e1 e2 => ?_, fun k l s t a e1 o1 e2 o2 f1 f2 => ?_, S.obj⟩
  · obtain ⟨v, rfl, ev⟩ := at1 e1
    rcases lend_at S hv hl ev e2 with ⟨d, rfl, r⟩ | ⟨a, d, j, rfl, rfl, _, oa, ob, _⟩
    · exact .sh r
    · exact .io oa ob
  · obtain ⟨v, ev, e3⟩ := at1 f1
    obtain ⟨v', ev', e4⟩ := at1 f2
    cases ev
    cases ev'
    rcases lend_at S hv hl e3 e1 with ⟨d, rfl, r⟩ | ⟨b, d, j, rfl, eb, ej, _, _, sj, rj⟩
    · cases o1
    · rcases lend_at S hv hl e4 e2 with ⟨d, rfl, r⟩ | ⟨b', d', j', rfl, eb', ej', _, _, sj', rj'⟩
      · cases o2
      · cases eb
        cases eb'
        have hj : j = j' := by
          rcases rj with q1 | q1 <;> rcases rj' with q2 | q2 <;> exact S.one j j' _ _ a q1 rfl q2 rfl sj sj'
        subst hj
        exact lent_one nd ej ej'
theorem lend_all (hl : lend ρ as = some sls) : sls.all lentS = true := by
  refine List.all_eq_true.mpr fun s hs => ?_
  obtain ⟨k, ek⟩ := List.mem_iff_getElem?.mp hs
  have hk : k < as.length := by rw [← (lend_get hl).1]; exact (List.getElem?_eq_some_iff.mp ek).1
  obtain ⟨s', e', m⟩ := (lend_get hl).2 k as[k] (by simp [hk])
  rw [ek] at e'
  cases e'
  revert m
  cases as[k] with
  | inl d => rintro rfl; rfl
  | inr j => rintro ⟨d, rfl, _⟩; rfl
/-- the lent objects are of the caller's own -/
theorem lend_wn (S : StR g H O σ ρ) (hv : Paired (AgR g H O σ) vs as) (hl : lend ρ as = some sls) {b : Addr} (h : Wn (vs.map some) sls b) : ∃ (k j : Nat), as[k]? = some (.inr j) ∧ σ[j]? = some (some (.ref b)) ∧ ∃ s, ρ[j]? = some s ∧ s.own = true := by
  obtain ⟨k, s, e1, o, e2⟩ := h
  rw [List.getElem?_map] at e2
  cases q : vs[k]? with
  | none => rw [q] at e2; cases e2
  | some v =>
    rw [q] at e2
    cases e2
    rcases lend_at S hv hl q e1 with ⟨d, rfl, r⟩ | ⟨a, d, j, rfl, eb, ej, _, _, sj, rj⟩
    · cases o
    · cases eb
      rcases rj with z | z
      · exact ⟨k, j, ej, sj, _, z, rfl⟩
      · exact ⟨k, j, ej, sj, _, z, rfl⟩
theorem call_stp (S : StR g H O σ ρ) (hv : Paired (AgR g H O σ) vs as) (hl : lend ρ as = some sls) (nd : (lent as).Nodup) (hh : HomeR as back ρ ρ') (b : CBk g vs sls back H O H' O') : Stp g σ ρ H O ρ' H' O' := by
  have wsub : ∀ c, Wn (vs.map some) sls c → Wn σ ρ c := fun c z => by
    obtain ⟨k, j, _, sj, s, es, o⟩ := lend_wn S hv hl z
    exact ⟨j, s, es, o, sj⟩
  have wO : ∀ c, Wn (vs.map some) sls c → O c := fun c z => S.wn c (wsub c z)
  have lentAt : ∀ {i : Nat}, i ∈ lent as → ∃ (a : Addr) (d d' : D), σ[i]? = some (some (.ref a)) ∧ O' a ∧ Ob g H' O' a d' ∧ ((ρ[i]? = some (.ow d) ∧ ρ'[i]? = some (.ow d')) ∨ (ρ[i]? = some (.io d) ∧ ρ'[i]? = some (.io d'))) := fun {i} hi => by
    obtain ⟨k, ek⟩ := lent_at hi
    obtain ⟨d, d', eb, c⟩ := hh.at_ k i ek
    obtain ⟨v, ev, r⟩ := pairedGetR hv ek
    obtain ⟨s, es, m⟩ := (lend_get hl).2 k _ ek
    obtain ⟨d0, rfl, _⟩ := m
    obtain ⟨a, d2, ev', eb', oa, ob⟩ := b.io k d0 es
    rw [ev] at ev'
    cases ev'
    rw [eb] at eb'
    cases eb'
    exact ⟨a, d, d', r, oa, ob, c⟩
  refine ⟨b.fr.mono wsub, ⟨by rw [S.len, hh.len], fun i v s e1 e2 => ?_, fun i j s t a e1 o1 e2 o2 f1 f2 => ?_, b.obj⟩, fun c ⟨i, s, e1, o, e2⟩ => ?_, fun i d e => ?_⟩
  · by_cases hi : i ∈ lent as
    · obtain ⟨a, d, d', sa, oa, ob, c⟩ := lentAt hi
      rw [sa] at e1
      cases e1
      rcases c with ⟨_, c⟩ | ⟨_, c⟩
      · rw [e2] at c; cases c; exact .ow oa ob
      · rw [e2] at c; cases c; exact .io oa ob
    · rw [hh.out i hi] at e2
      have z := S.at_ i v s e1 e2
      have nw : ∀ {a : Addr}, v = some (.ref a) → s.own = true → ¬ Wn (vs.map some) sls a := fun {a} ea o w => by
        obtain ⟨k, j, ej, sj, t, et, ot⟩ := lend_wn S hv hl w
        have := S.one i j s t a e2 o et ot (by rw [e1, ea]) sj
        subst this
        exact hi (lent_mem ej)
      cases z with
      | no => exact .no
      | sh r => exact .sh (r.fr b.fr wO)
      | ow oa ob => exact .ow (b.fr.o1 _ oa (nw rfl rfl)) (ob.fr b.fr wO (nw rfl rfl))
      | io oa ob => exact .io (b.fr.o1 _ oa (nw rfl rfl)) (ob.fr b.fr wO (nw rfl rfl))
  · have back1 : ∀ {i : Nat} {s : Sl}, ρ'[i]? = some s → s.own = true → ∃ s', ρ[i]? = some s' ∧ s'.own = true := fun {i s} e o => by
      by_cases hi : i ∈ lent as
      · obtain ⟨_, d, d', _, _, _, c⟩ := lentAt hi
        rcases c with ⟨c, _⟩ | ⟨c, _⟩
        · exact ⟨_, c, rfl⟩
        · exact ⟨_, c, rfl⟩
      · rw [hh.out i hi] at e; exact ⟨s, e, o⟩
    obtain ⟨s', g1, p1⟩ := back1 e1 o1
    obtain ⟨t', g2, p2⟩ := back1 e2 o2
    exact S.one i j s' t' a g1 p1 g2 p2 f1 f2
  · by_cases hi : i ∈ lent as
    · obtain ⟨_, d, d', _, _, _, c⟩ := lentAt hi
      rcases c with ⟨c, _⟩ | ⟨c, _⟩
      · exact ⟨i, _, c, rfl, e2⟩
      · exact ⟨i, _, c, rfl, e2⟩
    · rw [hh.out i hi] at e1; exact ⟨i, s, e1, o, e2⟩
  · by_cases hi : i ∈ lent as
    · obtain ⟨_, d0, d', _, _, _, c⟩ := lentAt hi
      rcases c with ⟨c, _⟩ | ⟨_, c⟩
      · rw [e] at c; cases c
      · exact ⟨d', c⟩
    · exact ⟨d, by rw [hh.out i hi]; exact e⟩
end
end

section
variable {g : Gm} {W : WX} {X : Cx}
/-- keywords by name: their names, their values -/
theorem kw_plain {kws : List Keyword} {ks : List Str} {pos : Pos} {env : Env} (h : kws.map (·.arg) = ks.map some) : (backToKw pos (keywordEach kws env)).all (fun p => p.1.isSome) = true ∧ (backToKw pos (keywordEach kws env)).filterMap (fun p => p.1) = ks ∧ (backToKw pos (keywordEach kws env)).any (fun p => p.1.isNone) = false := by
  induction kws generalizing ks with
  | nil =>
    cases ks with
    | nil => exact ⟨rfl, rfl, rfl⟩
    | cons _ _ => cases h
  | cons w ws ih =>
    cases ks with
    | nil => cases h
    | cons k ks =>
      obtain ⟨nm, v, kp⟩ := w
      rw [List.map_cons, List.map_cons] at h
      obtain ⟨e1, e2⟩ := List.cons.inj h
      obtain ⟨i1, i2, i3⟩ := ih e2
      have e1' : nm = some k := e1
      subst e1'
      unfold backToKw at i1 i2 i3 ⊢
      refine ⟨?_, ?_, ?_⟩
      · simp only [keywordEach, List.map_cons, List.all_cons, Option.isSome_some, Bool.true_and]
        exact i1
      · refine (List.filterMap_cons_some (f := fun p : Option Str × Sem Value => p.1) (b := k) rfl).trans ?_
        exact congrArg (List.cons k) i2
      · simp only [keywordEach, List.map_cons, List.any_cons, Option.isNone_some, Bool.false_or]
        exact i3
theorem pk_of {ss : List Sm} : ∀ {kws : List Keyword}, Paired (AS g W X) (kws.map (·.value)) ss → PK X kws (tAs g W (evEs ss))
  | [], h => by
    cases h
    exact ⟨fun pos pins s σ H Q I ⟨O, ρ, S, q⟩ => pk_nil.run pos pins s σ H Q I (q [] H O (.refl S) .nil)⟩
  | ⟨nm, v, kp⟩ :: kws, h => by
    cases h with
    | cons h hs =>
      have ih := pk_of hs
      refine ⟨fun pos pins s σ H Q I ⟨O, ρ, S, q⟩ => (pk_cons (nm := nm) (kpos := kp) h.es.v ih).run pos pins s σ H Q I ?_⟩
      refine run_s S q fun r ρ1 v H1 O1 s1 rv q1 => run_as s1.st q1 fun ds ρ2 vs H2 O2 s2 rvs q2 => ?_
      exact q2 (v :: vs) H2 O2 (s1.trans s2) (.cons (s2.rd s1.st rv) rvs)
theorem permL_vals {us : List Value} {vs : List V} (h : Vals vs us) : ∀ pm : List Nat, Vals (permL pm vs) (permL pm us)
  | [] => .nil
  | i :: pm => by
    have ih := permL_vals h pm
    unfold permL at ih ⊢
    have key : (vs[i]? = none ∧ us[i]? = none) ∨ ∃ v u, vs[i]? = some v ∧ us[i]? = some u ∧ RelV v u := by
      clear ih
      induction h generalizing i with
      | nil => exact .inl ⟨rfl, rfl⟩
      | cons r rs ih =>
        cases i with
        | zero => exact .inr ⟨_, _, rfl, rfl, r⟩
        | succ i => exact ih i
    rcases key with ⟨e1, e2⟩ | ⟨v, u, e1, e2, r⟩
    · rw [List.filterMap_cons_none e1, List.filterMap_cons_none e2]
      exact ih
    · rw [List.filterMap_cons_some e1, List.filterMap_cons_some e2]
      exact .cons r ih
theorem permL_ag {H : Hp} {O : AP1} {σ : St} {vs : List V} {as : List Ag} (h : Paired (AgR g H O σ) vs as) : ∀ pm : List Nat, Paired (AgR g H O σ) (permL pm vs) (permL pm as)
  | [] => .nil
  | i :: pm => by
    have ih := permL_ag h pm
    unfold permL at ih ⊢
    have key : (vs[i]? = none ∧ as[i]? = none) ∨ ∃ v u, vs[i]? = some v ∧ as[i]? = some u ∧ AgR g H O σ v u := by
      clear ih
      induction h generalizing i with
      | nil => exact .inl ⟨rfl, rfl⟩
      | cons r rs ih =>
        cases i with
        | zero => exact .inr ⟨_, _, rfl, rfl, r⟩
        | succ i => exact ih i
    rcases key with ⟨e1, e2⟩ | ⟨v, u, e1, e2, r⟩
    · rw [List.filterMap_cons_none e1, List.filterMap_cons_none e2]
      exact ih
    · rw [List.filterMap_cons_some e1, List.filterMap_cons_some e2]
      exact .cons r ih
theorem ag_stp {H H1 : Hp} {O O1 : AP1} {σ : St} {ρ ρ1 : Rho} (S : StR g H O σ ρ) (s : Stp g σ ρ H O ρ1 H1 O1) : ∀ {vs : List V} {as : List Ag}, Paired (AgR g H O σ) vs as → Paired (AgR g H1 O1 σ) vs as
  | _, _, .nil => .nil
  | _, _, .cons r rs => .cons (r.stp S s) (ag_stp S s rs)
theorem ag_of {H : Hp} {O : AP1} {σ : St} : ∀ {zs : List V} {ds : List Wr.D}, RDs g H O zs ds → Paired (AgR g H O σ) zs (ds.map Sum.inl)
  | _, _, .nil => .nil
  | _, _, .cons h hs => .cons h (ag_of hs)
theorem ag_app {H : Hp} {O : AP1} {σ : St} {zs : List V} {ds : List Wr.D} (h2 : RDs g H O zs ds) : ∀ {vs : List V} {as : List Ag}, Paired (AgR g H O σ) vs as → Paired (AgR g H O σ) (vs ++ zs) (as ++ ds.map .inl)
  | _, _, .cons h hs => .cons h (ag_app h2 hs)
  | _, _, .nil => ag_of h2
/-- how a def binds n values by position and some by name -/
def KBn (fd : FuncData) (ps : List Str) (n : Nat) (ks : List Str) (pm : List Nat) : Prop := ∀ us ws : List Value, us.length = n → ws.length = ks.length → bindArgs fd ⟨us, ks.zip ws⟩ = pure (ps.zip (permL pm (us ++ ws)))
end

/-! ### the call -/
section
variable {g : Gm} {W : WX} {X : Cx} {pos p : Pos} {k : Nat} {f : Addr} {fd : FuncData} {ps : List Str} {es : List Expr} {ss : List (Sm ⊕ Nat)} {x : Str} (C : CtxOk g X)
include C
theorem runG {pins : List (Addr × Obj)} {σ : St} {H : Hp} {s : Shared} {Q : VK} {us : List Value} {vs : List V} {sp : Sp} (tk : Takes X W) (F : FnG g X.prog X.w X.base k f fd ps sp) (hr : Room k X.A) (hb : Binds X.K fd ps [])
    (I : Inv X pins σ H s) (r : Vals vs us) (h : sp vs H Q (WE W σ)) : wpAny (model X.prog X.w) X.A (call (.ref f) us) (EP X pins σ Q) X.xe s := by
  have hl : us.length = ps.length := by rw [← r.length]; exact F.len _ _ _ _ h
  have b := hb s us I.kIn (by rw [List.append_nil]; exact hl)
  rw [List.append_nil] at b
  have e0 := I.env0
  rw [C.hK, C.hmg] at e0
  refine wpAny_call (codeAny_mono (F.run X.A X.stack s H ⟨us, []⟩ us vs Q (WE W σ) hr C.gd e0 b r h) fun r s' hq => ?_)
  cases r with
  | error e => exact passAt tk σ pins H s e s' I hq
  | ok fl =>
    cases fl with
    | ret u => exact I.after hq
    | next => exact False.elim hq
    | brk => exact False.elim hq
    | cont => exact False.elim hq
theorem de_call {cf : Fn} (tk : Takes X W) (F : FnG g X.prog X.w X.base k f fd ps (spF g (cf x))) (hr : Room k X.A) (hg : Gl X x) (hm : g.mg x = some (.ref f)) (hk : PySem.W.keepIn g.K (.ref f) = true) (hb : Binds g.K fd ps []) (hdb : (x == ("__debug__" : Str)) = false)
    (h : Paired (ArR g W X) es ss) (hne : es ≠ []) : PE X (.Call (.Name x p) es [] pos) (tE g W fun ρ => (evA ss ρ).bd fun as ρ1 => called cf x as ρ1) := by
  obtain ⟨e, es, rfl⟩ : ∃ e r, es = e :: r := by
    cases es with
    | nil => exact absurd rfl hne
    | cons e r => exact ⟨e, r, rfl⟩
  have ha := pas_ag h
  have h1 : NotStar e := by cases h with | cons h _ => exact h.ns
  have h2 : (backTo pos (starEach es X.env)).any (·.1) = false := by cases h with | cons _ hs => exact no_starA hs _ _
  refine ⟨fun pins s σ H Q I ⟨O, ρ, S, q⟩ => ?_⟩
  refine wpAny_Call_Name_kw (ld_glob I hg (by rw [C.hmg]; exact hm) ?_ hdb)
  refine PySem.W.callWith_K (h₀ := X.base) I.ok.mod.kin (by rw [C.hK]; exact hk) ?_ (h1 es _) h2
  refine thn (ha.run pos pins s σ H (fun vs H1 => spF g (cf x) vs H1 Q (WE W σ)) I (run_ag S q fun as ρ1 vs H1 O1 s1 hv q1 => ?_)) fun us s1 ⟨vs, H1, I1, r, q⟩ => ⟨I1.kIn, runG C tk F hr (by rw [C.hK]; exact hb) I1 r q⟩
  unfold called at q1
  split at q1
  · rename_i sls el
    by_cases nd : (lent as).Nodup
    · rw [if_pos nd] at q1
      refine ⟨O1, sls, lend_st s1.st hv el nd, lend_all el, ?_⟩
      · cases ec : cf x sls with
        | ok r back =>
          rw [ec] at q1
          cases eh : home as back ρ1 with
          | some ρ2 =>
            dsimp only at q1
            rw [eh] at q1
            have hh := home_of nd eh
            refine fun v H' O' b rv => ?_
            have s2 := call_stp s1.st hv el nd hh b
            refine q1 v H' O' (s1.trans s2) ?_
            cases r with
            | sh d => exact rv
            | fr d =>
              obtain ⟨a, e, n, oa, ob⟩ := rv
              exact ⟨a, e, s1.fr.there a n, oa, fun z => s1.st.obj a (s1.st.wn a (s2.sub a z)) n, ob⟩
          | none =>
            dsimp only at q1
            rw [eh] at q1
            exact q1.elim
        | ex x back =>
          rw [ec] at q1
          cases eh : home as back ρ1 with
          | some ρ2 =>
            dsimp only at q1
            rw [eh] at q1
            have hh := home_of nd eh
            refine fun c dx H' O' b rx => ?_
            exact q1 c dx H' O' (call_stp s1.st hv el nd hh b) rx
          | none =>
            dsimp only at q1
            rw [eh] at q1
            exact q1.elim
        | st => rw [ec] at q1; exact q1.elim
    · rw [if_neg nd] at q1
      exact q1.elim
  · exact q1.elim
/-- what a call's arguments and its outcome make of the def's promise -/
theorem sp_called {cf : Fn} {σ : St} {ρ ρ1 : Rho} {H H1 : Hp} {O O1 : AP1} {Q : VK} {as : List Ag} {vs : List V} (S : StR g H O σ ρ) (s1 : Stp g σ ρ H O ρ1 H1 O1) (hv : Paired (AgR g H1 O1 σ) vs as)
    (q1 : RW W g σ ρ1 H1 O1 (called cf x as ρ1) fun r ρ' => ∀ v H' O', Stp g σ ρ H O ρ' H' O' → RsR g H σ ρ' H' O' v r → Q v H') : spF g (cf x) vs H1 Q (WE W σ) := by
  unfold called at q1
  split at q1
  · rename_i sls el
    by_cases nd : (lent as).Nodup
    · rw [if_pos nd] at q1
      refine ⟨O1, sls, lend_st s1.st hv el nd, lend_all el, ?_⟩
      · cases ec : cf x sls with
        | ok r back =>
          rw [ec] at q1
          cases eh : home as back ρ1 with
          | some ρ2 =>
            dsimp only at q1
            rw [eh] at q1
            have hh := home_of nd eh
            refine fun v H' O' b rv => ?_
            have s2 := call_stp s1.st hv el nd hh b
            refine q1 v H' O' (s1.trans s2) ?_
            cases r with
            | sh d => exact rv
            | fr d =>
              obtain ⟨a, e, n, oa, ob⟩ := rv
              exact ⟨a, e, s1.fr.there a n, oa, fun z => s1.st.obj a (s1.st.wn a (s2.sub a z)) n, ob⟩
          | none =>
            dsimp only at q1
            rw [eh] at q1
            exact q1.elim
        | ex x back =>
          rw [ec] at q1
          cases eh : home as back ρ1 with
          | some ρ2 =>
            dsimp only at q1
            rw [eh] at q1
            have hh := home_of nd eh
            refine fun c dx H' O' b rx => ?_
            exact q1 c dx H' O' (call_stp s1.st hv el nd hh b) rx
          | none =>
            dsimp only at q1
            rw [eh] at q1
            exact q1.elim
        | st => rw [ec] at q1; exact q1.elim
    · rw [if_neg nd] at q1
      exact q1.elim
  · exact q1.elim
theorem de_callK {cf : Fn} {n : Nat} {ks : List Str} {pm : List Nat} {kws : List Keyword} {sk : List Sm} (tk : Takes X W) (F : FnG g X.prog X.w X.base k f fd ps (spF g (cf x))) (hr : Room k X.A) (hg : Gl X x) (hm : g.mg x = some (.ref f)) (hk : PySem.W.keepIn g.K (.ref f) = true)
    (hb : KBn fd ps n ks pm) (hdb : (x == ("__debug__" : Str)) = false) (h : Paired (ArR g W X) es ss) (hw : Paired (AS g W X) (kws.map (·.value)) sk) (hks : kws.map (·.arg) = ks.map some) :
    PE X (.Call (.Name x p) es kws pos) (tE g W fun ρ => (evA ss ρ).bd fun xs ρ1 => (evEs sk ρ1).bd fun ds ρ2 => if xs.length = n ∧ ds.length = ks.length then called cf x (permL pm (xs ++ ds.map .inl)) ρ2 else .st) := by
  have ha := pas_ag h
  have hpk := pk_of hw
  obtain ⟨k1, k2, k3⟩ := kw_plain (pos := pos) (env := X.env) hks
  have fin : ∀ {pins : List (Addr × Obj)} {σ : St} {H1 : Hp} {s1 : Shared} {Q : VK} {vs zs : List V} {us ws : List Value}, Inv X pins σ H1 s1 → Vals vs us → Vals zs ws → vs.length = n → zs.length = ks.length → spF g (cf x) (permL pm (vs ++ zs)) H1 Q (WE W σ) →
      wpAny (model X.prog X.w) X.A (call (.ref f) us (ks.zip ws)) (EP X pins σ Q) X.xe s1 := fun {pins σ H1 s1 Q vs zs us ws} I r rz l1 l2 hsp => by
    have e0 := I.env0
    rw [C.hK, C.hmg] at e0
    refine wpAny_call (codeAny_mono (F.run X.A X.stack s1 H1 ⟨us, ks.zip ws⟩ (permL pm (us ++ ws)) (permL pm (vs ++ zs)) Q (WE W σ) hr C.gd e0 (BindsTo.of_eq (hb us ws (by rw [← r.length]; exact l1) (by rw [← rz.length]; exact l2))) (permL_vals (r.append rz) pm) hsp) fun r s' hq => ?_)
    cases r with
    | error e => exact passAt tk σ pins H1 s1 e s' I hq
    | ok fl =>
      cases fl with
      | ret u => exact I.after hq
      | next => exact False.elim hq
      | brk => exact False.elim hq
      | cont => exact False.elim hq
  refine ⟨fun pins s σ H Q I ⟨O, ρ, S, q⟩ => ?_⟩
  refine wpAny_Call_Name_kw (ld_glob I hg (by rw [C.hmg]; exact hm) ?_ hdb)
  have kwl : ∀ {us : List Value} {s1 : Shared} {vs : List V} {H1 : Hp}, Vals vs us → Inv X pins σ H1 s1 → (tAs g W (evEs sk) σ H1 fun zs H2 => vs.length = n ∧ zs.length = ks.length ∧ spF g (cf x) (permL pm (vs ++ zs)) H2 Q (WE W σ)) →
      wpAny (model X.prog X.w) X.A (evalAll ((backToKw pos (keywordEach kws X.env)).map (fun p => p.2))) (fun ws s₂ => X.K.In s₂.heap ∧ wpAny (model X.prog X.w) X.A (call (.ref f) us (((backToKw pos (keywordEach kws X.env)).filterMap (fun p => p.1)).zip ws)) (EP X pins σ Q) X.xe s₂) X.xe s1 := fun {us s1 vs H1} r I1 q1 => by
    refine thn (hpk.run pos pins s1 σ H1 _ I1 q1) fun ws s2 ⟨zs, H2, I2, rz, l1, l2, q2⟩ => ⟨I2.kIn, ?_⟩
    rw [k2]
    exact fin I2 r rz l1 l2 q2
  match es, ss, h with
  | [], _, .nil =>
    refine PySem.W.callWith_KW0 (h₀ := X.base) I.ok.mod.kin (by rw [C.hK]; exact hk) k1 ?_ (by rw [k3]; rfl)
    refine kwl (us := []) (vs := []) .nil I ?_
    have q' : RW W g σ ρ H O ((evEs sk ρ).bd fun ds ρ2 => if ([] : List Ag).length = n ∧ ds.length = ks.length then called cf x (permL pm ([] ++ ds.map .inl)) ρ2 else .st) fun r ρ' => ∀ v H' O', Stp g σ ρ H O ρ' H' O' → RsR g H σ ρ' H' O' v r → Q v H' := q
    refine run_as S q' fun ds ρ2 zs H2 O2 s2 rvs q2 => ?_
    split at q2
    · rename_i hl
      exact ⟨hl.1, by rw [rvs.len]; exact hl.2, sp_called C S s2 (permL_ag (ag_app rvs .nil) pm) q2⟩
    · exact q2.elim
  | e :: es, _, .cons h hs =>
    have h1 : NotStar e := h.ns
    have h2 : (backTo pos (starEach (e :: es) X.env)).any (fun p => p.1) = false := no_starA (.cons h hs) _ _
    refine PySem.W.callWith_KW (h₀ := X.base) I.ok.mod.kin (by rw [C.hK]; exact hk) k1 ?_ (by rw [h2, k3]; rfl) (h1 es _)
    refine thn (ha.run pos pins s σ H (fun vs H1 => tAs g W (evEs sk) σ H1 fun zs H2 => vs.length = n ∧ zs.length = ks.length ∧ spF g (cf x) (permL pm (vs ++ zs)) H2 Q (WE W σ)) I (run_ag S q fun as ρ1 vs H1 O1 s1 hv q1 => ?_)) fun us s1 ⟨vs, H1, I1, r, q⟩ => kwl r I1 q
    refine run_as s1.st q1 fun ds ρ2 zs H2 O2 s2 rvs q2 => ?_
    split at q2
    · rename_i hl
      have hv2 := ag_stp s1.st s2 hv
      exact ⟨by rw [Paired.length hv]; exact hl.1, by rw [rvs.len]; exact hl.2, sp_called C S (s1.trans s2) (permL_ag (ag_app rvs hv2) pm) q2⟩
    · exact q2.elim
theorem de_call0 {cf : Fn} (tk : Takes X W) (F : FnG g X.prog X.w X.base k f fd ps (spF g (cf x))) (hr : Room k X.A) (hg : Gl X x) (hm : g.mg x = some (.ref f)) (hk : PySem.W.keepIn g.K (.ref f) = true) (hb : Binds g.K fd ps []) (hdb : (x == ("__debug__" : Str)) = false) :
    PE X (.Call (.Name x p) [] [] pos) (tE g W fun ρ => called cf x [] ρ) := by
  refine ⟨fun pins s σ H Q I ⟨O, ρ, S, q⟩ => ?_⟩
  refine wpAny_Call_Name_kw (ld_glob I hg (by rw [C.hmg]; exact hm) ?_ hdb)
  refine PySem.W.callWith_K0 I.kIn (by rw [C.hK]; exact hk) (runG C tk F hr (by rw [C.hK]; exact hb) I .nil ?_)
  have s1 : Stp g σ ρ H O ρ H O := .refl S
  have hv : Paired (AgR g H O σ) ([] : List V) ([] : List Ag) := .nil
  have nd : (lent ([] : List Ag)).Nodup := List.nodup_nil
  have el : lend ρ ([] : List Ag) = some [] := rfl
  have eh : ∀ back : Rho, home ([] : List Ag) back ρ = some ρ := fun back => by cases back <;> rfl
  have e : called cf x [] ρ = (match cf x [] with
    | .ok r back => .ok r ρ
    | .ex y back => .ex y ρ
    | .st => .st) := by
    unfold called
    rw [el]
    show (if (lent ([] : List Ag)).Nodup then _ else _) = _
    rw [if_pos nd]
    cases cf x [] <;> simp only [eh]
  have q1 : RW W g σ ρ H O (called cf x [] ρ) fun r ρ' => ∀ v H' O', Stp g σ ρ H O ρ' H' O' → RsR g H σ ρ' H' O' v r → Q v H' := q
  rw [e] at q1
  refine ⟨O, [], lend_st S hv el nd, rfl, ?_⟩
  cases ec : cf x [] with
  | ok r back =>
    rw [ec] at q1
    refine fun v H' O' b rv => ?_
    have s2 := call_stp S hv el nd (home_of nd (eh back)) b
    refine q1 v H' O' s2 ?_
    cases r with
    | sh d => exact rv
    | fr d =>
      obtain ⟨a, e, n, oa, ob⟩ := rv
      exact ⟨a, e, n, oa, fun z => S.obj a (S.wn a (s2.sub a z)) n, ob⟩
  | ex y back =>
    rw [ec] at q1
    exact fun c dx H' O' b rx => q1 c dx H' O' (call_stp S hv el nd (home_of nd (eh back)) b) rx
  | st => rw [ec] at q1; exact q1.elim
theorem de_callV {cf : Fn} {i : Nat} {fs : List Str} (tk : Takes X W) (hF : ∀ y : Str, y ∈ fs → ∃ k f fd ps, FnG g X.prog X.w X.base k f fd ps (spF g (cf y)) ∧ Room k X.A ∧ g.mg y = some (.ref f) ∧ PySem.W.keepIn g.K (.ref f) = true ∧ Binds g.K fd ps []) (hN : X.N[i]? = some x) (hv : Vis X.env.scope x) (hdb : (x == ("__debug__" : Str)) = false) (hcd : (x == ("__classdict__" : Str)) = false)
    (h : Paired (ArR g W X) es ss) (hne : es ≠ []) : PE X (.Call (.Name x p) es [] pos) (tE g W (callVV cf i fs ss)) := by
  obtain ⟨e, es, rfl⟩ : ∃ e r, es = e :: r := by
    cases es with
    | nil => exact absurd rfl hne
    | cons e r => exact ⟨e, r, rfl⟩
  have ha := pas_ag h
  have h1 : NotStar e := by cases h with | cons h _ => exact h.ns
  have h2 : (backTo pos (starEach es X.env)).any (·.1) = false := by cases h with | cons _ hs => exact no_starA hs _ _
  refine ⟨fun pins s σ H Q I ⟨O, ρ, S, q⟩ => ?_⟩
  unfold callVV at q
  split at q
  case h_2 => exact q.elim
  rename_i y eρ
  obtain ⟨v0, ev, rv0⟩ := S.get eρ
  cases rv0 with
  | sh rv0 =>
  cases rv0 with
  | fnc hm0 =>
  rename_i f0
  by_cases hin : fs.contains y = true
  case neg =>
    rw [if_neg hin] at q
    exact q.elim
  rw [if_pos hin] at q
  obtain ⟨k, f, fd, ps, F, hr, hm, hk, hb⟩ := hF y (List.contains_iff_mem.mp hin)
  rw [hm] at hm0
  obtain rfl : f = f0 := Value.ref.inj (Option.some.inj hm0)
  refine wpAny_Call_Name_kw (thn ((pe_var (pos := p) hN hv hdb hcd).run pins s σ H (fun v H1 => v = .ref f ∧ H1 = H) I ⟨.ref f, ev, rfl, rfl⟩) fun u s0 ⟨v, H0, I0, r0, q0⟩ => ?_)
  obtain ⟨rfl, rfl⟩ := q0
  cases r0
  replace I := I0
  refine PySem.W.callWith_K (h₀ := X.base) I.ok.mod.kin (by rw [C.hK]; exact hk) ?_ (h1 es _) h2
  refine thn (ha.run pos pins s0 σ _ (fun vs H1 => spF g (cf y) vs H1 Q (WE W σ)) I (run_ag S q fun as ρ1 vs H1 O1 s1 hv q1 => ?_)) fun us s1 ⟨vs, H1, I1, r, q⟩ => ⟨I1.kIn, runG C tk F hr (by rw [C.hK]; exact hb) I1 r q⟩
  unfold called at q1
  split at q1
  · rename_i sls el
    by_cases nd : (lent as).Nodup
    · rw [if_pos nd] at q1
      refine ⟨O1, sls, lend_st s1.st hv el nd, lend_all el, ?_⟩
      · cases ec : cf y sls with
        | ok r back =>
          rw [ec] at q1
          cases eh : home as back ρ1 with
          | some ρ2 =>
            dsimp only at q1
            rw [eh] at q1
            have hh := home_of nd eh
            refine fun v H' O' b rv => ?_
            have s2 := call_stp s1.st hv el nd hh b
            refine q1 v H' O' (s1.trans s2) ?_
            cases r with
            | sh d => exact rv
            | fr d =>
              obtain ⟨a, e, n, oa, ob⟩ := rv
              exact ⟨a, e, s1.fr.there a n, oa, fun z => s1.st.obj a (s1.st.wn a (s2.sub a z)) n, ob⟩
          | none =>
            dsimp only at q1
            rw [eh] at q1
            exact q1.elim
        | ex z back =>
          rw [ec] at q1
          cases eh : home as back ρ1 with
          | some ρ2 =>
            dsimp only at q1
            rw [eh] at q1
            have hh := home_of nd eh
            refine fun c dx H' O' b rx => ?_
            exact q1 c dx H' O' (call_stp s1.st hv el nd hh b) rx
          | none =>
            dsimp only at q1
            rw [eh] at q1
            exact q1.elim
        | st => rw [ec] at q1; exact q1.elim
    · rw [if_neg nd] at q1
      exact q1.elim
  · exact q1.elim
end
end Wr

/-! Statements. -/
namespace Wr
open PySem PySem.Spec L2
open PyProof.Rows hiding St

/-- where a stretch of code began: the heap, O, what it may write of that, its lent slots -/
structure En where
  H0 : Hp
  O0 : AP1
  W0 : AP1
  ios : List (Nat × Addr)
structure SI (g : Gm) (E : En) (H : Hp) (O : AP1) (σ : St) (ρ : Rho) : Prop where
  st : StR g H O σ ρ
  fr : Fr E.W0 E.H0 E.O0 H O
  wn : ∀ b, Wn σ ρ b → E.W0 b ∨ E.H0 b = none
  o0 : ∀ b, E.O0 b → E.H0 b ≠ none
  io : ∀ p ∈ E.ios, σ[p.1]? = some (some (.ref p.2)) ∧ ∃ d, ρ[p.1]? = some (.io d)
section
variable {g : Gm} {E : En} {σ σ1 : St} {ρ ρ1 : Rho} {H H1 : Hp} {O O1 : AP1}
theorem SI.fstep (S : SI g E H O σ ρ) (f : Fr (Wn σ ρ) H O H1 O1) : Fr E.W0 E.H0 E.O0 H1 O1 := by
  have nw : ∀ b o, E.H0 b = some o → ¬ E.W0 b → ¬ Wn σ ρ b := fun b o e n z => by
    rcases S.wn b z with q | q
    · exact n q
    · rw [e] at q; cases q
  exact ⟨fun b o e n => f.keep b o (S.fr.keep b o e n) (nw b o e n), fun b e => S.fr.there b (f.there b e), fun b e n => by
    cases q : E.H0 b with
    | none => exact absurd q (S.o0 b e)
    | some o => exact f.o1 b (S.fr.o1 b e n) (nw b o q n), fun b e => (f.o2 b e).elim (S.fr.o2 b) fun z => .inr (S.fr.there b z)⟩
theorem SI.step (S : SI g E H O σ ρ) (s : Stp g σ ρ H O ρ1 H1 O1) : SI g E H1 O1 σ ρ1 :=
  ⟨s.st, S.fstep s.fr, fun b z => S.wn b (s.sub b z), S.o0, fun p hp => let ⟨e1, d, e2⟩ := S.io p hp; ⟨e1, s.io p.1 d e2⟩⟩
theorem SI.bnd {vs : List Nat} (S : SI g E H O σ ρ) (b : Bnd g H O vs σ ρ σ1 ρ1) : SI g E H O σ1 ρ1 :=
  ⟨b.st, S.fr, fun c z => S.wn c (b.wn c z), S.o0, fun p hp => let ⟨e1, d, e2⟩ := S.io p hp; let ⟨f1, f2⟩ := b.io p.1 d e2; ⟨f2.trans e1, d, f1⟩⟩
/-- from a later beginning -/
theorem SI.comp (S : SI g E H1 O1 σ1 ρ1) (T : SI g ⟨H1, O1, Wn σ1 ρ1, E.ios⟩ H O σ ρ) : SI g E H O σ ρ :=
  ⟨T.st, S.fstep T.fr, fun b z => (T.wn b z).elim (S.wn b) fun e => .inr (S.fr.there b e), S.o0, T.io⟩
theorem SI.begin_ (S : SI g E H1 O1 σ1 ρ1) : SI g ⟨H1, O1, Wn σ1 ρ1, E.ios⟩ H1 O1 σ1 ρ1 := ⟨S.st, .refl _ _ _, fun _ z => .inl z, S.st.obj, S.io⟩
theorem SI.grow (S : SI g E H O σ ρ) (h : H1 = H ∨ ∃ T o, H T = none ∧ H1 = upd H T o) : SI g E H1 O σ ρ := by
  rcases h with rfl | ⟨T, o, n, rfl⟩
  · exact S
  · exact ⟨S.st.laid n, S.fr.trans (Fr.laid (W := fun _ => False) n) fun _ z => z.elim, S.wn, S.o0, S.io⟩

/-- what leaves by return -/
def RtF (g : Gm) (E : En) (σ : St) (ρ : Rho) (H : Hp) (O : AP1) (v : V) : Rs → Prop
  | .sh d => RD g H O v d
  | .fr d => ∃ a, v = .ref a ∧ O a ∧ ¬ Wn σ ρ a ∧ Ob g H O a d ∧ (E.H0 a = none ∨ E.W0 a)
/-- what is asked of a statement's outcome -/
def SO (g : Gm) (W : WX) (E : En) (r : Re Out) (D : Ends) : Prop := match r with
  | .ok .nx ρ' => ∀ σ' H' O', SI g E H' O' σ' ρ' → D.nx σ' H'
  | .ok .bk ρ' => ∀ σ' H' O', SI g E H' O' σ' ρ' → D.bk σ' H'
  | .ok .ct ρ' => ∀ σ' H' O', SI g E H' O' σ' ρ' → D.ct σ' H'
  | .ok (.rt r) ρ' => ∀ v σ' H' O', SI g E H' O' σ' ρ' → RtF g E σ' ρ' H' O' v r → D.rt v H'
  | .ex x ρ' => ∀ c dx σ' H' O', SI g E H' O' σ' ρ' → XnR g H' O' x c dx → W c dx σ' H'
  | .st => False
def tS (g : Gm) (W : WX) (E : En) (f : Rho → Re Out) : TS := fun D σ H => ∃ O ρ, SI g E H O σ ρ ∧ SO g W E (f ρ) D
variable {W : WX} {α : Type}
/-- an expression's step ahead of the rest of a statement -/
theorem so_rw {r : Re α} {k : α → Rho → Re Out} {D : Ends} (S : SI g E H O σ ρ) (h : SO g W E (r.bd k) D) : RW W g σ ρ H O r fun a ρ1 => SO g W E (k a ρ1) D := by
  cases r with
  | ok a ρ1 => exact h
  | ex x ρ1 => exact fun c dx H' O' s xr => h c dx σ H' O' (S.step s) xr
  | st => exact h
end
theorem psImp {X : Cx} {st : Stmt} {t t' : TS} (h : PS X st t) (f : ∀ D σ H, t' D σ H → t D σ H) : PS X st t' := ⟨fun pins s σ H D I q => h.run pins s σ H D I (f D σ H q)⟩
theorem pssImp {X : Cx} {st : List Stmt} {t t' : TS} (h : PSs X st t) (f : ∀ D σ H, t' D σ H → t D σ H) : PSs X st t' := ⟨fun pins s σ H D I q => h.run pins s σ H D I (f D σ H q)⟩
section
variable {g : Gm} {E : En} {W : WX} {X : Cx} {pos : Pos} {e c : Expr}

/-! ### a result into a slot -/
/-- a result that may go into a slot -/
def RsI (g : Gm) (E : En) (σ : St) (ρ : Rho) (H : Hp) (O : AP1) (v : V) : Rs → Prop
  | .sh d => RD g H O v d
  | .fr d => ∃ a, v = .ref a ∧ E.H0 a = none ∧ O a ∧ ¬ Wn σ ρ a ∧ Ob g H O a d
theorem set_rs {σ : St} {ρ ρ1 : Rho} {H : Hp} {O : AP1} {i : Nat} {v : V} {r : Rs} (S : SI g E H O σ ρ) (h : RsI g E σ ρ H O v r) (e : setRs i r ρ = some ρ1) :
    SI g E H O (σ.set i (some v)) ρ1 ∧ ∀ b, Wn (σ.set i (some v)) ρ1 b → Wn σ ρ b ∨ (v = .ref b ∧ ∃ d, r = .fr d) := by
  cases r with
  | sh d =>
    have e' : setSh i d ρ = some ρ1 := by
      rw [← e]
      unfold setRs setSh
      cases q : ρ[i]? with
      | none => rfl
      | some s => cases s <;> rfl
    have b := bnd_sh (v := v) S.st h e'
    exact ⟨S.bnd b, fun c z => .inl (b.wn c z)⟩
  | fr d =>
    obtain ⟨a, rfl, n0, oa, nw, ob⟩ := h
    unfold setRs at e
    split at e
    · cases e
    · rename_i s hs es
      cases e
      have hl : i < ρ.length := (List.getElem?_eq_some_iff.mp es).1
      have hl2 : i < σ.length := by rw [S.st.len]; exact hl
      have out : ∀ {j : Nat} {t : Sl}, (ρ.set i (Sl.ow d))[j]? = some t → t.own = true → (j = i ∧ t = .ow d) ∨ (i ≠ j ∧ ρ[j]? = some t) := fun {j t} e o => by
        by_cases hj : i = j
        · subst hj
          rw [List.getElem?_set_self hl] at e
          cases e
          exact .inl ⟨rfl, rfl⟩
        · rw [List.getElem?_set_ne hj] at e
          exact .inr ⟨hj, e⟩
      have wn : ∀ b, Wn (σ.set i (some (.ref a))) (ρ.set i (Sl.ow d)) b → Wn σ ρ b ∨ b = a := fun b ⟨j, t, e1, o, e2⟩ => by
        rcases out e1 o with ⟨rfl, rfl⟩ | ⟨hj, e⟩
        · rw [List.getElem?_set_self hl2] at e2
          cases e2
          exact .inr rfl
        · rw [List.getElem?_set_ne hj] at e2
          exact .inl ⟨j, t, e, o, e2⟩
      refine ⟨⟨⟨by rw [List.length_set, List.length_set]; exact S.st.len, fun j w t e1 e2 => ?_, fun j k t u b e1 o1 e2 o2 f1 f2 => ?_, S.st.obj⟩, S.fr, fun b z => ?_, S.o0, fun p hp => ?_⟩, fun b z => ?_⟩
      · by_cases hj : i = j
        · subst hj
          rw [List.getElem?_set_self hl] at e2
          rw [List.getElem?_set_self hl2] at e1
          cases e1
          cases e2
          exact .ow oa ob
        · rw [List.getElem?_set_ne hj] at e1 e2
          exact S.st.at_ j w t e1 e2
      · rcases out e1 o1 with ⟨rfl, rfl⟩ | ⟨hj, g1⟩
        · rw [List.getElem?_set_self hl2] at f1
          cases f1
          rcases out e2 o2 with ⟨rfl, rfl⟩ | ⟨hk, g2⟩
          · rfl
          · rw [List.getElem?_set_ne hk] at f2
            exact absurd ⟨k, u, g2, o2, f2⟩ nw
        · rw [List.getElem?_set_ne hj] at f1
          rcases out e2 o2 with ⟨rfl, rfl⟩ | ⟨hk, g2⟩
          · rw [List.getElem?_set_self hl2] at f2
            cases f2
            exact absurd ⟨j, t, g1, o1, f1⟩ nw
          · rw [List.getElem?_set_ne hk] at f2
            exact S.st.one j k t u b g1 o1 g2 o2 f1 f2
      · rcases wn b z with z | z
        · exact S.wn b z
        · exact .inr (z ▸ n0)
      · obtain ⟨e1, f, e2⟩ := S.io p hp
        have hp1 : i ≠ p.1 := fun z => by
          rw [← z, es] at e2
          cases e2
          exact hs _ rfl
        exact ⟨by rw [List.getElem?_set_ne hp1]; exact e1, f, by rw [List.getElem?_set_ne hp1]; exact e2⟩
      · rcases wn b z with z | z
        · exact .inl z
        · exact .inr ⟨by rw [z], d, rfl⟩
    · cases e
theorem RsR.inE {σ : St} {ρ ρ1 : Rho} {H H1 : Hp} {O O1 : AP1} {v : V} {r : Rs} (S : SI g E H O σ ρ) (h : RsR g H σ ρ1 H1 O1 v r) : RsI g E σ ρ1 H1 O1 v r := by
  cases r with
  | sh d => exact h
  | fr d =>
    obtain ⟨a, e, n, o, w, b⟩ := h
    exact ⟨a, e, S.fr.there a n, o, w, b⟩
theorem red_asg {i : Nat} {s : Sm} {D : Ends} {σ : St} {H : Hp} (h : tS g W E (asgV i s) D σ H) : tE g W s.v σ H fun x H1 => gName i x σ H1 D.nx := by
  obtain ⟨O, ρ, S, q⟩ := h
  refine ⟨O, ρ, S.st, (so_rw S q).imp fun r ρ1 q1 v H1 O1 s1 rv => ?_⟩
  split at q1
  · rename_i ρ2 e2
    exact q1 _ H1 O1 (set_rs (S.step s1) (rv.inE S) e2).1
  · exact q1.elim
theorem ds_asg (C : CtxOk g X) {i : Nat} {x : Str} {pos' : Pos} {s : Sm} (hi : X.N[i]? = some x) (hx : Loc X.env.scope x) (he : PE X e (tE g W s.v)) (hs : swapsWith e (some (.Name x pos')) pos.line X.env = pure false) (hf : X.fn x = true ∨ X.env.scope.names.lookup x = some .local) :
    PS X (.Assign [.Name x pos'] e pos) (tS g W E (asgV i s)) :=
  psImp (ps_set C.nd hi hx he hs hf) fun D σ H q => red_asg q
/-- a comprehension on the name's line -/
theorem ds_asgLc (C : CtxOk g X) {i : Nat} {y : Str} {py spos : Pos} {elt tg iter : Expr} {ifs : List Expr} {scope : Scope} {own : List (Str × Nat)} {it : Rho → Re (List Wr.D)} {sifs : List Sm} {se : Sm} {ct : CT} (hy : X.N[i]? = some y) (hyl : X.env.scope.names.lookup y = some .local)
    (hsw : swapsWith (.ListComp elt [⟨tg, iter, ifs, 0⟩] scope pos) (some (.Name y py)) spos.line X.env = pure true) (hi : PI X tg iter (tI g W it)) (ok : BlkOk X.N X.env.scope scope own) (hix : own.map (·.2) = ct.ix)
    (hg : ∀ (s : Shared) (H : Hp) (C : Addr) (cl : List (Str × Addr)) (fp : List Addr), PG (X.blk s H scope (compEnvC scope cl C X.env) fp) tg (gT X.K ct)) (ht : ∀ (s : Shared) (H : Hp) (C : Addr) (cl : List (Str × Addr)) (fp : List Addr), PTs (X.blk s H scope (compEnvC scope cl C X.env) fp) ifs (tQ g WF (evTs sifs)))
    (he : ∀ (s : Shared) (H : Hp) (C : Addr) (cl : List (Str × Addr)) (fp : List Addr), PE (X.blk s H scope (compEnvC scope cl C X.env) fp) elt (tE g WF se.v)) (hs : ∀ x, foldedSetIterable iter X.env x = pure x) :
    PS X (.Assign [.Name y py] (.ListComp elt [⟨tg, iter, ifs, 0⟩] scope pos) spos) (tS g W E (asgV i (.of (lcV ct it sifs se)))) := by
  have h := ps_setLc (pos := pos) C.calm C.nd hy hyl hsw hi ok hg ht he hs
  rw [hix] at h
  exact psImp h fun D σ H q => lc_red (elt := elt) (tg := tg) (iter := iter) (ifs := ifs) C (red_asg q)
theorem ds_asgT (C : CtxOk g X) {tg : Expr} {is : List Nat} {s : Sm} (he : PE X e (tE g W s.v)) (hg : PG X tg (gT X.K (.tp is))) (hs : swapsWithSole [tg] e pos.line X.env = pure false) (hw : swappedStores [tg] e X.env = pure none)
    (h1 : (assignEach [tg] X.env).map (·.2) = [assign tg X.env]) : PS X (.Assign [tg] e pos) (tS g W E (asgTV is s)) := by
  refine psImp (ps_asg he hg hs hw h1) fun D σ H ⟨O, ρ, S, q⟩ => ?_
  refine ⟨O, ρ, S.st, (so_rw S q).imp fun r ρ1 q1 v H1 O1 s1 rv => ?_⟩
  obtain ⟨O2, s2, r2⟩ := rv.share S.st s1
  split at q1
  · rename_i ρ2 e2
    rw [C.hK]
    exact gT_of s2.st r2 e2 fun σ1 b => q1 σ1 H1 O2 ((S.step s2).bnd b)
  · exact q1.elim

/-! ### several values to several names -/
inductive RsL (g : Gm) (H : Hp) (σ : St) (ρ' : Rho) (H' : Hp) (O' : AP1) : List V → List Rs → Prop where
  | nil : RsL g H σ ρ' H' O' [] []
  | sh {v : V} {d : D} {vs : List V} {rs : List Rs} : RD g H' O' v d → RsL g H σ ρ' H' O' vs rs → RsL g H σ ρ' H' O' (v :: vs) (.sh d :: rs)
  | fr {a : Addr} {d : D} {vs : List V} {rs : List Rs} : H a = none → O' a → ¬ Wn σ ρ' a → Ob g H' O' a d → (∀ (k : Nat) (f : D), rs[k]? = some (.fr f) → vs[k]? ≠ some (.ref a)) → RsL g H σ ρ' H' O' vs rs → RsL g H σ ρ' H' O' (.ref a :: vs) (.fr d :: rs)
def tRs (g : Gm) (W : WX) (f : Rho → Re (List Rs)) : TA := fun σ H Q => ∃ O ρ, StR g H O σ ρ ∧ RW W g σ ρ H O (f ρ) fun rs ρ' => ∀ vs H' O', Stp g σ ρ H O ρ' H' O' → RsL g H σ ρ' H' O' vs rs → Q vs H'
theorem RsL.base {H H1 H2 : Hp} {σ : St} {ρ2 : Rho} {O2 : AP1} (f : ∀ b, H1 b = none → H b = none) : ∀ {vs : List V} {rs : List Rs}, RsL g H1 σ ρ2 H2 O2 vs rs → RsL g H σ ρ2 H2 O2 vs rs
  | _, _, .nil => .nil
  | _, _, .sh r rs => .sh r (RsL.base f rs)
  | _, _, .fr n o w b d rs => .fr (f _ n) o w b d (RsL.base f rs)
theorem RsL.new {H1 H2 : Hp} {σ : St} {ρ2 : Rho} {O2 : AP1} : ∀ {vs : List V} {rs : List Rs} {k : Nat} {f : D} {a : Addr}, RsL g H1 σ ρ2 H2 O2 vs rs → rs[k]? = some (.fr f) → vs[k]? = some (.ref a) → H1 a = none
  | _, _, _, _, _, .nil, e, _ => by simp at e
  | _, _, 0, _, _, .sh _ _, e, _ => by simp at e
  | _, _, k + 1, _, _, .sh _ rs, e, h => RsL.new (k := k) rs (by simpa using e) (by simpa using h)
  | _, _, 0, _, _, .fr n _ _ _ _ _, e, h => by simp at h; subst h; exact n
  | _, _, k + 1, _, _, .fr _ _ _ _ _ rs, e, h => RsL.new (k := k) rs (by simpa using e) (by simpa using h)
theorem run_rs {β : Type} {K : β → Rho → Prop} {f : Rho → Re (List Rs)} {k : List Rs → Rho → Re β} {σ : St} {ρ : Rho} {H : Hp} {O : AP1} {Q : List V → Hp → Prop} (S : StR g H O σ ρ) (h : RW W g σ ρ H O ((f ρ).bd k) K)
    (next : ∀ ds ρ1 vs H1 O1, Stp g σ ρ H O ρ1 H1 O1 → RsL g H σ ρ1 H1 O1 vs ds → RW W g σ ρ1 H1 O1 (k ds ρ1) K → Q vs H1) : tRs g W f σ H Q :=
  ⟨O, ρ, S, (RW.bd h).imp fun r ρ1 h1 v H1 O1 s1 r1 => next r ρ1 v H1 O1 s1 r1 (h1.rebase s1)⟩
theorem pas_rs : ∀ {es : List Expr} {ss : List Sm}, Paired (AS g W X) es ss → PA X es (tRs g W (evRs ss))
  | [], _, .nil => paImp pa_nil fun σ H Q ⟨O, ρ, S, q⟩ => q [] H O (.refl S) .nil
  | e :: es, _, .cons h hs => by
    refine paImp (pa_cons h.es.v (pas_rs hs) (h.ns es _)) fun σ H Q ⟨O, ρ, S, q⟩ => ?_
    refine run_v S q fun r ρ1 v H1 O1 s1 rv q1 => run_rs s1.st q1 fun ds ρ2 vs H2 O2 s2 rvs q2 => ?_
    refine q2 (v :: vs) H2 O2 (s1.trans s2) ?_
    cases r with
    | sh d => exact .sh (s2.rd s1.st rv) (rvs.base s1.fr.there)
    | fr d =>
      obtain ⟨a, rfl, n, oa, nw, ob⟩ := rv
      have there : H1 a ≠ none := s1.st.obj a oa
      exact .fr n (s2.fr.o1 a oa nw) (fun z => nw (s2.sub a z)) (ob.fr s2.fr s1.st.wn nw) (fun k f e1 e2 => there (rvs.new e1 e2)) (rvs.base s1.fr.there)
def setVs : List Nat → List V → St → St
  | i :: is, v :: vs, σ => setVs is vs (σ.set i (some v))
  | _, _, σ => σ
theorem set_rss {H0 H : Hp} {O : AP1} : ∀ {is : List Nat} {vs : List V} {rs : List Rs} {σ : St} {ρ ρ1 : Rho}, SI g E H O σ ρ → (∀ b, H0 b = none → E.H0 b = none) → RsL g H0 σ ρ H O vs rs → setRss is rs ρ = some ρ1 → SI g E H O (setVs is vs σ) ρ1
  | [], _, _, _, _, _, S, _, .nil, e => by cases e; exact S
  | _ :: _, _, _, _, _, _, _, _, .nil, e => by cases e
  | [], _, _, _, _, _, _, _, .sh _ _, e => by cases e
  | [], _, _, _, _, _, _, _, .fr _ _ _ _ _ _, e => by cases e
  | i :: is, _, _, σ, ρ, ρ1, S, hb, .sh (v := v) (d := d) (vs := vs) (rs := rs) r h, e => by
    obtain ⟨ρ2, e1, e2⟩ := Option.bind_eq_some_iff.mp (show (setRs i (.sh d) ρ).bind (setRss is rs) = some ρ1 from e)
    obtain ⟨S1, w1⟩ := set_rs (v := v) S (show RsI g E σ ρ H O v (.sh d) from r) e1
    have w2 : ∀ b, Wn (σ.set i (some v)) ρ2 b → Wn σ ρ b := fun b z => (w1 b z).elim id fun ⟨_, _, q⟩ => by cases q
    show SI g E H O (setVs is vs (σ.set i (some v))) ρ1
    exact set_rss S1 hb (RsL.wn w2 h) e2
  | i :: is, _, _, σ, ρ, ρ1, S, hb, .fr (a := a) (d := d) (vs := vs) (rs := rs) n oa nw ob df h, e => by
    obtain ⟨ρ2, e1, e2⟩ := Option.bind_eq_some_iff.mp (show (setRs i (.fr d) ρ).bind (setRss is rs) = some ρ1 from e)
    obtain ⟨S1, w1⟩ := set_rs (v := .ref a) S (show RsI g E σ ρ H O (.ref a) (.fr d) from ⟨a, rfl, hb a n, oa, nw, ob⟩) e1
    show SI g E H O (setVs is vs (σ.set i (some (.ref a)))) ρ1
    exact set_rss S1 hb (RsL.wnF (fun b z => (w1 b z).imp id fun ⟨q, _⟩ => (V.ref.inj q).symm) df h) e2
where
  RsL.wn {σ σ' : St} {ρ ρ' : Rho} (w : ∀ b, Wn σ' ρ' b → Wn σ ρ b) : ∀ {vs : List V} {rs : List Rs}, RsL g H0 σ ρ H O vs rs → RsL g H0 σ' ρ' H O vs rs
    | _, _, .nil => .nil
    | _, _, .sh r h => .sh r (RsL.wn w h)
    | _, _, .fr n o nw b d h => .fr n o (fun z => nw (w _ z)) b d (RsL.wn w h)
  RsL.wnF {σ σ' : St} {ρ ρ' : Rho} {a : Addr} (w : ∀ b, Wn σ' ρ' b → Wn σ ρ b ∨ b = a) : ∀ {vs : List V} {rs : List Rs}, (∀ (k : Nat) (f : D), rs[k]? = some (.fr f) → vs[k]? ≠ some (.ref a)) → RsL g H0 σ ρ H O vs rs → RsL g H0 σ' ρ' H O vs rs
    | _, _, _, .nil => .nil
    | _, _, df, .sh r h => .sh r (RsL.wnF w (fun k f e => df (k + 1) f e) h)
    | _, _, df, .fr n o nw b d h => .fr n o (fun z => (w _ z).elim nw fun e => df 0 _ rfl (by rw [e]; rfl)) b d (RsL.wnF w (fun k f e => df (k + 1) f e) h)
end
end Wr

/-! Statements, 2: a list's own change, tests, loops, return, blocks. -/
namespace Wr
open PySem PySem.Spec L2
open PyProof.Rows hiding St

section
variable {g : Gm} {σ : St} {ρ ρ1 : Rho} {H H1 : Hp} {O O1 : AP1}
theorem own_at {i : Nat} (S : StR g H O σ ρ) (h : ownL i ρ = true) : ∃ x, σ[i]? = some (some x) := by
  unfold ownL at h
  split at h
  · rename_i ds es
    obtain ⟨v, ev, r⟩ := S.get es
    cases r
    exact ⟨_, ev⟩
  · rename_i ds es
    obtain ⟨v, ev, r⟩ := S.get es
    cases r
    exact ⟨_, ev⟩
  · cases h
/-- the slot's list changed in place -/
theorem chg_stp {i : Nat} {f : List D → Option (List D)} (S : StR g H O σ ρ) (e : chg i f ρ = some ρ1) :
    ∃ a xs ds ys, σ[i]? = some (some (.ref a)) ∧ H a = some (.lst xs) ∧ RDs g H O xs ds ∧ f ds = some ys ∧ ∀ vs, RDs g H O vs ys → Stp g σ ρ H O ρ1 (upd H a (.lst vs)) O := by
  have main : ∀ (s t : Sl) (ds ys : List D), ρ[i]? = some s → s.own = true → t.own = true → (∀ a, SlR g H O (some (.ref a)) s → O a ∧ Ob g H O a (.lst ds)) → (∀ H' a, O a → Ob g H' O a (.lst ys) → SlR g H' O (some (.ref a)) t) → (∀ v, SlR g H O v s → ∃ a, v = some (.ref a)) → (∀ d, s = .io d → ∃ d', t = .io d') → f ds = some ys → ρ1 = ρ.set i t →
      ∃ a xs ds ys, σ[i]? = some (some (.ref a)) ∧ H a = some (.lst xs) ∧ RDs g H O xs ds ∧ f ds = some ys ∧ ∀ vs, RDs g H O vs ys → Stp g σ ρ H O ρ1 (upd H a (.lst vs)) O := by
    rintro s t ds ys es os ot gs gt gv gi ef rfl
    obtain ⟨v, ev, rv⟩ := S.get es
    obtain ⟨a, rfl⟩ := gv _ rv
    obtain ⟨oa, ob⟩ := gs a rv
    have hl : i < ρ.length := (List.getElem?_eq_some_iff.mp es).1
    cases ob with
    | lst ha rs =>
      rename_i xs
      refine ⟨a, xs, ds, ys, ev, ha, rs, ef, fun vs r => ?_⟩
      have wa : Wn σ ρ a := ⟨i, s, es, os, ev⟩
      have fr : Fr (fun b => b = a) H O (upd H a (.lst vs)) O := ⟨fun b o e n => by rw [upd_ne n]; exact e, fun b e => by
        by_cases z : b = a
        · subst z; rw [upd_same] at e; cases e
        · rw [upd_ne z] at e; exact e, fun _ z _ => z, fun _ z => .inl z⟩
      have hW : ∀ b, b = a → O b := fun b z => z ▸ oa
      have out : ∀ {j : Nat} {u : Sl}, (ρ.set i t)[j]? = some u → (j = i ∧ u = t) ∨ (i ≠ j ∧ ρ[j]? = some u) := fun {j u} e => by
        by_cases hj : i = j
        · subst hj
          rw [List.getElem?_set_self hl] at e
          cases e
          exact .inl ⟨rfl, rfl⟩
        · rw [List.getElem?_set_ne hj] at e
          exact .inr ⟨hj, e⟩
      refine ⟨fr.mono fun b z => z ▸ wa, ⟨by rw [List.length_set]; exact S.len, fun j w u e1 e2 => ?_, fun j k u1 u2 b e1 o1 e2 o2 f1 f2 => ?_, fun b z => ?_⟩, fun b ⟨j, u, e1, o1, e2⟩ => ?_, fun j d e1 => ?_⟩
      · rcases out e2 with ⟨rfl, rfl⟩ | ⟨hj, e3⟩
        · rw [ev] at e1
          cases e1
          exact gt _ a oa (.lst upd_same (r.fr fr hW))
        · have q := S.at_ j w u e1 e3
          cases q with
          | no => exact .no
          | sh q => exact .sh (q.fr fr hW)
          | @ow b d ob q =>
            have nb : ¬ b = a := fun z => hj (S.one i j s _ a es os e3 rfl ev (z ▸ e1))
            exact .ow ob (q.fr fr hW nb)
          | @io b d ob q =>
            have nb : ¬ b = a := fun z => hj (S.one i j s _ a es os e3 rfl ev (z ▸ e1))
            exact .io ob (q.fr fr hW nb)
      · have z1 : ∃ u, ρ[j]? = some u ∧ u.own = true := by
          rcases out e1 with ⟨rfl, rfl⟩ | ⟨_, e⟩
          · exact ⟨s, es, os⟩
          · exact ⟨u1, e, o1⟩
        have z2 : ∃ u, ρ[k]? = some u ∧ u.own = true := by
          rcases out e2 with ⟨rfl, rfl⟩ | ⟨_, e⟩
          · exact ⟨s, es, os⟩
          · exact ⟨u2, e, o2⟩
        obtain ⟨v1, p1, q1⟩ := z1
        obtain ⟨v2, p2, q2⟩ := z2
        exact S.one j k v1 v2 b p1 q1 p2 q2 f1 f2
      · by_cases hz : b = a
        · subst hz; rw [upd_same]; exact fun z => by cases z
        · rw [upd_ne hz]; exact S.obj b z
      · rcases out e1 with ⟨rfl, rfl⟩ | ⟨_, e⟩
        · exact ⟨j, s, es, os, e2⟩
        · exact ⟨j, u, e, o1, e2⟩
      · by_cases hj : i = j
        · subst hj
          rw [es] at e1
          cases e1
          obtain ⟨d', q⟩ := gi d rfl
          exact ⟨d', by rw [List.getElem?_set_self hl, q]⟩
        · exact ⟨d, by rw [List.getElem?_set_ne hj]; exact e1⟩
  unfold chg at e
  split at e
  · rename_i ds es
    obtain ⟨ys, ef, e'⟩ := Option.map_eq_some_iff.mp e
    exact main (.ow (.lst ds)) (.ow (.lst ys)) ds ys es rfl rfl (fun a h => by cases h with | ow o b => exact ⟨o, b⟩) (fun H' a o b => .ow o b) (fun v h => by cases h with | ow o b => exact ⟨_, rfl⟩) (fun d z => by cases z) ef e'.symm
  · rename_i ds es
    obtain ⟨ys, ef, e'⟩ := Option.map_eq_some_iff.mp e
    exact main (.io (.lst ds)) (.io (.lst ys)) ds ys es rfl rfl (fun a h => by cases h with | io o b => exact ⟨o, b⟩) (fun H' a o b => .io o b) (fun v h => by cases h with | io o b => exact ⟨_, rfl⟩) (fun d z => ⟨_, rfl⟩) ef e'.symm
  · cases e
end
section
variable {g : Gm} {E : En} {W : WX} {X : Cx} {pos : Pos} {e c : Expr}
/-- name[k] = e -/
theorem ds_seti (C : CtxOk g X) {i : Nat} {x : Str} {px ps : Pos} {k : Expr} {sk s : Sm} (hx : PE X (.Name x px) (tVar i)) (hk : PE X k (tE g W sk.v)) (he : PE X e (tE g W s.v))
    (hs : swapsWithSole [.Subscript (.Name x px) k ps] e pos.line X.env = pure false) (hw : swappedStores [.Subscript (.Name x px) k ps] e X.env = pure none)
    (h1 : (assignEach [.Subscript (.Name x px) k ps] X.env).map (·.2) = [assign (.Subscript (.Name x px) k ps) X.env])
    (ha : ∀ v, assign (.Subscript (.Name x px) k ps) X.env v = (do
      let ov ← holding [v] (eval (.Name x px) X.env)
      let iv ← holding [v, ov] (eval k X.env)
      standAt ps
      holding [v, ov, iv] (setItem ov iv v)
      release [v, ov, iv] [])) : PS X (.Assign [.Subscript (.Name x px) k ps] e pos) (tS g W E (setiV i sk s)) := by
  refine psImp (ps_asg he (pg_sub hx hk set_list ha) hs hw h1) fun D σ H ⟨O, ρ, S, q⟩ => ?_
  refine ⟨O, ρ, S.st, (so_rw S q).imp fun r ρ1 q1 v H1 O1 s1 rv => ?_⟩
  obtain ⟨O2, s2, r2⟩ := rv.share S.st s1
  have S2 := S.step s2
  split at q1
  case isFalse => exact q1.elim
  rename_i hown
  have main : RW W g σ ρ1 H1 O2 (sk.v ρ1) fun p ρ2 => SO g W E (match p.d with
      | .int j => (match chg i (fun xs => (ixN xs.length j).map fun n => xs.set n r.d) ρ2 with
        | some ρ3 => .ok .nx ρ3
        | none => .st)
      | _ => .st) D := so_rw S2 q1
  obtain ⟨x, ex⟩ := own_at s2.st hown
  refine ⟨x, ex, O2, ρ1, s2.st, main.imp fun p ρ2 q2 w H2 O3 s3 rw => ?_⟩
  split at q2
  · rename_i j ej
    split at q2
    · rename_i ρ3 e3
      have s3' := s3
      obtain ⟨O4, s4, r4⟩ := rw.share s2.st s3
      rw [ej] at r4
      cases r4
      obtain ⟨a, xs, ds, ys, ea, ha, rs, ef, stp⟩ := chg_stp s4.st e3
      rw [ex] at ea
      cases ea
      obtain ⟨n, en, rfl⟩ := Option.map_eq_some_iff.mp ef
      exact ⟨a, xs, j, n, rfl, rfl, ha, by rw [rs.len]; exact en, q2 σ _ O4 ((S2.step s4).step (stp _ (rs.set n (s4.rd s2.st r2))))⟩
    · exact q2.elim
  · exact q2.elim
/-- an expression alone -/
theorem ds_exp {s : Sm} (he : PE X e (tE g W s.v)) (hs : swapsWith e none pos.line X.env = pure false) : PS X (.Expr e pos) (tS g W E fun ρ => (s.v ρ).bd fun _ ρ1 => .ok .nx ρ1) := by
  refine psImp (ps_expr he hs) fun D σ H ⟨O, ρ, S, q⟩ => ?_
  refine ⟨O, ρ, S.st, (so_rw S q).imp fun r ρ1 q1 v H1 O1 s1 rv => ?_⟩
  exact q1 σ H1 O1 (S.step s1)
theorem ds_if {s : Sm} {a b : List Stmt} {fa fb : Rho → Re Out} (hc : PT X c (tQ g W s.t)) (ha : PSs X a (tS g W E fa)) (hb : PSs X b (tS g W E fb)) :
    PS X (.If c a b pos) (tS g W E fun ρ => (s.t ρ).bd fun t ρ1 => if t = true then fa ρ1 else fb ρ1) := by
  refine psImp (ps_if hc ha hb) fun D σ H ⟨O, ρ, S, q⟩ => ?_
  refine ⟨O, ρ, S.st, (so_rw S q).imp fun t ρ1 q1 H1 O1 s1 => ?_⟩
  cases t with
  | true => exact ⟨O1, ρ1, S.step s1, q1⟩
  | false => exact ⟨O1, ρ1, S.step s1, q1⟩
theorem rtf_of {σ : St} {ρ ρ' : Rho} {H H' : Hp} {O O' : AP1} {v : V} {r : Rs} (S : SI g E H O σ ρ) (h : RtR g H σ ρ ρ' H' O' v r) : RtF g E σ ρ' H' O' v r := by
  cases r with
  | sh d => exact h
  | fr d =>
    obtain ⟨a, e, o, n, b, z⟩ := h
    refine ⟨a, e, o, n, b, z.elim (fun z => .inl (S.fr.there a z)) fun ⟨i, d, e1, e2⟩ => ?_⟩
    exact (S.wn a ⟨i, _, e1, rfl, e2⟩).symm
theorem ds_ret {f : Rho → Re Rs} (he : PE X e (tRt g W f)) : PS X (.Return (some e) pos) (tS g W E fun ρ => (f ρ).bd fun r ρ1 => .ok (.rt r) ρ1) := by
  refine psImp (ps_ret he) fun D σ H ⟨O, ρ, S, q⟩ => ?_
  refine ⟨O, ρ, S.st, (so_rw S q).imp fun r ρ1 q1 v H1 O1 s1 rv => ?_⟩
  exact q1 v σ H1 O1 (S.step s1) (rtf_of S rv)
theorem ds_retN : PS X (.Return none pos) (tS g W E fun ρ => .ok (.rt (.sh .non)) ρ) :=
  psImp ps_retN fun D σ H ⟨O, ρ, S, q⟩ => q .non σ H O S .non
theorem ds_pass : PS X (.Pass pos) (tS g W E fun ρ => .ok .nx ρ) := psImp ps_pass fun D σ H ⟨O, ρ, S, q⟩ => q σ H O S
theorem ds_brk : PS X (.Break pos) (tS g W E fun ρ => .ok .bk ρ) := psImp ps_break fun D σ H ⟨O, ρ, S, q⟩ => q σ H O S
theorem ds_cnt : PS X (.Continue pos) (tS g W E fun ρ => .ok .ct ρ) := psImp ps_continue fun D σ H ⟨O, ρ, S, q⟩ => q σ H O S
theorem ds_doc {x j p1 p2} : PS X (.Expr (.Constant (.str x) j p1) p2) (tS g W E fun ρ => .ok .nx ρ) := psImp ps_doc fun D σ H ⟨O, ρ, S, q⟩ => q σ H O S
theorem ds_nev {st : Stmt} : PS X st (tS g W E fun _ => .st) := psImp ps_never fun D σ H ⟨O, ρ, S, q⟩ => q
theorem dss_nil : PSs X [] (tS g W E fun ρ => .ok .nx ρ) := pssImp pss_nil fun D σ H ⟨O, ρ, S, q⟩ => q σ H O S
theorem dss_cons {st : Stmt} {rest : List Stmt} {fa fb : Rho → Re Out} (ha : PS X st (tS g W E fa)) (hb : PSs X rest (tS g W E fb)) :
    PSs X (st :: rest) (tS g W E fun ρ => (fa ρ).bd fun o ρ1 => match o with
      | .nx => fb ρ1
      | o => .ok o ρ1) := by
  refine pssImp (pss_cons ha hb) fun D σ H ⟨O, ρ, S, q⟩ => ?_
  refine ⟨O, ρ, S, ?_⟩
  cases r : fa ρ with
  | ok o ρ1 =>
    simp only [r, Re.bd] at q
    cases o with
    | nx => exact fun σ' H' O' S' => ⟨O', ρ1, S', q⟩
    | bk => exact q
    | ct => exact q
    | rt v => exact q
  | ex x ρ1 =>
    simp only [r, Re.bd] at q
    exact q
  | st =>
    simp only [r, Re.bd] at q
    exact q
/-- what a turn of a loop does at its entry -/
theorem SO.turn {r : Re Out} {D : Ends} {σ1 : St} {ρ1 : Rho} {H1 : Hp} {O1 : AP1} (S : SI g E H1 O1 σ1 ρ1) (h : SO g W E r D)
    (hr : ∀ v σ' H' O' ρ' d, r = .ok (.rt d) ρ' → RtF g ⟨H1, O1, Wn σ1 ρ1, E.ios⟩ σ' ρ' H' O' v d → RtF g E σ' ρ' H' O' v d) : SO g W ⟨H1, O1, Wn σ1 ρ1, E.ios⟩ r D := by
  cases r with
  | ok o ρ' =>
    cases o with
    | nx => exact fun σ' H' O' T => h σ' H' O' (S.comp T)
    | bk => exact fun σ' H' O' T => h σ' H' O' (S.comp T)
    | ct => exact fun σ' H' O' T => h σ' H' O' (S.comp T)
    | rt d => exact fun v σ' H' O' T z => h v σ' H' O' (S.comp T) (hr v σ' H' O' ρ' d rfl z)
  | ex x ρ' => exact fun c dx σ' H' O' T z => h c dx σ' H' O' (S.comp T) z
  | st => exact h
theorem RtF.comp {σ σ1 : St} {ρ ρ1 : Rho} {H H1 : Hp} {O O1 : AP1} {v : V} {d : Rs} (S : SI g E H1 O1 σ1 ρ1) (h : RtF g ⟨H1, O1, Wn σ1 ρ1, E.ios⟩ σ ρ H O v d) : RtF g E σ ρ H O v d := by
  cases d with
  | sh d => exact h
  | fr d =>
    obtain ⟨a, e, o, n, b, z⟩ := h
    exact ⟨a, e, o, n, b, z.elim (fun z => .inl (S.fr.there a z)) fun z => (S.wn a z).symm⟩
end
end Wr

/-! a, .., *r = e; a += n. -/
namespace Wr
open PySem PySem.Spec L2
open PyProof.Rows hiding St

section
variable {X : Cx} {pos : Pos}
/-- a, .., *r: the items ahead, the others in a new list -/
def gStar (K : PySem.W.Frag) (n : Nat) (t : TGs) : TG := fun v σ H Q => ∃ a xs, v = .ref a ∧ (SqL K H a xs ∨ SqT K H a xs) ∧ n ≤ xs.length ∧ xs.length ≤ 10000 ∧ ∀ d, H d = none → t (xs.take n ++ [.ref d]) σ (upd H d (.lst (xs.drop n))) Q
/-- items taken from an iterator, the others collected -/
theorem unpack_star {pins : List (Addr × Obj)} {σ : St} {H : Hp} {s : Shared} {a : Addr} {xs : List V} {n : Nat} {Q : List Value → Shared → Prop} (I : Inv X pins σ H s) (hc : X.A.handled = none) (hs : SqL X.K H a xs ∨ SqT X.K H a xs) (hn : n ≤ xs.length) (hz : xs.length ≤ 10000)
    (h : ∀ d us s', H d = none → Inv X pins σ (upd H d (.lst (xs.drop n))) s' → Vals (xs.take n ++ [V.ref d]) us → Q us s') :
    wpAny (model X.prog X.w) X.A (unpackItems (.ref a) (n + 1) (some n)) Q X.xe s := by
  have fin : ∀ (its : List Value) (h₂ : Heap) (tk : Nat), Vals xs its → (∀ b o, s.heap.get? b = some o → h₂.get? b = some o) →
      wpAny (model X.prog X.w) X.A (newList ((its.drop n).take ((its.drop n).length - (n + 1 - 1 - n))) >>= fun d => pure (its.take n ++ [d] ++ (its.drop n).drop ((its.drop n).length - (n + 1 - 1 - n)))) Q X.xe { s with heap := h₂, toks := tk } := fun its h₂ tk rv kp => by
    have e0 : n + 1 - 1 - n = 0 := by omega
    rw [e0, Nat.sub_zero, List.take_length, List.drop_length]
    have I2 : Inv X pins σ H { s with heap := h₂, toks := tk } := I.kept kp
    have hf : H h₂.objs.size = none := I2.hok.fresh (Nat.le_refl _)
    have rd : Vals (xs.drop n) (its.drop n) := rv.drop n
    have rt : Vals (xs.take n) (its.take n) := rv.take n
    have hlen : (its.drop n).length ≤ sizeLine := by
      have := rd.length
      rw [← this, List.length_drop, sizeLine_eq]
      omega
    refine wpAny_bind (wpAny_newList (wpAny_pure ?_) hlen)
    rw [List.append_nil]
    exact h h₂.objs.size _ _ hf (I2.laid (t' := tk) (fun b u e => Heap.get?_push_of_some _ e) (Nat.le_refl _) ⟨by rw [rd.length]; exact hlen, _, 0, rd, Heap.get?_push_size _ rfl⟩) (rt.append (.cons rfl .nil))
  rcases hs with hs | hs
  · obtain ⟨its, rv, pl, hz2⟩ := I.list hs
    have hl : s.heap.IsList a its.toArray := pl.isList
    have lenI : its.toArray.size = xs.length := by rw [List.size_toArray, rv.length]
    have hlt : a ≠ s.heap.objs.size := by obtain ⟨o, ho, _⟩ := id hl; exact Nat.ne_of_lt (Heap.lt_size ho)
    unfold unpackItems; refine wpAny_bind ?_
    unfold notIterableAtAll; refine wpAny_bind (wpAny_specialOf hl.typeIs slot_list_iter.lookup (wpAny_pure ?_))
    rw [if_neg Bool.false_ne_true]
    refine wpAny_bind (wpAny_holding (wpAny_pyIter_list hl (wpAny_bind (wpAny_holding (PySem.W.kun_draw hlt n 0 _ _ ⟨_, Heap.get?_push_size _ rfl, rfl, rfl⟩ (hl.push _) (by omega) fun h₁ it₁ hs₁ => ?_)))))
    have hl₁ : h₁.IsList a its.toArray := (hl.push _).extBut hs₁.extBut hlt
    rw [Nat.zero_add] at it₁
    obtain ⟨oi, hoi, _⟩ := id it₁
    obtain ⟨ol, hol, _⟩ := id hl₁
    rw [List.drop_zero]
    have hfl : (its.toArray.toList.take n).length = n := by rw [List.length_take, Array.length_toList, lenI]; omega
    rw [if_neg (show ¬ ((its.toArray.toList.take n).length < n) by omega)]
    refine wpAny_bind (wpAny_holding (PySem.W.kun_collect (s := { s with heap := h₁ }) (T := "list_iterator") (.inr (.inr (.inl rfl))) (Walks.list (A := X.A.in1) hc s.heap.objs.size a hlt its.toArray) (fun j u st => st.1.typeIs) (k := n) (by omega) ⟨it₁, hl₁⟩ (Heap.lt_size hoi) (Heap.lt_size hol)
      (fun h₂ tk hk => ?_) (by rw [lenI, sizeLine_eq]; omega)))
    show wpAny _ _ (if (its.drop n).length < n + 1 - 1 - n then _ else _) _ _ _
    rw [if_neg (by omega)]
    exact fin its h₂ tk rv fun b o e => hk b o (Nat.ne_of_lt (Heap.lt_size e)) (hs₁.extBut b o (Nat.ne_of_lt (Heap.lt_size e)) (Heap.get?_push_of_some _ e))
  · obtain ⟨its, rv, hl, hz2⟩ := I.tuple hs
    have lenI : its.toArray.size = xs.length := by rw [List.size_toArray, rv.length]
    have hlt : a ≠ s.heap.objs.size := by obtain ⟨o, ho, _⟩ := id hl; exact Nat.ne_of_lt (Heap.lt_size ho)
    unfold unpackItems; refine wpAny_bind ?_
    unfold notIterableAtAll; refine wpAny_bind (wpAny_specialOf hl.typeIs slot_tuple_iter.lookup (wpAny_pure ?_))
    rw [if_neg Bool.false_ne_true]
    refine wpAny_bind (wpAny_holding (iter_tuple hl (wpAny_bind (wpAny_holding (draw_tuple hlt n 0 _ _ ⟨_, Heap.get?_push_size _ rfl, rfl, rfl⟩ (hl.push _) (by omega) fun h₁ it₁ hs₁ => ?_)))))
    have hl₁ : IsTup h₁ a its.toArray := (hl.push _).extBut hs₁.extBut hlt
    rw [Nat.zero_add] at it₁
    obtain ⟨oi, hoi, _⟩ := id it₁
    obtain ⟨ol, hol, _⟩ := id hl₁
    rw [List.drop_zero]
    have hfl : (its.toArray.toList.take n).length = n := by rw [List.length_take, Array.length_toList, lenI]; omega
    rw [if_neg (show ¬ ((its.toArray.toList.take n).length < n) by omega)]
    refine wpAny_bind (wpAny_holding (PySem.W.kun_collect (s := { s with heap := h₁ }) (T := "tuple_iterator") (.inr (.inr (.inr rfl))) (Walks.tuple (A := X.A.in1) hc s.heap.objs.size a hlt its.toArray) (fun j u st => st.1.typeIs) (k := n) (by omega) ⟨it₁, hl₁⟩ (Heap.lt_size hoi) (Heap.lt_size hol)
      (fun h₂ tk hk => ?_) (by rw [lenI, sizeLine_eq]; omega)))
    show wpAny _ _ (if (its.drop n).length < n + 1 - 1 - n then _ else _) _ _ _
    rw [if_neg (by omega)]
    exact fin its h₂ tk rv fun b o e => hk b o (Nat.ne_of_lt (Heap.lt_size e)) (hs₁.extBut b o (Nat.ne_of_lt (Heap.lt_size e)) (Heap.get?_push_of_some _ e))
theorem pg_star {es : List Expr} {k n : Nat} {t : TGs} (hc : X.calm = true) (h : PGs X es t) (hn : (assignEach es X.env).length = n + 1) (hst : (assignEach es X.env).findIdx? (·.1) = some n) : PG X (.Tuple es k pos) (gStar X.K n t) := by
  refine ⟨fun pins s σ H v u Q I r hw => ?_⟩
  obtain ⟨a, xs, rfl, hs, h1, h2, hw⟩ := hw
  cases r
  rw [assign_Tuple]
  refine wpAny_bind (wpAny_standAt ?_)
  unfold unpack
  rw [hn, hst]
  refine wpAny_bind (wpAny_holding (unpack_star I (I.ok.hd hc) hs h1 h2 fun d us s' hd I1 rv => ?_))
  exact h.run pins s' σ _ _ us Q I1 rv (hw d hd)
theorem pgs_star {e : Expr} {t : TG} {p : Pos} (h : PG X e t) : PGs X [.Starred e p] (gCons t gNil) := by
  refine ⟨fun pins s σ H vs us Q I r hw => ?_⟩
  obtain ⟨v, vr, rfl, hw⟩ := hw
  cases r with
  | cons r rr =>
    show wpAny _ _ (assignInOrder [assign e X.env] _) _ _ _
    refine assignInOrder_cons (thn (h.run pins s σ H _ _ _ I r hw) fun _ s1 ⟨σ1, H1, I1, q1⟩ => ?_)
    exact pgs_nil.run pins s1 σ1 H1 _ _ Q I1 rr q1
end
section
variable {g : Gm} {E : En} {W : WX} {X : Cx} {pos : Pos} {e : Expr}
/-- the targets ahead, then the one with the star -/
def gSt : List Nat → Nat → TGs
  | [], j => gCons (gName j) gNil
  | i :: is, j => gCons (gName i) (gSt is j)
theorem gSt_of {H : Hp} {O : AP1} {j : Nat} {w : V} : ∀ {is : List Nat} {vs : List V} {ds : List Wr.D} {σ : St} {ρ ρ1 : Rho} {Q : St → Hp → Prop}, StR g H O σ ρ → RDs g H O vs ds → setShs is ds ρ = some ρ1 → (∀ σ1, Bnd g H O is σ ρ σ1 ρ1 → Q (σ1.set j (some w)) H) → gSt is j (vs ++ [w]) σ H Q
  | [], _, _, _, _, _, _, S, .nil, h, q => by cases h; exact ⟨w, [], rfl, rfl, q _ (.refl S)⟩
  | i :: is, _, _, σ, ρ, ρ1, Q, S, .cons (v := v) (vs := vs) (d := d) (ds := ds) r rs, h, q => by
    obtain ⟨ρ2, e1, e2⟩ := Option.bind_eq_some_iff.mp (show (setSh i d ρ).bind (setShs is ds) = some ρ1 from h)
    have b1 := bnd_sh S r e1
    refine ⟨v, vs ++ [w], rfl, gSt_of b1.st rs e2 fun σ1 b2 => q σ1 ?_⟩
    exact (b1.mono fun k hk => by simp at hk; simp [hk]).trans (b2.mono fun k hk => List.mem_cons_of_mem _ hk)
  | [], _, _, _, _, _, _, _, .cons _ _, h, _ => by cases h
  | _ :: _, _, _, _, _, _, _, _, .nil, h, _ => by cases h
theorem ds_asgS (C : CtxOk g X) {tg : Expr} {is : List Nat} {j : Nat} {s : Sm} (he : PE X e (tE g W s.v)) (hg : PG X tg (gStar X.K is.length (gSt is j))) (hs : swapsWithSole [tg] e pos.line X.env = pure false) (hw : swappedStores [tg] e X.env = pure none)
    (h1 : (assignEach [tg] X.env).map (·.2) = [assign tg X.env]) : PS X (.Assign [tg] e pos) (tS g W E (asgSV is j s)) := by
  refine psImp (ps_asg he hg hs hw h1) fun D σ H ⟨O, ρ, S, q⟩ => ?_
  refine ⟨O, ρ, S.st, (so_rw S q).imp fun r ρ1 q1 v H1 O1 s1 rv => ?_⟩
  obtain ⟨O2, s2, r2⟩ := rv.share S.st s1
  split at q1
  case h_2 => exact q1.elim
  rename_i ds ed
  split at q1
  case isFalse => exact q1.elim
  rename_i hl
  split at q1
  case h_2 => exact q1.elim
  rename_i ρ3 e3
  obtain ⟨ρ2, e1, e2⟩ := Option.bind_eq_some_iff.mp e3
  have S2 := S.step s2
  have key : ∃ a xs, v = .ref a ∧ (SqL X.K H1 a xs ∨ SqT X.K H1 a xs) ∧ RDs g H1 O2 xs ds := by
    rw [C.hK]
    unfold itemsD at ed
    split at ed
    · rename_i ds' e'
      cases ed
      rw [e'] at r2
      cases r2 with
      | lst h hs => exact ⟨_, _, rfl, .inl h.sq, hs⟩
    · rename_i ds' e'
      cases ed
      rw [e'] at r2
      cases r2 with
      | tup h hs => exact ⟨_, _, rfl, .inr h.sq, hs⟩
    · cases ed
  obtain ⟨a, xs, rfl, hsq, rs⟩ := key
  refine ⟨a, xs, rfl, hsq, by rw [rs.len]; exact hl.1, by rw [rs.len]; exact hl.2, fun d hd => ?_⟩
  have rd := RDs.drop is.length rs
  have rt := RDs.take is.length rs
  have S3 : SI g E (upd H1 d (.lst (xs.drop is.length))) (fun b => O2 b ∨ b = d) σ ρ1 :=
    ⟨S2.st.laidO hd, S2.fr.trans (Fr.laidO (W := fun _ => False) hd) fun _ z => z.elim, S2.wn, S2.o0, S2.io⟩
  have fr0 : Fr (fun _ => False) H1 O2 (upd H1 d (.lst (xs.drop is.length))) (fun b => O2 b ∨ b = d) := Fr.laidO hd
  refine gSt_of S3.st (rt.fr fr0 fun _ z => z.elim) e1 fun σ1 b1 => ?_
  have S4 := S3.bnd b1
  refine q1 _ _ _ (set_rs S4 (r := .fr (.lst (ds.drop is.length))) ⟨d, rfl, S2.fr.there d hd, .inr rfl, fun z => ?_, .lst upd_same (rd.fr fr0 fun _ z => z.elim)⟩ e2).1
  exact S2.st.obj d (S2.st.wn d (b1.wn d z)) hd
theorem ds_aug (C : CtxOk g X) {i : Nat} {x : Str} {pos' : Pos} {s : Sm} (hi : X.N[i]? = some x) (hx : Loc X.env.scope x) (he : PE X e (tE g W s.v)) (hf : X.fn x = true ∨ X.env.scope.names.lookup x = some .local) :
    PS X (.AugAssign (.Name x pos') .Add e pos) (tS g W E (augV i s)) := by
  refine psImp (ps_aug C.nd hi hx he ip_add hf) fun D σ H ⟨O, ρ, S, q⟩ => ?_
  unfold augV at q
  split at q
  case h_2 => exact q.elim
  rename_i a ea
  obtain ⟨v, ev, r⟩ := S.st.get ea
  cases r with | sh r =>
  cases r
  refine ⟨.int a, ev, O, ρ, S.st, (so_rw S q).imp fun r ρ1 q1 w H1 O1 s1 rv => ?_⟩
  obtain ⟨O2, s2, r2⟩ := rv.share S.st s1
  split at q1
  case h_2 => exact q1.elim
  rename_i b eb
  rw [eb] at r2
  cases r2
  split at q1
  case h_2 => exact q1.elim
  rename_i ρ2 e2
  exact ⟨a, b, rfl, rfl, q1 _ H1 O2 ((S.step s2).bnd (bnd_sh s2.st (.int _) e2))⟩
end
end Wr

/-! Statements, 3: loops. -/
namespace Wr
open PySem PySem.Spec L2
open PyProof.Rows hiding St

section
variable {g : Gm} {E : En} {W : WX} {X : Cx} {pos : Pos} {e c tg iter : Expr} {body : List Stmt}
/-- the body of a loop, from wherever its turn begins -/
def tB (g : Gm) (W : WX) (f : Rho → Re Out) : TS := fun D σ H => ∃ E, tS g W E f D σ H
theorem pss_B {f : Rho → Re Out} (h : ∀ E, PSs X body (tS g W E f)) : PSs X body (tB g W f) := ⟨fun pins s σ H D I ⟨E, q⟩ => (h E).run pins s σ H D I q⟩
theorem ds_for (C : CtxOk g X) {it : Rho → Re (List Wr.D)} {fb : Rho → Re Out} {ct : CT} (hp : PassesOwn (model X.prog X.w) X.A X.env X.xe) (hi : PI X tg iter (tI g W it)) (hg : PG X tg (gT X.K ct)) (hb : ∀ E, PSs X body (tS g W E fb))
    (hs : ∀ x, foldedSetIterable iter X.env x = pure x) : PS X (.For tg iter body [] pos) (tS g W E fun ρ => (it ρ).bd fun xs ρ1 => forRun (forTurn ct fb) xs ρ1) := by
  refine psImp (ps_for hp C.calm hi hg (pss_B hb) hs) fun D σ H ⟨O, ρ, S, q⟩ => ?_
  refine ⟨O, ρ, S.st, (so_rw S q).imp fun ds ρ1 q1 J H1 O1 s1 ⟨wk⟩ => ?_⟩
  have S1 := S.step s1
  let E1 : En := ⟨H1, O1, Wn σ ρ1, E.ios⟩
  refine for_it wk.walk (fun i σ' H' => ∃ O' ρ', SI g E1 H' O' σ' ρ' ∧ SO g W E1 (forRun (forTurn ct fb) (ds.drop i) ρ') D) ⟨O1, ρ1, S1.begin_, ?_⟩ ?_ ?_ ?_
  · exact SO.turn S1 q1 fun v σ' H' O' ρ' d _ z => z.comp S1
  · rintro i σ' H' hi ⟨O', ρ', T, _⟩
    exact wk.good _ _ _ T.fr S1.st.wn
  · rintro i x σ' H' H2 hi ⟨O', ρ', T, q⟩ y
    obtain ⟨d, hd⟩ : ∃ d, ds[i]? = some d := ⟨ds[i], by simp [hi]⟩
    obtain ⟨r, gr⟩ := wk.item _ _ _ i x H2 d T.fr S1.st.wn T.st.obj y hd
    have T' := T.grow gr
    have e1 : ds.drop i = d :: ds.drop (i + 1) := by
      have := List.drop_eq_getElem_cons hi
      rw [this]
      congr 1
      have h2 := List.getElem?_eq_getElem hi
      rw [hd] at h2
      exact (Option.some.inj h2).symm
    rw [e1] at q
    unfold forRun at q
    cases eb : bindT ct d ρ' with
    | none =>
      have et : forTurn ct fb d ρ' = .st := by unfold forTurn; rw [eb]
      rw [et] at q
      exact q.elim
    | some ρ2 =>
      have et : forTurn ct fb d ρ' = fb ρ2 := by unfold forTurn; rw [eb]
      rw [et] at q
      rw [C.hK]
      refine gT_of T'.st r eb fun σ1 b => ⟨E1, O', ρ2, T'.bnd b, ?_⟩
      cases ef : fb ρ2 with
      | ok o ρ3 =>
        rw [ef] at q
        cases o with
        | nx => exact fun σ4 H4 O4 S4 => ⟨O4, ρ3, S4, q⟩
        | ct => exact fun σ4 H4 O4 S4 => ⟨O4, ρ3, S4, q⟩
        | bk => exact q
        | rt v => exact q
      | ex x ρ3 =>
        rw [ef] at q
        exact q
      | st =>
        rw [ef] at q
        exact q
  · rintro σ' H' ⟨O', ρ', T, q⟩
    rw [List.drop_length] at q
    exact q σ' H' O' T
theorem ds_whl (C : CtxOk g X) {n : Nat} {s : Sm} {fb : Rho → Re Out} (hp : PassesOwn (model X.prog X.w) X.A X.env X.xe) (hc : PT X c (tQ g W s.t)) (hb : ∀ E, PSs X body (tS g W E fb)) :
    PS X (.While c body [] pos) (tS g W E (whlRun s.t fb n)) := by
  refine psImp (ps_while hp hc (pss_B hb)) fun D σ H ⟨O, ρ, S, q⟩ => ?_
  let E1 : En := ⟨H, O, Wn σ ρ, E.ios⟩
  refine ⟨fun m σ' H' => ∃ O' ρ', SI g E1 H' O' σ' ρ' ∧ SO g W E1 (whlRun s.t fb m ρ') D, ⟨n, O, ρ, S.begin_, ?_⟩, ?_⟩
  · exact SO.turn S q fun v σ' H' O' ρ' d _ z => z.comp S
  · rintro m σ' H' ⟨O', ρ', T, q⟩
    cases m with
    | zero => exact q.elim
    | succ m =>
      unfold whlRun at q
      refine ⟨O', ρ', T.st, (so_rw T q).imp fun t ρ1 q1 H1 O1 s1 => ?_⟩
      have T1 := T.step s1
      cases t with
      | false =>
        rw [if_neg Bool.false_ne_true] at q1
        show D.nx σ' H1
        exact q1 σ' H1 O1 T1
      | true =>
        rw [if_pos rfl] at q1
        show ∃ N, _ ∧ _
        refine ⟨fun σ4 H4 => ∃ O' ρ', SI g E1 H4 O' σ4 ρ' ∧ SO g W E1 (whlRun s.t fb m ρ') D, fun σ4 H4 z => ⟨m, Nat.lt_succ_self m, z⟩, E1, O1, ρ1, T1, ?_⟩
        cases ef : fb ρ1 with
        | ok o ρ3 =>
          rw [ef] at q1
          cases o with
          | nx => exact fun σ4 H4 O4 S4 => ⟨O4, ρ3, S4, q1⟩
          | ct => exact fun σ4 H4 O4 S4 => ⟨O4, ρ3, S4, q1⟩
          | bk => exact q1
          | rt v => exact q1
        | ex x ρ3 =>
          rw [ef] at q1
          exact q1
        | st =>
          rw [ef] at q1
          exact q1
end
end Wr

/-! A text and its core: a look by computation, and what it says. -/
namespace Wr
open PySem PySem.Spec L2
open PyProof.Rows hiding St

/-! ### views -/
def vName : Expr → Option Str
  | .Name x _ => some x
  | _ => none
def vConst : Expr → Option Const
  | .Constant k _ _ => some k
  | _ => none
def vBin : Expr → Option (Expr × Operator × Expr)
  | .BinOp a o b _ => some (a, o, b)
  | _ => none
def vUn : Expr → Option (UnaryOp × Expr)
  | .UnaryOp o a _ => some (o, a)
  | _ => none
def vCmp : Expr → Option (Expr × List CmpOp × List Expr)
  | .Compare a os bs _ => some (a, os, bs)
  | _ => none
def vBool : Expr → Option (BoolOp × List Expr)
  | .BoolOp o es _ => some (o, es)
  | _ => none
def vIf : Expr → Option (Expr × Expr × Expr)
  | .IfExp c a b _ => some (c, a, b)
  | _ => none
def vTup : Expr → Option (List Expr)
  | .Tuple es _ _ => some es
  | _ => none
def vLst : Expr → Option (List Expr)
  | .List es _ => some es
  | _ => none
def vSub : Expr → Option (Expr × Expr)
  | .Subscript a i _ => some (a, i)
  | _ => none
def vSl : Expr → Option (Option Expr × Option Expr)
  | .Slice l h none _ => some (l, h)
  | _ => none
/-- a call of a name with plain arguments -/
def vCall : Expr → Option (Str × List Expr)
  | .Call (.Name x _) es [] _ => some (x, es)
  | _ => none
def vLc : Expr → Option (Expr × Expr × Expr × List Expr × Scope)
  | .ListComp e [⟨t, i, fs, 0⟩] sc _ => some (e, t, i, fs, sc)
  | _ => none
def vLc2 : Expr → Option (Expr × Expr × Expr × Expr × Expr × Scope)
  | .ListComp e [⟨t, i, [], 0⟩, ⟨t1, i1, [], 0⟩] sc _ => some (e, t, i, t1, i1, sc)
  | _ => none
/-- a method of two plain arguments -/
def vCallK : Expr → Option (Str × List Expr × List Keyword)
  | .Call (.Name x _) es ks _ => some (x, es, ks)
  | _ => none
def vMth2 : Expr → Option (Expr × Str × Expr × Expr)
  | .Call (.Attribute o a pa) [e, d] [] pc => if pa.endLine == pc.line then some (o, a, e, d) else none
  | _ => none
def vDct : Expr → Option (List (Option Expr) × List Expr)
  | .Dict ks es _ => some (ks, es)
  | _ => none
/-- keys that are texts -/
def kysB : List Str → List (Option Expr) → Bool
  | [], [] => true
  | x :: xs, some (.Constant (.str y) _ _) :: ks => decide (x = y) && kysB xs ks
  | _, _ => false
/-- a method of one plain argument -/
def vMth : Expr → Option (Expr × Str × Expr)
  | .Call (.Attribute o a pa) [e] [] pc => if pa.endLine == pc.line then some (o, a, e) else none
  | _ => none
/-- what an attribute is asked of is no call -/
def baseB : Expr → Bool
  | .Call .. => false
  | _ => true
def notStarB : Expr → Bool
  | .Starred .. => false
  | _ => true
def notSliceB : Expr → Bool
  | .Slice .. => false
  | _ => true
def notSetB : Expr → Bool
  | .Set .. => false
  | _ => true
section
variable {e : Expr}
theorem vName_eq {x : Str} (h : vName e = some x) : ∃ p, e = .Name x p := by cases e <;> first | (cases h; exact ⟨_, rfl⟩) | cases h
theorem vConst_eq {k : Const} (h : vConst e = some k) : ∃ j p, e = .Constant k j p := by cases e <;> first | (cases h; exact ⟨_, _, rfl⟩) | cases h
theorem vBin_eq {a b : Expr} {o : Operator} (h : vBin e = some (a, o, b)) : ∃ p, e = .BinOp a o b p := by cases e <;> first | (cases h; exact ⟨_, rfl⟩) | cases h
theorem vUn_eq {a : Expr} {o : UnaryOp} (h : vUn e = some (o, a)) : ∃ p, e = .UnaryOp o a p := by cases e <;> first | (cases h; exact ⟨_, rfl⟩) | cases h
theorem vCmp_eq {a : Expr} {os : List CmpOp} {bs : List Expr} (h : vCmp e = some (a, os, bs)) : ∃ p, e = .Compare a os bs p := by cases e <;> first | (cases h; exact ⟨_, rfl⟩) | cases h
theorem vBool_eq {o : BoolOp} {bs : List Expr} (h : vBool e = some (o, bs)) : ∃ p, e = .BoolOp o bs p := by cases e <;> first | (cases h; exact ⟨_, rfl⟩) | cases h
theorem vIf_eq {a b c : Expr} (h : vIf e = some (c, a, b)) : ∃ p, e = .IfExp c a b p := by cases e <;> first | (cases h; exact ⟨_, rfl⟩) | cases h
theorem vTup_eq {es : List Expr} (h : vTup e = some es) : ∃ k p, e = .Tuple es k p := by cases e <;> first | (cases h; exact ⟨_, _, rfl⟩) | cases h
theorem vLst_eq {es : List Expr} (h : vLst e = some es) : ∃ p, e = .List es p := by cases e <;> first | (cases h; exact ⟨_, rfl⟩) | cases h
theorem vDct_eq {ks : List (Option Expr)} {es : List Expr} (h : vDct e = some (ks, es)) : ∃ p, e = .Dict ks es p := by cases e <;> first | (cases h; exact ⟨_, rfl⟩) | cases h
theorem vMth_eq {o b : Expr} {a : Str} (h : vMth e = some (o, a, b)) : ∃ pa pc, e = .Call (.Attribute o a pa) [b] [] pc ∧ (pa.endLine == pc.line) = true := by
  unfold vMth at h
  split at h
  · split at h
    · rename_i hc
      cases h
      exact ⟨_, _, rfl, hc⟩
    · cases h
  · cases h
theorem vSub_eq {a i : Expr} (h : vSub e = some (a, i)) : ∃ p, e = .Subscript a i p := by cases e <;> first | (cases h; exact ⟨_, rfl⟩) | cases h
theorem vSl_eq {l u : Option Expr} (h : vSl e = some (l, u)) : ∃ p, e = .Slice l u none p := by
  cases e <;> first | (rename_i s p; cases s <;> first | (cases h; exact ⟨_, rfl⟩) | cases h) | cases h
theorem vCall_eq {x : Str} {es : List Expr} (h : vCall e = some (x, es)) : ∃ q p, e = .Call (.Name x q) es [] p := by
  cases e <;> first | (rename_i f as ks p; cases f <;> first | (cases ks <;> first | (cases h; exact ⟨_, _, rfl⟩) | cases h) | cases h) | cases h
theorem vLc_eq {el t i : Expr} {fs : List Expr} {sc : Scope} (h : vLc e = some (el, t, i, fs, sc)) : ∃ p, e = .ListComp el [⟨t, i, fs, 0⟩] sc p := by
  unfold vLc at h
  split at h
  · cases h; exact ⟨_, rfl⟩
  · cases h
theorem vLc2_eq {el t i t1 i1 : Expr} {sc : Scope} (h : vLc2 e = some (el, t, i, t1, i1, sc)) : ∃ p, e = .ListComp el [⟨t, i, [], 0⟩, ⟨t1, i1, [], 0⟩] sc p := by
  unfold vLc2 at h
  split at h
  · cases h; exact ⟨_, rfl⟩
  · cases h
theorem vCallK_eq {x : Str} {es : List Expr} {ks : List Keyword} (h : vCallK e = some (x, es, ks)) : ∃ q p, e = .Call (.Name x q) es ks p := by
  unfold vCallK at h
  split at h
  · cases h; exact ⟨_, _, rfl⟩
  · cases h
theorem vMth2_eq {o b d : Expr} {a : Str} (h : vMth2 e = some (o, a, b, d)) : ∃ pa pc, e = .Call (.Attribute o a pa) [b, d] [] pc ∧ (pa.endLine == pc.line) = true := by
  unfold vMth2 at h
  split at h
  · split at h
    · rename_i hc
      cases h
      exact ⟨_, _, rfl, hc⟩
    · cases h
  · cases h
theorem notStar_of (h : notStarB e = true) : NotStar e := by cases e <;> first | exact fun _ _ => rfl | cases h
theorem plainIx_of (h : notSliceB e = true) : PlainIx e := by cases e <;> first | exact fun _ _ => rfl | cases h
theorem marks_of {op : CmpOp} (h : notSetB e = true) : behindInMarks op e = false := by cases e <;> first | rfl | cases h
end

/-! ### the look -/
/-- what is known of the module by names: defs, built-ins, written dicts, written numbers -/
structure MI where
  dn : Str → Bool
  po : Str → Bool
  kw : Str → List (Nat × List Str × List Nat)
  bn : Str → Bool
  gd : Str → Option (List (Str × GV))
  gc : Str → Option GC
structure KC extends MI where
  N : List Str
  sc : Scope
  fnb : Str → Bool
def visB (sc : Scope) (x : Str) : Bool := match sc.names.lookup x with
  | some .local => true
  | some .cell => true
  | some .free => true
  | _ => false
def locB (sc : Scope) (x : Str) : Bool := match sc.names.lookup x with
  | some .local => true
  | some .cell => true
  | _ => false
def glB (sc : Scope) (x : Str) : Bool := match sc.names.lookup x with
  | some .globalImplicit => true
  | _ => false
def plB (x : Str) : Bool := !(x == ("__debug__" : Str)) && !(x == ("__classdict__" : Str))
def KC.rd (c : KC) (i : Nat) (e : Expr) : Bool := match vName e with
  | some x => decide (c.N[i]? = some x) && visB c.sc x && plB x
  | none => false
/-- a built-in name -/
def KC.bi (c : KC) (x : Str) (n : String) : Bool := decide (x = (n : Str)) && glB c.sc x && c.bn x
def KC.tg1 (c : KC) (i : Nat) (e : Expr) : Bool := match vName e with
  | some x => decide (c.N[i]? = some x) && locB c.sc x && (c.fnb x || decide (c.sc.names.lookup x = some .local))
  | none => false
def KC.tgs (c : KC) : List Nat → List Expr → Bool
  | [], [] => true
  | i :: is, e :: es => c.tg1 i e && c.tgs is es
  | _, _ => false
def KC.tg (c : KC) : CT → Expr → Bool
  | .nm i, e => c.tg1 i e
  | .tp is, e => match vTup e with
    | some es => c.tgs is es
    | none => false
/-- the block's own slots by the target -/
def ownOf (N : List Str) (is : List Nat) : List (Str × Nat) := is.map fun i => (N.getD i ("" : Str), i)
def KC.blk (c : KC) (scope : Scope) : KC := { c with sc := relS scope c.sc, fnb := fun x => scope.names.lookup x == some .cell }
def one2 {α : Type} : List α → Bool
  | [_] => true
  | [_, _] => true
  | _ => false
def few1 {α : Type} : List α → Bool
  | [] => true
  | [_] => true
  | _ => false
def some1 {α : Type _} : List α → Bool
  | [] => false
  | _ => true
mutual
def chkE : CE → KC → Expr → Bool
  | .var i, c, e => c.rd i e
  | .int i, _, e => match vConst e with
    | some (.int j) => decide (i = j)
    | _ => false
  | .bl b, _, e => match vConst e with
    | some (.bool j) => b == j
    | _ => false
  | .non, _, e => match vConst e with
    | some .none => true
    | _ => false
  | .str x, _, e => match vConst e with
    | some (.str y) => decide (x = y)
    | _ => false
  | .fnc x, c, e => match vName e with
    | some y => decide (x = y) && glB c.sc x && c.dn x && plB x
    | none => false
  | .bin op a b, c, e => match vBin e with
    | some (x, o, y) => decide (op = o) && chkE a c x && chkE b c y
    | none => false
  | .neg a, c, e => match vUn e with
    | some (o, x) => decide (o = .USub) && chkE a c x
    | none => false
  | .inv a, c, e => match vUn e with
    | some (o, x) => decide (o = .Invert) && chkE a c x
    | none => false
  | .cmp op a b, c, e => match vCmp e with
    | some (x, [o], [y]) => decide (op = o) && notSetB y && chkE a c x && chkE b c y
    | _ => false
  | .chn o p a b d, c, e => match vCmp e with
    | some (x, [o', p'], [y, z]) => decide (o = o') && decide (p = p') && notSetB z && chkE a c x && chkE b c y && chkE d c z
    | _ => false
  | .bop k es, c, e => match vBool e with
    | some (o, xs) => decide (o = bopOf k) && some1 xs && chkEs es c xs
    | none => false
  | .nt a, c, e => match vUn e with
    | some (o, x) => decide (o = .Not) && chkE a c x
    | none => false
  | .ite t a b, c, e => match vIf e with
    | some (x, y, z) => chkE t c x && chkE a c y && chkE b c z
    | none => false
  | .tup es, c, e => match vTup e with
    | some xs => chkEs es c xs
    | none => false
  | .lst es, c, e => match vLst e with
    | some xs => chkEs es c xs
    | none => false
  | .dct xs es, c, e => match vDct e with
    | some (ks, vs) => kysB xs ks && decide (xs.length = vs.length) && decide (xs.length ≤ 15) && decide xs.Nodup && chkEs es c vs
    | none => false
  | .gd x kvs, c, e => match vName e with
    | some y => decide (x = y) && glB c.sc x && decide (c.gd x = some kvs) && plB x
    | none => false
  | .gc x d, c, e => match vName e with
    | some y => decide (x = y) && glB c.sc x && decide (c.gc x = some d) && plB x
    | none => false
  | .spl a b, c, e => match vMth e with
    | some (x, m, y) => decide (m = ("split" : Str)) && baseB x && notStarB y && chkE a c x && chkE b c y
    | none => false
  | .ptn a b, c, e => match vMth e with
    | some (x, m, y) => decide (m = ("partition" : Str)) && baseB x && notStarB y && chkE a c x && chkE b c y
    | none => false
  | .ix a i, c, e => match vSub e with
    | some (x, y) => notSliceB y && chkE a c x && chkE i c y
    | none => false
  | .sl a l h, c, e => match vSub e with
    | some (x, y) => chkE a c x && (match vSl y with
      | some (u, v) => chkO l c u && chkO h c v
      | none => false)
    | none => false
  | .bi f es, c, e => match vCall e with
    | some (x, xs) => c.bi x f.nm && some1 xs && chkEs es c xs
    | none => false
  | .isi t a, c, e => match vCall e with
    | some (x, [y, z]) => c.bi x "isinstance" && notStarB y && chkE a c y && (match vName z with
      | some n => c.bi n t.nm
      | none => false)
    | _ => false
  | .rngL es, c, e => match vCall e with
    | some (x, [y]) => c.bi x "list" && (match vCall y with
      | some (z, xs) => c.bi z "range" && one2 xs && chkEs es c xs
      | none => false)
    | _ => false
  | .rngT es, c, e => match vCall e with
    | some (x, [y]) => c.bi x "tuple" && (match vCall y with
      | some (z, xs) => c.bi z "range" && one2 xs && chkEs es c xs
      | none => false)
    | _ => false
  | .call f as, c, e => match vCall e with
    | some (x, xs) => decide (f = x) && glB c.sc x && (c.dn x && c.po x) && plB x && some1 xs && chkA as c xs
    | none => false
  | .callK f n as ks es pm, c, e => match vCallK e with
    | some (x, xs, kws) => decide (f = x) && glB c.sc x && c.dn x && decide ((n, ks, pm) ∈ c.kw x) && plB x && decide (kws.map (·.arg) = ks.map some) && chkA as c xs && chkEs es c (kws.map (·.value))
    | none => false
  | .call0 f, c, e => match vCall e with
    | some (x, []) => decide (f = x) && glB c.sc x && (c.dn x && c.po x) && plB x
    | _ => false
  | .callV i fs as, c, e => match vCall e with
    | some (x, xs) => decide (c.N[i]? = some x) && visB c.sc x && plB x && fs.all (fun y => c.dn y && c.po y) && some1 xs && chkA as c xs
    | none => false
  | .dget a k d, c, e => match vMth2 e with
    | some (x, m, y, z) => decide (m = ("get" : Str)) && baseB x && notStarB y && notStarB z && chkE a c x && chkE k c y && chkE d c z
    | none => false
  | .lc2 tg it tg1 it1 el, c, e => match vLc2 e with
    | some (x, t, i, t1, i1, sc) => chkI it c i t && notSetB i && notSetB i1 && blkC c.N c.sc sc (ownOf c.N (tg.ix ++ tg1.ix)) && (c.blk sc).tg tg t && (c.blk sc).tg tg1 t1 && chkI it1 (c.blk sc) i1 t1 && chkE el (c.blk sc) x
    | none => false
  | .lc tg it ifs el, c, e => match vLc e with
    | some (x, t, i, fs, sc) => chkI it c i t && notSetB i && blkC c.N c.sc sc (ownOf c.N tg.ix) && (c.blk sc).tg tg t && few1 fs && chkEs ifs (c.blk sc) fs && chkE el (c.blk sc) x
    | none => false
def chkO : CO → KC → Option Expr → Bool
  | .none, _, none => true
  | .some a, c, some e => chkE a c e
  | _, _, _ => false
def chkEs : CEs → KC → List Expr → Bool
  | .nil, _, [] => true
  | .cons a as, c, e :: es => chkE a c e && notStarB e && chkEs as c es
  | _, _, _ => false
def chkA : CAs → KC → List Expr → Bool
  | .nil, _, [] => true
  | .ex a as, c, e :: es => chkE a c e && notStarB e && chkA as c es
  | .io j as, c, e :: es => c.rd j e && chkA as c es
  | _, _, _ => false
/-- .. of what is walked, with the target -/
def chkI : CI → KC → Expr → Expr → Bool
  | .ex a, c, e, _ => chkE a c e
  | .rng es, c, e, _ => match vCall e with
    | some (x, xs) => c.bi x "range" && one2 xs && chkEs es c xs
    | none => false
  | .enu a, c, e, t => match vCall e with
    | some (x, [y]) => c.bi x "enumerate" && notStarB y && chkE a c y && (match vTup t with
      | some _ => true
      | none => false)
    | _ => false
  | .zip a b, c, e, t => match vCall e with
    | some (x, [y, z]) => c.bi x "zip" && notStarB y && notStarB z && chkE a c y && chkE b c z && (match vTup t with
      | some _ => true
      | none => false)
    | _ => false
end
end Wr

/-! The look's word: expressions. -/
namespace Wr
open PySem PySem.Spec L2
open PyProof.Rows hiding St

/-- .. as the module holds it -/
structure MF (g : Gm) (m : MI) : Prop where
  bn : ∀ x, m.bn x = true → g.mg x = none
  gd : ∀ x kvs, m.gd x = some kvs → ∃ d, g.mg x = some (.ref d) ∧ KDs g d kvs
  gc : ∀ x d, m.gc x = some d → ∃ v u, g.mg x = some u ∧ RelV v u ∧ GVal g v d
structure CtxK (g : Gm) (cf : Fn) (W : WX) (X : Cx) (c : KC) : Prop where
  C : CtxOk g X
  N : X.N = c.N
  sc : X.env.scope = c.sc
  tk : Takes X W
  fn : ∀ x, c.fnb x = true → X.fn x = true
  df : ∀ x, c.dn x = true → ∃ k f fd ps, FnG g X.prog X.w X.base k f fd ps (spF g (cf x)) ∧ Room k X.A ∧ g.mg x = some (.ref f) ∧ PySem.W.keepIn g.K (.ref f) = true ∧ (c.po x = true → Binds g.K fd ps []) ∧ ∀ q ∈ c.kw x, KBn fd ps q.1 q.2.1 q.2.2
  mf : MF g c.toMI
theorem takesF {X : Cx} : Takes X WF := fun u s h => by
  obtain ⟨_, _, _, _, _, _, _, _, _, _, _, _, _, _, _, _, z⟩ := h
  exact z.elim
theorem CtxK.blk {g : Gm} {cf : Fn} {W : WX} {X : Cx} {c : KC} (Z : CtxK g cf W X c) (s : Shared) (H : Hp) (scope : Scope) (cl : List (Str × Addr)) (C : Addr) (fp : List Addr) :
    CtxK g cf WF (X.blk s H scope (compEnvC scope cl C X.env) fp) (c.blk scope) :=
  ⟨Z.C.blk s H scope _ fp, Z.N, by show relS scope X.env.scope = relS scope c.sc; rw [Z.sc], takesF, fun _ h => h, Z.df, Z.mf⟩

theorem and3 {a b : Bool} (h : (a && b) = true) : a = true ∧ b = true := by cases a <;> cases b <;> first | exact ⟨rfl, rfl⟩ | cases h
section
variable {g : Gm} {cf : Fn} {W : WX} {X : Cx} {c : KC} (Z : CtxK g cf W X c)
include Z
theorem CtxK.vis {x : Str} (h : visB c.sc x = true) : Vis X.env.scope x := by
  rw [Z.sc]
  unfold visB at h
  split at h
  · rename_i q; exact .inl q
  · rename_i q; exact .inr (.inl q)
  · rename_i q; exact .inr (.inr q)
  · cases h
theorem CtxK.loc {x : Str} (h : locB c.sc x = true) : Loc X.env.scope x := by
  rw [Z.sc]
  unfold locB at h
  split at h
  · rename_i q; exact .inl q
  · rename_i q; exact .inr q
  · cases h
theorem CtxK.gl {x : Str} (h : glB c.sc x = true) : Gl X x := by
  show X.env.scope.names.lookup x = _
  rw [Z.sc]
  unfold glB at h
  split at h
  · assumption
  · cases h
omit Z in
theorem plB_ok {x : Str} (h : plB x = true) : (x == ("__debug__" : Str)) = false ∧ (x == ("__classdict__" : Str)) = false := by
  unfold plB at h
  obtain ⟨h1, h2⟩ := and3 h
  exact ⟨by simpa using h1, by simpa using h2⟩
theorem CtxK.rdv {i : Nat} {e : Expr} (h : c.rd i e = true) : ∃ x p, e = .Name x p ∧ X.N[i]? = some x ∧ Vis X.env.scope x ∧ (x == ("__debug__" : Str)) = false ∧ (x == ("__classdict__" : Str)) = false := by
  unfold KC.rd at h
  split at h
  · rename_i x ex
    obtain ⟨h1, h2⟩ := and3 h
    obtain ⟨h3, h4⟩ := and3 h1
    obtain ⟨p, rfl⟩ := vName_eq ex
    exact ⟨x, p, rfl, by rw [Z.N]; exact of_decide_eq_true h3, Z.vis h4, plB_ok h2⟩
  · cases h
theorem CtxK.bi_ok {x : Str} {n : String} (h : c.bi x n = true) : x = (n : Str) ∧ Gl X x ∧ X.mg x = none := by
  unfold KC.bi at h
  obtain ⟨h1, h2⟩ := and3 h
  obtain ⟨h3, h4⟩ := and3 h1
  exact ⟨of_decide_eq_true h3, Z.gl h4, by rw [Z.C.hmg]; exact Z.mf.bn _ h2⟩
theorem CtxK.tg1_ok {i : Nat} {e : Expr} (h : c.tg1 i e = true) : PG X e (gName i) ∧ ∃ x p, e = .Name x p ∧ X.N[i]? = some x ∧ Loc X.env.scope x ∧ (X.fn x = true ∨ X.env.scope.names.lookup x = some .local) := by
  unfold KC.tg1 at h
  split at h
  · rename_i x ex
    obtain ⟨h1, h2⟩ := and3 h
    obtain ⟨h3, h4⟩ := and3 h1
    obtain ⟨p, rfl⟩ := vName_eq ex
    have hN : X.N[i]? = some x := by rw [Z.N]; exact of_decide_eq_true h3
    have hf : X.fn x = true ∨ X.env.scope.names.lookup x = some .local := by
      rw [Z.sc]
      cases q : c.fnb x with
      | true => exact .inl (Z.fn _ q)
      | false =>
        rw [q] at h2
        exact .inr (of_decide_eq_true h2)
    exact ⟨pg_name Z.C.nd hN (Z.loc h4) hf, x, p, rfl, hN, Z.loc h4, hf⟩
  · cases h
theorem CtxK.tgs_ok : ∀ {is : List Nat} {es : List Expr}, c.tgs is es = true → PGs X es (gNs is) ∧ (assignEach es X.env).length = is.length ∧ (assignEach es X.env).findIdx? (·.1) = none
  | [], [], _ => ⟨pgs_nil, rfl, rfl⟩
  | [], _ :: _, h => by cases h
  | _ :: _, [], h => by cases h
  | i :: is, e :: es, h => by
    obtain ⟨h1, h2⟩ := and3 (show (c.tg1 i e && c.tgs is es) = true from h)
    obtain ⟨p1, x, p, rfl, hN, hl, hf⟩ := Z.tg1_ok h1
    obtain ⟨p2, l2, f2⟩ := CtxK.tgs_ok h2
    refine ⟨pgs_cons p1 p2 rfl, ?_, ?_⟩
    · show (_ :: assignEach es X.env).length = _
      rw [List.length_cons, l2, List.length_cons]
    · show List.findIdx? (·.1) ((false, assign (.Name x p) X.env) :: assignEach es X.env) = none
      rw [List.findIdx?_cons, f2]
      rfl
theorem CtxK.tg_ok {ct : CT} {e : Expr} (h : c.tg ct e = true) : PG X e (gT X.K ct) := by
  cases ct with
  | nm i => exact (Z.tg1_ok h).1
  | tp is =>
    have h' : (match vTup e with
      | some es => c.tgs is es
      | none => false) = true := h
    split at h'
    · rename_i es ees
      obtain ⟨k, p, rfl⟩ := vTup_eq ees
      obtain ⟨h1, h2, h3⟩ := Z.tgs_ok h'
      exact pg_tup Z.C.calm h1 h2 h3
    · cases h'
theorem CtxK.own_ok {is : List Nat} : (ownOf c.N is).map (·.2) = is := by
  unfold ownOf
  rw [List.map_map]
  exact List.map_id _
omit Z in
theorem pt_st {e : Expr} {t : TT} (h : PT X e t) : PT X e (tQ g W fun _ => .st) := ptImp h fun σ H Q ⟨O, ρ, S, q⟩ => q.elim
omit Z in
theorem one2_len {es : List Expr} (h : one2 es = true) : es.length = 1 ∨ es.length = 2 := by
  match es, h with
  | [_], _ => exact .inl rfl
  | [_, _], _ => exact .inr rfl
omit Z in
theorem some1_ne {es : List Expr} (h : some1 es = true) : es ≠ [] := fun z => by subst z; cases h
/-- and / or of several -/
theorem es_bop {k : Bool} {pos : Pos} : ∀ {es : List Expr} {ss : List Sm}, Paired (AS g W X) es ss → some1 es = true → PE X (.BoolOp (bopOf k) es pos) (tE g W (evO k ss)) ∧ PW X (.BoolOp (bopOf k) es pos) (tQ g W (evTo k ss))
  | [], _, .nil, h => by cases h
  | [e], _, .cons h .nil, _ => ⟨do_one Z.C h.es.v, dw_one Z.C h.es.t⟩
  | e :: e' :: es, _, .cons h (.cons h' hs), _ => by
    obtain ⟨q1, q2⟩ := es_bop (k := k) (pos := pos) (.cons h' hs) rfl
    exact ⟨do_cons Z.C h.es.v q1, dw_cons Z.C h.es.t q2⟩
theorem pts_few : ∀ {es : List Expr} {ss : List Sm}, Paired (AS g W X) es ss → few1 es = true → PTs X es (tQ g W (evTs ss))
  | [], _, .nil, _ => ts_nil
  | [e], _, .cons h .nil, _ => ts_one h.es.t
  | _ :: _ :: _, _, .cons _ (.cons _ _), h => by cases h
end
theorem base_of {env : Env} {m : Str} {e : Expr} (h : baseB e = true) : attributeBase e m env (eval e env) = eval e env := by
  cases e <;> first | rfl | cases h
theorem kys_of : ∀ {xs : List Str} {ks : List (Option Expr)}, kysB xs ks = true → KyS ks xs
  | [], [], _ => .nil
  | [], _ :: _, h => by cases h
  | _ :: _, [], h => by cases h
  | x :: xs, k :: ks, h => by
    unfold kysB at h
    split at h
    · rename_i e1 e2; cases e1
    · rename_i e1 e2
      cases e1
      cases e2
      obtain ⟨h1, h2⟩ := and3 h
      cases of_decide_eq_true h1
      exact .cons (kys_of h2)
    · cases h
section
variable {g : Gm} {cf : Fn}
mutual
theorem chkE_ok : ∀ (ce : CE) {W : WX} {X : Cx} {c : KC} {e : Expr}, CtxK g cf W X c → chkE ce c e = true → ES g W X e (sm cf ce)
  | .var i, W, X, c, e, Z, h => by
    obtain ⟨x, p, rfl, hN, hv, h1, h2⟩ := Z.rdv (show c.rd i e = true from h)
    exact es_var Z.C hN hv h1 h2
  | .int i, W, X, c, e, Z, h => by
    unfold chkE at h
    split at h
    · rename_i j ej
      obtain ⟨_, _, rfl⟩ := vConst_eq ej
      cases of_decide_eq_true h
      exact es_of Z.C (de_const pe_int fun _ _ => .int _) fun _ => rfl
    · cases h
  | .bl b, W, X, c, e, Z, h => by
    unfold chkE at h
    split at h
    · rename_i j ej
      obtain ⟨_, _, rfl⟩ := vConst_eq ej
      have hb : b = j := by simpa using h
      subst hb
      exact es_of Z.C (de_const pe_bl fun _ _ => .bl _) fun _ => rfl
    · cases h
  | .non, W, X, c, e, Z, h => by
    unfold chkE at h
    split at h
    · rename_i ej
      obtain ⟨_, _, rfl⟩ := vConst_eq ej
      exact es_of Z.C (de_const pe_non fun _ _ => .non) fun _ => rfl
    · cases h
  | .str x, W, X, c, e, Z, h => by
    unfold chkE at h
    split at h
    · rename_i j ej
      obtain ⟨_, _, rfl⟩ := vConst_eq ej
      cases of_decide_eq_true h
      exact es_of Z.C (de_const pe_str fun _ _ => .str _) fun _ => rfl
    · cases h
  | .fnc x, W, X, c, e, Z, h => by
    unfold chkE at h
    split at h
    · rename_i y ey
      obtain ⟨_, rfl⟩ := vName_eq ey
      obtain ⟨h1, h2⟩ := and3 h
      obtain ⟨h3, h4⟩ := and3 h1
      obtain ⟨h5, h6⟩ := and3 h3
      cases of_decide_eq_true h5
      obtain ⟨k, f, fd, ps, _, _, hm, _, _, _⟩ := Z.df _ h4
      exact es_of Z.C (de_fnc Z.C (Z.gl h6) (by rw [Z.C.hmg]; exact hm) (plB_ok h2).1) fun _ => rfl
    · cases h
  | .bin op a b, W, X, c, e, Z, h => by
    unfold chkE at h
    split at h
    · rename_i x o y q
      obtain ⟨p, rfl⟩ := vBin_eq q
      obtain ⟨h1, h2⟩ := and3 h
      obtain ⟨h3, h4⟩ := and3 h1
      cases of_decide_eq_true h3
      exact es_of Z.C (de_bin Z.C (chkE_ok a Z h4).o (chkE_ok b Z h2).o) fun _ => rfl
    · cases h
  | .neg a, W, X, c, e, Z, h => by
    unfold chkE at h
    split at h
    · rename_i o x q
      obtain ⟨p, rfl⟩ := vUn_eq q
      obtain ⟨h1, h2⟩ := and3 h
      cases of_decide_eq_true h1
      exact es_of Z.C (de_neg (chkE_ok a Z h2).o) fun _ => rfl
    · cases h
  | .inv a, W, X, c, e, Z, h => by
    unfold chkE at h
    split at h
    · rename_i o x q
      obtain ⟨p, rfl⟩ := vUn_eq q
      obtain ⟨h1, h2⟩ := and3 h
      cases of_decide_eq_true h1
      exact es_of Z.C (de_inv (chkE_ok a Z h2).o) fun _ => rfl
    · cases h
  | .cmp op a b, W, X, c, e, Z, h => by
    unfold chkE at h
    split at h
    · rename_i x o y q
      obtain ⟨p, rfl⟩ := vCmp_eq q
      obtain ⟨h1, h2⟩ := and3 h
      obtain ⟨h3, h4⟩ := and3 h1
      obtain ⟨h5, h6⟩ := and3 h3
      cases of_decide_eq_true h5
      exact es_cmp Z.C (chkE_ok a Z h4) (chkE_ok b Z h2) (marks_of h6)
    · cases h
  | .chn o p a b d, W, X, c, e, Z, h => by
    unfold chkE at h
    split at h
    · rename_i x o' p' y z q
      obtain ⟨pp, rfl⟩ := vCmp_eq q
      obtain ⟨h1, h2⟩ := and3 h
      obtain ⟨h3, h4⟩ := and3 h1
      obtain ⟨h5, h6⟩ := and3 h3
      obtain ⟨h7, h8⟩ := and3 h5
      obtain ⟨h9, h10⟩ := and3 h7
      cases of_decide_eq_true h9
      cases of_decide_eq_true h10
      exact es_chain Z.C (chkE_ok a Z h6) (chkE_ok b Z h4) (chkE_ok d Z h2) (marks_of h8)
    · cases h
  | .bop k es, W, X, c, e, Z, h => by
    unfold chkE at h
    split at h
    · rename_i o xs q
      obtain ⟨pp, rfl⟩ := vBool_eq q
      obtain ⟨h1, h2⟩ := and3 h
      obtain ⟨h3, h4⟩ := and3 h1
      cases of_decide_eq_true h3
      obtain ⟨q1, q2⟩ := es_bop (k := k) (pos := pp) Z (chkEs_ok es Z h2) h4
      exact es_vt Z.C q1 q2.pt
    · cases h
  | .nt a, W, X, c, e, Z, h => by
    unfold chkE at h
    split at h
    · rename_i o x q
      obtain ⟨p, rfl⟩ := vUn_eq q
      obtain ⟨h1, h2⟩ := and3 h
      cases of_decide_eq_true h1
      have q := chkE_ok a Z h2
      exact es_vt Z.C (de_not Z.C q.o) (dt_not q.t)
    · cases h
  | .ite t a b, W, X, c, e, Z, h => by
    unfold chkE at h
    split at h
    · rename_i x y z q
      obtain ⟨p, rfl⟩ := vIf_eq q
      obtain ⟨h1, h2⟩ := and3 h
      obtain ⟨h3, h4⟩ := and3 h1
      have q := de_ite (pos := p) (chkE_ok t Z h3).t (chkE_ok a Z h4).v (chkE_ok b Z h2).v
      exact es_vt Z.C q ⟨fun _ _ _ _ _ _ ⟨_, _, _, z⟩ => z.elim⟩
    · cases h
  | .tup es, W, X, c, e, Z, h => by
    unfold chkE at h
    split at h
    · rename_i xs q
      obtain ⟨_, p, rfl⟩ := vTup_eq q
      exact es_of Z.C (de_tup (chkEs_ok es Z h)) fun _ => rfl
    · cases h
  | .lst es, W, X, c, e, Z, h => by
    unfold chkE at h
    split at h
    · rename_i xs q
      obtain ⟨p, rfl⟩ := vLst_eq q
      exact es_of Z.C (de_lst (chkEs_ok es Z h)) fun _ => rfl
    · cases h
  | .dct xs es, W, X, c, e, Z, h => by
    unfold chkE at h
    split at h
    · rename_i ks vs q
      obtain ⟨p, rfl⟩ := vDct_eq q
      obtain ⟨h1, h2⟩ := and3 h
      obtain ⟨h3, h4⟩ := and3 h1
      obtain ⟨h5, h6⟩ := and3 h3
      obtain ⟨h9, h10⟩ := and3 h5
      exact es_of Z.C (de_dct (kys_of h9) (chkEs_ok es Z h2) (of_decide_eq_true h10) (of_decide_eq_true h6) (of_decide_eq_true h4)) fun _ => rfl
    · cases h
  | .gd x kvs, W, X, c, e, Z, h => by
    unfold chkE at h
    split at h
    · rename_i y ey
      obtain ⟨_, rfl⟩ := vName_eq ey
      obtain ⟨h1, h2⟩ := and3 h
      obtain ⟨h3, h4⟩ := and3 h1
      obtain ⟨h5, h6⟩ := and3 h3
      cases of_decide_eq_true h5
      obtain ⟨d, hm, hk⟩ := Z.mf.gd _ _ (of_decide_eq_true h4)
      exact es_of Z.C (de_gd Z.C (Z.gl h6) hm hk (plB_ok h2).1) fun _ => rfl
    · cases h
  | .gc x d, W, X, c, e, Z, h => by
    unfold chkE at h
    split at h
    · rename_i y ey
      obtain ⟨_, rfl⟩ := vName_eq ey
      obtain ⟨h1, h2⟩ := and3 h
      obtain ⟨h3, h4⟩ := and3 h1
      obtain ⟨h5, h6⟩ := and3 h3
      cases of_decide_eq_true h5
      obtain ⟨v, u, hm, hr, hv⟩ := Z.mf.gc _ _ (of_decide_eq_true h4)
      exact es_of Z.C (de_gc Z.C (Z.gl h6) hm hr hv (plB_ok h2).1) fun _ => rfl
    · cases h
  | .spl a b, W, X, c, e, Z, h => by
    unfold chkE at h
    split at h
    · rename_i x m y ey
      obtain ⟨pa, pc, rfl, hl⟩ := vMth_eq ey
      obtain ⟨h1, hb⟩ := and3 h
      obtain ⟨h2, ha⟩ := and3 h1
      obtain ⟨h3, hs⟩ := and3 h2
      obtain ⟨h4, hv⟩ := and3 h3
      cases of_decide_eq_true h4
      exact es_of Z.C (de_spl (chkE_ok a Z ha).v (chkE_ok b Z hb).v (notStar_of hs [] _) (base_of hv) hl) fun _ => rfl
    · cases h
  | .ptn a b, W, X, c, e, Z, h => by
    unfold chkE at h
    split at h
    · rename_i x m y ey
      obtain ⟨pa, pc, rfl, hl⟩ := vMth_eq ey
      obtain ⟨h1, hb⟩ := and3 h
      obtain ⟨h2, ha⟩ := and3 h1
      obtain ⟨h3, hs⟩ := and3 h2
      obtain ⟨h4, hv⟩ := and3 h3
      cases of_decide_eq_true h4
      exact es_of Z.C (de_ptn (chkE_ok a Z ha).v (chkE_ok b Z hb).v (notStar_of hs [] _) (base_of hv) hl) fun _ => rfl
    · cases h
  | .ix a i, W, X, c, e, Z, h => by
    unfold chkE at h
    split at h
    · rename_i x y q
      obtain ⟨p, rfl⟩ := vSub_eq q
      obtain ⟨h1, h2⟩ := and3 h
      obtain ⟨h3, h4⟩ := and3 h1
      exact es_of Z.C (de_ix Z.C (chkE_ok a Z h4).o (chkE_ok i Z h2).o (plainIx_of h3)) fun _ => rfl
    · cases h
  | .sl a l u, W, X, c, e, Z, h => by
    unfold chkE at h
    split at h
    · rename_i x y q
      obtain ⟨p, rfl⟩ := vSub_eq q
      obtain ⟨h1, h2⟩ := and3 h
      split at h2
      · rename_i lo hi q2
        obtain ⟨p2, rfl⟩ := vSl_eq q2
        obtain ⟨h3, h4⟩ := and3 h2
        exact es_of Z.C (de_sl Z.C (chkE_ok a Z h1).o (chkO_ok l Z h3) (chkO_ok u Z h4)) fun _ => rfl
      · cases h2
    · cases h
  | .bi f es, W, X, c, e, Z, h => by
    unfold chkE at h
    split at h
    · rename_i x xs q
      obtain ⟨q1, p, rfl⟩ := vCall_eq q
      obtain ⟨h1, h2⟩ := and3 h
      obtain ⟨h3, h4⟩ := and3 h1
      obtain ⟨hx, hg, hm⟩ := Z.bi_ok h3
      exact es_of Z.C (de_bi Z.C hx hg hm (chkEs_ok es Z h2) (some1_ne h4)) fun _ => rfl
    · cases h
  | .isi t a, W, X, c, e, Z, h => by
    unfold chkE at h
    split at h
    · rename_i x y z q
      obtain ⟨q1, p, rfl⟩ := vCall_eq q
      obtain ⟨h1, h2⟩ := and3 h
      obtain ⟨h3, h4⟩ := and3 h1
      obtain ⟨h5, h6⟩ := and3 h3
      obtain ⟨hx, hg, hm⟩ := Z.bi_ok h5
      subst hx
      split at h2
      · rename_i n qn
        obtain ⟨pn, rfl⟩ := vName_eq qn
        obtain ⟨hx', hg', hm'⟩ := Z.bi_ok h2
        exact es_of Z.C (de_isi Z.C hx' hg hm hg' hm' ⟨chkE_ok a Z h4, notStar_of h6⟩) fun _ => rfl
      · cases h2
    · cases h
  | .rngL es, W, X, c, e, Z, h => by
    unfold chkE at h
    split at h
    · rename_i x y q
      obtain ⟨q1, p, rfl⟩ := vCall_eq q
      obtain ⟨h1, h2⟩ := and3 h
      obtain ⟨hx, hg, hm⟩ := Z.bi_ok h1
      subst hx
      split at h2
      · rename_i z xs q'
        obtain ⟨q1', p', rfl⟩ := vCall_eq q'
        obtain ⟨h3, h4⟩ := and3 h2
        obtain ⟨h5, h6⟩ := and3 h3
        obtain ⟨hx', hg', hm'⟩ := Z.bi_ok h5
        subst hx'
        exact es_of Z.C (de_rngL Z.C hg hm hg' hm' (chkEs_ok es Z h4) (one2_len h6)) fun _ => rfl
      · cases h2
    · cases h
  | .rngT es, W, X, c, e, Z, h => by
    unfold chkE at h
    split at h
    · rename_i x y q
      obtain ⟨q1, p, rfl⟩ := vCall_eq q
      obtain ⟨h1, h2⟩ := and3 h
      obtain ⟨hx, hg, hm⟩ := Z.bi_ok h1
      subst hx
      split at h2
      · rename_i z xs q'
        obtain ⟨q1', p', rfl⟩ := vCall_eq q'
        obtain ⟨h3, h4⟩ := and3 h2
        obtain ⟨h5, h6⟩ := and3 h3
        obtain ⟨hx', hg', hm'⟩ := Z.bi_ok h5
        subst hx'
        exact es_of Z.C (de_rngT Z.C hg hm hg' hm' (chkEs_ok es Z h4) (one2_len h6)) fun _ => rfl
      · cases h2
    · cases h
  | .call f as, W, X, c, e, Z, h => by
    unfold chkE at h
    split at h
    · rename_i x xs q
      obtain ⟨q1, p, rfl⟩ := vCall_eq q
      obtain ⟨h1, h2⟩ := and3 h
      obtain ⟨h3, h4⟩ := and3 h1
      obtain ⟨h5, h6⟩ := and3 h3
      obtain ⟨h7, h8⟩ := and3 h5
      obtain ⟨h9, h10⟩ := and3 h7
      cases of_decide_eq_true h9
      obtain ⟨h8, hpo⟩ := and3 h8
      obtain ⟨k, fa, fd, ps, F, hr, hm, hk, hb, _⟩ := Z.df _ h8
      exact es_of Z.C (de_call Z.C Z.tk F hr (Z.gl h10) hm hk (hb hpo) (plB_ok h6).1 (chkA_ok as Z h2) (some1_ne h4)) fun _ => rfl
    · cases h
  | .callK f n as ks es pm, W, X, c, e, Z, h => by
    unfold chkE at h
    split at h
    · rename_i x xs kws q
      obtain ⟨q1, p, rfl⟩ := vCallK_eq q
      obtain ⟨h, hes⟩ := and3 h
      obtain ⟨h, has⟩ := and3 h
      obtain ⟨h, hks⟩ := and3 h
      obtain ⟨h, hpl⟩ := and3 h
      obtain ⟨h, hkw⟩ := and3 h
      obtain ⟨h, hdn⟩ := and3 h
      obtain ⟨hx, hgl⟩ := and3 h
      cases of_decide_eq_true hx
      obtain ⟨k, fa, fd, ps, F, hr, hm, hk, _, hb⟩ := Z.df _ hdn
      exact es_of Z.C (de_callK Z.C Z.tk F hr (Z.gl hgl) hm hk (hb _ (of_decide_eq_true hkw)) (plB_ok hpl).1 (chkA_ok as Z has) (chkEs_ok es Z hes) (of_decide_eq_true hks)) fun _ => rfl
    · cases h
  | .call0 f, W, X, c, e, Z, h => by
    unfold chkE at h
    split at h
    · rename_i x q
      obtain ⟨q1, p, rfl⟩ := vCall_eq q
      obtain ⟨h3, h4⟩ := and3 h
      obtain ⟨h5, h6⟩ := and3 h3
      obtain ⟨h7, h8⟩ := and3 h5
      cases of_decide_eq_true h7
      obtain ⟨h6, hpo⟩ := and3 h6
      obtain ⟨k, fa, fd, ps, F, hr, hm, hk, hb, _⟩ := Z.df _ h6
      exact es_of Z.C (de_call0 Z.C Z.tk F hr (Z.gl h8) hm hk (hb hpo) (plB_ok h4).1) fun _ => rfl
    · cases h
  | .callV i fs as, W, X, c, e, Z, h => by
    unfold chkE at h
    split at h
    · rename_i x xs q
      obtain ⟨q1, p, rfl⟩ := vCall_eq q
      obtain ⟨h1, h2⟩ := and3 h
      obtain ⟨h3, h4⟩ := and3 h1
      obtain ⟨h5, h6⟩ := and3 h3
      obtain ⟨h7, h8⟩ := and3 h5
      obtain ⟨h9, h10⟩ := and3 h7
      exact es_of Z.C (de_callV Z.C Z.tk (fun y hy => by
          obtain ⟨hd, hpo⟩ := and3 (List.all_eq_true.mp h6 y hy)
          obtain ⟨k, fa, fd, ps, F, hr, hm, hk, hb, _⟩ := Z.df y hd
          exact ⟨k, fa, fd, ps, F, hr, hm, hk, hb hpo⟩) (by rw [Z.N]; exact of_decide_eq_true h9) (Z.vis h10) (plB_ok h8).1 (plB_ok h8).2 (chkA_ok as Z h2) (some1_ne h4)) fun _ => rfl
    · cases h
  | .dget a k d, W, X, c, e, Z, h => by
    unfold chkE at h
    split at h
    · rename_i x m y z ey
      obtain ⟨pa, pc, rfl, hl⟩ := vMth2_eq ey
      obtain ⟨h1, hd⟩ := and3 h
      obtain ⟨h2, hk⟩ := and3 h1
      obtain ⟨h3, ha⟩ := and3 h2
      obtain ⟨h4, hs2⟩ := and3 h3
      obtain ⟨h5, hs1⟩ := and3 h4
      obtain ⟨h6, hv⟩ := and3 h5
      cases of_decide_eq_true h6
      exact es_of Z.C (de_dget Z.C (chkE_ok a Z ha).o ⟨chkE_ok k Z hk, notStar_of hs1⟩ ⟨chkE_ok d Z hd, notStar_of hs2⟩ (base_of hv) hl) fun _ => rfl
    · cases h
  | .lc2 tg it tg1 it1 el, W, X, c, e, Z, h => by
    unfold chkE at h
    split at h
    · rename_i x t i t1 i1 sc q
      obtain ⟨p, rfl⟩ := vLc2_eq q
      obtain ⟨h1, he⟩ := and3 h
      obtain ⟨h2, hi1⟩ := and3 h1
      obtain ⟨h3, ht1⟩ := and3 h2
      obtain ⟨h4, ht⟩ := and3 h3
      obtain ⟨h5, hb⟩ := and3 h4
      obtain ⟨h6, hs1⟩ := and3 h5
      obtain ⟨hi, hs⟩ := and3 h6
      have hb' : BlkOk X.N X.env.scope sc (ownOf c.N (tg.ix ++ tg1.ix)) := by rw [Z.N, Z.sc]; exact blkOk_by hb
      exact es_of Z.C (de_lc2 Z.C (chkI_ok it Z hi) hb' (CtxK.own_ok Z)
        (fun s H C cl fp => (Z.blk s H sc cl C fp).tg_ok ht)
        (fun s H C cl fp => chkI_ok it1 (Z.blk s H sc cl C fp) hi1)
        (fun s H C cl fp => (Z.blk s H sc cl C fp).tg_ok ht1)
        (fun s H C cl fp => (chkE_ok el (Z.blk s H sc cl C fp) he).v)
        (fun v => by cases i <;> first | rfl | cases hs)
        (fun env v => by cases i1 <;> first | rfl | cases hs1)) fun _ => rfl
    · cases h
  | .lc tg it ifs el, W, X, c, e, Z, h => by
    unfold chkE at h
    split at h
    · rename_i x t i fs sc q
      obtain ⟨p, rfl⟩ := vLc_eq q
      obtain ⟨h1, he⟩ := and3 h
      obtain ⟨h2, hf⟩ := and3 h1
      obtain ⟨h3, hfw⟩ := and3 h2
      obtain ⟨h4, ht⟩ := and3 h3
      obtain ⟨h5, hb⟩ := and3 h4
      obtain ⟨hi, hs⟩ := and3 h5
      have hb' : BlkOk X.N X.env.scope sc (ownOf c.N tg.ix) := by rw [Z.N, Z.sc]; exact blkOk_by hb
      exact es_of Z.C (de_lc Z.C (chkI_ok it Z hi) hb' (CtxK.own_ok Z)
        (fun s H C cl fp => (Z.blk s H sc cl C fp).tg_ok ht)
        (fun s H C cl fp => pts_few (Z.blk s H sc cl C fp) (chkEs_ok ifs (Z.blk s H sc cl C fp) hf) hfw)
        (fun s H C cl fp => (chkE_ok el (Z.blk s H sc cl C fp) he).v)
        (fun v => by cases i <;> first | rfl | cases hs)) fun _ => rfl
    · cases h
theorem chkO_ok : ∀ (ce : CO) {W : WX} {X : Cx} {c : KC} {e : Option Expr}, CtxK g cf W X c → chkO ce c e = true → PO X e (tOO g W (evOp (smO cf ce)))
  | .none, W, X, c, none, Z, h => do_none
  | .some a, W, X, c, some e, Z, h => do_some (chkE_ok a Z h).v
  | .none, W, X, c, some e, Z, h => by cases h
  | .some a, W, X, c, none, Z, h => by cases h
theorem chkEs_ok : ∀ (ce : CEs) {W : WX} {X : Cx} {c : KC} {es : List Expr}, CtxK g cf W X c → chkEs ce c es = true → Paired (AS g W X) es (sms cf ce)
  | .nil, W, X, c, [], Z, h => .nil
  | .nil, W, X, c, _ :: _, Z, h => by cases h
  | .cons a as, W, X, c, [], Z, h => by cases h
  | .cons a as, W, X, c, e :: es, Z, h => by
    obtain ⟨h1, h2⟩ := and3 (show (chkE a c e && notStarB e && chkEs as c es) = true from h)
    obtain ⟨h3, h4⟩ := and3 h1
    exact .cons ⟨chkE_ok a Z h3, notStar_of h4⟩ (chkEs_ok as Z h2)
theorem chkA_ok : ∀ (ce : CAs) {W : WX} {X : Cx} {c : KC} {es : List Expr}, CtxK g cf W X c → chkA ce c es = true → Paired (ArR g W X) es (smA cf ce)
  | .nil, W, X, c, [], Z, h => .nil
  | .nil, W, X, c, _ :: _, Z, h => by cases h
  | .ex a as, W, X, c, [], Z, h => by cases h
  | .io j as, W, X, c, [], Z, h => by cases h
  | .ex a as, W, X, c, e :: es, Z, h => by
    obtain ⟨h1, h2⟩ := and3 (show (chkE a c e && notStarB e && chkA as c es) = true from h)
    obtain ⟨h3, h4⟩ := and3 h1
    exact .cons (.ex ⟨chkE_ok a Z h3, notStar_of h4⟩) (chkA_ok as Z h2)
  | .io j as, W, X, c, e :: es, Z, h => by
    obtain ⟨h1, h2⟩ := and3 (show (c.rd j e && chkA as c es) = true from h)
    obtain ⟨x, p, rfl, hN, hv, h3, h4⟩ := Z.rdv h1
    exact .cons (.io (pe_var hN hv h3 h4)) (chkA_ok as Z h2)
theorem chkI_ok : ∀ (ce : CI) {W : WX} {X : Cx} {c : KC} {e t : Expr}, CtxK g cf W X c → chkI ce c e t = true → PI X t e (tI g W (smI cf ce))
  | .ex a, W, X, c, e, t, Z, h => di_ex Z.C (chkE_ok a Z h).v
  | .rng es, W, X, c, e, t, Z, h => by
    unfold chkI at h
    split at h
    · rename_i x xs q
      obtain ⟨q1, p, rfl⟩ := vCall_eq q
      obtain ⟨h1, h2⟩ := and3 h
      obtain ⟨h3, h4⟩ := and3 h1
      obtain ⟨hx, hg, hm⟩ := Z.bi_ok h3
      subst hx
      exact di_rng hg hm (chkEs_ok es Z h2) (one2_len h4)
    · cases h
  | .enu a, W, X, c, e, t, Z, h => by
    unfold chkI at h
    split at h
    · rename_i x y q
      obtain ⟨q1, p, rfl⟩ := vCall_eq q
      obtain ⟨h1, h2⟩ := and3 h
      obtain ⟨h3, h4⟩ := and3 h1
      obtain ⟨h5, h6⟩ := and3 h3
      obtain ⟨hx, hg, hm⟩ := Z.bi_ok h5
      subst hx
      split at h2
      · rename_i ts qt
        obtain ⟨kk, pt, rfl⟩ := vTup_eq qt
        exact di_enu Z.C hg hm ⟨chkE_ok a Z h4, notStar_of h6⟩
      · cases h2
    · cases h
  | .zip a b, W, X, c, e, t, Z, h => by
    unfold chkI at h
    split at h
    · rename_i x y z q
      obtain ⟨q1, p, rfl⟩ := vCall_eq q
      obtain ⟨h1, h2⟩ := and3 h
      obtain ⟨h3, hb⟩ := and3 h1
      obtain ⟨h4, ha⟩ := and3 h3
      obtain ⟨h5, hz⟩ := and3 h4
      obtain ⟨h6, hy⟩ := and3 h5
      obtain ⟨hx, hg, hm⟩ := Z.bi_ok h6
      subst hx
      split at h2
      · rename_i ts qt
        obtain ⟨kk, pt, rfl⟩ := vTup_eq qt
        exact di_zip Z.C hg hm ⟨chkE_ok a Z ha, notStar_of hy⟩ ⟨chkE_ok b Z hb, notStar_of hz⟩
      · cases h2
    · cases h
end
end
end Wr

/-! append, extend; the look at statements. -/
namespace Wr
open PySem PySem.Spec L2
open PyProof.Rows hiding St

section
variable {g : Gm} {E : En} {W : WX} {X : Cx} {pos : Pos} {e c : Expr}
theorem few_one (e : Expr) (cpos : Pos) (env : Env) (ns : NotStar e) : ((backTo cpos (starEach (e :: []) env)).all (fun x => !x.1) && (backToKw cpos (keywordEach [] env)).all (fun x => x.1.isSome)
      && decide ((e :: []).length + ([] : List Keyword).length + (if ([] : List Keyword).isEmpty then 0 else 1) < 30)) = true := by
  rw [ns [] env]
  rfl
theorem ds_app (C : CtxOk g X) {i : Nat} {x : Str} {px pa pc : Pos} {s : Sm} (hx : PE X (.Name x px) (tVar i)) (he : AS g W X e s) (hl : (pa.endLine == pc.line) = true) :
    PS X (.Expr (.Call (.Attribute (.Name x px) "append" pa) [e] [] pc) pos) (tS g W E (appV i s)) := by
  refine psImp (ps_expr (pe_bm PySem.F.plainAttrs_list PySem.F.slot_list_append PySem.F.type_list_append mt_append hx (pa_cons he.es.v pa_nil (he.ns [] _)) rfl (few_one e pc _ he.ns) hl (he.ns [] _) rfl)) fun D σ H ⟨O, ρ, S, q⟩ => ?_
  unfold appV at q
  split at q
  case isFalse => exact q.elim
  rename_i hown
  obtain ⟨v, ev, ty⟩ : ∃ v, σ[i]? = some (some v) ∧ tyV X.K "list" v H := by
    have key : ∀ a (ds : List Wr.D), Ob g H O a (.lst ds) → tyV X.K "list" (.ref a) H := fun a ds ob => by
      cases ob with
      | lst h _ => exact .inl ⟨rfl, _, .inl (.inl h)⟩
    unfold ownL at hown
    split at hown
    · rename_i ds es
      obtain ⟨v, ev, r⟩ := S.st.get es
      cases r with | ow _ ob => exact ⟨_, ev, key _ _ ob⟩
    · rename_i ds es
      obtain ⟨v, ev, r⟩ := S.st.get es
      cases r with | io _ ob => exact ⟨_, ev, key _ _ ob⟩
    · cases hown
  refine ⟨v, ev, ty, O, ρ, S.st, (so_rw S q).imp fun r ρ1 q1 w H1 O1 s1 rv => ?_⟩
  obtain ⟨O2, s2, r2⟩ := rv.share S.st s1
  split at q1
  · rename_i ρ2 e2
    obtain ⟨a, xs, ds, ys, ea, ha, rs, ef, stp⟩ := chg_stp s2.st e2
    rw [ev] at ea
    cases ea
    split at ef
    · rename_i hlt
      cases ef
      refine ⟨a, xs, w, rfl, rfl, ha, by rw [rs.len, ← sizeL_eq]; exact hlt, ?_⟩
      exact q1 σ _ O2 ((S.step s2).step (stp _ (rs.append (.cons r2 .nil))))
    · cases ef
  · exact q1.elim
theorem share_lst {H H1 : Hp} {O O1 : AP1} {σ : St} {ρ ρ1 : Rho} {v : V} {ys : List D} (S : StR g H O σ ρ) (p : Stp g σ ρ H O ρ1 H1 O1) (h : RsR g H σ ρ1 H1 O1 v (.fr (.lst ys))) :
    ∃ O2 b zs, v = .ref b ∧ H1 b = some (.lst zs) ∧ Stp g σ ρ H O ρ1 H1 O2 ∧ RDs g H1 O2 zs ys := by
  obtain ⟨a, rfl, na, oa, nw, ob⟩ := h
  have sub : ∀ b, (O1 b ∧ b ≠ a) → O1 b := fun _ z => z.1
  cases ob with
  | lst e hs =>
    refine ⟨fun b => O1 b ∧ b ≠ a, a, _, rfl, e, ⟨⟨p.fr.keep, p.fr.there, fun b z n => ⟨p.fr.o1 b z n, fun e => ?_⟩, fun b z => p.fr.o2 b z.1⟩, p.st.anti sub fun b z => ⟨p.st.wn b z, fun e => nw (e ▸ z)⟩, p.sub, p.io⟩, hs.anti sub⟩
    subst e
    exact S.obj b z na
theorem ds_ext (C : CtxOk g X) {i : Nat} {x : Str} {px pa pc : Pos} {s : Sm} (hx : PE X (.Name x px) (tVar i)) (he : AS g W X e s) (hl : (pa.endLine == pc.line) = true) :
    PS X (.Expr (.Call (.Attribute (.Name x px) "extend" pa) [e] [] pc) pos) (tS g W E (extV i s)) := by
  refine psImp (ps_expr (pe_bm PySem.F.plainAttrs_list PySem.F.slot_list_extend PySem.F.type_list_extend mt_extend hx (pa_cons he.es.v pa_nil (he.ns [] _)) rfl (few_one e pc _ he.ns) hl (he.ns [] _) rfl)) fun D σ H ⟨O, ρ, S, q⟩ => ?_
  unfold extV at q
  split at q
  case isFalse => exact q.elim
  rename_i hown
  obtain ⟨v, ev, ty⟩ : ∃ v, σ[i]? = some (some v) ∧ tyV X.K "list" v H := by
    have key : ∀ a (ds : List Wr.D), Ob g H O a (.lst ds) → tyV X.K "list" (.ref a) H := fun a ds ob => by
      cases ob with
      | lst h _ => exact .inl ⟨rfl, _, .inl (.inl h)⟩
    unfold ownL at hown
    split at hown
    · rename_i ds es
      obtain ⟨v, ev, r⟩ := S.st.get es
      cases r with | ow _ ob => exact ⟨_, ev, key _ _ ob⟩
    · rename_i ds es
      obtain ⟨v, ev, r⟩ := S.st.get es
      cases r with | io _ ob => exact ⟨_, ev, key _ _ ob⟩
    · cases hown
  refine ⟨v, ev, ty, O, ρ, S.st, (so_rw S q).imp fun r ρ1 q1 w H1 O1 s1 rv => ?_⟩
  split at q1
  · rename_i ys0
    obtain ⟨O2, b, zs, eb, hb, s2, rz⟩ := share_lst S.st s1 rv
    split at q1
    · rename_i ρ2 e2
      obtain ⟨a, xs, ds, ys, ea, ha, rs, ef, stp⟩ := chg_stp s2.st e2
      rw [ev] at ea
      cases ea
      split at ef
      · rename_i hlt
        cases ef
        subst eb
        refine ⟨a, b, xs, zs, rfl, rfl, ha, hb, by rw [rs.len, rz.len, ← sizeL_eq]; exact hlt, ?_⟩
        exact q1 σ _ O2 ((S.step s2).step (stp _ (rs.append rz)))
      · cases ef
    · exact q1.elim
  · exact q1.elim
end

/-! ### the look -/
def blkKind (sc : Scope) : ScopeKind := if sc.kind.isAnnotationScope then .function else sc.kind
/-- a comprehension put under a name of its own line -/
def swB (sc : Scope) (t : Str) (pos : Pos) (v : Expr) : Bool := match v with
  | .ListComp _ _ s _ => blkKind sc == .function && sc.names.lookup t == some .local && pos.line == v.pos.line && !(s.names.any fun (n, k) => n == t && (k == .local || k == .cell))
  | .SetComp _ _ s _ => blkKind sc == .function && sc.names.lookup t == some .local && pos.line == v.pos.line && !(s.names.any fun (n, k) => n == t && (k == .local || k == .cell))
  | .DictComp _ _ _ s _ => blkKind sc == .function && sc.names.lookup t == some .local && pos.line == v.pos.line && !(s.names.any fun (n, k) => n == t && (k == .local || k == .cell))
  | _ => false
theorem swB_ok {sc : Scope} {t : Str} {pos : Pos} {v : Expr} {env : Env} {line : Nat} (h : env.scope = sc) : swapsWith v (some (.Name t pos)) line env = pure (swB sc t pos v) := by
  subst h
  cases v <;> rfl
def notCompB : Expr → Bool
  | .ListComp .. => false
  | .SetComp .. => false
  | .DictComp .. => false
  | _ => true
def notTupB : Expr → Bool
  | .Tuple .. => false
  | _ => true
theorem sw_none {v : Expr} {line : Nat} {env : Env} (h : notCompB v = true) : swapsWith v none line env = pure false := by cases v <;> first | rfl | cases h
theorem sw_tup {v : Expr} {line : Nat} {env : Env} {es : List Expr} {k : Nat} {p : Pos} : swapsWithSole [.Tuple es k p] v line env = pure false := by
  show swapsWith v (some (.Tuple es k p)) line env = pure false
  cases v <;> rfl
theorem sw_sub {v : Expr} {line : Nat} {env : Env} {a i : Expr} {p : Pos} : swapsWithSole [.Subscript a i p] v line env = pure false := by
  show swapsWith v (some (.Subscript a i p)) line env = pure false
  cases v <;> rfl
theorem st_tup {v : Expr} {env : Env} {es : List Expr} {k : Nat} {p : Pos} (h : notTupB v = true) : swappedStores [.Tuple es k p] v env = pure none := by cases v <;> first | rfl | cases h
theorem st_sub {v : Expr} {env : Env} {a i : Expr} {p : Pos} : swappedStores [.Subscript a i p] v env = pure none := by cases v <;> rfl
/-- names of which not all are plain locals: the pair is made, then taken apart -/
theorem sw_cell {x y : Str} {px py pt pt2 : Pos} {kt k2 : Nat} {a b : Expr} {env : Env} (hxy : ¬ (env.kindOf x = some .local ∧ env.kindOf y = some .local)) (na : notStarB a = true) (nb : notStarB b = true) :
    swappedStores [.Tuple [.Name x px, .Name y py] kt pt] (.Tuple [a, b] k2 pt2) env = pure none := by
  have na' : ∀ v p, a ≠ .Starred v p := fun v p e => by subst e; exact absurd na Bool.false_ne_true
  have nb' : ∀ v p, b ≠ .Starred v p := fun v p e => by subst e; exact absurd nb Bool.false_ne_true
  unfold swappedStores
  simp only [List.length_cons, List.length_nil]
  by_cases hx : env.kindOf x = some .local
  · have hy : ¬ env.kindOf y = some .local := fun hy => hxy ⟨hx, hy⟩
    simp [hx, hy, List.filterMap_cons, Expr.pos]
  · by_cases hy : env.kindOf y = some .local
    · by_cases hl : py.line = px.line <;> simp [hx, hy, hl, List.filterMap_cons, Expr.pos]
    · simp [hx, hy, List.filterMap_cons, Expr.pos]
theorem sw_cell3 {x y z : Str} {px py pz pt pt2 : Pos} {kt k2 : Nat} {a b c : Expr} {env : Env} (hxy : ¬ (env.kindOf x = some .local ∧ env.kindOf y = some .local ∧ env.kindOf z = some .local)) (na : notStarB a = true) (nb : notStarB b = true) (nc : notStarB c = true) :
    swappedStores [.Tuple [.Name x px, .Name y py, .Name z pz] kt pt] (.Tuple [a, b, c] k2 pt2) env = pure none := by
  have na' : ∀ v p, a ≠ .Starred v p := fun v p e => by subst e; exact absurd na Bool.false_ne_true
  have nb' : ∀ v p, b ≠ .Starred v p := fun v p e => by subst e; exact absurd nb Bool.false_ne_true
  have nc' : ∀ v p, c ≠ .Starred v p := fun v p e => by subst e; exact absurd nc Bool.false_ne_true
  unfold swappedStores
  simp only [List.length_cons, List.length_nil]
  by_cases hx : env.kindOf x = some .local
  · by_cases hy : env.kindOf y = some .local
    · have hz : ¬ env.kindOf z = some .local := fun hz => hxy ⟨hx, hy, hz⟩
      by_cases hl : py.line = px.line <;> simp [hx, hy, hz, hl, List.filterMap_cons, Expr.pos]
    · by_cases hz : env.kindOf z = some .local
      · by_cases hl : pz.line = px.line <;> simp [hx, hy, hz, hl, List.filterMap_cons, Expr.pos]
      · simp [hx, hy, hz, List.filterMap_cons, Expr.pos]
  · by_cases hy : env.kindOf y = some .local
    · by_cases hz : env.kindOf z = some .local
      · by_cases hl : py.line = px.line <;> by_cases hl2 : pz.line = px.line <;> simp [hx, hy, hz, hl, hl2, List.filterMap_cons, Expr.pos]
      · by_cases hl : py.line = px.line <;> simp [hx, hy, hz, hl, List.filterMap_cons, Expr.pos]
    · by_cases hz : env.kindOf z = some .local
      · by_cases hl2 : pz.line = px.line <;> simp [hx, hy, hz, hl2, List.filterMap_cons, Expr.pos]
      · simp [hx, hy, hz, List.filterMap_cons, Expr.pos]
/-- two names at once -/
theorem sw_par {x y : Str} {px py pt pt2 : Pos} {kt k2 : Nat} {a b : Expr} {env : Env} (hk : (env.blockKind == .function) = true) (hx : env.kindOf x = some .local) (hy : env.kindOf y = some .local) (hl : (py.line == px.line) = true) (hxy : x ≠ y) (na : notStarB a = true) (nb : notStarB b = true)
    (hf : [a, b].all (foldedForSure 8) = false) (hc : [a, b].all (constantsAlone 8) = false) : swappedStores [.Tuple [.Name x px, .Name y py] kt pt] (.Tuple [a, b] k2 pt2) env = pure (some [x, y]) := by
  have st : ([a, b].any fun | .Starred .. => true | _ => false) = false := by
    cases a <;> first | exact absurd na Bool.false_ne_true | (cases b <;> first | exact absurd nb Bool.false_ne_true | rfl)
  have hl' : py.line = px.line := by simpa using hl
  have hk' : env.blockKind = .function := by simpa using hk
  unfold swappedStores
  simp only [List.length_cons, List.length_nil, hk', st, hf, hc]
  have hyx : (y == x) = false := by simpa using hxy.symm
  simp [hx, hy, hl', hxy, List.eraseDups_cons, List.filterMap_cons, Expr.pos]
  refine (if_neg ?_).trans ?_
  · intro h
    rcases h with h | h
    · revert h
      cases a <;> first | exact absurd na Bool.false_ne_true | (intro h; exact absurd h Bool.false_ne_true)
    · revert h
      cases b <;> first | exact absurd nb Bool.false_ne_true | (intro h; exact absurd h Bool.false_ne_true)
  · simp [hyx, List.eraseDups_cons]
theorem ds_par {g : Gm} {E : En} {W : WX} {X : Cx} {pos : Pos} (C : CtxOk g X) {i j : Nat} {x y : Str} {a b : Expr} {px py pt pt2 : Pos} {kt k2 : Nat} {sa sb : Sm} (hi : X.N[i]? = some x) (hj : X.N[j]? = some y) (hij : i ≠ j) (hx : X.env.scope.names.lookup x = some .local) (hy : X.env.scope.names.lookup y = some .local)
    (h : Paired (AS g W X) [a, b] [sa, sb]) (hw : swappedStores [.Tuple [.Name x px, .Name y py] kt pt] (.Tuple [a, b] k2 pt2) X.env = pure (some [x, y])) :
    PS X (.Assign [.Tuple [.Name x px, .Name y py] kt pt] (.Tuple [a, b] k2 pt2) pos) (tS g W E (parV [i, j] [sa, sb])) := by
  refine psImp (ps_par C.calm C.nd hi hj hij hx hy (pas_rs h) hw sw_tup) fun D σ H ⟨O, ρ, S, q⟩ => ?_
  refine ⟨O, ρ, S.st, (so_rw S q).imp fun rs ρ1 q1 vs H1 O1 s1 rvs => ?_⟩
  split at q1
  · rename_i ρ2 e2
    have key : ∃ v w, vs = [v, w] := by
      match rs, e2, rvs with
      | [], e2, _ => cases e2
      | [_], e2, rvs =>
        obtain ⟨ρ3, _, e3⟩ := Option.bind_eq_some_iff.mp (show (setRs i _ ρ1).bind (setRss [j] []) = some ρ2 from e2)
        cases e3
      | _ :: _ :: _ :: _, e2, rvs =>
        obtain ⟨ρ3, _, e3⟩ := Option.bind_eq_some_iff.mp (show (setRs i _ ρ1).bind (setRss [j] (_ :: _ :: _)) = some ρ2 from e2)
        obtain ⟨ρ4, _, e4⟩ := Option.bind_eq_some_iff.mp (show (setRs j _ ρ3).bind (setRss [] (_ :: _)) = some ρ2 from e3)
        cases e4
      | [_, _], e2, rvs =>
        cases rvs with
        | sh _ r2 => cases r2 with
          | sh _ r3 => cases r3; exact ⟨_, _, rfl⟩
          | fr _ _ _ _ _ r3 => cases r3; exact ⟨_, _, rfl⟩
        | fr _ _ _ _ _ r2 => cases r2 with
          | sh _ r3 => cases r3; exact ⟨_, _, rfl⟩
          | fr _ _ _ _ _ r3 => cases r3; exact ⟨_, _, rfl⟩
    obtain ⟨v, w, rfl⟩ := key
    exact ⟨v, w, rfl, q1 _ H1 O1 (set_rss (S.step s1) S.fr.there rvs e2)⟩
  · exact q1.elim
theorem notStar_m {a : Expr} {α : Sort _} {u v : α} (na : notStarB a = true) : (match a with | .Starred .. => u | _ => v) = v := by
  cases a <;> first | exact absurd na Bool.false_ne_true | rfl
theorem sw_par3 {x y z : Str} {px py pz pt pt2 : Pos} {kt k2 : Nat} {a b c : Expr} {env : Env} (hk : (env.blockKind == .function) = true) (hx : env.kindOf x = some .local) (hy : env.kindOf y = some .local) (hz : env.kindOf z = some .local) (hl : (py.line == px.line) = true) (hl2 : (pz.line == px.line) = true) (hxy : x ≠ y) (hxz : x ≠ z) (hyz : y ≠ z)
    (na : notStarB a = true) (nb : notStarB b = true) (nc : notStarB c = true)
    (hf : [a, b, c].all (foldedForSure 8) = false) (hc : [a, b, c].all (constantsAlone 8) = false) : swappedStores [.Tuple [.Name x px, .Name y py, .Name z pz] kt pt] (.Tuple [a, b, c] k2 pt2) env = pure (some [x, y, z]) := by
  have hl' : py.line = px.line := by simpa using hl
  have hl2' : pz.line = px.line := by simpa using hl2
  have hk' : env.blockKind = .function := by simpa using hk
  have e1 : (y == x) = false := by simpa using hxy.symm
  have e2 : (z == x) = false := by simpa using hxz.symm
  have e3 : (z == y) = false := by simpa using hyz.symm
  have st : ∀ d : Expr, notStarB d = true → ¬ ((match d with | .Starred .. => true | _ => false) = true) := fun d nd h => by
    cases d <;> first | exact absurd nd Bool.false_ne_true | exact absurd h Bool.false_ne_true
  unfold swappedStores
  simp only [List.length_cons, List.length_nil, hk', hf, hc]
  simp [hx, hy, hz, hl', hl2', hxy, hxz, hyz, List.eraseDups_cons, List.filterMap_cons, Expr.pos]
  refine (if_neg ?_).trans ?_
  · intro h
    rcases h with h | h | h
    · exact st a na h
    · exact st b nb h
    · exact st c nc h
  · simp [e1, e2, e3, List.eraseDups_cons]
theorem ds_par3 {g : Gm} {E : En} {W : WX} {X : Cx} {pos : Pos} (C : CtxOk g X) {i j l : Nat} {x y z : Str} {a b c : Expr} {px py pz pt pt2 : Pos} {kt k2 : Nat} {sa sb sc : Sm} (hi : X.N[i]? = some x) (hj : X.N[j]? = some y) (hl : X.N[l]? = some z) (hij : i ≠ j) (hil : i ≠ l) (hjl : j ≠ l) (hx : X.env.scope.names.lookup x = some .local) (hy : X.env.scope.names.lookup y = some .local) (hz : X.env.scope.names.lookup z = some .local)
    (h : Paired (AS g W X) [a, b, c] [sa, sb, sc]) (hw : swappedStores [.Tuple [.Name x px, .Name y py, .Name z pz] kt pt] (.Tuple [a, b, c] k2 pt2) X.env = pure (some [x, y, z])) :
    PS X (.Assign [.Tuple [.Name x px, .Name y py, .Name z pz] kt pt] (.Tuple [a, b, c] k2 pt2) pos) (tS g W E (parV [i, j, l] [sa, sb, sc])) := by
  refine psImp (ps_par3 C.calm C.nd hi hj hl hij hil hjl hx hy hz (pas_rs h) hw sw_tup) fun D σ H ⟨O, ρ, S, q⟩ => ?_
  refine ⟨O, ρ, S.st, (so_rw S q).imp fun rs ρ1 q1 vs H1 O1 s1 rvs => ?_⟩
  split at q1
  · rename_i ρ2 e2
    have len : ∀ (is : List Nat) (rs : List Rs) (ρ ρ' : Rho), setRss is rs ρ = some ρ' → rs.length = is.length := by
      intro is
      induction is with
      | nil => intro rs ρ ρ' e; cases rs <;> first | rfl | cases e
      | cons i is ih =>
        intro rs ρ ρ' e
        cases rs with
        | nil => cases e
        | cons r rs =>
          obtain ⟨ρ3, _, e3⟩ := Option.bind_eq_some_iff.mp (show (setRs i r ρ).bind (setRss is rs) = some ρ' from e)
          rw [List.length_cons, List.length_cons, ih _ _ _ e3]
    have n3 := len _ _ _ _ e2
    have key : vs.length = rs.length := by
      clear e2 q1 n3 q
      induction rvs with
      | nil => rfl
      | sh _ _ ih => rw [List.length_cons, List.length_cons, ih]
      | fr _ _ _ _ _ _ ih => rw [List.length_cons, List.length_cons, ih]
    rw [n3] at key
    match vs, key with
    | [u, v, w], _ => exact ⟨u, v, w, rfl, q1 _ H1 O1 (set_rss (S.step s1) S.fr.there rvs e2)⟩
  · exact q1.elim
/-- target, value, line -/
def vAsg : Stmt → Option (Expr × Expr)
  | .Assign [t] v _ => some (t, v)
  | _ => none
/-- a += e -/
def vAug : Stmt → Option (Expr × Expr)
  | .AugAssign t .Add v _ => some (t, v)
  | _ => none
theorem vAug_eq {s : Stmt} {t v : Expr} (h : vAug s = some (t, v)) : ∃ p, s = .AugAssign t .Add v p := by
  unfold vAug at h; split at h
  · cases h; exact ⟨_, rfl⟩
  · cases h
def KC.tgSt (c : KC) : List Nat → Nat → List Expr → Bool
  | [], j, [.Starred t _] => c.tg1 j t
  | i :: is, j, e :: es => c.tg1 i e && c.tgSt is j es
  | _, _, _ => false
theorem CtxK.tgSt_ok {g : Gm} {cf : Fn} {W : WX} {X : Cx} {c : KC} (Z : CtxK g cf W X c) {j : Nat} : ∀ {is : List Nat} {es : List Expr}, c.tgSt is j es = true → PGs X es (gSt is j) ∧ (assignEach es X.env).length = is.length + 1 ∧ (assignEach es X.env).findIdx? (·.1) = some is.length
  | [], [.Starred t _], h => ⟨pgs_star (Z.tg1_ok (show c.tg1 j t = true from h)).1, rfl, rfl⟩
  | i :: is, e :: es, h => by
    obtain ⟨h1, h2⟩ := and3 (show (c.tg1 i e && c.tgSt is j es) = true from h)
    obtain ⟨p1, x, p, rfl, hN, hl, hf⟩ := Z.tg1_ok h1
    obtain ⟨p2, l2, f2⟩ := CtxK.tgSt_ok Z h2
    refine ⟨pgs_cons p1 p2 rfl, ?_, ?_⟩
    · show (_ :: assignEach es X.env).length = _
      rw [List.length_cons, l2, List.length_cons]
    · show List.findIdx? (·.1) ((false, assign (.Name x p) X.env) :: assignEach es X.env) = _
      rw [List.findIdx?_cons, f2]
      rfl
def vExp : Stmt → Option Expr
  | .Expr e _ => some e
  | _ => none
def vApp : Expr → Option (Expr × Expr)
  | .Call (.Attribute o a pa) [e] [] pc => if decide (a = ("append" : Str)) && pa.endLine == pc.line then some (o, e) else none
  | _ => none
def vExt : Expr → Option (Expr × Expr)
  | .Call (.Attribute o a pa) [e] [] pc => if decide (a = ("extend" : Str)) && pa.endLine == pc.line then some (o, e) else none
  | _ => none
def vIfS : Stmt → Option (Expr × List Stmt × List Stmt)
  | .If c a b _ => some (c, a, b)
  | _ => none
def vFor : Stmt → Option (Expr × Expr × List Stmt)
  | .For t i b [] _ => some (t, i, b)
  | _ => none
def vWhl : Stmt → Option (Expr × List Stmt)
  | .While c b [] _ => some (c, b)
  | _ => none
def vRet : Stmt → Option (Option Expr)
  | .Return e _ => some e
  | _ => none
def vPass : Stmt → Bool
  | .Pass _ => true
  | .Expr (.Constant (.str _) _ _) _ => true
  | _ => false
def vBrk : Stmt → Bool
  | .Break _ => true
  | _ => false
def vCnt : Stmt → Bool
  | .Continue _ => true
  | _ => false
theorem vAsg_eq {s : Stmt} {t v : Expr} (h : vAsg s = some (t, v)) : ∃ p, s = .Assign [t] v p := by
  unfold vAsg at h; split at h
  · cases h; exact ⟨_, rfl⟩
  · cases h
theorem vExp_eq {s : Stmt} {e : Expr} (h : vExp s = some e) : ∃ p, s = .Expr e p := by
  unfold vExp at h; split at h
  · cases h; exact ⟨_, rfl⟩
  · cases h
theorem vApp_eq {f o e : Expr} (h : vApp f = some (o, e)) : ∃ pa pc, f = .Call (.Attribute o "append" pa) [e] [] pc ∧ (pa.endLine == pc.line) = true := by
  unfold vApp at h; split at h
  · split at h
    · rename_i hc
      obtain ⟨h1, h2⟩ := and3 hc
      cases h
      have := of_decide_eq_true h1
      subst this
      exact ⟨_, _, rfl, h2⟩
    · cases h
  · cases h
theorem vExt_eq {f o e : Expr} (h : vExt f = some (o, e)) : ∃ pa pc, f = .Call (.Attribute o "extend" pa) [e] [] pc ∧ (pa.endLine == pc.line) = true := by
  unfold vExt at h; split at h
  · split at h
    · rename_i hc
      obtain ⟨h1, h2⟩ := and3 hc
      cases h
      have := of_decide_eq_true h1
      subst this
      exact ⟨_, _, rfl, h2⟩
    · cases h
  · cases h
theorem vIfS_eq {s : Stmt} {e : Expr} {a b : List Stmt} (h : vIfS s = some (e, a, b)) : ∃ p, s = .If e a b p := by
  unfold vIfS at h; split at h
  · cases h; exact ⟨_, rfl⟩
  · cases h
theorem vFor_eq {s : Stmt} {t i : Expr} {b : List Stmt} (h : vFor s = some (t, i, b)) : ∃ p, s = .For t i b [] p := by
  unfold vFor at h; split at h
  · cases h; exact ⟨_, rfl⟩
  · cases h
theorem vWhl_eq {s : Stmt} {t : Expr} {b : List Stmt} (h : vWhl s = some (t, b)) : ∃ p, s = .While t b [] p := by
  unfold vWhl at h; split at h
  · cases h; exact ⟨_, rfl⟩
  · cases h
theorem vRet_eq {s : Stmt} {e : Option Expr} (h : vRet s = some e) : ∃ p, s = .Return e p := by
  unfold vRet at h; split at h
  · cases h; exact ⟨_, rfl⟩
  · cases h
/-- .. as a look -/
def cellB (sc : Scope) : List Expr → Expr → Bool
  | [.Name x _, .Name y _], .Tuple [a, b] _ _ => !(decide (sc.names.lookup x = some .local) && decide (sc.names.lookup y = some .local)) && notStarB a && notStarB b
  | [.Name x _, .Name y _, .Name z _], .Tuple [a, b, c] _ _ => !(decide (sc.names.lookup x = some .local) && decide (sc.names.lookup y = some .local) && decide (sc.names.lookup z = some .local)) && notStarB a && notStarB b && notStarB c
  | _, _ => false
theorem st_of {sc : Scope} {v : Expr} {env : Env} {ts : List Expr} {k : Nat} {p : Pos} (e : env.scope = sc) (h : (notTupB v || cellB sc ts v) = true) : swappedStores [.Tuple ts k p] v env = pure none := by
  subst e
  cases q : notTupB v with
  | true => exact st_tup q
  | false =>
    rw [q, Bool.false_or] at h
    unfold cellB at h
    split at h
    · rename_i x px y py a b k2 p2
      obtain ⟨h1, h2⟩ := and3 h
      obtain ⟨h3, h4⟩ := and3 h1
      refine sw_cell (fun ⟨z1, z2⟩ => ?_) h4 h2
      have z1' : env.scope.names.lookup x = some .local := z1
      have z2' : env.scope.names.lookup y = some .local := z2
      rw [z1', z2'] at h3
      cases h3
    · rename_i x px y py z pz a b c k2 p2
      obtain ⟨h, h2⟩ := and3 h
      obtain ⟨h, h4⟩ := and3 h
      obtain ⟨h3, h5⟩ := and3 h
      refine sw_cell3 (fun ⟨z1, z2, z3⟩ => ?_) h5 h4 h2
      have z1' : env.scope.names.lookup x = some .local := z1
      have z2' : env.scope.names.lookup y = some .local := z2
      have z3' : env.scope.names.lookup z = some .local := z3
      rw [z1', z2', z3'] at h3
      cases h3
    · cases h
mutual
def chkS : CS → KC → Stmt → Bool
  | .asg i e, c, s => match vAsg s with
    | some (.Name x px, v) => c.tg1 i (.Name x px) && (match swB c.sc x px v with
      | false => chkE e c v
      | true => (match e with
        | .lc .. => chkE e c v
        | _ => false) && decide (c.sc.names.lookup x = some .local))
    | _ => false
  | .asgT is e, c, s => match vAsg s with
    | some (.Tuple ts k p, v) => c.tg (.tp is) (.Tuple ts k p) && (notTupB v || cellB c.sc ts v) && chkE e c v
    | _ => false
  | .par is es, c, s => match is, es, vAsg s with
    | [i, j], .cons a (.cons b .nil), some (.Tuple [.Name x px, .Name y py] _ _, .Tuple [u, v] _ _) => decide (c.N[i]? = some x) && decide (c.N[j]? = some y) && decide (i ≠ j) && decide (c.sc.names.lookup x = some .local) && decide (c.sc.names.lookup y = some .local) && (blkKind c.sc == .function) && (py.line == px.line) && decide (x ≠ y) &&
        notStarB u && notStarB v && !([u, v].all (foldedForSure 8)) && !([u, v].all (constantsAlone 8)) && chkE a c u && chkE b c v
    | [i, j, l], .cons a (.cons b (.cons d .nil)), some (.Tuple [.Name x px, .Name y py, .Name z pz] _ _, .Tuple [u, v, t] _ _) => decide (c.N[i]? = some x) && decide (c.N[j]? = some y) && decide (c.N[l]? = some z) && decide (i ≠ j) && decide (i ≠ l) && decide (j ≠ l) && decide (c.sc.names.lookup x = some .local) && decide (c.sc.names.lookup y = some .local) && decide (c.sc.names.lookup z = some .local) && (blkKind c.sc == .function) && (py.line == px.line) && (pz.line == px.line) && decide (x ≠ y) && decide (x ≠ z) && decide (y ≠ z) &&
        notStarB u && notStarB v && notStarB t && !([u, v, t].all (foldedForSure 8)) && !([u, v, t].all (constantsAlone 8)) && chkE a c u && chkE b c v && chkE d c t
    | _, _, _ => false
  | .asgS is j e, c, s => match vAsg s with
    | some (.Tuple ts _ _, v) => c.tgSt is j ts && notTupB v && chkE e c v
    | _ => false
  | .aug i e, c, s => match vAug s with
    | some (.Name x px, v) => c.tg1 i (.Name x px) && chkE e c v
    | _ => false
  | .seti i k e, c, s => match vAsg s with
    | some (.Subscript o j _, v) => c.rd i o && notSliceB j && chkE k c j && chkE e c v
    | _ => false
  | .app i e, c, s => match vExp s with
    | some f => (match vApp f with
      | some (o, v) => c.rd i o && notStarB v && chkE e c v
      | none => false)
    | none => false
  | .ext i e, c, s => match vExp s with
    | some f => (match vExt f with
      | some (o, v) => c.rd i o && notStarB v && chkE e c v
      | none => false)
    | none => false
  | .exp e, c, s => match vExp s with
    | some v => notCompB v && chkE e c v
    | none => false
  | .ifs t a b, c, s => match vIfS s with
    | some (x, y, z) => chkE t c x && chkSs a c y && chkSs b c z
    | none => false
  | .fors tg it b, c, s => match vFor s with
    | some (t, i, y) => chkI it c i t && notSetB i && c.tg tg t && chkSs b c y
    | none => false
  | .whl _ t b, c, s => match vWhl s with
    | some (x, y) => chkE t c x && chkSs b c y
    | none => false
  | .ret e, c, s => match vRet s with
    | some (some v) => chkE e c v
    | _ => false
  | .retN, _, s => match vRet s with
    | some none => true
    | _ => false
  | .pass, _, s => vPass s
  | .brk, _, s => vBrk s
  | .cnt, _, s => vCnt s
  | .nev, _, _ => true
def chkSs : CSs → KC → List Stmt → Bool
  | .nil, _, [] => true
  | .cons a as, c, s :: ss => chkS a c s && chkSs as c ss
  | _, _, _ => false
end
section
variable {g : Gm} {cf : Fn} {W : WX} {X : Cx} {c : KC} (Z : CtxK g cf W X c) (hp : PassesOwn (model X.prog X.w) X.A X.env X.xe)
include Z hp
/-- a comprehension under a name of its line -/
theorem chk_lcS {E : En} {tg : CT} {it : CI} {ifs : CEs} {el : CE} {i : Nat} {x : Str} {px spos : Pos} {v : Expr} (hN : X.N[i]? = some x) (hl : X.env.scope.names.lookup x = some .local) (hsw : swapsWith v (some (.Name x px)) spos.line X.env = pure true)
    (h : chkE (.lc tg it ifs el) c v = true) : PS X (.Assign [.Name x px] v spos) (tS g W E (asgV i (sm cf (.lc tg it ifs el)))) := by
  unfold chkE at h
  split at h
  · rename_i x' t iter fs sc q
    obtain ⟨p, rfl⟩ := vLc_eq q
    obtain ⟨h1, he⟩ := and3 h
    obtain ⟨h2, hf⟩ := and3 h1
    obtain ⟨h3, hfw⟩ := and3 h2
    obtain ⟨h4, ht⟩ := and3 h3
    obtain ⟨h5, hb⟩ := and3 h4
    obtain ⟨hi, hs⟩ := and3 h5
    have hb' : BlkOk X.N X.env.scope sc (ownOf c.N tg.ix) := by rw [Z.N, Z.sc]; exact blkOk_by hb
    exact ds_asgLc Z.C hN hl hsw (chkI_ok it Z hi) hb' (CtxK.own_ok Z)
        (fun s H C cl fp => (Z.blk s H sc cl C fp).tg_ok ht)
        (fun s H C cl fp => pts_few (Z.blk s H sc cl C fp) (chkEs_ok ifs (Z.blk s H sc cl C fp) hf) hfw)
        (fun s H C cl fp => (chkE_ok el (Z.blk s H sc cl C fp) he).v)
        (fun v => by cases iter <;> first | rfl | cases hs)
  · cases h
mutual
theorem chkS_ok : ∀ (cs : CS) {E : En} {s : Stmt}, chkS cs c s = true → PS X s (tS g W E (ss cf cs))
  | .asg i e, E, s, h => by
    unfold chkS at h
    split at h
    · rename_i x px v q
      obtain ⟨p, rfl⟩ := vAsg_eq q
      obtain ⟨h1, h2⟩ := and3 h
      obtain ⟨_, x', p', ex, hN, hl, hf⟩ := Z.tg1_ok h1
      cases ex
      split at h2
      · rename_i hsw
        exact ds_asg Z.C hN hl (chkE_ok e Z h2).v (by rw [swB_ok Z.sc, hsw]) hf
      · rename_i hsw
        obtain ⟨h3, h4⟩ := and3 h2
        split at h3
        · exact chk_lcS Z hp hN (by rw [Z.sc]; exact of_decide_eq_true h4) (by rw [swB_ok Z.sc, hsw]) h3
        · cases h3
    · cases h
  | .asgT is e, E, s, h => by
    unfold chkS at h
    split at h
    · rename_i ts k p v q
      obtain ⟨p', rfl⟩ := vAsg_eq q
      obtain ⟨h1, h2⟩ := and3 h
      obtain ⟨h3, h4⟩ := and3 h1
      exact ds_asgT Z.C (chkE_ok e Z h2).v (Z.tg_ok h3) sw_tup (st_of Z.sc h4) rfl
    · cases h
  | .par is es, E, s, h => by
    unfold chkS at h
    split at h
    · rename_i i j a b x px y py k1 p1 u v k2 p2 q
      obtain ⟨p, rfl⟩ := vAsg_eq q
      obtain ⟨h, hb⟩ := and3 h
      obtain ⟨h, ha⟩ := and3 h
      obtain ⟨h, h12⟩ := and3 h
      obtain ⟨h, h11⟩ := and3 h
      obtain ⟨h, h10⟩ := and3 h
      obtain ⟨h, h9⟩ := and3 h
      obtain ⟨h, h8⟩ := and3 h
      obtain ⟨h, h7⟩ := and3 h
      obtain ⟨h, h6⟩ := and3 h
      obtain ⟨h, h5⟩ := and3 h
      obtain ⟨h, h4⟩ := and3 h
      obtain ⟨h, h3⟩ := and3 h
      obtain ⟨h1, h2⟩ := and3 h
      have lx : X.env.scope.names.lookup x = some .local := by rw [Z.sc]; exact of_decide_eq_true h4
      have ly : X.env.scope.names.lookup y = some .local := by rw [Z.sc]; exact of_decide_eq_true h5
      have bk : (X.env.blockKind == .function) = true := by
        show ((if X.env.scope.kind.isAnnotationScope then ScopeKind.function else X.env.scope.kind) == .function) = true
        rw [Z.sc]
        exact h6
      exact ds_par Z.C (by rw [Z.N]; exact of_decide_eq_true h1) (by rw [Z.N]; exact of_decide_eq_true h2) (of_decide_eq_true h3) lx ly (.cons ⟨chkE_ok a Z ha, notStar_of h9⟩ (.cons ⟨chkE_ok b Z hb, notStar_of h10⟩ .nil))
        (sw_par bk lx ly h7 (of_decide_eq_true h8) h9 h10 (by rw [Bool.not_eq_true'] at h11; exact h11) (by rw [Bool.not_eq_true'] at h12; exact h12))
    · rename_i i j l a b d x px y py z pz k1 g1 u v t k2 g2 q
      obtain ⟨p, rfl⟩ := vAsg_eq q
      obtain ⟨h, hd⟩ := and3 h
      obtain ⟨h, hb⟩ := and3 h
      obtain ⟨h, ha⟩ := and3 h
      obtain ⟨h, c0⟩ := and3 h
      obtain ⟨h, f0⟩ := and3 h
      obtain ⟨h, n3⟩ := and3 h
      obtain ⟨h, n2⟩ := and3 h
      obtain ⟨h, n1⟩ := and3 h
      obtain ⟨h, d3⟩ := and3 h
      obtain ⟨h, d2⟩ := and3 h
      obtain ⟨h, d1⟩ := and3 h
      obtain ⟨h, hl2⟩ := and3 h
      obtain ⟨h, hl⟩ := and3 h
      obtain ⟨h, bk0⟩ := and3 h
      obtain ⟨h, lz0⟩ := and3 h
      obtain ⟨h, ly0⟩ := and3 h
      obtain ⟨h, lx0⟩ := and3 h
      obtain ⟨h, q3⟩ := and3 h
      obtain ⟨h, q2⟩ := and3 h
      obtain ⟨h, q1⟩ := and3 h
      obtain ⟨h, p3⟩ := and3 h
      obtain ⟨h, p2⟩ := and3 h
      have p1 := h
      have lx : X.env.scope.names.lookup x = some .local := by rw [Z.sc]; exact of_decide_eq_true lx0
      have ly : X.env.scope.names.lookup y = some .local := by rw [Z.sc]; exact of_decide_eq_true ly0
      have lz : X.env.scope.names.lookup z = some .local := by rw [Z.sc]; exact of_decide_eq_true lz0
      have bk : (X.env.blockKind == .function) = true := by
        show ((if X.env.scope.kind.isAnnotationScope then ScopeKind.function else X.env.scope.kind) == .function) = true
        rw [Z.sc]
        exact bk0
      exact ds_par3 Z.C (by rw [Z.N]; exact of_decide_eq_true p1) (by rw [Z.N]; exact of_decide_eq_true p2) (by rw [Z.N]; exact of_decide_eq_true p3) (of_decide_eq_true q1) (of_decide_eq_true q2) (of_decide_eq_true q3) lx ly lz (.cons ⟨chkE_ok a Z ha, notStar_of n1⟩ (.cons ⟨chkE_ok b Z hb, notStar_of n2⟩ (.cons ⟨chkE_ok d Z hd, notStar_of n3⟩ .nil)))
        (sw_par3 bk lx ly lz hl hl2 (of_decide_eq_true d1) (of_decide_eq_true d2) (of_decide_eq_true d3) n1 n2 n3 (by rw [Bool.not_eq_true'] at f0; exact f0) (by rw [Bool.not_eq_true'] at c0; exact c0))
    · cases h
  | .asgS is j e, E, s, h => by
    unfold chkS at h
    split at h
    · rename_i ts k p v q
      obtain ⟨p', rfl⟩ := vAsg_eq q
      obtain ⟨h1, h2⟩ := and3 h
      obtain ⟨h3, h4⟩ := and3 h1
      obtain ⟨q1, q2, q3⟩ := Z.tgSt_ok h3
      exact ds_asgS Z.C (chkE_ok e Z h2).v (pg_star Z.C.calm q1 q2 q3) sw_tup (st_tup h4) rfl
    · cases h
  | .aug i e, E, s, h => by
    unfold chkS at h
    split at h
    · rename_i x px v q
      obtain ⟨p', rfl⟩ := vAug_eq q
      obtain ⟨h1, h2⟩ := and3 h
      obtain ⟨_, x', p2, ex, hN, hl, hf⟩ := Z.tg1_ok h1
      cases ex
      exact ds_aug Z.C hN hl (chkE_ok e Z h2).v hf
    · cases h
  | .seti i k e, E, s, h => by
    unfold chkS at h
    split at h
    · rename_i o j p v q
      obtain ⟨p', rfl⟩ := vAsg_eq q
      obtain ⟨h1, h2⟩ := and3 h
      obtain ⟨h3, h4⟩ := and3 h1
      obtain ⟨h5, h6⟩ := and3 h3
      obtain ⟨x, px, rfl, hN, hv, h7, h8⟩ := Z.rdv h5
      exact ds_seti Z.C (pe_var hN hv h7 h8) (chkE_ok k Z h4).v (chkE_ok e Z h2).v sw_sub st_sub rfl (fun u => by cases j <;> first | rfl | cases h6)
    · cases h
  | .app i e, E, s, h => by
    unfold chkS at h
    split at h
    · rename_i f q
      obtain ⟨p', rfl⟩ := vExp_eq q
      split at h
      · rename_i o v q2
        obtain ⟨pa, pc, rfl, hl⟩ := vApp_eq q2
        obtain ⟨h1, h2⟩ := and3 h
        obtain ⟨h3, h4⟩ := and3 h1
        obtain ⟨x, px, rfl, hN, hv, h7, h8⟩ := Z.rdv h3
        exact ds_app Z.C (pe_var hN hv h7 h8) ⟨chkE_ok e Z h2, notStar_of h4⟩ hl
      · cases h
    · cases h
  | .ext i e, E, s, h => by
    unfold chkS at h
    split at h
    · rename_i f q
      obtain ⟨p', rfl⟩ := vExp_eq q
      split at h
      · rename_i o v q2
        obtain ⟨pa, pc, rfl, hl⟩ := vExt_eq q2
        obtain ⟨h1, h2⟩ := and3 h
        obtain ⟨h3, h4⟩ := and3 h1
        obtain ⟨x, px, rfl, hN, hv, h7, h8⟩ := Z.rdv h3
        exact ds_ext Z.C (pe_var hN hv h7 h8) ⟨chkE_ok e Z h2, notStar_of h4⟩ hl
      · cases h
    · cases h
  | .exp e, E, s, h => by
    unfold chkS at h
    split at h
    · rename_i v q
      obtain ⟨p', rfl⟩ := vExp_eq q
      obtain ⟨h1, h2⟩ := and3 h
      exact ds_exp (chkE_ok e Z h2).v (sw_none h1)
    · cases h
  | .ifs t a b, E, s, h => by
    unfold chkS at h
    split at h
    · rename_i x y z q
      obtain ⟨p', rfl⟩ := vIfS_eq q
      obtain ⟨h1, h2⟩ := and3 h
      obtain ⟨h3, h4⟩ := and3 h1
      exact ds_if (chkE_ok t Z h3).t (chkSs_ok a h4) (chkSs_ok b h2)
    · cases h
  | .fors tg it b, E, s, h => by
    unfold chkS at h
    split at h
    · rename_i t i y q
      obtain ⟨p', rfl⟩ := vFor_eq q
      obtain ⟨h1, h2⟩ := and3 h
      obtain ⟨h3, h4⟩ := and3 h1
      obtain ⟨h5, h6⟩ := and3 h3
      exact ds_for Z.C hp (chkI_ok it Z h5) (Z.tg_ok h4) (fun E => chkSs_ok b h2) (fun v => by cases i <;> first | rfl | cases h6)
    · cases h
  | .whl n t b, E, s, h => by
    unfold chkS at h
    split at h
    · rename_i x y q
      obtain ⟨p', rfl⟩ := vWhl_eq q
      obtain ⟨h1, h2⟩ := and3 h
      exact ds_whl Z.C hp (chkE_ok t Z h1).t (fun E => chkSs_ok b h2)
    · cases h
  | .ret e, E, s, h => by
    unfold chkS at h
    split at h
    · rename_i v q
      obtain ⟨p', rfl⟩ := vRet_eq q
      exact ds_ret (chkE_ok e Z h).r
    · cases h
  | .retN, E, s, h => by
    unfold chkS at h
    split at h
    · rename_i q
      obtain ⟨p', rfl⟩ := vRet_eq q
      exact ds_retN
    · cases h
  | .pass, E, s, h => by
    have h' : vPass s = true := h
    unfold vPass at h'
    split at h'
    · exact ds_pass
    · exact ds_doc
    · cases h'
  | .brk, E, s, h => by
    have h' : vBrk s = true := h
    unfold vBrk at h'
    split at h'
    · exact ds_brk
    · cases h'
  | .cnt, E, s, h => by
    have h' : vCnt s = true := h
    unfold vCnt at h'
    split at h'
    · exact ds_cnt
    · cases h'
  | .nev, E, s, h => ds_nev
theorem chkSs_ok : ∀ (cs : CSs) {E : En} {s : List Stmt}, chkSs cs c s = true → PSs X s (tS g W E (sss cf cs))
  | .nil, E, [], h => dss_nil
  | .nil, E, _ :: _, h => by cases h
  | .cons a as, E, [], h => by cases h
  | .cons a as, E, s :: ss, h => by
    obtain ⟨h1, h2⟩ := and3 (show (chkS a c s && chkSs as c ss) = true from h)
    exact dss_cons (chkS_ok a h1) (chkSs_ok as h2)
end
end
end Wr

/-! A def of the text keeps what its core computes. -/
namespace Wr
open PySem PySem.Spec L2
open PyProof.Rows hiding St

section
variable {g : Gm} {P : Program} {w : World} {base : Heap} {k : Nat} {f : Addr} {name qual : Str} {params : Arguments} {body : List Stmt} {scope : Scope} {dV kV doc pm cdv ct oc : Value} {an od : Option Addr} {osl : Array (Option Value)} {N ps : List Str}
/-- the frame's context at a def's entry -/
abbrev cxG (g : Gm) (P : Program) (w : World) (base : Heap) (N : List Str) (qual : Str) (scope : Scope) (f : Addr) (cdv : Value) (A : Around) (outer : List Env) (s : Shared) (H : Hp) (E : XK) : Cx := cxOf (L2.CX P w) P w g.K g.mg base N qual scope f cdv A outer s H E
theorem fnG_of {sp : Sp} (lk : g.K.lookup f = some ⟨oc, od, .func (PySem.W.fnOf name qual params body scope dV kV doc pm an cdv ct), osl⟩) (cdI : PySem.W.codeIn g.K cdv qual = true) (Sc : FnScope N ps scope) (spl : ∀ vs H Q E, sp vs H Q E → vs.length = ps.length)
    (bd : ∀ (A : Around) (outer : List Env) (s : Shared) (H : Hp) (vs : List V) (Q : VK) (E : XK), Room k (A.deeper (envOfC qual scope s.heap.objs.size f cdv)) → A.guards = some [] → sp vs H Q E →
      ∃ t, PSs (cxG g P w base N qual scope f cdv A outer s H E) body t ∧ t { nx := fun _ H' => Q .non H', rt := Q } (start N vs) H) :
    FnG g P w base (k + 1) f (PySem.W.fnOf name qual params body scope dV kV doc pm an cdv ct) ps sp := by
  refine ⟨spl, fun A outer s H args us vs Q E room gds en bnd rel pr => ?_⟩
  have len := spl _ _ _ _ pr
  have inK : g.K.In s.heap := en.mod.kin.keeps fun b o e => (en.bs b o e).1
  have noL : s.heap.NoLimit := en.mod.nolimit.keeps fun b o e => (en.bs b o e).1
  refine codeAny_call_function room.depth (inK _ _ lk) rfl Sc.co Sc.gen rfl (PySem.W.codeRec_of inK cdI) (bnd _ _ _ _ ?_)
  refine wpAny_newFunctionEnv_cells Sc.kind (fun ⟨n, v⟩ hy => ?_) fun env eenv s1 ic => ?_
  · rcases Sc.par n (List.of_mem_zip hy).1 with q | q
    · exact .inl q
    · exact .inr ⟨q, PySem.W.cellsFrom_some _ _ _ (.inl q)⟩
  · subst eenv
    refine ⟨noL.keeps ic.toInCall.keep, codeAny_func ?_⟩
    obtain ⟨t, bt, qt⟩ := bd A outer s H vs Q E (room.deeper _) gds pr
    have I0 : Inv (cxG g P w base N qual scope f cdv A outer s H E) [] (start N vs) H s1 := inv_start Sc room.hd en len rel ic
    refine wpAny_mono (bt.run [] s1 (start N vs) H _ I0 qt) (fun fl s' out => ?_) fun e s' out => out
    cases fl with
    | ret u =>
      obtain ⟨v, σ', H', J, rv, q⟩ := out
      exact ⟨v, H', J.os, J.bare, J.base, J.hok, rv, q⟩
    | next =>
      obtain ⟨σ', H', J, q⟩ := out
      exact ⟨.non, H', J.os, J.bare, J.base, J.hok, rfl, q⟩
    | brk => obtain ⟨_, _, _, q⟩ := out; exact q.elim
    | cont => obtain ⟨_, _, _, q⟩ := out; exact q.elim

/-- the lent slots of a def's arguments -/
def ioAt (i : Nat) : Option Sl → Option V → Option (Nat × Addr)
  | some (.io _), some (.ref a) => some (i, a)
  | _, _ => none
def iosOf (args : Rho) (vs : List V) : List (Nat × Addr) := (List.range args.length).filterMap fun i => ioAt i args[i]? vs[i]?
theorem iosOf_mem {args : Rho} {vs : List V} {p : Nat × Addr} (h : p ∈ iosOf args vs) : (∃ d, args[p.1]? = some (.io d)) ∧ vs[p.1]? = some (.ref p.2) := by
  obtain ⟨i, hi, e⟩ := List.mem_filterMap.mp h
  unfold ioAt at e
  split at e
  · rename_i d a e1 e2
    cases e
    exact ⟨⟨d, e1⟩, e2⟩
  · cases e
theorem iosOf_of {args : Rho} {vs : List V} {i : Nat} {a : Addr} {d : D} (h1 : args[i]? = some (.io d)) (h2 : vs[i]? = some (.ref a)) : (i, a) ∈ iosOf args vs := by
  refine List.mem_filterMap.mpr ⟨i, List.mem_range.mpr (List.getElem?_eq_some_iff.mp h1).1, ?_⟩
  rw [h1, h2]
  rfl
theorem StR.pad {H : Hp} {O : AP1} {vs : List V} {args : Rho} {n m : Nat} (S : StR g H O (vs.map some) args) (e : n = m) : StR g H O (vs.map some ++ List.replicate n none) (args ++ List.replicate m .no) := by
  have hl : vs.length = args.length := by have := S.len; rwa [List.length_map] at this
  have low : ∀ {i : Nat} {s : Sl}, (args ++ List.replicate m .no)[i]? = some s → s.own = true → i < args.length ∧ args[i]? = some s := fun {i s} e o => by
    by_cases hi : i < args.length
    · rw [List.getElem?_append_left hi] at e
      exact ⟨hi, e⟩
    · rw [List.getElem?_append_right (Nat.le_of_not_lt hi), List.getElem?_replicate] at e
      split at e
      · cases e; cases o
      · cases e
  have lowV : ∀ {i : Nat}, i < args.length → (vs.map some ++ List.replicate n none)[i]? = (vs.map some)[i]? := fun {i} hi => List.getElem?_append_left (by rw [List.length_map, hl]; exact hi)
  refine ⟨by rw [List.length_append, List.length_append, List.length_map, List.length_replicate, List.length_replicate, hl, e], fun i v s e1 e2 => ?_, fun i j s t a e1 o1 e2 o2 f1 f2 => ?_, S.obj⟩
  · by_cases hi : i < args.length
    · rw [lowV hi] at e1
      rw [List.getElem?_append_left hi] at e2
      exact S.at_ i v s e1 e2
    · rw [List.getElem?_append_right (Nat.le_of_not_lt hi), List.getElem?_replicate] at e2
      split at e2
      · cases e2; exact .no
      · cases e2
  · obtain ⟨h1, g1⟩ := low e1 o1
    obtain ⟨h2, g2⟩ := low e2 o2
    rw [lowV h1] at f1
    rw [lowV h2] at f2
    exact S.one i j s t a g1 o1 g2 o2 f1 f2
/-- the slots that the arguments own, with the rest behind -/
theorem Wn.pad {vs : List V} {args : Rho} {n m : Nat} {b : Addr} (hl : vs.length = args.length) (h : Wn (vs.map some ++ List.replicate n none) (args ++ List.replicate m .no) b) : Wn (vs.map some) args b := by
  obtain ⟨i, s, e1, o, e2⟩ := h
  by_cases hi : i < args.length
  · rw [List.getElem?_append_left hi] at e1
    rw [List.getElem?_append_left (by rw [List.length_map, hl]; exact hi)] at e2
    exact ⟨i, s, e1, o, e2⟩
  · rw [List.getElem?_append_right (Nat.le_of_not_lt hi), List.getElem?_replicate] at e1
    split at e1
    · cases e1; cases o
    · cases e1
theorem def_ok {cf : Fn} {c : CDef} {m : MI} (hw : w.params = g.prm) (lk : g.K.lookup f = some ⟨oc, od, .func (PySem.W.fnOf name qual params body scope dV kV doc pm an cdv ct), osl⟩) (cdI : PySem.W.codeIn g.K cdv qual = true) (Sc : FnScope N ps scope) (hnp : c.np = ps.length) (hns : c.ns = N.length)
    (hc : chkSs c.body ⟨m, N, scope, fun _ => true⟩ body = true)
    (hd : ∀ x, m.dn x = true → ∃ f fd ps, FnG g P w base k f fd ps (spF g (cf x)) ∧ g.mg x = some (.ref f) ∧ PySem.W.keepIn g.K (.ref f) = true ∧ (m.po x = true → Binds g.K fd ps []) ∧ ∀ q ∈ m.kw x, KBn fd ps q.1 q.2.1 q.2.2)
    (hb : MF g m) :
    FnG g P w base (k + 1) f (PySem.W.fnOf name qual params body scope dV kV doc pm an cdv ct) ps (spF g (runD cf c)) := by
  have npl : ∀ {vs : List V} {H : Hp} {O : AP1} {args : Rho} {Q : VK} {E : XK}, StR g H O (vs.map some) args → CRo g vs args H O Q E (runD cf c args) → args.length = c.np := fun {vs H O args Q E} S q => by
    by_cases h : args.length = c.np
    · exact h
    · unfold runD at q
      rw [if_neg h] at q
      exact q.elim
  refine fnG_of lk cdI Sc (fun vs H Q E ⟨O, args, S, _, q⟩ => ?_) fun A outer s H vs Q E room gds ⟨O, args, S, al, q⟩ => ?_
  · have := S.len
    rw [List.length_map] at this
    rw [this, npl S q, hnp]
  · have hn := npl S q
    have hl : vs.length = args.length := by have := S.len; rwa [List.length_map] at this
    have Z : CtxK g cf (fun cls d _ H => E cls d H) (cxG g P w base N qual scope f cdv A outer s H E) ⟨m, N, scope, fun _ => true⟩ := {
      C := ⟨rfl, rfl, hw, rfl, Sc.nd, gds, by have := room.un; show (A.deeper _).units + 64 < cLine; omega⟩
      N := rfl
      sc := rfl
      tk := takes_of rfl rfl rfl rfl
      fn := fun _ _ => rfl
      df := fun x hx => by
        obtain ⟨f', fd', ps', F, hm, hk, hbd⟩ := hd x hx
        exact ⟨k, f', fd', ps', F, room, hm, hk, hbd⟩
      mf := hb }
    have hp : PassesOwn (model P w) (A.deeper (envOfC qual scope s.heap.objs.size f cdv)) (envOfC qual scope s.heap.objs.size f cdv) (cxG g P w base N qual scope f cdv A outer s H E).xe := passes_of (X := cxG g P w base N qual scope f cdv A outer s H E) rfl
    let E0 : En := ⟨H, O, Wn (vs.map some) args, iosOf args vs⟩
    refine ⟨tS g (fun cls d _ H => E cls d H) E0 (sss cf c.body), chkSs_ok Z hp c.body hc, O, args ++ List.replicate (c.ns - c.np) .no, ?_, ?_⟩
    · refine ⟨S.pad (by rw [hns, hl, hn]), .refl _ _ _, fun b z => .inl (Wn.pad hl z), S.obj, fun p hp => ?_⟩
      obtain ⟨⟨d, e1⟩, e2⟩ := iosOf_mem hp
      have hi := (List.getElem?_eq_some_iff.mp e1).1
      refine ⟨?_, d, by rw [List.getElem?_append_left hi]; exact e1⟩
      show (vs.map some ++ _)[p.1]? = _
      rw [List.getElem?_append_left (by rw [List.length_map, hl]; exact hi), List.getElem?_map, e2]
      rfl
    · unfold runD at q
      rw [if_pos hn] at q
      -- what is told at the end
      have back : ∀ {σ' : St} {H' : Hp} {O' : AP1} {ρ : Rho}, SI g E0 H' O' σ' ρ → CBk g vs args (ρ.take c.np) H O H' O' := fun {σ' H' O' ρ} S' => by
        refine ⟨S'.fr, S'.st.obj, fun j d e => ?_⟩
        have hj := (List.getElem?_eq_some_iff.mp e).1
        obtain ⟨v, ev, r⟩ := S.get e
        cases r with
        | io oa ob =>
          rename_i a
          have ea : vs[j]? = some (.ref a) := by
            rw [List.getElem?_map] at ev
            cases q : vs[j]? with
            | none => rw [q] at ev; cases ev
            | some u => rw [q] at ev; cases ev; rfl
          obtain ⟨f1, d', f2⟩ := S'.io (j, a) (iosOf_of e ea)
          have z := S'.st.at_ j _ _ f1 f2
          cases z with
          | io oa' ob' => exact ⟨a, d', ea, by rw [List.getElem?_take_of_lt (by omega)]; exact f2, oa', ob'⟩
      cases r : sss cf c.body (args ++ List.replicate (c.ns - c.np) .no) with
      | ok o ρ =>
        rw [r] at q
        cases o with
        | nx => exact fun σ' H' O' S' => q .non H' O' (back S') .non
        | bk => exact q.elim
        | ct => exact q.elim
        | rt d =>
          refine fun v σ' H' O' S' rf => q v H' O' (back S') ?_
          cases d with
          | sh d => exact rf
          | fr d =>
            obtain ⟨a, e, oa, nw, ob, z⟩ := rf
            refine ⟨a, e, z.elim id fun z => ?_, oa, ob⟩
            obtain ⟨j, t, e1, o, e2⟩ := z
            exfalso
            have lt := List.all_eq_true.mp al t (List.mem_of_getElem? e1)
            cases t with
            | no => cases o
            | sh _ => cases o
            | ow _ => cases lt
            | io d1 =>
              have ea : vs[j]? = some (.ref a) := by
                rw [List.getElem?_map] at e2
                cases q : vs[j]? with
                | none => rw [q] at e2; cases e2
                | some u => rw [q] at e2; cases e2; rfl
              obtain ⟨f1, d', f2⟩ := S'.io (j, a) (iosOf_of e1 ea)
              exact nw ⟨j, _, f2, rfl, f1⟩
      | ex x ρ =>
        rw [r] at q
        exact fun c dx σ' H' O' S' xr => q c dx H' O' (back S') xr
      | st =>
        rw [r] at q
        exact q.elim
end
end Wr

/-! The law's own head, for promises of this layer. -/
namespace Wr
open PySem PySem.Spec L2
open PyProof.Rows hiding St

section
variable {P : Program} {w : World} {K : PySem.W.Frag} {mg mb : Str → Option Value} {k : Nat} {fa a : Addr} {fd : FuncData} {x : Str} {cf : List Sl → CR} {s₁ : Shared} {vs : List Value} {ns : List Int} {back : Rho}
theorem sp_script {pr : Params} {H : Hp} (hS : LsO K H (fun _ => False) a (ns.map V.int)) (hcf : cf [.sh (.lst (ns.map D.int))] = .ok (.sh (.bl true)) back) :
    spF ⟨K, mg, pr⟩ cf [.ref a] H (fun v _ => v = .bl true) fun _ _ _ => False := by
  refine ⟨fun _ => False, [.sh (.lst (ns.map D.int))], ⟨rfl, fun i v s e1 e2 => ?_, fun i j s t b e1 o1 e2 o2 f1 f2 => ?_, fun _ z => z.elim⟩, rfl, ?_⟩
  · cases i with
    | zero =>
      cases e1
      cases e2
      exact .sh (.lst hS (RDs.ints _))
    | succ i => simp at e2
  · cases i with
    | zero => cases e1; cases o1
    | succ i => simp at e1
  · rw [hcf]
    exact fun v H' O' _ r => by cases (show RD _ H' O' v (.bl true) from r); rfl
/-- one heap of the script's -/
theorem law_in {H : Hp} (inK : K.In s₁.heap) (nG : s₁.heap.Ns mainGlobals mg) (nB : s₁.heap.Ns builtinsNs mb) (boot : ∀ x : Str, x ≠ "__name__" → mb x = bootBuiltins x) (noL : s₁.heap.NoLimit) (noG : s₁.gens = #[])
    (at_ : s₁.heap.get? a = some { cls := .type "list", data := .seq vs.toArray }) (room : Room k callerA)
    (F : ∀ base : Heap, K.In base → base.Ns mainGlobals mg → FnG ⟨K, mg, w.params⟩ P w base k fa fd [x] (spF ⟨K, mg, w.params⟩ cf)) (bnd : ∀ (s : Shared) (u : Value), BindsTo s fd ⟨[u], []⟩ [(x, u)])
    (hcf : cf [.sh (.lst (ns.map D.int))] = .ok (.sh (.bl true)) back) (onl : Only H) (scr : LsO K H (fun _ => False) a (ns.map V.int)) (hok : HOk P w H s₁.heap) (oneA : ∀ b, H b ≠ none → b = a) (notK : H a ≠ none → K.lookup a = none) :
    codeAny (model P w) callerA (.call (.ref fa) ⟨[.ref a], []⟩) (fun r s' => r = .ok (.ret (.bool true)) ∧ OldK s₁.heap s'.heap ∧ s'.os = s₁.os ∧ AllBare s'.gens) s₁ := by
  have isA : ∀ {b : Addr} {u : HO}, H b = some u → b = a := fun {b u} q => oneA b (by rw [q]; exact fun z => by cases z)
  have nsB : ∀ {b : Addr} {m : Str → Option Value}, s₁.heap.Ns b m → (hidT s₁.heap H).Ns b m := fun {b m} ⟨o, es, ep, e, d, r⟩ => by
    refine ⟨o, es, ep, hidT_get e ?_, d, r⟩
    cases q : H b with
    | none => rfl
    | some u =>
      cases isA q
      rw [at_] at e
      cases e
      exact absurd d fun z => by cases z
  have inB : K.In (hidT s₁.heap H) := fun b o e => by
    refine hidT_get (inK b o e) ?_
    cases q : H b with
    | none => rfl
    | some u =>
      cases isA q
      rw [notK (by rw [q]; exact fun z => by cases z)] at e
      cases e
  obtain ⟨ml, l1, l2⟩ := noL
  have en : Env0 P w K mg (hidT s₁.heap H) callerA [] s₁ H :=
    ⟨rfl, ⟨inB, nsB nG, ⟨mb, nsB nB, boot⟩, ⟨ml, nsB l1, l2⟩⟩, fun b o e => of_hidT e, Nat.le_of_eq (hidT_size _ _), trivial, fun b hb => absurd hb (List.not_mem_nil), hok, .of_eq noG⟩
  refine codeAny_mono ((F _ inB (nsB nG)).run callerA [] s₁ H ⟨[.ref a], []⟩ [.ref a] [.ref a] _ _ room rfl en (bnd s₁ (.ref a)) (.cons rfl .nil) (sp_script scr hcf)) fun r s' out => ?_
  cases r with
  | error e =>
    obtain ⟨_, _, _, _, _, _, _, _, _, _, _, _, z⟩ := out
    exact z.elim
  | ok fl =>
    cases fl with
    | ret u =>
      obtain ⟨v, H', os, bare, un, hok', rv, q⟩ := out
      cases (show v = .bl true from q)
      cases (show u = Value.bool true from rv)
      refine ⟨rfl, OldK.of_keep fun b o e => ?_, os, bare⟩
      rcases onl b with z | ⟨ob, xs, z⟩
      · exact un.keep b o e z (List.not_mem_nil) (List.not_mem_nil)
      · have f1 := (hok b _ z).1
        have f2 := (hok' b _ (un.frzs b ob _ z)).1
        rw [e] at f1
        cases f1
        exact f2
    | next => exact out.elim
    | brk => exact out.elim
    | cont => exact out.elim
theorem lawG (inK : K.In s₁.heap) (nG : s₁.heap.Ns mainGlobals mg) (nB : s₁.heap.Ns builtinsNs mb) (boot : ∀ x : Str, x ≠ "__name__" → mb x = bootBuiltins x) (noL : s₁.heap.NoLimit) (noG : s₁.gens = #[])
    (at_ : s₁.heap.get? a = some { cls := .type "list", data := .seq vs.toArray }) (isI : IntsAre vs ns) (le : ns.length ≤ sizeLine) (room : Room k callerA)
    (F : ∀ base : Heap, K.In base → base.Ns mainGlobals mg → FnG ⟨K, mg, w.params⟩ P w base k fa fd [x] (spF ⟨K, mg, w.params⟩ cf)) (bnd : ∀ (s : Shared) (u : Value), BindsTo s fd ⟨[u], []⟩ [(x, u)])
    (hcf : cf [.sh (.lst (ns.map D.int))] = .ok (.sh (.bl true)) back) :
    codeAny (model P w) callerA (.call (.ref fa) ⟨[.ref a], []⟩) (fun r s' => r = .ok (.ret (.bool true)) ∧ OldK s₁.heap s'.heap ∧ s'.os = s₁.os ∧ AllBare s'.gens) s₁ := by
  have rel := vals_ints isI
  have lenV : vs.length = ns.length := isI.length
  cases hk : K.lookup a with
  | some o =>
    have e := inK a o hk
    rw [at_] at e
    cases e
    exact law_in (H := fun _ => none) inK nG nB boot noL noG at_ room F bnd hcf (fun _ => .inl rfl) (.inr ⟨vs, _, hk, by rw [lenV]; exact le, rel⟩) (fun b u z => by cases z) (fun b z => absurd rfl z) fun z => absurd rfl z
  | none =>
    have self : (if a = a then some (HO.frz { cls := .type "list", data := .seq vs.toArray } (.lst (ns.map V.int))) else none) = some _ := if_pos rfl
    refine law_in (H := fun b => if b = a then some (.frz { cls := .type "list", data := .seq vs.toArray } (.lst (ns.map V.int))) else none) inK nG nB boot noL noG at_ room F bnd hcf (fun b => ?_) (.inl ⟨.inr ⟨_, self⟩, fun z => z.elim⟩) (fun b u z => ?_) (fun b z => ?_) fun _ => hk
    · by_cases hb : b = a
      · subst hb; exact .inr ⟨_, _, self⟩
      · exact .inl (if_neg hb)
    · by_cases hb : b = a
      · subst hb
        cases self.symm.trans z
        exact ⟨at_, by rw [List.length_map]; exact le, vs, _, rel, at_⟩
      · cases (if_neg hb).symm.trans z
    · by_cases hb : b = a
      · exact hb
      · exact absurd (if_neg hb) z
end
/-- what is left behind the top's walk -/
theorem walkG {l : PySem.W.OpenLaw} {n k : Nat} {q : Program} {loose : List Str} {XP : (Str → Option Value) → Heap → Prop} {YP : World → Heap → Prop} {d : DefRec} {K : Params → PySem.W.Frag} {cf : List Sl → CR} {x : Str}
    (most : l.most = some n) (le : n ≤ sizeLine) (nodf : d.params.defaults = []) (room : Room k callerA) (inK : ∀ (w : World) (h : Heap), YP w h → (K w.params).In h)
    (F : ∀ (w : World) (mg : Str → Option Value) (fa : Addr) (h : Heap), (K w.params).In h → h.Ns mainGlobals mg → mg d.name = some (.ref fa) →
      ∃ fd : FuncData, (∀ (s : Shared) (u : Value), BindsTo s fd ⟨[u], []⟩ [(x, u)]) ∧ ∀ base : Heap, (K w.params).In base → base.Ns mainGlobals mg → FnG ⟨K w.params, mg, w.params⟩ l.prog w base k fa fd [x] (spF ⟨K w.params, mg, w.params⟩ cf))
    (hcf : ∀ ns : List Int, ns.length ≤ n → ∃ back, cf [.sh (.lst (ns.map D.int))] = .ok (.sh (.bl true)) back) :
    PySem.W.WalkO q loose XP YP l.row.toRowW d [] (fun f vs => PySem.call f vs) := by
  refine Att.attach_call most nodf fun w s₀ s₁ mg mb fa o pm cd doc a vs ns G Y ho hd hcd hmg hobj hints hlen hg => ?_
  obtain ⟨fd, hb, hF⟩ := F w mg fa _ (inK w _ Y) G.T.g hmg
  obtain ⟨back, e⟩ := hcf ns hlen
  exact lawG (inK w _ Y) G.T.g G.T.b G.T.builtins G.T.nolimit hg hobj hints (Nat.le_trans hlen le) room hF hb e
end Wr

/-! A text's defs, all together. -/
namespace Wr
open PySem PySem.Spec L2
open PyProof.Rows hiding St

/-- a written dict's key, if it is a text -/
def kNm (e : DictEntry) : Option Str := match e.key with
  | .str x _ => some x
  | _ => none
theorem kNm_eq {e : DictEntry} {x : Str} (h : kNm e = some x) : ∃ t, e.key = .str x t := by
  unfold kNm at h
  split at h
  · rename_i y t q; cases h; exact ⟨t, q⟩
  · cases h
theorem kds_of {g : Gm} {a : Addr} {es : Array DictEntry} {n : Nat} {kvs : List (Str × GV)} (l : g.K.lookup a = some ⟨.type "dict", none, .dict es n, #[]⟩) (k : PySem.W.KeysLit g.prm es.toList) (low : (a == sysModules) = false)
    (q : es.toList.map kNm = (kvs.map (·.1)).map some) (vals : ∀ k d, (k, d) ∈ kvs → ∃ v u, PySem.W.nsIn g.K a k = some (some u) ∧ RelV v u ∧ KVal g v d) : KDs g a kvs := by
  refine ⟨es, n, l, k, low, fun z => ⟨fun h => ?_, fun d h => ?_⟩⟩
  · have names : ∀ e ∈ es.toList, ∃ x t, e.key = .str x t ∧ x ∈ kvs.map (·.1) := fun e he => by
      have h1 : kNm e ∈ (kvs.map (·.1)).map some := by rw [← q]; exact List.mem_map_of_mem he
      obtain ⟨x, hx, e1⟩ := List.mem_map.mp h1
      obtain ⟨t, et⟩ := kNm_eq e1.symm
      exact ⟨x, t, et, hx⟩
    have nz : z ∉ kvs.map (·.1) := fun hz => by
      obtain ⟨p, hp, rfl⟩ := List.mem_map.mp hz
      unfold gvAt at h
      rw [Option.map_eq_none_iff, List.find?_eq_none] at h
      exact h p hp (by simp)
    have f0 : es.toList.find? (·.key.isStr z) = none := by
      rw [List.find?_eq_none]
      intro e he hc
      obtain ⟨x, t, ek, hx⟩ := names e he
      rw [ek] at hc
      have : x = z := by simpa [Value.isStr] using hc
      exact nz (this ▸ hx)
    have r0 : es.toList.any (·.refKey) = false := by
      rw [List.any_eq_false]
      intro e he
      obtain ⟨x, t, ek, hx⟩ := names e he
      simp [DictEntry.refKey, ek]
    unfold PySem.W.nsIn
    rw [l]
    show (match es.toList.find? (·.key.isStr z) with
      | some e => some (some e.val)
      | none => if es.toList.any (·.refKey) then none else some none) = _
    rw [f0, r0]
    rfl
  · unfold gvAt at h
    obtain ⟨p, hp, rfl⟩ := Option.map_eq_some_iff.mp h
    have e1 := List.find?_some hp
    have e2 : p.1 = z := of_decide_eq_true e1
    subst e2
    exact vals _ _ (List.mem_of_find?_eq_some hp)
/-- a def's text and its core -/
structure DefS (m : MI) (x : Str) (c : CDef) (st : Stmt) (N ps : List Str) : Prop where
  sc : FnScope N ps (defScope st)
  np : c.np = ps.length
  ns : c.ns = N.length
  chk : chkSs c.body ⟨m, N, defScope st, fun _ => true⟩ (defBody st) = true
  bind : m.po x = true → ∀ (kV doc pm : Value) (an : Option Addr) (cdv ct : Value) (us : List Value), us.length = ps.length → bindArgs (PySem.W.fnOf x x (defArgs st) (defBody st) (defScope st) .none kV doc pm an cdv ct) ⟨us, []⟩ = pure (ps.zip us)
  kbind : ∀ q ∈ m.kw x, ∀ (kV doc pm : Value) (an : Option Addr) (cdv ct : Value), KBn (PySem.W.fnOf x x (defArgs st) (defBody st) (defScope st) .none kV doc pm an cdv ct) ps q.1 q.2.1 q.2.2
/-- .. as it stands behind the top, by K and the module's names -/
structure DefK (g : Gm) (x : Str) (st : Stmt) (f : Addr) (fd : FuncData) : Prop where
  ex : ∃ (oc : Value) (od : Option Addr) (kV doc pm : Value) (an : Option Addr) (cdv ct : Value) (osl : Array (Option Value)),
    fd = PySem.W.fnOf x x (defArgs st) (defBody st) (defScope st) .none kV doc pm an cdv ct ∧ g.K.lookup f = some ⟨oc, od, .func fd, osl⟩ ∧ PySem.W.codeIn g.K cdv x = true
  kp : PySem.W.keepIn g.K (.ref f) = true
  mg : g.mg x = some (.ref f)
theorem defK_mk {g : Gm} {x : Str} {st : Stmt} {f : Addr} {oc : Value} {od an : Option Addr} {osl : Array (Option Value)} {kV doc pm cdv ct : Value} (l : g.K.lookup f = some ⟨oc, od, .func (PySem.W.fnOf x x (defArgs st) (defBody st) (defScope st) .none kV doc pm an cdv ct), osl⟩)
    (c : PySem.W.codeIn g.K cdv x = true) (k : PySem.W.keepIn g.K (.ref f) = true) (m : g.mg x = some (.ref f)) : ∃ fd, DefK g x st f fd := ⟨_, ⟨_, _, _, _, _, _, _, _, _, rfl, l, c⟩, k, m⟩
structure DefAt (g : Gm) (m : MI) (x : Str) (c : CDef) : Prop where
  ex : ∃ (st : Stmt) (N ps : List Str) (f : Addr) (fd : FuncData), DefS m x c st N ps ∧ DefK g x st f fd
section
variable {g : Gm} {P : Program} {w : World} {base : Heap} {Δ : Str → Option CDef} {m : MI}
theorem def_at {cf : Fn} {k : Nat} {x : Str} {c : CDef} {st : Stmt} {N ps : List Str} {f : Addr} {fd : FuncData} (S : DefS m x c st N ps) (T : DefK g x st f fd)
    (hd : ∀ x, m.dn x = true → ∃ f fd ps, FnG g P w base k f fd ps (spF g (cf x)) ∧ g.mg x = some (.ref f) ∧ PySem.W.keepIn g.K (.ref f) = true ∧ (m.po x = true → Binds g.K fd ps []) ∧ ∀ q ∈ m.kw x, KBn fd ps q.1 q.2.1 q.2.2)
    (hb : MF g m) (hw : w.params = g.prm) : FnG g P w base (k + 1) f fd ps (spF g (runD cf c)) ∧ (m.po x = true → Binds g.K fd ps []) ∧ ∀ q ∈ m.kw x, KBn fd ps q.1 q.2.1 q.2.2 := by
  obtain ⟨oc, od, kV, doc, pm, an, cdv, ct, osl, rfl, lk, cd⟩ := T.ex
  exact ⟨def_ok hw lk cd S.sc S.np S.ns S.chk hd hb, fun hp => .all (S.bind hp kV doc pm an cdv ct), fun q hq => S.kbind q hq kV doc pm an cdv ct⟩
theorem fn_zero {f : Addr} {fd : FuncData} {ps : List Str} {x : Str} : FnG g P w base 0 f fd ps (spF g (fnN Δ 0 x)) :=
  ⟨fun _ _ _ _ ⟨_, _, _, _, z⟩ => z.elim, fun _ _ _ _ _ _ _ _ _ _ _ _ _ _ ⟨_, _, _, _, z⟩ => z.elim⟩
theorem all_ok (hw : w.params = g.prm) (hdn : ∀ x, m.dn x = true → ∃ c, Δ x = some c) (hb : MF g m) (hD : ∀ x c, Δ x = some c → DefAt g m x c) :
    ∀ (n : Nat) (x : Str), m.dn x = true → ∃ f fd ps, FnG g P w base n f fd ps (spF g (fnN Δ n x)) ∧ g.mg x = some (.ref f) ∧ PySem.W.keepIn g.K (.ref f) = true ∧ (m.po x = true → Binds g.K fd ps []) ∧ ∀ q ∈ m.kw x, KBn fd ps q.1 q.2.1 q.2.2
  | n, x, hx => by
    obtain ⟨c, hc⟩ := hdn x hx
    obtain ⟨st, N, ps, f, fd, S, T⟩ := (hD x c hc).ex
    cases n with
    | zero =>
      obtain ⟨oc, od, kV, doc, pm, an, cdv, ct, osl, rfl, lk, cd⟩ := id T.ex
      exact ⟨f, _, ps, fn_zero, T.mg, T.kp, fun hp => .all (S.bind hp kV doc pm an cdv ct), fun q hq => S.kbind q hq kV doc pm an cdv ct⟩
    | succ n =>
      obtain ⟨F, B⟩ := def_at S T (all_ok hw hdn hb hD n) hb hw
      have e : fnN Δ (n + 1) x = runD (fnN Δ n) c := by
        funext args
        show (match Δ x with | some c => _ | none => _) = _
        rw [hc]
      exact ⟨f, fd, ps, by rw [e]; exact F, T.mg, T.kp, B⟩
/-- the law's own def among them -/
theorem law_ok (hw : w.params = g.prm) (hdn : ∀ x, m.dn x = true → ∃ c, Δ x = some c) (hb : MF g m) (hD : ∀ x c, Δ x = some c → DefAt g m x c) {n : Nat} {x : Str} {c : CDef} {st : Stmt} {N ps : List Str} {f : Addr} {fd : FuncData} (hc : Δ x = some c) (S : DefS m x c st N ps) (T : DefK g x st f fd) :
    FnG g P w base (n + 1) f fd ps (spF g (fnN Δ (n + 1) x)) := by
  have e : fnN Δ (n + 1) x = runD (fnN Δ n) c := by
    funext args
    show (match Δ x with | some c => _ | none => _) = _
    rw [hc]
  rw [e]
  exact (def_at S T (all_ok hw hdn hb hD n) hb hw).1
/-- how a law's def takes its script -/
theorem bind_one {m : MI} {st : Stmt} {x y : Str} {f : Addr} {fd : FuncData} {c : CDef} {N : List Str} (S : DefS m x c st N [y]) (T : DefK g x st f fd) (hp : m.po x = true) (s : Shared) (u : Value) : BindsTo s fd ⟨[u], []⟩ [(y, u)] := by
  obtain ⟨oc, od, kV, doc, pm, an, cdv, ct, osl, rfl, lk, cd⟩ := T.ex
  exact .of_eq (S.bind hp kV doc pm an cdv ct [u] rfl)
end
end Wr

/-! Data: bounds, walks, the helpers that the laws share. -/
namespace Wr
open PySem PySem.Spec L2

/-! ### bounds -/
theorem log2_lt {n k : Nat} (h : n < 2 ^ k) (hk : 0 < k) : n.log2 < k := by
  by_cases hn : n = 0
  · subst hn
    rw [Nat.log2_zero]
    exact hk
  · exact (Nat.log2_lt hn).mpr h
/-- a number of at most k bits -/
def In (k : Nat) (i : Int) : Prop := i.natAbs < 2 ^ k
theorem mulOk_of {a b : Int} {k l : Nat} (ha : In k a) (hb : In l b) (h : k + l ≤ 900000 := by decide) : mulOk a b = true := by
  have h1 : a.natAbs.log2 < k + 1 := log2_lt (Nat.lt_of_lt_of_le ha (Nat.pow_le_pow_right (by decide) (Nat.le_succ k))) (Nat.succ_pos k)
  have h2 : b.natAbs.log2 < l + 1 := log2_lt (Nat.lt_of_lt_of_le hb (Nat.pow_le_pow_right (by decide) (Nat.le_succ l))) (Nat.succ_pos l)
  exact okB_of (by omega)
theorem fdOk_of {b : Int} {k : Nat} (h0 : 0 < b) (hb : In k b) (h : k ≤ 8000 := by decide) : fdOk b = true := by
  have h2 : b.natAbs.log2 < k + 1 := log2_lt (Nat.lt_of_lt_of_le hb (Nat.pow_le_pow_right (by decide) (Nat.le_succ k))) (Nat.succ_pos k)
  exact okB_of ⟨h0, by omega⟩
theorem shlOk_of {a b : Int} {k : Nat} (ha : In k a) (h0 : 0 ≤ b) (h1 : b ≤ 1000000) (h : k ≤ 900000 := by decide) : shlOk a b = true := by
  have h2 : a.natAbs.log2 < k + 1 := log2_lt (Nat.lt_of_lt_of_le ha (Nat.pow_le_pow_right (by decide) (Nat.le_succ k))) (Nat.succ_pos k)
  exact okB_of ⟨h0, by omega, h1⟩
theorem In.mul {a b : Int} {k l : Nat} (ha : In k a) (hb : In l b) : In (k + l) (a * b) := by
  show (a * b).natAbs < 2 ^ (k + l)
  rw [Int.natAbs_mul, Nat.pow_add]
  have h1 : a.natAbs * b.natAbs ≤ 2 ^ k * b.natAbs := Nat.mul_le_mul_right _ (Nat.le_of_lt ha)
  have h2 : 2 ^ k * b.natAbs < 2 ^ k * 2 ^ l := (Nat.mul_lt_mul_left (Nat.pow_pos (by decide))).mpr hb
  omega
theorem In.add {a b : Int} {k l : Nat} (ha : In k a) (hb : In l b) : In (max k l + 1) (a + b) := by
  show (a + b).natAbs < 2 ^ (max k l + 1)
  have h1 : (2 : Nat) ^ k ≤ 2 ^ max k l := Nat.pow_le_pow_right (by decide) (Nat.le_max_left _ _)
  have h2 : (2 : Nat) ^ l ≤ 2 ^ max k l := Nat.pow_le_pow_right (by decide) (Nat.le_max_right _ _)
  have ha' : a.natAbs < 2 ^ k := ha
  have hb' : b.natAbs < 2 ^ l := hb
  rw [Nat.pow_succ]
  omega
theorem In.of {a : Int} {k : Nat} (h0 : -(2 ^ k : Nat) < a) (h1 : a < (2 ^ k : Nat)) : In k a := by
  show a.natAbs < 2 ^ k
  omega
theorem In.mono {a : Int} {k l : Nat} (h : In k a) (hl : k ≤ l) : In l a := Nat.lt_of_lt_of_le h (Nat.pow_le_pow_right (by decide) hl)
theorem In.num {a : Int} {k : Nat} (h : a.natAbs < 2 ^ k) : In k a := h
theorem In.mod {a b : Int} {k : Nat} (h0 : 0 < b) (hb : In k b) : In k (a % b) := by
  have h1 := Int.emod_nonneg a (Int.ne_of_gt h0)
  have h2 := Int.emod_lt_of_pos a h0
  have hb' : b.natAbs < 2 ^ k := hb
  show (a % b).natAbs < 2 ^ k
  omega

/-! ### the laws' numbers -/
def takeC : CDef := { np := 2, ns := 4, body :=
    (.cons (.ifs (.cmp .Gt (.ix (.var 0) (.int 0)) (.int 0))
    (.cons (.asg 3 (.bin .Mod (.ix (.var 0) (.int 0)) (.var 1)))
    (.cons (.seti 0 (.int 0) (.bin .FloorDiv (.ix (.var 0) (.int 0)) (.var 1)))
    (.cons (.ret (.var 3))
    .nil)))
    .nil)
    (.cons (.seti 0 (.int 2) (.bin .Add (.ix (.var 0) (.int 2)) (.int 1)))
    (.cons (.asg 2 (.bin .Mod (.bin .Mult (.bin .Add (.bin .Add (.ix (.var 0) (.int 1)) (.bin .Mult (.bin .Mult (.int 30011) (.ix (.var 0) (.int 2))) (.ix (.var 0) (.int 2)))) (.int 19)) (.int 72019)) (.int 2305843009213693921)))
    (.cons (.asg 2 (.bin .Mod (.bin .Mult (.var 2) (.bin .Add (.bin .Add (.bin .Mod (.var 2) (.int 1000099)) (.bin .Mult (.int 40009) (.ix (.var 0) (.int 2)))) (.int 11))) (.int 2305843009213693951)))
    (.cons (.ret (.bin .Mod (.bin .Add (.bin .FloorDiv (.var 2) (.int 109)) (.bin .FloorDiv (.var 2) (.int 999979))) (.var 1)))
    .nil))))) }
/-- a pot from which at most n numbers were blended -/
def PotI (n : Nat) (d : D) : Prop := ∃ a b c : Int, d = .lst [.int a, .int b, .int c] ∧ In 61 b ∧ 0 ≤ c ∧ c ≤ n
theorem PotI.mono {n m : Nat} {d : D} (h : PotI n d) (l : n ≤ m) : PotI m d := by
  obtain ⟨a, b, c, e, h1, h2, h3⟩ := h
  exact ⟨a, b, c, e, h1, h2, by omega⟩
theorem take_ok (cf : Fn) {n : Nat} {pot : D} {m : Int} (hp : PotI n pot) (hn : n < 2 ^ 60) (h0 : 0 < m) (hm : In 100 m) :
    ∃ r pot', 0 ≤ r ∧ r < m ∧ PotI (n + 1) pot' ∧ runD cf takeC [.io pot, .sh (.int m)] = .ok (.sh (.int r)) [.io pot', .sh (.int m)] := by
  obtain ⟨a, b, c, rfl, hb, c0, c1⟩ := hp
  have f1 := fdOk_of h0 hm
  by_cases ha : 0 < a
  · refine ⟨a % m, .lst [.int (a / m), .int b, .int c], Int.emod_nonneg _ (by omega), Int.emod_lt_of_pos _ h0, ⟨_, _, _, rfl, hb, c0, by omega⟩, ?_⟩
    simp [runD, takeC, sss, ss, sm, sms, Sm.of, Sm.vt, smVar, rdVar, op2, Re.bd, Re.of, Pl.at, slD?, ixD, atI, cmpop, binop, truD, Rs.d, asgV, setRs, setiV, ownL, chg, ixN, ha, h0, f1]
  · have hc : In 61 (c + 1) := .of (by omega) (by have : (2:Nat)^60 = 1152921504606846976 := by decide
                                                  have : (2:Nat)^61 = 2305843009213693952 := by decide
                                                  omega)
    have i1 : In 15 (30011 : Int) := .num (by decide)
    have m1 := mulOk_of i1 hc
    have m2 := mulOk_of (i1.mul hc) hc
    have i2 := (hb.add ((i1.mul hc).mul hc)).add (show In 15 (19 : Int) from .num (by decide))
    have m3 := mulOk_of i2 (show In 20 (72019 : Int) from .num (by decide)) (by decide)
    have m4 := mulOk_of (show In 20 (40009 : Int) from .num (by decide)) hc
    generalize hX : (b + 30011 * (c + 1) * (c + 1) + 19) * 72019 % 2305843009213693921 = x at *
    have hx : In 62 x := by rw [← hX]; exact .mod (by decide) (.num (by decide))
    have i3 := ((show In 21 (x % 1000099) from .mod (by decide) (.num (by decide))).add ((show In 20 (40009 : Int) from .num (by decide)).mul hc)).add (show In 5 (11 : Int) from .num (by decide))
    have m5 := mulOk_of hx i3 (by decide)
    have f2 : fdOk 109 = true := fdOk_of (k := 10) (by decide) (.num (by decide))
    have f3 : fdOk 999979 = true := fdOk_of (k := 20) (by decide) (.num (by decide))
    refine ⟨(x * (x % 1000099 + 40009 * (c + 1) + 11) % 2305843009213693951 / 109 + x * (x % 1000099 + 40009 * (c + 1) + 11) % 2305843009213693951 / 999979) % m, .lst [.int a, .int b, .int (c + 1)], Int.emod_nonneg _ (by omega), Int.emod_lt_of_pos _ h0, ⟨_, _, _, rfl, hb, by omega, by omega⟩, ?_⟩
    simp [runD, takeC, sss, ss, sm, sms, Sm.of, Sm.vt, smVar, rdVar, op2, Re.bd, Re.of, Pl.at, slD?, ixD, atI, cmpop, binop, truD, Rs.d, asgV, setRs, setiV, ownL, chg, ixN, ha, h0, f1, m1, m2, m3, m4, m5, f2, f3, hX]
end Wr

/-! Data: pots, shapes, walks. -/
namespace Wr
open PySem PySem.Spec L2

def potC : CDef := { np := 2, ns := 4, body :=
    (.cons (.asg 2 (.bin .Add (.bin .Mult (.int 19) (.var 1)) (.int 4)))
    (.cons (.ifs (.cmp .Lt (.var 1) (.bi .len (.cons (.var 0) .nil)))
    (.cons (.asg 2 (.ix (.var 0) (.var 1)))
    .nil)
    .nil)
    (.cons (.asg 3 (.bin .Mult (.bin .Mod (.bi .abs (.cons (.var 2) .nil)) (.bin .Pow (.bin .Pow (.int 10) (.int 60)) (.int 5))) (.bi .int1 (.cons (.cmp .GtE (.bi .abs (.cons (.var 2) .nil)) (.bin .Pow (.int 10) (.int 18))) .nil))))
    (.cons (.ret (.lst (.cons (.var 3) (.cons (.bin .Mod (.bin .Add (.bin .Add (.bin .Mult (.bin .Mod (.var 2) (.int 2305843009213693951)) (.int 68777)) (.bin .Mult (.bin .Mult (.int 5003) (.var 1)) (.var 1))) (.int 29)) (.int 2305843009213693907)) (.cons (.int 0) .nil)))))
    .nil)))) }
def absI (i : Int) : Int := if i < 0 then -i else i
def ownN (cell : Int) : Int := absI cell % (10 ^ 60) ^ 5 * (if 10 ^ 18 ≤ absI cell then 1 else 0)
def seedN (k cell : Int) : Int := (cell % 2305843009213693951 * 68777 + 5003 * k * k + 29) % 2305843009213693907
theorem ite_dec {p : Prop} [Decidable p] : (if decide p = true then (1 : Int) else 0) = if p then 1 else 0 := by by_cases h : p <;> simp [h]
theorem pot_in {cell : Int} : mulOk (absI cell % (10 ^ 60) ^ 5) (if 10 ^ 18 ≤ absI cell then 1 else 0) = true := by
  have i1 : In 1000 (absI cell % (10 ^ 60) ^ 5) := .mod (by decide +kernel) (.num (by decide +kernel))
  have i2 : In 1 (if (10 : Int) ^ 18 ≤ absI cell then (1 : Int) else 0) := by by_cases h : (10 : Int) ^ 18 ≤ absI cell <;> simp only [h, if_true, if_false] <;> exact .num (by decide)
  exact mulOk_of i1 i2
theorem b_add {a b : Int} : binop .Add (.int a) (.int b) = some (.sh (.int (a + b))) := rfl
theorem b_sub {a b : Int} : binop .Sub (.int a) (.int b) = some (.sh (.int (a - b))) := rfl
theorem b_mul {a b : Int} (h : mulOk a b = true) : binop .Mult (.int a) (.int b) = some (.sh (.int (a * b))) := if_pos h
theorem b_fdv {a b : Int} (h : fdOk b = true) : binop .FloorDiv (.int a) (.int b) = some (.sh (.int (a / b))) := if_pos h
theorem b_mod {a b : Int} (h : 0 < b) : binop .Mod (.int a) (.int b) = some (.sh (.int (a % b))) := if_pos h
theorem b_pow {a b : Int} (h : powOk a b = true) : binop .Pow (.int a) (.int b) = some (.sh (.int (a ^ b.toNat))) := if_pos h
theorem b_shl {a b : Int} (h : shlOk a b = true) : binop .LShift (.int a) (.int b) = some (.sh (.int (a * 2 ^ b.toNat))) := if_pos h
theorem b_shr {a b : Int} (h : 0 ≤ b) : binop .RShift (.int a) (.int b) = some (.sh (.int (a / 2 ^ b.toNat))) := if_pos h
theorem b_and {a b : Int} : binop .BitAnd (.int a) (.int b) = some (.sh (.int (Builtin.bitAnd a b))) := rfl
theorem b_or {a b : Int} : binop .BitOr (.int a) (.int b) = some (.sh (.int (Builtin.bitOr a b))) := rfl
theorem b_xor {a b : Int} : binop .BitXor (.int a) (.int b) = some (.sh (.int (Builtin.bitXor a b))) := rfl
theorem c_lt {a b : Int} : cmpop .Lt (.int a) (.int b) = some (decide (a < b)) := rfl
theorem c_le {a b : Int} : cmpop .LtE (.int a) (.int b) = some (decide (a ≤ b)) := rfl
theorem c_gt {a b : Int} : cmpop .Gt (.int a) (.int b) = some (decide (b < a)) := rfl
theorem c_ge {a b : Int} : cmpop .GtE (.int a) (.int b) = some (decide (b ≤ a)) := rfl
theorem f_abs {a : Int} : biF .abs [.int a] = some (.sh (.int (absI a))) := rfl
theorem f_int {b : Bool} : biF .int1 [.bl b] = some (.sh (.int (if b then 1 else 0))) := rfl
theorem f_lenL {xs : List D} : biF .len [.lst xs] = some (.sh (.int xs.length)) := rfl
theorem f_lenT {xs : List D} : biF .len [.tup xs] = some (.sh (.int xs.length)) := rfl
theorem x_lst {xs : List D} {k : Nat} {d : D} (h : xs[k]? = some d) : ixD (.lst xs) (.int k) = some d := atI_nat h
theorem pot_ok (cf : Fn) {ns : List Int} {k : Nat} (hk : k ≤ 63) : ∃ pot, PotI 0 pot ∧ runD cf potC [.sh (.lst (ns.map D.int)), .sh (.int k)] = .ok (.fr pot) [.sh (.lst (ns.map D.int)), .sh (.int k)] := by
  have p1 : powOk 10 60 = true := okB_of (by decide)
  have p2 : powOk (10 ^ 60) 5 = true := okB_of (by decide)
  have p3 : powOk 10 18 = true := okB_of (by decide)
  have ik : In 6 (k : Int) := .of (by omega) (by omega)
  have m1 := mulOk_of (show In 5 (19 : Int) from .num (by decide)) ik
  have m2 := mulOk_of (show In 13 (5003 : Int) from .num (by decide)) ik
  have m3 := mulOk_of ((show In 13 (5003 : Int) from .num (by decide)).mul ik) ik
  have n0 : (0 : Int) < (10 ^ 60) ^ 5 := by decide
  have pin := @pot_in
  have m5 : ∀ cell : Int, mulOk (cell % 2305843009213693951) 68777 = true := fun cell => mulOk_of (show In 61 (cell % 2305843009213693951) from .mod (by decide) (.num (by decide))) (show In 20 (68777 : Int) from .num (by decide))
  have n1 : (0 : Int) < 2305843009213693951 := by decide
  have n2 : (0 : Int) < 2305843009213693907 := by decide
  have t60 : Int.toNat 60 = 60 := rfl
  have t5 : Int.toNat 5 = 5 := rfl
  have t18 : Int.toNat 18 = 18 := rfl
  have fin : ∀ cell : Int, PotI 0 (.lst [.int (ownN cell), .int (seedN k cell), .int 0]) := fun cell => ⟨_, _, _, rfl, .mod (by decide) (.num (by decide)), by decide, by decide⟩
  by_cases hl : k < ns.length
  · refine ⟨_, fin ns[k], ?_⟩
    have hx : (ns.map D.int)[k]? = some (.int ns[k]) := by simp [hl]
    have hl' : (k : Int) < ns.length := by omega
    generalize ns[k] = cell at *
    simp only [potC, runD, List.length_cons, List.length_nil, sss, ss, sm, sms, smA, smO, smI, Sm.of, Sm.vt, smVar, rdVar, op1, op2, Re.bd, Re.of, Pl.at, slD?, truD, Rs.d, asgV, setRs, biV, evBs, plAll, evEs, evOp, evA, evTo, evO, evTs, List.cons_append, List.nil_append, List.append_nil, List.replicate, List.getElem?_cons_zero, List.getElem?_cons_succ, List.set_cons_zero, List.set_cons_succ, Option.bind_some, Option.map_some, b_add, b_sub, c_lt, c_le, c_gt, c_ge, f_abs, f_int, f_lenL, f_lenT, decide_true, decide_false, if_true, if_false, Bool.false_eq_true, ite_dec, rngI, rngV, lcV, noOwn, CT.ix, List.all_cons, List.all_nil, Bool.and_true, Sl.own, Bool.not_false, wipeR, backR, bindT, setSh, setShs, asgTV, called, lend, lent, home, List.take_succ_cons, List.take_zero, List.nodup_nil, List.nodup_cons, List.not_mem_nil, not_false_eq_true, and_self, itemsD, seqOf, Option.toList, enuI, Nat.reduceSub, Nat.reduceAdd, Nat.reduceEqDiff, b_mul m1, b_mul m2, b_mul m3, b_mul (m5 _), b_mul pin, b_mod n0, b_mod n1, b_mod n2, b_pow p1, b_pow p2, b_pow p3, x_lst hx, t60, t5, t18, List.length_map, hl', -Int.reducePow]
    rw [if_pos (by decide)]
    rfl
  · refine ⟨_, fin (19 * k + 4), ?_⟩
    have hl' : ¬ (k : Int) < ns.length := by omega
    simp only [potC, runD, List.length_cons, List.length_nil, sss, ss, sm, sms, smA, smO, smI, Sm.of, Sm.vt, smVar, rdVar, op1, op2, Re.bd, Re.of, Pl.at, slD?, truD, Rs.d, asgV, setRs, biV, evBs, plAll, evEs, evOp, evA, evTo, evO, evTs, List.cons_append, List.nil_append, List.append_nil, List.replicate, List.getElem?_cons_zero, List.getElem?_cons_succ, List.set_cons_zero, List.set_cons_succ, Option.bind_some, Option.map_some, b_add, b_sub, c_lt, c_le, c_gt, c_ge, f_abs, f_int, f_lenL, f_lenT, decide_true, decide_false, if_true, if_false, Bool.false_eq_true, ite_dec, rngI, rngV, lcV, noOwn, CT.ix, List.all_cons, List.all_nil, Bool.and_true, Sl.own, Bool.not_false, wipeR, backR, bindT, setSh, setShs, asgTV, called, lend, lent, home, List.take_succ_cons, List.take_zero, List.nodup_nil, List.nodup_cons, List.not_mem_nil, not_false_eq_true, and_self, itemsD, seqOf, Option.toList, enuI, Nat.reduceSub, Nat.reduceAdd, Nat.reduceEqDiff, b_mul m1, b_mul m2, b_mul m3, b_mul (m5 _), b_mul pin, b_mod n0, b_mod n1, b_mod n2, b_pow p1, b_pow p2, b_pow p3, t60, t5, t18, List.length_map, hl', -Int.reducePow]
    rw [if_pos (by decide)]
    rfl
end Wr

/-! Data: shapes, walks. -/
namespace Wr
open PySem PySem.Spec L2

theorem f_min {a b : Int} : biF .min2 [.int a, .int b] = some (.sh (.int (if b < a then b else a))) := rfl
theorem f_max {a b : Int} : biF .max2 [.int a, .int b] = some (.sh (.int (if b > a then b else a))) := rfl
theorem f_tup {xs : List D} : biF .tupleOf [.lst xs] = some (.sh (.tup xs)) := rfl
theorem f_lst {xs : List D} : biF .listOf [.lst xs] = some (.fr (.lst xs)) := rfl
theorem f_lstT {xs : List D} : biF .listOf [.tup xs] = some (.fr (.lst xs)) := rfl
theorem x_tup0 {a : D} {xs : List D} : ixD (.tup (a :: xs)) (.int 0) = some a := by
  show atI (a :: xs) ((0 : Nat) : Int) = _
  exact atI_nat rfl
theorem x_tup1 {a b : D} {xs : List D} : ixD (.tup (a :: b :: xs)) (.int 1) = some b := by
  show atI (a :: b :: xs) ((1 : Nat) : Int) = _
  exact atI_nat rfl
theorem x_tup {xs : List D} {k : Nat} {d : D} (h : xs[k]? = some d) : ixD (.tup xs) (.int k) = some d := atI_nat h

def shapeC : CDef := { np := 2, ns := 3, body :=
    (.cons (.asg 2 (.bin .Add (.int 1) (.call "_law_take" (.io 0 (.ex (.var 1) .nil)))))
    (.cons (.ret (.tup (.cons (.var 2) (.cons (.bin .Add (.int 1) (.call "_law_take" (.io 0 (.ex (.bi .min2 (.cons (.int 4) (.cons (.bin .FloorDiv (.var 1) (.var 2)) .nil))) .nil)))) .nil))))
    .nil)) }
/-- a shape of at most m input bits -/
def ShI (m : Nat) (d : D) : Prop := ∃ w i : Nat, d = .tup [.int w, .int i] ∧ 1 ≤ w ∧ 1 ≤ i ∧ i ≤ 4 ∧ w * i ≤ m
theorem shape_ok (cf cf' : Fn) (hT : ∀ args, cf "_law_take" args = runD cf' takeC args) {n : Nat} {pot : D} {m : Nat} (hp : PotI n pot) (hn : n + 1 < 2 ^ 60) (h0 : 0 < m) (hm : m ≤ 255) :
    ∃ d pot', ShI m d ∧ PotI (n + 2) pot' ∧ runD cf shapeC [.io pot, .sh (.int m)] = .ok (.sh d) [.io pot', .sh (.int m)] := by
  obtain ⟨r, p1, r0, r1, i1, e1⟩ := take_ok cf' (m := m) hp (by omega) (by omega) (.of (by omega) (by omega))
  have s0 : (1 : Int) ≤ (m : Int) / (1 + r) := (Int.le_ediv_iff_mul_le (by omega)).mpr (by omega)
  have f1 : fdOk (1 + r) = true := fdOk_of (k := 10) (by omega) (.of (by omega) (by omega))
  have s1 : (m : Int) / (1 + r) ≤ m := Int.ediv_le_self _ (by omega)
  generalize hq : (m : Int) / (1 + r) = q at *
  have hmin : (0 : Int) < (if q < 4 then q else 4) ∧ (if q < 4 then q else 4) ≤ 4 ∧ (if q < 4 then q else 4) ≤ q := by split <;> omega
  generalize hb : (if q < 4 then q else 4) = b at *
  obtain ⟨t, p2, t0, t1, i2, e2⟩ := take_ok cf' (m := b) i1 (by omega) hmin.1 (.of (by omega) (by omega))
  refine ⟨.tup [.int (1 + r), .int (1 + t)], p2, ⟨(1 + r).toNat, (1 + t).toNat, ?_, by omega, by omega, by omega, ?_⟩, i2, ?_⟩
  · rw [Int.toNat_of_nonneg (by omega), Int.toNat_of_nonneg (by omega)]
  · have h1 : (1 + r) * (1 + t) ≤ (1 + r) * q := Int.mul_le_mul_of_nonneg_left (by omega) (by omega)
    have h2 : (1 + r) * q ≤ m := by rw [← hq]; exact Int.mul_ediv_self_le (by omega)
    have h3 : (((1 + r).toNat * (1 + t).toNat : Nat) : Int) = (1 + r) * (1 + t) := by
      rw [Int.natCast_mul, Int.toNat_of_nonneg (by omega), Int.toNat_of_nonneg (by omega)]
    omega
  · rw [← hT] at e1 e2
    simp only [shapeC, runD, List.length_cons, List.length_nil, sss, ss, sm, sms, smA, smO, smI, Sm.of, Sm.vt, smVar, rdVar, op1, op2, Re.bd, Re.of, Pl.at, slD?, truD, Rs.d, asgV, setRs, biV, evBs, plAll, evEs, evOp, evA, evTo, evO, evTs, List.cons_append, List.nil_append, List.append_nil, List.replicate, List.getElem?_cons_zero, List.getElem?_cons_succ, List.set_cons_zero, List.set_cons_succ, Option.bind_some, Option.map_some, b_add, b_sub, c_lt, c_le, c_gt, c_ge, f_abs, f_int, f_lenL, f_lenT, decide_true, decide_false, if_true, if_false, Bool.false_eq_true, ite_dec, rngI, rngV, lcV, noOwn, CT.ix, List.all_cons, List.all_nil, Bool.and_true, Sl.own, Bool.not_false, wipeR, backR, bindT, setSh, setShs, asgTV, called, lend, lent, home, List.take_succ_cons, List.take_zero, List.nodup_nil, List.nodup_cons, List.not_mem_nil, not_false_eq_true, and_self, itemsD, seqOf, Option.toList, enuI, Nat.reduceSub, Nat.reduceAdd, Nat.reduceEqDiff, e1, e2, f_min, b_fdv f1, hq, hb]
    rw [if_pos (by decide)]
    rfl

/-! ### walks -/
theorem lcRun_map {step : D → Rho → Re (Option D)} {ρ : Rho} (f : D → D) : ∀ {xs : List D}, (∀ x ∈ xs, step x ρ = .ok (some (f x)) ρ) → lcRun step xs ρ = .ok (xs.map f) ρ
  | [], _ => rfl
  | x :: xs, h => by
    have ih := lcRun_map f (xs := xs) fun y hy => h y (List.mem_cons_of_mem _ hy)
    simp only [lcRun, h x List.mem_cons_self, ih]
    rfl
theorem lcRun_filter {step : D → Rho → Re (Option D)} {ρ : Rho} (f : D → Option D) : ∀ {xs : List D}, (∀ x ∈ xs, step x ρ = .ok (f x) ρ) → lcRun step xs ρ = .ok (xs.filterMap f) ρ
  | [], _ => rfl
  | x :: xs, h => by
    have ih := lcRun_filter f (xs := xs) fun y hy => h y (List.mem_cons_of_mem _ hy)
    simp only [lcRun, h x List.mem_cons_self, ih]
    cases q : f x with
    | none => rw [List.filterMap_cons_none q]; rfl
    | some y => rw [List.filterMap_cons_some q]; rfl
theorem forRun_inv {step : D → Rho → Re Out} (I : Nat → Rho → Prop) : ∀ {xs : List D} {ρ : Rho} {n : Nat}, I n ρ → (∀ i x ρ, xs[i]? = some x → I (n + i) ρ → ∃ ρ', step x ρ = .ok .nx ρ' ∧ I (n + i + 1) ρ') → ∃ ρ', forRun step xs ρ = .ok .nx ρ' ∧ I (n + xs.length) ρ'
  | [], ρ, n, h, _ => ⟨ρ, rfl, h⟩
  | x :: xs, ρ, n, h, hs => by
    obtain ⟨ρ1, e1, h1⟩ := hs 0 x ρ rfl h
    obtain ⟨ρ2, e2, h2⟩ := forRun_inv I (xs := xs) (n := n + 1) h1 fun i y ρ' hy hi => by
      have := hs (i + 1) y ρ' (by simpa using hy) (by rw [show n + (i + 1) = n + 1 + i by omega]; exact hi)
      rwa [show n + (i + 1) + 1 = n + 1 + i + 1 by omega] at this
    refine ⟨ρ2, ?_, by rw [List.length_cons, show n + (xs.length + 1) = n + 1 + xs.length by omega]; exact h2⟩
    unfold forRun
    rw [e1]
    exact e2
theorem rngD_nat (n : Nat) : rngD 0 (n : Int) = (List.range n).map fun i => D.int (i : Nat) := by
  unfold rngD
  rw [show ((n : Int) - 0).toNat = n by omega]
  exact List.map_congr_left fun i _ => by rw [Int.zero_add]
theorem rngOk_nat {n : Nat} (h : n ≤ 1000000) : rngOk 0 (n : Int) = true := by
  refine okB_of ⟨by decide, by decide, by omega, by omega, ?_⟩
  have : (2 : Nat) ^ 24 = 16777216 := by decide
  omega
end Wr

/-! Data: what repr shows; words within numbers. -/
namespace Wr
open PySem PySem.Spec L2

mutual
def smD : D → Bool
  | .non => true
  | .bl _ => true
  | .int i => decide (i.natAbs < 10 ^ 12)
  | .tup ds => smDs ds
  | .lst ds => smDs ds
  | _ => false
def smDs : List D → Bool
  | [] => true
  | d :: ds => smD d && smDs ds
end
mutual
/-- depth and weight, from above -/
def dpD : D → Nat
  | .tup ds => dpDs ds + 1
  | .lst ds => dpDs ds + 1
  | _ => 0
def dpDs : List D → Nat
  | [] => 0
  | d :: ds => max (dpD d) (dpDs ds)
end
mutual
def wtD : D → Nat
  | .tup ds => wtDs ds
  | .lst ds => wtDs ds
  | _ => 41
def wtDs : List D → Nat
  | [] => 0
  | d :: ds => wtD d + 1 + wtDs ds
end
theorem int_log {i : Int} (h : i.natAbs < 10 ^ 12) : i.natAbs.log2 < 40 := by
  refine log2_lt ?_ (by decide)
  have : (10 : Nat) ^ 12 = 1000000000000 := by decide
  have : (2 : Nat) ^ 40 = 1099511627776 := by decide
  omega
mutual
theorem sm_py : ∀ (d : D), smD d = true → ∃ p, toPy d = some p ∧ p.showable = true ∧ p.leavesShort 13 = true ∧ p.depth ≤ dpD d ∧ p.weight ≤ wtD d
  | .non, _ => ⟨.none, rfl, rfl, rfl, Nat.le_refl _, Nat.zero_le _⟩
  | .bl b, _ => ⟨.bool b, rfl, rfl, rfl, Nat.le_refl _, Nat.zero_le _⟩
  | .int i, h => by
    have h' : i.natAbs < 10 ^ 12 := of_decide_eq_true h
    have h2 := int_log h'
    refine ⟨.int i, rfl, decide_eq_true (by omega), decide_eq_true (PyData.shown_int_le h'), Nat.le_refl _, ?_⟩
    show (if i == 0 then 0 else i.natAbs.log2 + 1) ≤ 41
    split <;> omega
  | .tup ds, h => by
    obtain ⟨ps, e, h1, h2, h3, h4⟩ := sms_py ds h
    exact ⟨.tuple ps, by rw [toPy, e]; rfl, h1, h2, Nat.succ_le_succ h3, h4⟩
  | .lst ds, h => by
    obtain ⟨ps, e, h1, h2, h3, h4⟩ := sms_py ds h
    exact ⟨.list ps, by rw [toPy, e]; rfl, h1, h2, Nat.succ_le_succ h3, h4⟩
  | .str _, h => by cases h
  | .dct _, h => by cases h
  | .fnc _, h => by cases h
theorem sms_py : ∀ (ds : List D), smDs ds = true → ∃ ps, toPys ds = some ps ∧ PyData.showableAll ps = true ∧ PyData.leavesShortAll 13 ps = true ∧ PyData.depthAll ps ≤ dpDs ds ∧ PyData.weightAll ps ≤ wtDs ds
  | [], _ => ⟨[], rfl, rfl, rfl, Nat.le_refl _, Nat.le_refl _⟩
  | d :: ds, h => by
    obtain ⟨g1, g2⟩ := and3 (show (smD d && smDs ds) = true from h)
    obtain ⟨p, e, h1, h2, h3, h4⟩ := sm_py d g1
    obtain ⟨ps, es, k1, k2, k3, k4⟩ := sms_py ds g2
    refine ⟨p :: ps, by rw [toPys, e, es], ?_, ?_, ?_, ?_⟩
    · show (p.showable && PyData.showableAll ps) = true
      rw [h1, k1]; rfl
    · show (p.leavesShort 13 && PyData.leavesShortAll 13 ps) = true
      rw [h2, k2]; rfl
    · show max p.depth (PyData.depthAll ps) ≤ max (dpD d) (dpDs ds)
      omega
    · show p.weight + 1 + PyData.weightAll ps ≤ wtD d + 1 + wtDs ds
      omega
end
theorem repr_ok {d : D} (h : smD d = true) (h1 : dpD d ≤ 60) (h2 : wtD d ≤ 1000000) : ∃ x, biF .repr [d] = some (.sh (.str x)) := by
  obtain ⟨p, e, g1, g2, g3, g4⟩ := sm_py d h
  refine ⟨p.shown, ?_⟩
  show reprD d = _
  unfold reprD
  rw [e]
  refine if_pos ⟨g1, by omega, ?_⟩
  have := PyData.shown_le 13 (by decide) p g2
  have : sizeL = 16777216 := rfl
  omega
theorem smDs_ints : ∀ {ns : List Int}, (∀ n ∈ ns, n.natAbs < 10 ^ 12) → smDs (ns.map D.int) = true
  | [], _ => rfl
  | n :: ns, h => by
    show (decide (n.natAbs < 10 ^ 12) && smDs (ns.map D.int)) = true
    rw [decide_eq_true (h n List.mem_cons_self), smDs_ints fun m hm => h m (List.mem_cons_of_mem _ hm)]
    rfl
theorem dpDs_ints : ∀ {ns : List Int}, dpDs (ns.map D.int) = 0
  | [] => rfl
  | n :: ns => by
    show max (dpD (.int n)) (dpDs (ns.map D.int)) = 0
    rw [dpDs_ints]
    rfl
theorem wtDs_ints : ∀ {ns : List Int}, wtDs (ns.map D.int) = 42 * ns.length
  | [] => rfl
  | n :: ns => by
    show 41 + 1 + wtDs (ns.map D.int) = _
    rw [wtDs_ints, List.length_cons]
    omega
theorem repr_tup {ns : List Int} (h : ∀ n ∈ ns, n.natAbs < 10 ^ 12) (hl : ns.length ≤ 1000) : ∃ x, biF .repr [.tup (ns.map D.int)] = some (.sh (.str x)) :=
  repr_ok (d := .tup (ns.map D.int)) (smDs_ints h) (by show dpDs (ns.map D.int) + 1 ≤ 60; rw [dpDs_ints]; decide) (by show wtDs (ns.map D.int) ≤ _; rw [wtDs_ints]; omega)
theorem repr_lst {ns : List Int} (h : ∀ n ∈ ns, n.natAbs < 10 ^ 12) (hl : ns.length ≤ 1000) : ∃ x, biF .repr [.lst (ns.map D.int)] = some (.sh (.str x)) :=
  repr_ok (d := .lst (ns.map D.int)) (smDs_ints h) (by show dpDs (ns.map D.int) + 1 ≤ 60; rw [dpDs_ints]; decide) (by show wtDs (ns.map D.int) ≤ _; rw [wtDs_ints]; omega)
theorem repr_int {n : Int} (h : n.natAbs < 10 ^ 12) : ∃ x, biF .repr [.int n] = some (.sh (.str x)) := repr_ok (d := .int n) (decide_eq_true h) (Nat.zero_le _) (show 41 ≤ 1000000 by decide)
theorem c_neS {x : Str} : cmpop .NotEq (.str x) (.str x) = some false := by show some (!decide (x = x)) = _; simp
theorem c_eqS {x : Str} : cmpop .Eq (.str x) (.str x) = some true := by show some (decide (x = x)) = _; simp

/-! ### words within numbers -/
/-- the k-th word of w bits of a number -/
def wd (w x k : Nat) : Nat := x / 2 ^ (w * k) % 2 ^ w
theorem wd_lt {w x k : Nat} : wd w x k < 2 ^ w := Nat.mod_lt _ (Nat.pow_pos (by decide))
/-- the words put together -/
theorem wd_sum (w x : Nat) : ∀ n : Nat, ((List.range n).map fun k => wd w x k * 2 ^ (w * k)).sum = x % 2 ^ (w * n)
  | 0 => by simp [Nat.mod_one]
  | n + 1 => by
    rw [List.range_succ, List.map_append, List.sum_append, wd_sum w x n, List.map_singleton, List.sum_singleton]
    unfold wd
    rw [show w * (n + 1) = w * n + w by rw [Nat.mul_succ], Nat.pow_add, Nat.mod_mul, Nat.mul_comm (2 ^ (w * n))]
end Wr

/-! Data: one row for each form. -/
namespace Wr
open PySem PySem.Spec L2
noncomputable def lcW (cf : Fn) (tg : CT) (it : CI) (ifs : CEs) (e : CE) : Rho → Re Rs := lcV tg (smI cf it) (sms cf ifs) (sm cf e)
noncomputable def lc2W (cf : Fn) (tg : CT) (it : CI) (tg1 : CT) (it1 : CI) (e : CE) : Rho → Re Rs := lc2V tg (smI cf it) tg1 (smI cf it1) (sm cf e)
noncomputable def forW (cf : Fn) (tg : CT) (body : CSs) (xs : List D) (ρ : Rho) : Re Out := forRun (forTurn tg (sss cf body)) xs ρ
theorem e_var {cf : Fn} {i : Nat} : sm cf (.var i) = smVar i := rfl
theorem e_int {cf : Fn} {i : Int} : sm cf (.int i) = .of fun ρ => .ok (.sh (.int i)) ρ := rfl
theorem e_bl {cf : Fn} {b : Bool} : sm cf (.bl b) = .of fun ρ => .ok (.sh (.bl b)) ρ := rfl
theorem e_non {cf : Fn}  : sm cf (.non ) = .of fun ρ => .ok (.sh .non) ρ := rfl
theorem e_str {cf : Fn} {x : Str} : sm cf (.str x) = .of fun ρ => .ok (.sh (.str x)) ρ := rfl
theorem e_fnc {cf : Fn} {x : Str} : sm cf (.fnc x) = .of fun ρ => .ok (.sh (.fnc x)) ρ := rfl
theorem e_bin {cf : Fn} {op : Operator} {a : CE} {b : CE} : sm cf (.bin op a b) = .of (op2 (sm cf a).o (sm cf b).o fun x y ρ => .of (binop op x y) ρ) := rfl
theorem e_neg {cf : Fn} {a : CE} : sm cf (.neg a) = .of (op1 (sm cf a).o fun x ρ => .of (negD x) ρ) := rfl
theorem e_inv {cf : Fn} {a : CE} : sm cf (.inv a) = .of (op1 (sm cf a).o fun x ρ => .of (invD x) ρ) := rfl
theorem e_cmp {cf : Fn} {op : CmpOp} {a : CE} {b : CE} : sm cf (.cmp op a b) = .of (op2 (sm cf a).o (sm cf b).o fun x y ρ => .of ((cmpop op x y).map fun k => .sh (.bl k)) ρ) := rfl
theorem e_chn {cf : Fn} {o : CmpOp} {o' : CmpOp} {a : CE} {b : CE} {c : CE} : sm cf (.chn o o' a b c) = .of (chnV o o' (sm cf a).o (sm cf b).o (sm cf c).o) := rfl
theorem e_bop {cf : Fn} {k : Bool} {es : CEs} : sm cf (.bop k es) = .vt (evO k (sms cf es)) (evTo k (sms cf es)) := rfl
theorem e_nt {cf : Fn} {a : CE} : sm cf (.nt a) = .vt (op1 (sm cf a).o fun x ρ => .of (notD x) ρ) (fun ρ => ((sm cf a).t ρ).bd fun c ρ1 => .ok (!c) ρ1) := rfl
theorem e_ite {cf : Fn} {c : CE} {a : CE} {b : CE} : sm cf (.ite c a b) = .vt (fun ρ => ((sm cf c).t ρ).bd fun t ρ1 => if t = true then (sm cf a).v ρ1 else (sm cf b).v ρ1) (fun _ => .st) := rfl
theorem e_tup {cf : Fn} {es : CEs} : sm cf (.tup es) = .of fun ρ => (evEs (sms cf es) ρ).bd fun ds ρ1 => if ds.length ≤ sizeL then .ok (.sh (.tup ds)) ρ1 else .st := rfl
theorem e_lst {cf : Fn} {es : CEs} : sm cf (.lst es) = .of fun ρ => (evEs (sms cf es) ρ).bd fun ds ρ1 => if ds.length ≤ sizeL then .ok (.fr (.lst ds)) ρ1 else .st := rfl
theorem e_dct {cf : Fn} {ks : List Str} {es : CEs} : sm cf (.dct ks es) = .of fun ρ => (evEs (sms cf es) ρ).bd fun ds ρ1 => .ok (.fr (.dct (dctD ks ds))) ρ1 := rfl
theorem e_gd {cf : Fn} {x : Str} {kvs : List (Str × GV)} : sm cf (.gd x kvs) = .of fun ρ => .ok (.sh (.kdc kvs)) ρ := rfl
theorem e_spl {cf : Fn} {a b : CE} : sm cf (.spl a b) = .of (stV (sm cf a) (sm cf b) splD) := rfl
theorem e_ptn {cf : Fn} {a b : CE} : sm cf (.ptn a b) = .of (stV (sm cf a) (sm cf b) ptnD) := rfl
theorem e_ix {cf : Fn} {a : CE} {i : CE} : sm cf (.ix a i) = .of (op2 (sm cf a).o (sm cf i).o fun x y ρ => .of ((ixD x y).map .sh) ρ) := rfl
theorem e_sl {cf : Fn} {a : CE} {lo : CO} {hi : CO} : sm cf (.sl a lo hi) = .of (slV (sm cf a) (smO cf lo) (smO cf hi)) := rfl
theorem e_bi {cf : Fn} {f : Bi} {es : CEs} : sm cf (.bi f es) = .of (biV f (sms cf es)) := rfl
theorem e_isi {cf : Fn} {t : Ty} {a : CE} : sm cf (.isi t a) = .of (op1 (sm cf a).o fun x ρ => .of ((isiD t x).map fun b => .sh (.bl b)) ρ) := rfl
theorem e_rngL {cf : Fn} {es : CEs} : sm cf (.rngL es) = .of (rngV (fun ds => .fr (.lst ds)) (sms cf es)) := rfl
theorem e_rngT {cf : Fn} {es : CEs} : sm cf (.rngT es) = .of (rngV (fun ds => .sh (.tup ds)) (sms cf es)) := rfl
theorem e_call {cf : Fn} {f : Str} {as : CAs} : sm cf (.call f as) = .of fun ρ => (evA (smA cf as) ρ).bd fun xs ρ1 => called cf f xs ρ1 := rfl
theorem e_call0 {cf : Fn} {f : Str} : sm cf (.call0 f) = .of fun ρ => called cf f [] ρ := rfl
theorem e_callV {cf : Fn} {i : Nat} {fs : List Str} {as : CAs} : sm cf (.callV i fs as) = .of (callVV cf i fs (smA cf as)) := rfl
theorem e_dget {cf : Fn} {a k d : CE} : sm cf (.dget a k d) = .of (dgetV (sm cf a) (sm cf k) (sm cf d)) := rfl
theorem e_lc2 {cf : Fn} {tg tg1 : CT} {it it1 : CI} {e : CE} : sm cf (.lc2 tg it tg1 it1 e) = .of (lc2W cf tg it tg1 it1 e) := rfl
theorem e_lc {cf : Fn} {tg : CT} {it : CI} {ifs : CEs} {e : CE} : sm cf (.lc tg it ifs e) = .of (lcW cf tg it ifs e) := rfl
theorem d_asg {cf : Fn} {i : Nat} {e : CE} : ss cf (.asg i e) = asgV i (sm cf e) := rfl
theorem d_asgT {cf : Fn} {is : List Nat} {e : CE} : ss cf (.asgT is e) = asgTV is (sm cf e) := rfl
theorem d_par {cf : Fn} {is : List Nat} {es : CEs} : ss cf (.par is es) = parV is (sms cf es) := rfl
theorem d_seti {cf : Fn} {i : Nat} {k : CE} {e : CE} : ss cf (.seti i k e) = setiV i (sm cf k) (sm cf e) := rfl
theorem d_app {cf : Fn} {i : Nat} {e : CE} : ss cf (.app i e) = appV i (sm cf e) := rfl
theorem d_ext {cf : Fn} {i : Nat} {e : CE} : ss cf (.ext i e) = extV i (sm cf e) := rfl
theorem d_exp {cf : Fn} {e : CE} : ss cf (.exp e) = fun ρ => ((sm cf e).v ρ).bd fun _ ρ1 => .ok .nx ρ1 := rfl
theorem d_ifs {cf : Fn} {c : CE} {a : CSs} {b : CSs} : ss cf (.ifs c a b) = fun ρ => ((sm cf c).t ρ).bd fun t ρ1 => if t = true then sss cf a ρ1 else sss cf b ρ1 := rfl
theorem d_fors {cf : Fn} {tg : CT} {it : CI} {body : CSs} : ss cf (.fors tg it body) = fun ρ => (smI cf it ρ).bd fun xs ρ1 => forW cf tg body xs ρ1 := rfl
theorem d_ret {cf : Fn} {e : CE} : ss cf (.ret e) = fun ρ => ((sm cf e).r ρ).bd fun r ρ1 => .ok (.rt r) ρ1 := rfl
theorem d_retN {cf : Fn}  : ss cf (.retN ) = fun ρ => .ok (.rt (.sh .non)) ρ := rfl
theorem d_pass {cf : Fn}  : ss cf (.pass ) = fun ρ => .ok .nx ρ := rfl
theorem d_brk {cf : Fn}  : ss cf (.brk ) = fun ρ => .ok .bk ρ := rfl
theorem d_cnt {cf : Fn}  : ss cf (.cnt ) = fun ρ => .ok .ct ρ := rfl
theorem d_nil {cf : Fn} {ρ : Rho} : sss cf .nil ρ = .ok .nx ρ := rfl
theorem d_cons {cf : Fn} {s : CS} {r : CSs} {ρ : Rho} : sss cf (.cons s r) ρ = (ss cf s ρ).bd fun o ρ1 => match o with
    | .nx => sss cf r ρ1
    | o => .ok o ρ1 := rfl

/-- a comprehension over what a range gives -/
theorem lcW_rng {cf : Fn} {j : Nat} {it : CI} {e : CE} {ρ ρ1 ρw ρ' : Rho} {n : Nat} (f : Nat → D) (h1 : smI cf it ρ = .ok (rngD 0 n) ρ1) (h2 : noOwn ρ1 [j] = true) (h3 : wipeR ρ1 [j] = ρw) (turn : ∀ k < n, lcTurn (.nm j) [] (sm cf e) (.int (k : Nat)) ρw = .ok (some (f k)) ρw) (hn : n ≤ 1000000)
    (h4 : backR ρ1 ρw [j] = ρ') : lcW cf (.nm j) it .nil e ρ = .ok (.fr (.lst ((List.range n).map f))) ρ' := by
  have key : ∀ l : List Nat, (∀ k ∈ l, k < n) → lcRun (lcTurn (.nm j) [] (sm cf e)) (l.map fun i => D.int (i : Nat)) ρw = .ok (l.map f) ρw := fun l hl => by
    induction l with
    | nil => rfl
    | cons k l ih =>
      have t := turn k (hl k List.mem_cons_self)
      have ih := ih fun m hm => hl m (List.mem_cons_of_mem _ hm)
      simp only [List.map_cons, lcRun, t, ih]
      rfl
  have k1 := key (List.range n) fun k hk => List.mem_range.mp hk
  unfold lcW lcV
  rw [h1]
  show (if noOwn ρ1 [j] = true then _ else _) = _
  rw [if_pos h2]
  show (match lcRun (lcTurn (.nm j) [] (sm cf e)) (rngD 0 n) (wipeR ρ1 [j]) with
      | .ok ds ρ5 => if ds.length < sizeL then (Re.ok (Rs.fr (D.lst ds)) (backR ρ1 ρ5 [j]) : Re Rs) else Re.st
      | _ => Re.st) = _
  rw [h3, rngD_nat, k1]
  show (if ((List.range n).map f).length < sizeL then Re.ok (Rs.fr (D.lst ((List.range n).map f))) (backR ρ1 ρw [j]) else Re.st) = _
  rw [if_pos (by rw [List.length_map, List.length_range]; show n < 16777216; omega), h4]
/-- .. with a test -/
theorem lcW_rngIf {cf : Fn} {j : Nat} {it : CI} {c e : CE} {ρ ρ1 ρw ρ' : Rho} {n : Nat} (f : Nat → Option D) (h1 : smI cf it ρ = .ok (rngD 0 n) ρ1) (h2 : noOwn ρ1 [j] = true) (h3 : wipeR ρ1 [j] = ρw) (turn : ∀ k < n, lcTurn (.nm j) [sm cf c] (sm cf e) (.int (k : Nat)) ρw = .ok (f k) ρw) (hn : n ≤ 1000000)
    (h4 : backR ρ1 ρw [j] = ρ') : lcW cf (.nm j) it (.cons c .nil) e ρ = .ok (.fr (.lst ((List.range n).filterMap f))) ρ' := by
  have key : ∀ l : List Nat, (∀ k ∈ l, k < n) → lcRun (lcTurn (.nm j) [sm cf c] (sm cf e)) (l.map fun i => D.int (i : Nat)) ρw = .ok (l.filterMap f) ρw := fun l hl => by
    induction l with
    | nil => rfl
    | cons k l ih =>
      have t := turn k (hl k List.mem_cons_self)
      have ih := ih fun m hm => hl m (List.mem_cons_of_mem _ hm)
      simp only [List.map_cons, lcRun, t, ih]
      cases q : f k with
      | none => rw [List.filterMap_cons_none q]; rfl
      | some y => rw [List.filterMap_cons_some q]; rfl
  have k1 := key (List.range n) fun k hk => List.mem_range.mp hk
  unfold lcW lcV
  rw [h1]
  show (if noOwn ρ1 [j] = true then _ else _) = _
  rw [if_pos h2]
  show (match lcRun (lcTurn (.nm j) [sm cf c] (sm cf e)) (rngD 0 n) (wipeR ρ1 [j]) with
      | .ok ds ρ5 => if ds.length < sizeL then (Re.ok (Rs.fr (D.lst ds)) (backR ρ1 ρ5 [j]) : Re Rs) else Re.st
      | _ => Re.st) = _
  rw [h3, rngD_nat, k1]
  show (if ((List.range n).filterMap f).length < sizeL then Re.ok (Rs.fr (D.lst ((List.range n).filterMap f))) (backR ρ1 ρw [j]) else Re.st) = _
  have hlen := List.length_filterMap_le f (List.range n)
  rw [List.length_range] at hlen
  rw [if_pos (by show _ < 16777216; omega), h4]
/-- a comprehension over any items -/
theorem lcW_items {cf : Fn} {tg : CT} {it : CI} {e : CE} {ρ ρ1 ρw ρ' : Rho} {xs : List D} (f : D → D) (h1 : smI cf it ρ = .ok xs ρ1) (h2 : noOwn ρ1 tg.ix = true) (h3 : wipeR ρ1 tg.ix = ρw) (turn : ∀ x ∈ xs, lcTurn tg [] (sm cf e) x ρw = .ok (some (f x)) ρw) (hn : xs.length ≤ 1000000)
    (h4 : backR ρ1 ρw tg.ix = ρ') : lcW cf tg it .nil e ρ = .ok (.fr (.lst (xs.map f))) ρ' := by
  unfold lcW lcV
  rw [h1]
  show (if noOwn ρ1 tg.ix = true then _ else _) = _
  rw [if_pos h2]
  show (match lcRun (lcTurn tg [] (sm cf e)) xs (wipeR ρ1 tg.ix) with
      | .ok ds ρ5 => if ds.length < sizeL then (Re.ok (Rs.fr (D.lst ds)) (backR ρ1 ρ5 tg.ix) : Re Rs) else Re.st
      | _ => Re.st) = _
  rw [h3, lcRun_map f turn]
  show (if (xs.map f).length < sizeL then Re.ok (Rs.fr (D.lst (xs.map f))) (backR ρ1 ρw tg.ix) else Re.st) = _
  rw [if_pos (by rw [List.length_map]; show _ < 16777216; omega), h4]
theorem lcW_itemsIf {cf : Fn} {tg : CT} {it : CI} {c e : CE} {ρ ρ1 ρw ρ' : Rho} {xs : List D} (f : D → Option D) (h1 : smI cf it ρ = .ok xs ρ1) (h2 : noOwn ρ1 tg.ix = true) (h3 : wipeR ρ1 tg.ix = ρw) (turn : ∀ x ∈ xs, lcTurn tg [sm cf c] (sm cf e) x ρw = .ok (f x) ρw) (hn : xs.length ≤ 1000000)
    (h4 : backR ρ1 ρw tg.ix = ρ') : lcW cf tg it (.cons c .nil) e ρ = .ok (.fr (.lst (xs.filterMap f))) ρ' := by
  unfold lcW lcV
  rw [h1]
  show (if noOwn ρ1 tg.ix = true then _ else _) = _
  rw [if_pos h2]
  show (match lcRun (lcTurn tg [sm cf c] (sm cf e)) xs (wipeR ρ1 tg.ix) with
      | .ok ds ρ5 => if ds.length < sizeL then (Re.ok (Rs.fr (D.lst ds)) (backR ρ1 ρ5 tg.ix) : Re Rs) else Re.st
      | _ => Re.st) = _
  rw [h3, lcRun_filter f turn]
  show (if (xs.filterMap f).length < sizeL then Re.ok (Rs.fr (D.lst (xs.filterMap f))) (backR ρ1 ρw tg.ix) else Re.st) = _
  have hlen := List.length_filterMap_le f xs
  rw [if_pos (by show _ < 16777216; omega), h4]
/-- a loop, by what holds at each turn -/
theorem forW_inv {cf : Fn} {tg : CT} {body : CSs} {xs : List D} {ρ : Rho} (I : Nat → Rho → Prop) (h0 : I 0 ρ) (hs : ∀ i x ρ, xs[i]? = some x → I i ρ → ∃ ρ', forTurn tg (sss cf body) x ρ = .ok .nx ρ' ∧ I (i + 1) ρ') :
    ∃ ρ', forW cf tg body xs ρ = .ok .nx ρ' ∧ I xs.length ρ' := by
  obtain ⟨ρ', e, h⟩ := forRun_inv I (n := 0) h0 fun i x ρ hx hi => by
    rw [Nat.zero_add] at hi ⊢
    exact hs i x ρ hx hi
  rw [Nat.zero_add] at h
  exact ⟨ρ', e, h⟩
theorem toNat_nat (n : Nat) : Int.toNat (n : Int) = n := rfl
end Wr

/-! Data: lists of numbers. -/
namespace Wr
open PySem PySem.Spec L2

theorem enuD_range (g : Nat → D) (n : Nat) : enuD ((List.range n).map g) = (List.range n).map fun k => D.tup [.int (k : Nat), g k] := by
  unfold enuD
  refine List.ext_getElem? fun i => ?_
  rw [List.getElem?_map, List.getElem?_zipIdx, List.getElem?_map, List.getElem?_map]
  by_cases h : i < n
  · simp [List.getElem?_range, h]
  · simp [List.getElem?_range, h]
theorem toInts_map {α : Type} (h : α → Int) : ∀ l : List α, toInts (l.map fun k => D.int (h k)) = some (l.map h)
  | [] => rfl
  | a :: l => by
    show (toInts (l.map fun k => D.int (h k))).map (h a :: ·) = _
    rw [toInts_map h l]
    rfl
theorem toBls_map {α : Type} (h : α → Bool) : ∀ l : List α, toBls (l.map fun k => D.bl (h k)) = some (l.map h)
  | [] => rfl
  | a :: l => by
    show (toBls (l.map fun k => D.bl (h k))).map (h a :: ·) = _
    rw [toBls_map h l]
    rfl
theorem sum_cast {α : Type} (h : α → Nat) : ∀ l : List α, (l.map fun k => ((h k : Nat) : Int)).sum = ((l.map h).sum : Nat)
  | [] => rfl
  | a :: l => by
    rw [List.map_cons, List.sum_cons, sum_cast h l, List.map_cons, List.sum_cons]
    omega
theorem f_sum {α : Type} (h : α → Nat) (l : List α) : biF .sum [.lst (l.map fun k => D.int ((h k : Nat) : Int))] = some (.sh (.int (((l.map h).sum : Nat) : Int))) := by
  show (toInts (l.map fun k => D.int ((h k : Nat) : Int))).map (fun ns => Rs.sh (D.int ns.sum)) = _
  rw [toInts_map (fun k => ((h k : Nat) : Int)) l]
  show some (Rs.sh (D.int (l.map fun k => ((h k : Nat) : Int)).sum)) = _
  rw [sum_cast]
theorem k_rng1 {n : Int} {ρ : Rho} (h : rngOk 0 n = true) : rngK [.int n] ρ = .ok (rngD 0 n) ρ := by
  show (if rngOk 0 n = true then _ else _) = _
  rw [if_pos h]
theorem k_rng2 {a n : Int} {ρ : Rho} (h : rngOk a n = true) : rngK [.int a, .int n] ρ = .ok (rngD a n) ρ := by
  show (if rngOk a n = true then _ else _) = _
  rw [if_pos h]
theorem i_rng {cf : Fn} {es : CEs} : smI cf (.rng es) = rngI (sms cf es) := rfl
theorem i_ex {cf : Fn} {e : CE} : smI cf (.ex e) = fun ρ => ((sm cf e).v ρ).bd fun r ρ1 => .of (itemsD r.d) ρ1 := rfl
theorem i_zip {cf : Fn} {a b : CE} : smI cf (.zip a b) = zipI (sm cf a) (sm cf b) := rfl
theorem i_enu {cf : Fn} {e : CE} : smI cf (.enu e) = enuI (sm cf e) := rfl
theorem pw_cast (a b : Nat) : ((a : Int) ^ b) = ((a ^ b : Nat) : Int) := by rw [Int.natCast_pow]
theorem shape_small {w i m : Nat} (h : w * i ≤ m) (hi : 1 ≤ i) : w ≤ m := Nat.le_trans (Nat.le_mul_of_pos_right w hi) h
/-- a slot that may be bound anew as a shared one -/
def fre (s : Sl) : Prop := s = .no ∨ ∃ d, s = .sh d
/-- .. or holds an own object -/
def frw (s : Sl) : Prop := fre s ∨ ∃ d, s = .ow d
theorem one_pow (k : Nat) : (1 : Int) * 2 ^ k = ((2 ^ k : Nat) : Int) := by rw [Int.one_mul, Int.natCast_pow]; rfl
theorem shl_one {k : Nat} (h : k ≤ 1000) : shlOk 1 (k : Int) = true := shlOk_of (show In 1 (1 : Int) from .num (by decide)) (by omega) (by omega)
theorem mul_kw {k w : Nat} (hk : k ≤ 100) (hw : w ≤ 100) : mulOk (k : Int) (w : Int) = true := mulOk_of (show In 7 (k : Int) from .of (by omega) (by omega)) (show In 7 (w : Int) from .of (by omega) (by omega))
theorem c_eqI {a b : Int} : cmpop .Eq (.int a) (.int b) = some (decide (a = b)) := by
  show eqD (.int a) (.int b) = _
  unfold eqD
  show (if SeqAt.shaped (.int a) = true ∧ SeqAt.shaped (.int b) = true then some (PyData.eqv (.int a) (.int b)) else none) = _
  rw [if_pos ⟨rfl, rfl⟩]
  show some (a == b) = _
  congr 1
theorem c_neI {a b : Int} : cmpop .NotEq (.int a) (.int b) = some (!decide (a = b)) := by
  have h := c_eqI (a := a) (b := b)
  show (eqD (.int a) (.int b)).map not = _
  rw [show eqD (.int a) (.int b) = some (decide (a = b)) from h]
  rfl
theorem and_one {x : Int} (h : 0 ≤ x) : Builtin.bitAnd x 1 = x % 2 := by
  have e := Bits.bitAnd_mask 1 h
  exact e
theorem filterMap_if {α β : Type} (c : α → Bool) (g : α → β) : ∀ l : List α, l.filterMap (fun a => if c a = true then some (g a) else none) = (l.filter c).map g
  | [] => rfl
  | a :: l => by
    have ih := filterMap_if c g l
    cases h : c a with
    | true => rw [List.filterMap_cons_some (by rw [h]; rfl), ih, List.filter_cons_of_pos (by rw [h]), List.map_cons]
    | false => rw [List.filterMap_cons_none (by rw [h]; rfl), ih, List.filter_cons_of_neg (by rw [h]; decide)]
theorem sum_le {α : Type} (h : α → Nat) (c : Nat) : ∀ l : List α, (∀ a ∈ l, h a ≤ c) → (l.map h).sum ≤ c * l.length
  | [], _ => Nat.le_refl _
  | a :: l, q => by
    have ih := sum_le h c l fun b hb => q b (List.mem_cons_of_mem _ hb)
    have h1 := q a List.mem_cons_self
    rw [List.map_cons, List.sum_cons, List.length_cons, Nat.mul_succ]
    omega
def natsD (l : List Nat) : List D := l.map fun k => D.int ((k : Nat) : Int)
theorem rngD_nats (n : Nat) : rngD 0 (n : Int) = natsD (List.range n) := rngD_nat n
theorem lcW_nats {cf : Fn} {j : Nat} {it : CI} {e : CE} {ρ ρ1 ρw ρ' : Rho} {l : List Nat} (f : Nat → D) (h1 : smI cf it ρ = .ok (natsD l) ρ1) (h2 : noOwn ρ1 [j] = true) (h3 : wipeR ρ1 [j] = ρw) (turn : ∀ k ∈ l, lcTurn (.nm j) [] (sm cf e) (.int (k : Nat)) ρw = .ok (some (f k)) ρw) (hn : l.length ≤ 1000000)
    (h4 : backR ρ1 ρw [j] = ρ') : lcW cf (.nm j) it .nil e ρ = .ok (.fr (.lst (l.map f))) ρ' := by
  have key : lcRun (lcTurn (.nm j) [] (sm cf e)) (natsD l) ρw = .ok (l.map f) ρw := by
    clear h1 hn
    induction l with
    | nil => rfl
    | cons k l ih =>
      have t := turn k List.mem_cons_self
      have ih := ih fun m hm => turn m (List.mem_cons_of_mem _ hm)
      unfold natsD at ih ⊢
      simp only [List.map_cons, lcRun, t, ih]
      rfl
  unfold lcW lcV
  rw [h1]
  show (if noOwn ρ1 [j] = true then _ else _) = _
  rw [if_pos h2]
  show (match lcRun (lcTurn (.nm j) [] (sm cf e)) (natsD l) (wipeR ρ1 [j]) with
      | .ok ds ρ5 => if ds.length < sizeL then (Re.ok (Rs.fr (D.lst ds)) (backR ρ1 ρ5 [j]) : Re Rs) else Re.st
      | _ => Re.st) = _
  rw [h3, key]
  show (if (l.map f).length < sizeL then Re.ok (Rs.fr (D.lst (l.map f))) (backR ρ1 ρw [j]) else Re.st) = _
  rw [if_pos (by rw [List.length_map]; show l.length < 16777216; omega), h4]
theorem lcW_natsIf {cf : Fn} {j : Nat} {it : CI} {c e : CE} {ρ ρ1 ρw ρ' : Rho} {l : List Nat} (p : Nat → Bool) (f : Nat → D) (h1 : smI cf it ρ = .ok (natsD l) ρ1) (h2 : noOwn ρ1 [j] = true) (h3 : wipeR ρ1 [j] = ρw)
    (turn : ∀ k ∈ l, lcTurn (.nm j) [sm cf c] (sm cf e) (.int (k : Nat)) ρw = .ok (if p k = true then some (f k) else none) ρw) (hn : l.length ≤ 1000000) (h4 : backR ρ1 ρw [j] = ρ') : lcW cf (.nm j) it (.cons c .nil) e ρ = .ok (.fr (.lst ((l.filter p).map f))) ρ' := by
  have key : lcRun (lcTurn (.nm j) [sm cf c] (sm cf e)) (natsD l) ρw = .ok ((l.filter p).map f) ρw := by
    rw [← filterMap_if]
    clear h1 hn
    induction l with
    | nil => rfl
    | cons k l ih =>
      have t := turn k List.mem_cons_self
      have ih := ih fun m hm => turn m (List.mem_cons_of_mem _ hm)
      unfold natsD at ih ⊢
      simp only [List.map_cons, lcRun, t, ih]
      cases q : p k with
      | false => rw [List.filterMap_cons_none (by rw [q]; rfl)]; rfl
      | true => rw [List.filterMap_cons_some (by rw [q]; rfl)]; rfl
  have hlen := List.length_filter_le p l
  unfold lcW lcV
  rw [h1]
  show (if noOwn ρ1 [j] = true then _ else _) = _
  rw [if_pos h2]
  show (match lcRun (lcTurn (.nm j) [sm cf c] (sm cf e)) (natsD l) (wipeR ρ1 [j]) with
      | .ok ds ρ5 => if ds.length < sizeL then (Re.ok (Rs.fr (D.lst ds)) (backR ρ1 ρ5 [j]) : Re Rs) else Re.st
      | _ => Re.st) = _
  rw [h3, key]
  show (if ((l.filter p).map f).length < sizeL then Re.ok (Rs.fr (D.lst ((l.filter p).map f))) (backR ρ1 ρw [j]) else Re.st) = _
  rw [if_pos (by rw [List.length_map]; show _ < 16777216; omega), h4]
end Wr

/-! Data: the laws' outer loops. -/
namespace Wr
open PySem PySem.Spec L2

def topIt : CI := .rng (.cons (.bi .max2 (.cons (.int 1) (.cons (.bi .min2 (.cons (.int 3) (.cons (.bi .len (.cons (.var 0) .nil)) .nil))) .nil))) .nil)
def topBody (body : CSs) : CSs := .cons (.fors (.nm 1) topIt body) (.cons (.ret (.bl true)) .nil)
/-- for k in range(max(1, min(3, len(script)))): .., return True -/
theorem top_loop {cf : Fn} {body : CSs} {ns : List Int} {tl0 : Rho} (J : Rho → Prop) (h0 : J tl0)
    (step : ∀ (k : Nat) (s1 : Sl) (tl : Rho), k ≤ 63 → fre s1 → J tl → ∃ tl', J tl' ∧ Wr.forTurn (.nm 1) (sss cf body) (.int k) (.sh (.lst (ns.map D.int)) :: s1 :: tl) = .ok .nx (.sh (.lst (ns.map D.int)) :: .sh (.int k) :: tl')) :
    ∃ s1 tl, sss cf (topBody body) (.sh (.lst (ns.map D.int)) :: .no :: tl0) = .ok (.rt (.sh (.bl true))) (.sh (.lst (ns.map D.int)) :: s1 :: tl) := by
  obtain ⟨m, hm, em⟩ : ∃ m : Nat, m ≤ 3 ∧ (if (if (ns.length : Int) < 3 then (ns.length : Int) else 3) > 1 then (if (ns.length : Int) < 3 then (ns.length : Int) else 3) else 1) = (m : Int) := by
    refine ⟨((if (if (ns.length : Int) < 3 then (ns.length : Int) else 3) > 1 then (if (ns.length : Int) < 3 then (ns.length : Int) else 3) else 1) : Int).toNat, ?_, ?_⟩
    · split <;> split <;> omega
    · rw [Int.toNat_of_nonneg]
      split <;> split <;> omega
  have r1 := rngOk_nat (n := m) (by omega)
  obtain ⟨ρ', e, s1, tl, g1, g2, rfl⟩ := forW_inv (cf := cf) (tg := .nm 1) (body := body) (xs := rngD 0 (m : Int)) (ρ := .sh (.lst (ns.map D.int)) :: .no :: tl0)
    (fun n ρ => ∃ s1 tl, fre s1 ∧ J tl ∧ ρ = .sh (.lst (ns.map D.int)) :: s1 :: tl) ⟨.no, tl0, .inl rfl, h0, rfl⟩ (fun n y ρ hy ⟨s1, tl, h1, h2, e⟩ => by
      subst e
      rw [rngD_nat] at hy
      obtain ⟨x, hx, rfl⟩ := List.mem_map.mp (List.mem_of_getElem? hy)
      have hx := List.mem_range.mp hx
      obtain ⟨tl', g, e⟩ := step x s1 tl (by omega) h1 h2
      exact ⟨_, e, _, tl', .inr ⟨_, rfl⟩, g, rfl⟩)
  refine ⟨s1, tl, ?_⟩
  simp only [topBody, topIt, d_fors, d_ret, i_rng, runD, List.length_cons, List.length_nil, d_nil, d_cons, e_var, e_int, e_bl, e_non, e_str, e_fnc, e_bin, e_neg, e_inv, e_cmp, e_chn, e_bop, e_nt, e_ite, e_tup, e_lst, e_dct, e_gd, e_spl, e_ptn, e_ix, e_sl, e_bi, e_isi, e_rngL, e_rngT, e_call, e_call0, e_callV, e_dget, e_lc2, e_lc, d_asg, d_asgT, d_par, d_seti, d_app, d_ext, d_exp, d_ifs, d_fors, d_ret, d_retN, d_pass, d_brk, d_cnt, sms, smA, smO, smI, Sm.of, Sm.vt, smVar, rdVar, op1, op2, Re.bd, Re.of, Pl.at, slD?, truD, Rs.d, asgV, setRs, biV, evBs, plAll, evEs, evOp, evA, evTo, evO, evTs, List.cons_append, List.nil_append, List.append_nil, List.replicate, List.getElem?_cons_zero, List.getElem?_cons_succ, List.set_cons_zero, List.set_cons_succ, Option.bind_some, Option.map_some, b_add, b_sub, c_lt, c_le, c_gt, c_ge, f_abs, f_int, f_lenL, f_lenT, decide_true, decide_false, if_true, if_false, Bool.false_eq_true, ite_dec, rngI, rngV, lcV, noOwn, CT.ix, List.all_cons, List.all_nil, Bool.and_true, Sl.own, Bool.not_false, wipeR, backR, bindT, setSh, setShs, asgTV, called, lend, lent, home, List.take_succ_cons, List.take_zero, List.nodup_nil, List.nodup_cons, List.not_mem_nil, not_false_eq_true, and_self, itemsD, seqOf, Option.toList, enuI, Nat.reduceSub, Nat.reduceAdd, Nat.reduceEqDiff, List.length_map, f_min, f_max, em, k_rng1 r1, e]
theorem law_of {cf : Fn} {c : CDef} {body : CSs} {ns : List Int} {tl0 : Rho} (hb : c.body = topBody body) (hn : c.np = 1) (hs : List.replicate (c.ns - c.np) Sl.no = .no :: tl0) (J : Rho → Prop) (h0 : J tl0)
    (step : ∀ (k : Nat) (s1 : Sl) (tl : Rho), k ≤ 63 → fre s1 → J tl → ∃ tl', J tl' ∧ Wr.forTurn (.nm 1) (sss cf body) (.int k) (.sh (.lst (ns.map D.int)) :: s1 :: tl) = .ok .nx (.sh (.lst (ns.map D.int)) :: .sh (.int k) :: tl')) :
    ∃ back, runD cf c [.sh (.lst (ns.map D.int))] = .ok (.sh (.bl true)) back := by
  obtain ⟨s1, tl, e⟩ := top_loop J h0 step
  refine ⟨(.sh (.lst (ns.map D.int)) :: s1 :: tl).take c.np, ?_⟩
  unfold runD
  rw [if_pos (show [Sl.sh (D.lst (ns.map D.int))].length = c.np from hn.symm), hb, hs]
  show (match sss cf (topBody body) (.sh (.lst (ns.map D.int)) :: .no :: tl0) with
    | .ok (.rt r) ρ => CR.ok r (ρ.take c.np)
    | .ok .nx ρ => .ok (.sh .non) (ρ.take c.np)
    | .ex x ρ => .ex x (ρ.take c.np)
    | _ => .st) = _
  rw [e]
/-- for turn in range(T): .., the pot at slot 2 -/
theorem turn_loop {cf : Fn} {body : CSs} {T : Nat} (c : Nat) {a0 a1 s3 : Sl} {pot : D} {tl : Rho} (J : Rho → Prop) (hp : PotI 0 pot) (h3 : fre s3) (hj : J tl)
    (step : ∀ (j n : Nat) (pot : D) (s3 : Sl) (tl : Rho), j < T → n ≤ c * T → PotI n pot → fre s3 → J tl → ∃ pot' tl', PotI (n + c) pot' ∧ J tl' ∧ Wr.forTurn (.nm 3) (sss cf body) (.int j) (a0 :: a1 :: .ow pot :: s3 :: tl) = .ok .nx (a0 :: a1 :: .ow pot' :: .sh (.int j) :: tl')) :
    ∃ pot' s3' tl', fre s3' ∧ J tl' ∧ forW cf (.nm 3) body (rngD 0 (T : Int)) (a0 :: a1 :: .ow pot :: s3 :: tl) = .ok .nx (a0 :: a1 :: .ow pot' :: s3' :: tl') := by
  obtain ⟨ρ', e, pot', s3', tl', _, g3, g4, rfl⟩ := forW_inv (cf := cf) (tg := .nm 3) (body := body) (xs := rngD 0 (T : Int)) (ρ := a0 :: a1 :: .ow pot :: s3 :: tl)
    (fun n ρ => ∃ pot s3 tl, PotI (c * n) pot ∧ fre s3 ∧ J tl ∧ ρ = a0 :: a1 :: .ow pot :: s3 :: tl) ⟨pot, s3, tl, hp, h3, hj, rfl⟩ (fun n y ρ hy ⟨pot, s3, tl, hp, h3, hj, e⟩ => by
      subst e
      rw [rngD_nat] at hy
      have hn : n < T := by
        have := (List.getElem?_eq_some_iff.mp hy).1
        rwa [List.length_map, List.length_range] at this
      obtain ⟨x, hx, rfl⟩ := List.mem_map.mp (List.mem_of_getElem? hy)
      obtain ⟨pot', tl', hp', g, e⟩ := step x (c * n) pot s3 tl (List.mem_range.mp hx) (Nat.mul_le_mul_left c (Nat.le_of_lt hn)) hp h3 hj
      exact ⟨_, e, pot', _, tl', hp'.mono (by rw [Nat.mul_succ]; exact Nat.le_refl _), .inr ⟨_, rfl⟩, g, rfl⟩)
  exact ⟨pot', s3', tl', g3, g4, e⟩
end Wr

/-! Sums modulo 2 over the numbers within a number. -/
namespace Wr

/-- the sum modulo 2 -/
def par : List Bool → Bool
  | [] => false
  | b :: bs => xor b (par bs)
theorem par_append : ∀ a b : List Bool, par (a ++ b) = xor (par a) (par b)
  | [], b => by simp [par]
  | x :: a, b => by
    show xor x (par (a ++ b)) = xor (xor x (par a)) (par b)
    rw [par_append a b, Bool.xor_assoc]
theorem par_false {α : Type} (f : α → Bool) : ∀ l : List α, (∀ a ∈ l, f a = false) → par (l.map f) = false
  | [], _ => rfl
  | a :: l, h => by
    show xor (f a) (par (l.map f)) = false
    rw [h a List.mem_cons_self, par_false f l fun b hb => h b (List.mem_cons_of_mem _ hb)]
    rfl
/-- as many as an odd number -/
theorem par_count {α : Type} (p : α → Bool) : ∀ l : List α, decide ((l.filter p).length % 2 = 1) = par (l.map p)
  | [] => rfl
  | a :: l => by
    have ih := par_count p l
    show _ = xor (p a) (par (l.map p))
    rw [← ih]
    cases h : p a with
    | false =>
      rw [List.filter_cons_of_neg (by rw [h]; decide), Bool.false_xor]
    | true =>
      rw [List.filter_cons_of_pos h, List.length_cons, Bool.true_xor, Bool.eq_iff_iff]
      simp only [decide_eq_true_eq, Bool.not_eq_true', decide_eq_false_iff_not]
      omega
/-- one bit taken along -/
def along (b : Nat) (f : Nat → Bool) (x : Nat) : Bool := if x.testBit b = true then xor (f x) (f (x - 2 ^ b)) else f x
def sums : Nat → (Nat → Bool) → Nat → Bool
  | 0, f => f
  | n + 1, f => along n (sums n f)
theorem bit_sub {x b : Nat} (h : x.testBit b = true) : 2 ^ b ≤ x ∧ (x - 2 ^ b).testBit b = false ∧ ∀ c, c ≠ b → (x - 2 ^ b).testBit c = x.testBit c := by
  have le : 2 ^ b ≤ x := Nat.ge_two_pow_of_testBit h
  have pw : (2 : Nat) ^ (b + 1) = 2 ^ b + 2 ^ b := by rw [Nat.pow_succ]; omega
  have pos : 0 < (2 : Nat) ^ b := Nat.two_pow_pos b
  have ex : 2 ^ (b + 1) * (x / 2 ^ (b + 1)) + x % 2 ^ (b + 1) = x := Nat.div_add_mod x _
  have rlt : x % 2 ^ (b + 1) < 2 ^ (b + 1) := Nat.mod_lt _ (Nat.two_pow_pos _)
  generalize x / 2 ^ (b + 1) = q at ex
  generalize x % 2 ^ (b + 1) = r at ex rlt
  have tb : ∀ j, x.testBit j = if j < b + 1 then r.testBit j else q.testBit (j - (b + 1)) := fun j => by
    rw [← ex]
    exact Nat.testBit_two_pow_mul_add q rlt j
  have hr : r.testBit b = true := by
    have := tb b
    rw [if_pos (Nat.lt_succ_self b), h] at this
    exact this.symm
  have rge : 2 ^ b ≤ r := Nat.ge_two_pow_of_testBit hr
  obtain ⟨t, rfl⟩ : ∃ t, r = 2 ^ b + t := ⟨r - 2 ^ b, by omega⟩
  have tlt : t < 2 ^ b := by omega
  have ey : x - 2 ^ b = 2 ^ (b + 1) * q + t := by omega
  have ty : ∀ j, (x - 2 ^ b).testBit j = if j < b + 1 then t.testBit j else q.testBit (j - (b + 1)) := fun j => by
    rw [ey]
    exact Nat.testBit_two_pow_mul_add q (by omega) j
  refine ⟨le, ?_, fun c hc => ?_⟩
  · rw [ty, if_pos (Nat.lt_succ_self b)]
    exact Nat.testBit_lt_two_pow tlt
  · rw [ty, tb]
    by_cases hlt : c < b + 1
    · rw [if_pos hlt, if_pos hlt]
      exact (Nat.testBit_two_pow_add_gt (by omega) t).symm
    · rw [if_neg hlt, if_neg hlt]
theorem along_self (b : Nat) (f : Nat → Bool) : along b (along b f) = f := by
  funext x
  unfold along
  by_cases h : x.testBit b = true
  · obtain ⟨_, h2, _⟩ := bit_sub h
    rw [if_pos h, if_pos h, h2, if_neg Bool.false_ne_true, Bool.xor_assoc, Bool.xor_self, Bool.xor_false]
  · rw [if_neg h, if_neg h]
theorem along_comm {b c : Nat} (hbc : b ≠ c) (f : Nat → Bool) : along b (along c f) = along c (along b f) := by
  funext x
  unfold along
  by_cases h : x.testBit b = true
  · obtain ⟨l1, _, h3⟩ := bit_sub h
    by_cases k : x.testBit c = true
    · obtain ⟨l2, _, k3⟩ := bit_sub k
      have e1 := h3 c (fun z => hbc z.symm)
      have e2 := k3 b hbc
      have e3 : x - 2 ^ b - 2 ^ c = x - 2 ^ c - 2 ^ b := by omega
      simp only [h, k, e1, e2, if_true, e3]
      cases f x <;> cases f (x - 2 ^ b) <;> cases f (x - 2 ^ c) <;> cases f (x - 2 ^ c - 2 ^ b) <;> rfl
    · have e1 := h3 c (fun z => hbc z.symm)
      have k' : x.testBit c = false := by simpa using k
      simp only [h, k', e1, if_true, Bool.false_eq_true, if_false]
  · have h' : x.testBit b = false := by simpa using h
    by_cases k : x.testBit c = true
    · obtain ⟨l2, _, k3⟩ := bit_sub k
      have e2 := k3 b hbc
      simp only [h', k, e2, if_true, Bool.false_eq_true, if_false]
    · have k' : x.testBit c = false := by simpa using k
      simp only [h', k', Bool.false_eq_true, if_false]
theorem along_sums {b : Nat} : ∀ {n : Nat} (f : Nat → Bool), n ≤ b → along b (sums n f) = sums n (along b f)
  | 0, _, _ => rfl
  | n + 1, f, h => by
    show along b (along n (sums n f)) = along n (sums n (along b f))
    rw [along_comm (by omega), along_sums f (by omega)]
/-- twice is nothing -/
theorem sums_self : ∀ (n : Nat) (f : Nat → Bool), sums n (sums n f) = f
  | 0, _ => rfl
  | n + 1, f => by
    show along n (sums n (along n (sums n f))) = f
    rw [along_sums _ (Nat.le_refl n), along_self]
    exact sums_self n f
theorem and_lo {n y t : Nat} (hy : y < 2 ^ n) (ht : t < 2 ^ n) : y &&& (2 ^ n + t) = y &&& t := by
  refine Nat.eq_of_testBit_eq fun j => ?_
  rw [Nat.testBit_and, Nat.testBit_and]
  by_cases hj : j < n
  · rw [Nat.testBit_two_pow_add_gt hj]
  · have : y.testBit j = false := Nat.testBit_lt_two_pow (Nat.lt_of_lt_of_le hy (Nat.pow_le_pow_right (by decide) (by omega)))
    rw [this, Bool.false_and, Bool.false_and]
theorem and_hi {n y t : Nat} (hy : y < 2 ^ n) (ht : t < 2 ^ n) : (2 ^ n + y) &&& (2 ^ n + t) = 2 ^ n + (y &&& t) := by
  have hyt : y &&& t < 2 ^ n := Nat.lt_of_le_of_lt Nat.and_le_left hy
  have pw : (2 : Nat) ^ (n + 1) = 2 ^ n + 2 ^ n := by rw [Nat.pow_succ]; omega
  refine Nat.eq_of_testBit_eq fun j => ?_
  rw [Nat.testBit_and]
  rcases Nat.lt_trichotomy j n with hj | rfl | hj
  · rw [Nat.testBit_two_pow_add_gt hj, Nat.testBit_two_pow_add_gt hj, Nat.testBit_two_pow_add_gt hj, Nat.testBit_and]
  · rw [Nat.testBit_two_pow_add_eq, Nat.testBit_two_pow_add_eq, Nat.testBit_two_pow_add_eq, Nat.testBit_lt_two_pow hy, Nat.testBit_lt_two_pow ht, Nat.testBit_lt_two_pow hyt]
    rfl
  · have up : (2 : Nat) ^ (n + 1) ≤ 2 ^ j := Nat.pow_le_pow_right (by decide) hj
    rw [Nat.testBit_lt_two_pow (show 2 ^ n + y < 2 ^ j by omega), Nat.testBit_lt_two_pow (show 2 ^ n + (y &&& t) < 2 ^ j by omega), Bool.false_and]
theorem range_two (n : Nat) : List.range (2 ^ (n + 1)) = List.range (2 ^ n) ++ (List.range (2 ^ n)).map fun y => 2 ^ n + y := by
  rw [show (2 : Nat) ^ (n + 1) = 2 ^ n + 2 ^ n by rw [Nat.pow_succ]; omega, List.range_add]
/-- the sum over all numbers within -/
theorem sums_par : ∀ (n : Nat) (f : Nat → Bool) (q t : Nat), t < 2 ^ n → sums n f (2 ^ n * q + t) = par ((List.range (2 ^ n)).map fun y => f (2 ^ n * q + y) && decide (y &&& t = y))
  | 0, f, q, t, ht => by
    have : t = 0 := by omega
    subst this
    show f (2 ^ 0 * q + 0) = par ((List.range 1).map fun y => f (2 ^ 0 * q + y) && decide (y &&& 0 = y))
    rw [show List.range 1 = [0] from rfl, List.map_singleton]
    show _ = xor _ false
    rw [Bool.xor_false, show decide ((0 : Nat) &&& 0 = 0) = true from rfl, Bool.and_true]
  | n + 1, f, q, t, ht => by
    have pw : (2 : Nat) ^ (n + 1) = 2 ^ n + 2 ^ n := by rw [Nat.pow_succ]; omega
    have pos : 0 < (2 : Nat) ^ n := Nat.two_pow_pos n
    have lo : ∀ t, t < 2 ^ n → sums n f (2 ^ (n + 1) * q + t) = par ((List.range (2 ^ n)).map fun y => f (2 ^ (n + 1) * q + y) && decide (y &&& t = y)) := fun t ht => by
      have := sums_par n f (2 * q) t ht
      rw [show 2 ^ n * (2 * q) = 2 ^ (n + 1) * q by rw [Nat.pow_succ, Nat.mul_assoc]] at this
      exact this
    have hi : ∀ t, t < 2 ^ n → sums n f (2 ^ (n + 1) * q + (2 ^ n + t)) = par ((List.range (2 ^ n)).map fun y => f (2 ^ (n + 1) * q + (2 ^ n + y)) && decide (y &&& t = y)) := fun t ht => by
      have := sums_par n f (2 * q + 1) t ht
      rw [show 2 ^ n * (2 * q + 1) = 2 ^ (n + 1) * q + 2 ^ n by rw [Nat.pow_succ, Nat.mul_add, Nat.mul_assoc, Nat.mul_one]] at this
      simp only [Nat.add_assoc] at this
      exact this
    have tb : ∀ s, s < 2 ^ (n + 1) → (2 ^ (n + 1) * q + s).testBit n = s.testBit n := fun s hs => by
      rw [Nat.testBit_two_pow_mul_add q hs, if_pos (Nat.lt_succ_self n)]
    show along n (sums n f) (2 ^ (n + 1) * q + t) = _
    unfold along
    rw [tb t ht, range_two, List.map_append, par_append, List.map_map]
    by_cases h : t < 2 ^ n
    · rw [Nat.testBit_lt_two_pow h, if_neg Bool.false_ne_true, lo t h]
      have z : par ((List.range (2 ^ n)).map ((fun y => f (2 ^ (n + 1) * q + y) && decide (y &&& t = y)) ∘ fun y => 2 ^ n + y)) = false := par_false _ _ fun y hy => by
        have hy := List.mem_range.mp hy
        show (f (2 ^ (n + 1) * q + (2 ^ n + y)) && decide ((2 ^ n + y) &&& t = 2 ^ n + y)) = false
        have : ¬ ((2 ^ n + y) &&& t = 2 ^ n + y) := fun e => by
          have := Nat.and_le_right (n := 2 ^ n + y) (m := t)
          omega
        rw [decide_eq_false this, Bool.and_false]
      rw [z, Bool.xor_false]
    · obtain ⟨u, rfl⟩ : ∃ u, t = 2 ^ n + u := ⟨t - 2 ^ n, by omega⟩
      have hu : u < 2 ^ n := by omega
      have b1 : (2 ^ n + u).testBit n = true := by rw [Nat.testBit_two_pow_add_eq, Nat.testBit_lt_two_pow hu]; rfl
      rw [b1, if_pos rfl, hi u hu, show 2 ^ (n + 1) * q + (2 ^ n + u) - 2 ^ n = 2 ^ (n + 1) * q + u by omega, lo u hu, Bool.xor_comm]
      congr 1
      · congr 1
        refine List.map_congr_left fun y hy => ?_
        rw [and_lo (List.mem_range.mp hy) hu]
      · congr 1
        refine List.map_congr_left fun y hy => ?_
        show _ = (f (2 ^ (n + 1) * q + (2 ^ n + y)) && decide ((2 ^ n + y) &&& (2 ^ n + u) = 2 ^ n + y))
        rw [and_hi (List.mem_range.mp hy) hu]
        congr 1
        exact decide_eq_decide.mpr (by omega)
theorem sums_within (n : Nat) (f : Nat → Bool) {x : Nat} (hx : x < 2 ^ n) : sums n f x = par ((List.range (2 ^ n)).map fun y => f y && decide (y &&& x = y)) := by
  have h := sums_par n f 0 x hx
  simp only [Nat.mul_zero, Nat.zero_add] at h
  exact h
/-- the terms' terms are the function -/
theorem terms_back (n : Nat) (f : Nat → Bool) {x : Nat} (hx : x < 2 ^ n) : par ((List.range (2 ^ n)).map fun y => sums n f y && decide (y &&& x = y)) = f x := by
  rw [← sums_within n (sums n f) hx, sums_self]
end Wr

/-! Data: columns of bits, tables; comprehensions that lend. -/
namespace Wr
open PySem PySem.Spec L2

/-- a row of zeros and ones -/
def bitsD (N : Nat) (f : Nat → Bool) : List D := (List.range N).map fun x => D.int (((f x).toNat : Nat) : Int)
theorem bitsD_len {N : Nat} {f : Nat → Bool} : (bitsD N f).length = N := by unfold bitsD; rw [List.length_map, List.length_range]
theorem bitsD_get {N : Nat} {f : Nat → Bool} {x : Nat} (h : x < N) : (bitsD N f)[x]? = some (.int (((f x).toNat : Nat) : Int)) := by
  unfold bitsD
  rw [List.getElem?_map, List.getElem?_range h]
  rfl
theorem bitsD_congr {N : Nat} {f g : Nat → Bool} (h : ∀ x < N, f x = g x) : bitsD N f = bitsD N g := by
  unfold bitsD
  exact List.map_congr_left fun x hx => by rw [h x (List.mem_range.mp hx)]
theorem bitsD_small {N : Nat} {f : Nat → Bool} : ∃ ns : List Int, bitsD N f = ns.map D.int ∧ ns.length = N ∧ ∀ n ∈ ns, n.natAbs < 10 ^ 12 := by
  refine ⟨(List.range N).map fun x => (((f x).toNat : Nat) : Int), by unfold bitsD; rw [List.map_map]; rfl, by rw [List.length_map, List.length_range], fun n hn => ?_⟩
  obtain ⟨x, _, rfl⟩ := List.mem_map.mp hn
  have : (10 : Nat) ^ 12 = 1000000000000 := by decide
  cases f x <;> simp
theorem bitsD_set {N : Nat} {f : Nat → Bool} {j : Nat} {b : Bool} : (bitsD N f).set j (.int ((b.toNat : Nat) : Int)) = bitsD N fun x => if x = j then b else f x := by
  refine List.ext_getElem? fun i => ?_
  rw [List.getElem?_set, bitsD_len]
  by_cases hi : i < N
  · rw [bitsD_get hi]
    by_cases e : j = i
    · subst e
      rw [if_pos rfl, if_pos hi, bitsD_get hi, if_pos rfl]
    · rw [if_neg e, bitsD_get hi, if_neg (fun z => e z.symm)]
  · have n1 : (bitsD N fun x => if x = j then b else f x)[i]? = none := List.getElem?_eq_none (by rw [bitsD_len]; omega)
    have n2 : (bitsD N f)[i]? = none := List.getElem?_eq_none (by rw [bitsD_len]; omega)
    rw [n1]
    by_cases e : j = i
    · subst e
      rw [if_pos rfl, if_neg hi]
    · rw [if_neg e, n2]
theorem enu_bits {N : Nat} {f : Nat → Bool} : enuD (bitsD N f) = (List.range N).map fun k => D.tup [.int (k : Nat), .int (((f k).toNat : Nat) : Int)] := enuD_range (fun x => D.int (((f x).toNat : Nat) : Int)) N
theorem xor_b {a b : Bool} : Builtin.bitXor ((a.toNat : Nat) : Int) ((b.toNat : Nat) : Int) = (((xor a b).toNat : Nat) : Int) := by cases a <;> cases b <;> decide
theorem add_b {a b : Bool} : (((a.toNat : Nat) : Int) + ((b.toNat : Nat) : Int)) % 2 = (((xor a b).toNat : Nat) : Int) := by cases a <;> cases b <;> decide
theorem one_b {a : Bool} : decide (((a.toNat : Nat) : Int) = 1) = a := by cases a <;> decide
theorem bit_of {x b : Nat} : decide (((x / 2 ^ b % 2 : Nat) : Int) = 1) = x.testBit b := by
  rw [Nat.testBit_eq_decide_div_mod_eq]
  exact decide_eq_decide.mpr (by omega)
/-- the places of a table's words -/
def colB (T : List Nat) (p x : Nat) : Bool := (T.getD x 0).testBit p
theorem nats_range (T : List Nat) (g : Nat → D) : T.map g = (List.range T.length).map fun x => g (T.getD x 0) := by
  refine List.ext_getElem? fun i => ?_
  rw [List.getElem?_map, List.getElem?_map]
  by_cases h : i < T.length
  · rw [List.getElem?_range h]
    simp [h]
  · rw [List.getElem?_eq_none (by omega), List.getElem?_eq_none (by rw [List.length_range]; omega)]
    rfl
theorem col_bits (T : List Nat) (p : Nat) : T.map (fun r => D.int ((r / 2 ^ p % 2 : Nat) : Int)) = bitsD T.length (colB T p) := by
  rw [nats_range]
  unfold bitsD colB
  refine List.map_congr_left fun x _ => ?_
  rw [Nat.testBit_eq_decide_div_mod_eq]
  have : T.getD x 0 / 2 ^ p % 2 < 2 := Nat.mod_lt _ (by decide)
  generalize T.getD x 0 / 2 ^ p % 2 = m at this
  obtain rfl | rfl : m = 0 ∨ m = 1 := by omega
  · rfl
  · rfl
/-- a comprehension whose turns change what is lent -/
theorem lcRun_inv {step : D → Rho → Re (Option D)} (I : Nat → Rho → Prop) (P : D → D → Prop) : ∀ {xs : List D} {ρ : Rho} {n : Nat}, I n ρ → (∀ i x ρ, xs[i]? = some x → I (n + i) ρ → ∃ y ρ', step x ρ = .ok (some y) ρ' ∧ P x y ∧ I (n + i + 1) ρ') →
    ∃ ys ρ', lcRun step xs ρ = .ok ys ρ' ∧ Paired P xs ys ∧ I (n + xs.length) ρ'
  | [], ρ, n, h, _ => ⟨[], ρ, rfl, .nil, h⟩
  | x :: xs, ρ, n, h, hs => by
    obtain ⟨y, ρ1, e1, p1, h1⟩ := hs 0 x ρ rfl h
    obtain ⟨ys, ρ2, e2, p2, h2⟩ := lcRun_inv I P (xs := xs) (n := n + 1) h1 fun i z ρ' hz hi => by
      have := hs (i + 1) z ρ' (by simpa using hz) (by rw [show n + (i + 1) = n + 1 + i by omega]; exact hi)
      rwa [show n + (i + 1) + 1 = n + 1 + i + 1 by omega] at this
    refine ⟨y :: ys, ρ2, ?_, .cons p1 p2, by rw [List.length_cons, show n + (xs.length + 1) = n + 1 + xs.length by omega]; exact h2⟩
    unfold lcRun
    rw [e1]
    show (match lcRun step xs ρ1 with
      | .ok ds ρ2 => (Re.ok ((some y).toList ++ ds) ρ2 : Re (List D))
      | _ => Re.st) = _
    rw [e2]
    rfl
theorem paired_len {α β : Type} {P : α → β → Prop} : ∀ {xs : List α} {ys : List β}, Paired P xs ys → xs.length = ys.length
  | _, _, .nil => rfl
  | _, _, .cons _ h => by rw [List.length_cons, List.length_cons, paired_len h]
theorem lcW_inv {cf : Fn} {tg : CT} {it : CI} {e : CE} {ρ ρ1 : Rho} {xs : List D} (I : Nat → Rho → Prop) (P : D → D → Prop) (h1 : smI cf it ρ = .ok xs ρ1) (h2 : noOwn ρ1 tg.ix = true) (h0 : I 0 (wipeR ρ1 tg.ix))
    (turn : ∀ i x ρ, xs[i]? = some x → I i ρ → ∃ y ρ', lcTurn tg [] (sm cf e) x ρ = .ok (some y) ρ' ∧ P x y ∧ I (i + 1) ρ') (hn : xs.length ≤ 1000000) :
    ∃ ys ρ', lcW cf tg it .nil e ρ = .ok (.fr (.lst ys)) (backR ρ1 ρ' tg.ix) ∧ Paired P xs ys ∧ I xs.length ρ' := by
  obtain ⟨ys, ρ', er, pr, hi⟩ := lcRun_inv I P (n := 0) h0 fun i x ρ hx hi => by
    rw [Nat.zero_add] at hi ⊢
    exact turn i x ρ hx hi
  rw [Nat.zero_add] at hi
  refine ⟨ys, ρ', ?_, pr, hi⟩
  unfold lcW lcV
  rw [h1]
  show (if noOwn ρ1 tg.ix = true then _ else _) = _
  rw [if_pos h2]
  show (match lcRun (lcTurn tg [] (sm cf e)) xs (wipeR ρ1 tg.ix) with
      | .ok ds ρ5 => if ds.length < sizeL then (Re.ok (Rs.fr (D.lst ds)) (backR ρ1 ρ5 tg.ix) : Re Rs) else Re.st
      | _ => Re.st) = _
  rw [er]
  show (if ys.length < sizeL then Re.ok (Rs.fr (D.lst ys)) (backR ρ1 ρ' tg.ix) else Re.st) = _
  rw [if_pos (by rw [← paired_len pr]; show _ < 16777216; omega)]
end Wr

/-! Data: more about rows. -/
namespace Wr
open PySem PySem.Spec L2

theorem ixN_nat {n j : Nat} (h : j < n) : ixN n (j : Int) = some j := by
  unfold ixN
  rw [if_pos (by omega), if_pos (by omega)]
  rfl
theorem par_filter {α : Type} (s p : α → Bool) : ∀ l : List α, par ((l.filter s).map p) = par (l.map fun y => s y && p y)
  | [] => rfl
  | a :: l => by
    have ih := par_filter s p l
    cases h : s a with
    | true =>
      rw [List.filter_cons_of_pos h, List.map_cons, List.map_cons]
      show xor (p a) _ = xor (s a && p a) _
      rw [ih, h, Bool.true_and]
    | false =>
      rw [List.filter_cons_of_neg (by rw [h]; decide), List.map_cons, ih]
      show _ = xor (s a && p a) _
      rw [h, Bool.false_and, Bool.false_xor]
theorem odd_toNat {m : Nat} {b : Bool} (h : decide (m % 2 = 1) = b) : ((m : Nat) : Int) % 2 = ((b.toNat : Nat) : Int) := by
  subst h
  by_cases k : m % 2 = 1
  · simp only [k, decide_true, Bool.toNat_true]; omega
  · simp only [k, decide_false, Bool.toNat_false]; omega
theorem cutD_nats (l : List Nat) (a b : Option Int) : cutD (natsD l) a b = natsD (cutD l a b) := by
  unfold cutD natsD
  rw [List.length_map, ← List.map_drop, ← List.map_take]
theorem cutD_mem {α : Type} {l : List α} {a b : Option Int} {x : α} (h : x ∈ cutD l a b) : x ∈ l := List.mem_of_mem_drop (List.mem_of_mem_take h)
theorem cutD_le {α : Type} {l : List α} {a b : Option Int} : (cutD l a b).length ≤ l.length := by
  unfold cutD
  rw [List.length_take, List.length_drop]
  omega
theorem natsD_len {l : List Nat} : (natsD l).length = l.length := by unfold natsD; rw [List.length_map]
theorem repr_natsT {l : List Nat} (h : ∀ n ∈ l, n < 10 ^ 12) (hl : l.length ≤ 1000) : ∃ x, biF .repr [.tup (natsD l)] = some (.sh (.str x)) := by
  have e : natsD l = (l.map fun k => ((k : Nat) : Int)).map D.int := by unfold natsD; rw [List.map_map]; rfl
  rw [e]
  refine repr_tup (fun n hn => ?_) (by rw [List.length_map]; exact hl)
  obtain ⟨k, hk, rfl⟩ := List.mem_map.mp hn
  have := h k hk
  omega
theorem repr_bitsT {N : Nat} {f : Nat → Bool} (hN : N ≤ 1000) : ∃ x, biF .repr [.tup (bitsD N f)] = some (.sh (.str x)) := by
  obtain ⟨ns, e, hl, h⟩ := bitsD_small (N := N) (f := f)
  rw [e]
  exact repr_tup h (by omega)
theorem paired_nats {w : Nat} : ∀ {xs ys : List D}, Paired (fun _ y => ∃ r : Nat, y = D.int (r : Nat) ∧ r < 2 ^ w) xs ys → ∃ T : List Nat, ys = natsD T ∧ ∀ r ∈ T, r < 2 ^ w
  | _, _, .nil => ⟨[], rfl, fun r hr => absurd hr List.not_mem_nil⟩
  | _, _, .cons ⟨r, e, hr⟩ h => by
    obtain ⟨T, eT, hT⟩ := paired_nats h
    exact ⟨r :: T, by rw [e, eT]; rfl, fun s hs => by
      rcases List.mem_cons.mp hs with rfl | hs
      · exact hr
      · exact hT s hs⟩
theorem paired_all {P : D → Prop} : ∀ {xs ys : List D}, Paired (fun _ y => P y) xs ys → ∀ y ∈ ys, P y
  | _, _, .nil, y, h => absurd h List.not_mem_nil
  | _, _, .cons p h, y, hy => by
    rcases List.mem_cons.mp hy with rfl | hy
    · exact p
    · exact paired_all h y hy
theorem all_true : ∀ {ys : List D}, (∀ y ∈ ys, y = D.bl true) → biF .all [.lst ys] = some (.sh (.bl true))
  | ys, h => by
    have key : ∀ {ys : List D}, (∀ y ∈ ys, y = D.bl true) → ∃ bs, toBls ys = some bs ∧ bs.all id = true := fun {ys} => by
      induction ys with
      | nil => exact fun _ => ⟨[], rfl, rfl⟩
      | cons y ys ih =>
        intro h
        obtain ⟨bs, e, hb⟩ := ih fun z hz => h z (List.mem_cons_of_mem _ hz)
        rw [h y List.mem_cons_self]
        exact ⟨true :: bs, by show (toBls ys).map (true :: ·) = _; rw [e]; rfl, by rw [List.all_cons, hb]; rfl⟩
    obtain ⟨bs, e, hb⟩ := key h
    show (toBls ys).map (fun bs => Rs.sh (D.bl (bs.all id))) = _
    rw [e]
    show some (Rs.sh (D.bl (bs.all id))) = _
    rw [hb]
/-- the pass over one bit, half done -/
def mix (b : Nat) (f : Nat → Bool) (j x : Nat) : Bool := if x < j then along b f x else f x
theorem mix_zero {b : Nat} {f : Nat → Bool} : mix b f 0 = f := by funext x; unfold mix; rw [if_neg (Nat.not_lt_zero x)]
theorem mix_end {b N : Nat} {f : Nat → Bool} : bitsD N (mix b f N) = bitsD N (along b f) := bitsD_congr fun x hx => by unfold mix; rw [if_pos hx]
theorem mix_self {b j : Nat} {f : Nat → Bool} : mix b f j j = f j := by unfold mix; rw [if_neg (Nat.lt_irrefl j)]
theorem mix_low {b j : Nat} {f : Nat → Bool} (h : j.testBit b = true) : mix b f j (j - 2 ^ b) = f (j - 2 ^ b) := by
  obtain ⟨le, h2, _⟩ := bit_sub h
  have := Nat.two_pow_pos b
  unfold mix
  rw [if_pos (by omega)]
  unfold along
  rw [h2, if_neg Bool.false_ne_true]
theorem mix_set {b j : Nat} {f : Nat → Bool} {N : Nat} (h : j.testBit b = true) : (bitsD N (mix b f j)).set j (.int (((xor (f j) (f (j - 2 ^ b))).toNat : Nat) : Int)) = bitsD N (mix b f (j + 1)) := by
  rw [bitsD_set]
  refine bitsD_congr fun x _ => ?_
  unfold mix
  by_cases e : x = j
  · subst e
    rw [if_pos rfl, if_pos (Nat.lt_succ_self x)]
    unfold along
    rw [if_pos h]
  · rw [if_neg e]
    by_cases l : x < j
    · rw [if_pos l, if_pos (by omega)]
    · rw [if_neg l, if_neg (by omega)]
theorem mix_skip {b j : Nat} {f : Nat → Bool} {N : Nat} (h : j.testBit b = false) : bitsD N (mix b f j) = bitsD N (mix b f (j + 1)) := by
  refine bitsD_congr fun x _ => ?_
  unfold mix
  by_cases e : x = j
  · subst e
    rw [if_neg (Nat.lt_irrefl x), if_pos (Nat.lt_succ_self x)]
    unfold along
    rw [h, if_neg Bool.false_ne_true]
  · by_cases l : x < j
    · rw [if_pos l, if_pos (by omega)]
    · rw [if_neg l, if_neg (by omega)]
theorem and_nat {a b : Nat} : Builtin.bitAnd (a : Int) (b : Int) = ((a &&& b : Nat) : Int) := rfl
end Wr

/-! Data: rows for texts, tuples, dicts; lists of numbers compared. -/
namespace Wr
open PySem PySem.Spec L2
theorem ofS_eq {a b : String} : (Str.ofString a = Str.ofString b) = (a = b) := by
  refine propext ⟨fun h => ?_, fun h => by rw [h]⟩
  rw [Str.ofString_eq_toList, Str.ofString_eq_toList] at h
  have h1 : a.toList.map Char.toNat = b.toList.map Char.toNat := by
    have := congrArg (fun s => s.cps.toList) h
    simpa using this
  have h2 : a.toList = b.toList := by
    refine List.map_inj_right (f := Char.toNat) (fun x y e => ?_) |>.mp h1
    exact Char.toNat_inj.mp e
  exact String.toList_inj.mp h2
theorem c_eqSS {a b : Str} : cmpop .Eq (.str a) (.str b) = some (decide (a = b)) := rfl
theorem c_neSS {a b : Str} : cmpop .NotEq (.str a) (.str b) = some (!decide (a = b)) := rfl
theorem c_in {a b : D} : cmpop .In a b = inD a b := by cases a <;> cases b <;> rfl
theorem c_notIn {a b : D} : cmpop .NotIn a b = (inD a b).map not := by cases a <;> cases b <;> rfl
theorem n_tup {d : D} {xs : List D} : inD d (.tup xs) = if flatD d = true ∧ xs.all flatD = true then some (xs.any fun y => eqF y d) else none := by cases d <;> rfl
theorem n_lst {d : D} {xs : List D} : inD d (.lst xs) = if flatD d = true ∧ xs.all flatD = true then some (xs.any fun y => eqF y d) else none := by cases d <;> rfl
theorem n_dct {x : Str} {kvs : List (Key × D)} : inD (.str x) (.dct kvs) = some (dctAt kvs x).isSome := rfl
theorem x_dct {x : Str} {kvs : List (Key × D)} : ixD (.dct kvs) (.str x) = dctAt kvs x := rfl
theorem n_kdc {x : Str} {kvs : List (Str × GV)} : inD (.str x) (.kdc kvs) = some (gvAt kvs x).isSome := rfl
theorem x_kdc {x : Str} {kvs : List (Str × GV)} : ixD (.kdc kvs) (.str x) = (gvAt kvs x).map gvD := rfl
theorem eqF_s {a b : Str} : eqF (.str a) (.str b) = decide (a = b) := rfl
theorem xt0 {a : D} {xs : List D} : ixD (.tup (a :: xs)) (.int 0) = some a := x_tup0
theorem xt1 {a b : D} {xs : List D} : ixD (.tup (a :: b :: xs)) (.int 1) = some b := x_tup1
theorem xt2 {a b c : D} {xs : List D} : ixD (.tup (a :: b :: c :: xs)) (.int 2) = some c := x_tup (k := 2) rfl
theorem xl0 {a : D} {xs : List D} : ixD (.lst (a :: xs)) (.int 0) = some a := x_lst (k := 0) rfl
theorem xl1 {a b : D} {xs : List D} : ixD (.lst (a :: b :: xs)) (.int 1) = some b := x_lst (k := 1) rfl
theorem xl2 {a b c : D} {xs : List D} : ixD (.lst (a :: b :: c :: xs)) (.int 2) = some c := x_lst (k := 2) rfl
/-- lists of numbers, compared -/
theorem pys_ints : ∀ ns : List Int, toPys (ns.map D.int) = some (ns.map PyData.int)
  | [] => rfl
  | n :: r => by simp only [List.map_cons, toPys, toPy, pys_ints r]
theorem lay_ints : ∀ ns : List Int, PyData.canLayAll0 (ns.map PyData.int) = true
  | [] => by simp only [List.map_nil, PyData.canLayAll0]
  | n :: r => by simp only [List.map_cons, PyData.canLayAll0, PyData.canLay0, lay_ints r, Bool.and_self]
theorem dep_ints : ∀ ns : List Int, PyData.depthAll (ns.map PyData.int) = 0
  | [] => by simp only [List.map_nil, PyData.depthAll]
  | n :: r => by simp only [List.map_cons, PyData.depthAll, PyData.depth, dep_ints r, Nat.max_self]
theorem eqv_ints : ∀ ns ms : List Int, PyData.eqvAll (ns.map PyData.int) (ms.map PyData.int) = decide (ns = ms)
  | [], [] => by simp [PyData.eqvAll]
  | [], _ :: _ => by simp [PyData.eqvAll]
  | _ :: _, [] => by simp [PyData.eqvAll]
  | n :: r, m :: s => by
    simp only [List.map_cons, PyData.eqvAll, PyData.eqv, eqv_ints r s, List.cons.injEq]
    by_cases h : n = m <;> simp [h]
theorem eq_tupI (ns ms : List Int) : eqD (.tup (ns.map D.int)) (.tup (ms.map D.int)) = some (decide (ns = ms)) := by
  unfold eqD
  simp only [toPy, pys_ints, Option.map_some, SeqAt.shaped, PyData.canLay0, lay_ints, PyData.depth, dep_ints, Bool.true_and, PyData.eqv, eqv_ints]
  rfl
theorem eq_lstI (ns ms : List Int) : eqD (.lst (ns.map D.int)) (.lst (ms.map D.int)) = some (decide (ns = ms)) := by
  unfold eqD
  simp only [toPy, pys_ints, Option.map_some, SeqAt.shaped, PyData.canLay0, lay_ints, PyData.depth, dep_ints, Bool.true_and, PyData.eqv, eqv_ints]
  rfl
theorem c_neT {ns ms : List Int} : cmpop .NotEq (.tup (ns.map D.int)) (.tup (ms.map D.int)) = some (!decide (ns = ms)) := by
  show (eqD (.tup (ns.map D.int)) (.tup (ms.map D.int))).map not = _
  rw [eq_tupI]; rfl
theorem c_neL {ns ms : List Int} : cmpop .NotEq (.lst (ns.map D.int)) (.lst (ms.map D.int)) = some (!decide (ns = ms)) := by
  show (eqD (.lst (ns.map D.int)) (.lst (ms.map D.int))).map not = _
  rw [eq_lstI]; rfl
end Wr

/-! The cores of defs that several laws share. -/
namespace Wr
open PySem PySem.Spec L2
/-- the table holds that core under that name -/
class Df (Δ : Str → Option CDef) (x : Str) (c : outParam CDef) : Prop where
  ok : Δ x = some c
theorem df {Δ : Str → Option CDef} (x : Str) {c : CDef} [h : Df Δ x c] (n : Nat) (args : List Sl) : fnN Δ (n + 1) x args = runD (fnN Δ n) c args := by
  show (match Δ x with | some c => runD (fnN Δ n) c args | none => _) = _
  rw [h.ok]
end Wr
namespace Wr.Cd
open PySem PySem.Spec L2 Wr
def c_greatest_word : CDef := { np := 1, ns := 1, body :=
    (.cons (.ret (.bin .Sub (.bin .LShift (.int 1) (.ix (.var 0) (.int 0))) (.int 1)))
    .nil) }
def c_words_of : CDef := { np := 2, ns := 5, body :=
    (.cons (.asgT [2, 3] (.var 0))
    (.cons (.ret (.bi .tupleOf (.cons (.lc (.nm 4) (.rng (.cons (.var 3) .nil)) .nil (.bin .BitAnd (.bin .RShift (.var 1) (.bin .Mult (.var 4) (.var 2))) (.call "greatest_word" (.ex (.var 0) .nil)))) .nil)))
    .nil)) }
def c_number_of : CDef := { np := 2, ns := 5, body :=
    (.cons (.asg 2 (.ix (.var 0) (.int 0)))
    (.cons (.ret (.bi .sum (.cons (.lc (.tp [3, 4]) (.enu (.var 1)) .nil (.bin .LShift (.var 4) (.bin .Mult (.var 3) (.var 2)))) .nil)))
    .nil)) }
def c__law_pot : CDef := { np := 2, ns := 4, body :=
    (.cons (.asg 2 (.bin .Add (.bin .Mult (.int 19) (.var 1)) (.int 4)))
    (.cons (.ifs (.cmp .Lt (.var 1) (.bi .len (.cons (.var 0) .nil)))
    (.cons (.asg 2 (.ix (.var 0) (.var 1)))
    .nil)
    .nil)
    (.cons (.asg 3 (.bin .Mult (.bin .Mod (.bi .abs (.cons (.var 2) .nil)) (.bin .Pow (.bin .Pow (.int 10) (.int 60)) (.int 5))) (.bi .int1 (.cons (.cmp .GtE (.bi .abs (.cons (.var 2) .nil)) (.bin .Pow (.int 10) (.int 18))) .nil))))
    (.cons (.ret (.lst (.cons (.var 3) (.cons (.bin .Mod (.bin .Add (.bin .Add (.bin .Mult (.bin .Mod (.var 2) (.int 2305843009213693951)) (.int 68777)) (.bin .Mult (.bin .Mult (.int 5003) (.var 1)) (.var 1))) (.int 29)) (.int 2305843009213693907)) (.cons (.int 0) .nil)))))
    .nil)))) }
def c__law_take : CDef := { np := 2, ns := 4, body :=
    (.cons (.ifs (.cmp .Gt (.ix (.var 0) (.int 0)) (.int 0))
    (.cons (.asg 3 (.bin .Mod (.ix (.var 0) (.int 0)) (.var 1)))
    (.cons (.seti 0 (.int 0) (.bin .FloorDiv (.ix (.var 0) (.int 0)) (.var 1)))
    (.cons (.ret (.var 3))
    .nil)))
    .nil)
    (.cons (.seti 0 (.int 2) (.bin .Add (.ix (.var 0) (.int 2)) (.int 1)))
    (.cons (.asg 2 (.bin .Mod (.bin .Mult (.bin .Add (.bin .Add (.ix (.var 0) (.int 1)) (.bin .Mult (.bin .Mult (.int 30011) (.ix (.var 0) (.int 2))) (.ix (.var 0) (.int 2)))) (.int 19)) (.int 72019)) (.int 2305843009213693921)))
    (.cons (.asg 2 (.bin .Mod (.bin .Mult (.var 2) (.bin .Add (.bin .Add (.bin .Mod (.var 2) (.int 1000099)) (.bin .Mult (.int 40009) (.ix (.var 0) (.int 2)))) (.int 11))) (.int 2305843009213693951)))
    (.cons (.ret (.bin .Mod (.bin .Add (.bin .FloorDiv (.var 2) (.int 109)) (.bin .FloorDiv (.var 2) (.int 999979))) (.var 1)))
    .nil))))) }
def c__law_shape : CDef := { np := 2, ns := 3, body :=
    (.cons (.asg 2 (.bin .Add (.int 1) (.call "_law_take" (.io 0 (.ex (.var 1) .nil)))))
    (.cons (.ret (.tup (.cons (.var 2) (.cons (.bin .Add (.int 1) (.call "_law_take" (.io 0 (.ex (.bi .min2 (.cons (.int 4) (.cons (.bin .FloorDiv (.var 1) (.var 2)) .nil))) .nil)))) .nil))))
    .nil)) }
def c__law_split : CDef := { np := 2, ns := 3, body :=
    (.cons (.ret (.bi .tupleOf (.cons (.lc (.nm 2) (.rng (.cons (.ix (.var 0) (.int 1)) .nil)) .nil (.bin .Mod (.bin .FloorDiv (.var 1) (.bin .LShift (.int 1) (.bin .Mult (.ix (.var 0) (.int 0)) (.var 2)))) (.bin .LShift (.int 1) (.ix (.var 0) (.int 0))))) .nil)))
    .nil) }
def c__law_numbers : CDef := { np := 1, ns := 1, body :=
    (.cons (.ret (.rngL (.cons (.bin .LShift (.int 1) (.bin .Mult (.ix (.var 0) (.int 0)) (.ix (.var 0) (.int 1)))) .nil)))
    .nil) }
def k_KNOWN : List (Str × GV) := [("first", .fn "first_word"), ("reversed", .fn "reversed_word"), ("ones", .fn "ones_of_words"), ("sum", .fn "sum_of_words"), ("product", .fn "product_of_words"), ("greatest", .fn "greatest_of_words"), ("least", .fn "least_of_words"), ("and", .fn "and_of_words"), ("or", .fn "or_of_words"), ("xor", .fn "xor_of_words")]
def c_is_integer : CDef := { np := 1, ns := 1, body :=
    (.cons (.ret (.bop true (.cons (.isi .int (.var 0)) (.cons (.nt (.isi .bl (.var 0))) .nil))))
    .nil) }
def c_is_word : CDef := { np := 2, ns := 2, body :=
    (.cons (.ret (.bop true (.cons (.call "is_integer" (.ex (.var 1) .nil)) (.cons (.chn .LtE .LtE (.int 0) (.var 1) (.call "greatest_word" (.ex (.var 0) .nil))) .nil))))
    .nil) }
def c_input_bits : CDef := { np := 1, ns := 3, body :=
    (.cons (.asgT [1, 2] (.var 0))
    (.cons (.ret (.bin .Mult (.var 1) (.var 2)))
    .nil)) }
def c_table_size : CDef := { np := 1, ns := 1, body :=
    (.cons (.ret (.bin .LShift (.int 1) (.call "input_bits" (.ex (.var 0) .nil))))
    .nil) }
def c_is_table : CDef := { np := 2, ns := 3, body :=
    (.cons (.ifs (.bop false (.cons (.nt (.isi .tup (.var 1))) (.cons (.cmp .NotEq (.bi .len (.cons (.var 1) .nil)) (.call "table_size" (.ex (.var 0) .nil))) .nil)))
    (.cons (.ret (.bl false))
    .nil)
    .nil)
    (.cons (.ret (.bi .all (.cons (.lc (.nm 2) (.ex (.var 1)) .nil (.call "is_word" (.ex (.var 0) (.ex (.var 2) .nil)))) .nil)))
    .nil)) }
def c_first_word : CDef := { np := 2, ns := 2, body :=
    (.cons (.ret (.ix (.var 1) (.int 0)))
    .nil) }
def c_reversed_word : CDef := { np := 2, ns := 4, body :=
    (.cons (.asg 2 (.ix (.var 0) (.int 0)))
    (.cons (.ret (.bi .sum (.cons (.lc (.nm 3) (.rng (.cons (.var 2) .nil)) .nil (.bin .LShift (.bin .BitAnd (.bin .RShift (.ix (.var 1) (.int 0)) (.var 3)) (.int 1)) (.bin .Sub (.bin .Sub (.var 2) (.int 1)) (.var 3)))) .nil)))
    .nil)) }
def c_ones_of_words : CDef := { np := 2, ns := 4, body :=
    (.cons (.ret (.bi .sum (.cons (.lc2 (.nm 2) (.ex (.var 1)) (.nm 3) (.rng (.cons (.ix (.var 0) (.int 0)) .nil)) (.bin .BitAnd (.bin .RShift (.var 2) (.var 3)) (.int 1))) .nil)))
    .nil) }
def c_sum_of_words : CDef := { np := 2, ns := 2, body :=
    (.cons (.ret (.bi .sum (.cons (.var 1) .nil)))
    .nil) }
def c_product_of_words : CDef := { np := 2, ns := 4, body :=
    (.cons (.asg 2 (.int 1))
    (.cons (.fors (.nm 3) (.ex (.var 1))
    (.cons (.asg 2 (.bin .Mult (.var 2) (.var 3)))
    .nil))
    (.cons (.ret (.var 2))
    .nil))) }
def c_greatest_of_words : CDef := { np := 2, ns := 2, body :=
    (.cons (.ret (.bi .maxL (.cons (.var 1) .nil)))
    .nil) }
def c_least_of_words : CDef := { np := 2, ns := 2, body :=
    (.cons (.ret (.bi .minL (.cons (.var 1) .nil)))
    .nil) }
def c_and_of_words : CDef := { np := 2, ns := 4, body :=
    (.cons (.asg 2 (.ix (.var 1) (.int 0)))
    (.cons (.fors (.nm 3) (.ex (.var 1))
    (.cons (.asg 2 (.bin .BitAnd (.var 2) (.var 3)))
    .nil))
    (.cons (.ret (.var 2))
    .nil))) }
def c_or_of_words : CDef := { np := 2, ns := 4, body :=
    (.cons (.asg 2 (.int 0))
    (.cons (.fors (.nm 3) (.ex (.var 1))
    (.cons (.asg 2 (.bin .BitOr (.var 2) (.var 3)))
    .nil))
    (.cons (.ret (.var 2))
    .nil))) }
def c_xor_of_words : CDef := { np := 2, ns := 4, body :=
    (.cons (.asg 2 (.int 0))
    (.cons (.fors (.nm 3) (.ex (.var 1))
    (.cons (.asg 2 (.bin .BitXor (.var 2) (.var 3)))
    .nil))
    (.cons (.ret (.var 2))
    .nil))) }
def c_known_table : CDef := { np := 2, ns := 6, body :=
    (.cons (.ifs (.bop false (.cons (.nt (.isi .str (.var 1))) (.cons (.cmp .NotIn (.var 1) (.gd "KNOWN" k_KNOWN)) .nil)))
    (.cons .nev
    .nil)
    .nil)
    (.cons (.asg 2 (.ix (.gd "KNOWN" k_KNOWN) (.var 1)))
    (.cons (.asg 3 (.lc (.nm 4) (.rng (.cons (.call "table_size" (.ex (.var 0) .nil)) .nil)) .nil (.callV 2 ["and_of_words", "first_word", "greatest_of_words", "least_of_words", "ones_of_words", "or_of_words", "product_of_words", "reversed_word", "sum_of_words", "xor_of_words"] (.ex (.var 0) (.ex (.call "words_of" (.ex (.var 0) (.ex (.var 4) .nil))) .nil)))))
    (.cons (.ret (.bi .tupleOf (.cons (.lc (.nm 5) (.ex (.var 3)) .nil (.bin .BitAnd (.var 5) (.call "greatest_word" (.ex (.var 0) .nil)))) .nil)))
    .nil)))) }
def c__law_joined : CDef := { np := 2, ns := 4, body :=
    (.cons (.asg 2 (.ix (.var 1) (.int 0)))
    (.cons (.fors (.nm 3) (.ex (.sl (.var 1) (.some (.int 1)) .none))
    (.cons (.asg 2 (.ix (.dct ["and", "or", "xor"] (.cons (.bin .BitAnd (.var 2) (.var 3)) (.cons (.bin .BitOr (.var 2) (.var 3)) (.cons (.bin .BitXor (.var 2) (.var 3)) .nil)))) (.var 0)))
    .nil))
    (.cons (.ret (.var 2))
    .nil))) }
def c__law_ones : CDef := { np := 2, ns := 5, body :=
    (.cons (.asg 2 (.int 0))
    (.cons (.fors (.nm 3) (.ex (.var 1))
    (.cons (.asg 2 (.bin .Add (.var 2) (.bi .sum (.cons (.lc (.nm 4) (.rng (.cons (.ix (.var 0) (.int 0)) .nil)) .nil (.bin .Mod (.bin .FloorDiv (.var 3) (.bin .LShift (.int 1) (.var 4))) (.int 2))) .nil))))
    .nil))
    (.cons (.ret (.var 2))
    .nil))) }
def c__law_known : CDef := { np := 3, ns := 8, body :=
    (.cons (.par [5, 6] (.cons (.bin .LShift (.int 1) (.ix (.var 0) (.int 0))) (.cons (.int 1) .nil)))
    (.cons (.fors (.nm 3) (.ex (.var 2))
    (.cons (.asg 6 (.bin .Mult (.var 6) (.var 3)))
    .nil))
    (.cons (.ifs (.cmp .In (.var 1) (.tup (.cons (.str "and") (.cons (.str "or") (.cons (.str "xor") .nil)))))
    (.cons (.ret (.call "_law_joined" (.ex (.var 1) (.ex (.var 2) .nil))))
    .nil)
    .nil)
    (.cons (.ifs (.cmp .Eq (.var 1) (.str "reversed"))
    (.cons (.ret (.bi .sum (.cons (.lc (.nm 7) (.rng (.cons (.ix (.var 0) (.int 0)) .nil)) .nil (.bin .Mult (.bin .Mod (.bin .FloorDiv (.ix (.var 2) (.int 0)) (.bin .LShift (.int 1) (.var 7))) (.int 2)) (.bin .LShift (.int 1) (.bin .Sub (.bin .Sub (.ix (.var 0) (.int 0)) (.int 1)) (.var 7))))) .nil)))
    .nil)
    .nil)
    (.cons (.asg 4 (.dct ["first", "greatest", "least", "sum", "product"] (.cons (.ix (.var 2) (.int 0)) (.cons (.bi .maxL (.cons (.var 2) .nil)) (.cons (.bi .minL (.cons (.var 2) .nil)) (.cons (.bi .sum (.cons (.var 2) .nil)) (.cons (.var 6) .nil)))))))
    (.cons (.ret (.bin .Mod (.dget (.var 4) (.var 1) (.call "_law_ones" (.ex (.var 0) (.ex (.var 2) .nil)))) (.var 5)))
    .nil)))))) }
def c_is_place : CDef := { np := 2, ns := 2, body :=
    (.cons (.ret (.bop true (.cons (.call "is_integer" (.ex (.var 1) .nil)) (.cons (.chn .LtE .Lt (.int 0) (.var 1) (.ix (.var 0) (.int 0))) .nil))))
    .nil) }
def c_result_bit : CDef := { np := 3, ns := 4, body :=
    (.cons (.ifs (.nt (.call "is_place" (.ex (.var 0) (.ex (.var 2) .nil))))
    (.cons .nev
    .nil)
    .nil)
    (.cons (.ret (.bi .tupleOf (.cons (.lc (.nm 3) (.ex (.var 1)) .nil (.bin .BitAnd (.bin .RShift (.var 3) (.var 2)) (.int 1))) .nil)))
    .nil)) }
def c_added_along : CDef := { np := 2, ns := 4, body :=
    (.cons (.ret (.lc (.tp [2, 3]) (.enu (.var 1)) .nil (.ite (.cmp .Eq (.bin .BitAnd (.bin .RShift (.var 2) (.var 0)) (.int 1)) (.int 1)) (.bin .BitXor (.var 3) (.ix (.var 1) (.bin .Sub (.var 2) (.bin .LShift (.int 1) (.var 0))))) (.var 3))))
    .nil) }
def c_sums_within : CDef := { np := 2, ns := 4, body :=
    (.cons (.asg 2 (.bi .listOf (.cons (.var 1) .nil)))
    (.cons (.fors (.nm 3) (.rng (.cons (.call "input_bits" (.ex (.var 0) .nil)) .nil))
    (.cons (.asg 2 (.call "added_along" (.ex (.var 3) (.ex (.var 2) .nil))))
    .nil))
    (.cons (.ret (.var 2))
    .nil))) }
def c_terms : CDef := { np := 3, ns := 6, body :=
    (.cons (.asg 3 (.call "sums_within" (.ex (.var 0) (.ex (.call "result_bit" (.ex (.var 0) (.ex (.var 1) (.ex (.var 2) .nil)))) .nil))))
    (.cons (.ret (.bi .tupleOf (.cons (.lc (.tp [4, 5]) (.enu (.var 3)) (.cons (.cmp .Eq (.var 5) (.int 1)) .nil) (.var 4)) .nil)))
    .nil)) }
def c__law_table : CDef := { np := 2, ns := 3, body :=
    (.cons (.ret (.bi .tupleOf (.cons (.lc (.nm 2) (.ex (.call "_law_numbers" (.ex (.var 1) .nil))) .nil (.call "_law_take" (.io 0 (.ex (.bin .LShift (.int 1) (.ix (.var 1) (.int 0))) .nil)))) .nil)))
    .nil) }
def c__law_bit : CDef := { np := 2, ns := 3, body :=
    (.cons (.ret (.lc (.nm 2) (.ex (.var 0)) .nil (.bin .Mod (.bin .FloorDiv (.var 2) (.bin .LShift (.int 1) (.var 1))) (.int 2))))
    .nil) }
def c__law_sum : CDef := { np := 2, ns := 6, body :=
    (.cons (.asg 2 (.bi .listOf (.cons (.var 1) .nil)))
    (.cons (.fors (.nm 3) (.rng (.cons (.bin .Mult (.ix (.var 0) (.int 0)) (.ix (.var 0) (.int 1))) .nil))
    (.cons (.fors (.nm 4) (.ex (.call "_law_numbers" (.ex (.var 0) .nil)))
    (.cons (.ifs (.cmp .Eq (.bin .Mod (.bin .FloorDiv (.var 4) (.bin .LShift (.int 1) (.var 3))) (.int 2)) (.int 1))
    (.cons (.seti 2 (.var 4) (.bin .Mod (.bin .Add (.ix (.var 2) (.var 4)) (.ix (.var 2) (.bin .Sub (.var 4) (.bin .LShift (.int 1) (.var 3))))) (.int 2)))
    .nil)
    .nil)
    .nil))
    .nil))
    (.cons (.ret (.lc (.nm 5) (.ex (.call "_law_numbers" (.ex (.var 0) .nil))) (.cons (.cmp .Eq (.ix (.var 2) (.var 5)) (.int 1)) .nil) (.var 5)))
    .nil))) }
def c__law_right : CDef := { np := 2, ns := 7, body :=
    (.cons (.fors (.nm 2) (.rng (.cons (.ix (.var 0) (.int 0)) .nil))
    (.cons (.asg 3 (.call "_law_bit" (.ex (.var 1) (.ex (.var 2) .nil))))
    (.cons (.asg 4 (.call "terms" (.ex (.var 0) (.ex (.var 1) (.ex (.var 2) .nil)))))
    (.cons (.ifs (.cmp .NotEq (.bi .repr (.cons (.call "result_bit" (.ex (.var 0) (.ex (.var 1) (.ex (.var 2) .nil)))) .nil)) (.bi .repr (.cons (.bi .tupleOf (.cons (.var 3) .nil)) .nil)))
    (.cons (.ret (.bl false))
    .nil)
    .nil)
    (.cons (.ifs (.cmp .NotEq (.bi .repr (.cons (.var 4) .nil)) (.bi .repr (.cons (.bi .tupleOf (.cons (.call "_law_sum" (.ex (.var 0) (.ex (.var 3) .nil))) .nil)) .nil)))
    (.cons (.ret (.bl false))
    .nil)
    .nil)
    (.cons (.fors (.nm 5) (.ex (.sl (.call "_law_numbers" (.ex (.var 0) .nil)) .none (.some (.int 64))))
    (.cons (.ifs (.cmp .NotEq (.bin .Mod (.bi .len (.cons (.lc (.nm 6) (.ex (.var 4)) (.cons (.cmp .Eq (.bin .BitAnd (.var 6) (.var 5)) (.var 6)) .nil) (.var 6)) .nil)) (.int 2)) (.ix (.var 3) (.var 5)))
    (.cons (.ret (.bl false))
    .nil)
    .nil)
    .nil))
    .nil))))))
    (.cons (.ret (.bl true))
    .nil)) }
def c_bits_of : CDef := { np := 2, ns := 3, body :=
    (.cons (.ret (.lc (.nm 2) (.rng (.cons (.call "input_bits" (.ex (.var 0) .nil)) .nil)) (.cons (.cmp .Eq (.bin .BitAnd (.bin .RShift (.var 1) (.var 2)) (.int 1)) (.int 1)) .nil) (.var 2)))
    .nil) }
def c_places_of : CDef := { np := 2, ns := 4, body :=
    (.cons (.asg 2 (.ix (.var 0) (.int 0)))
    (.cons (.ret (.lc (.nm 3) (.ex (.call "bits_of" (.ex (.var 0) (.ex (.var 1) .nil)))) .nil (.bin .Mod (.var 3) (.var 2))))
    .nil)) }
def c_weight : CDef := { np := 2, ns := 3, body :=
    (.cons (.ret (.bi .sum (.cons (.lc (.nm 2) (.ex (.call "places_of" (.ex (.var 0) (.ex (.var 1) .nil)))) .nil (.bin .LShift (.int 1) (.var 2))) .nil)))
    .nil) }
def c_light_weight : CDef := { np := 2, ns := 3, body :=
    (.cons (.ret (.bi .sum (.cons (.lc (.nm 2) (.ex (.call "places_of" (.ex (.var 0) (.ex (.var 1) .nil)))) (.cons (.cmp .Gt (.var 2) (.int 0)) .nil) (.bin .LShift (.int 1) (.var 2))) .nil)))
    .nil) }
def c__law_places : CDef := { np := 2, ns := 3, body :=
    (.cons (.ret (.lc (.nm 2) (.rng (.cons (.bin .Mult (.ix (.var 0) (.int 0)) (.ix (.var 0) (.int 1))) .nil)) (.cons (.cmp .Eq (.bin .Mod (.bin .FloorDiv (.var 1) (.bin .LShift (.int 1) (.var 2))) (.int 2)) (.int 1)) .nil) (.bin .Mod (.var 2) (.ix (.var 0) (.int 0)))))
    .nil) }
def c_depends_on : CDef := { np := 2, ns := 4, body :=
    (.cons (.ret (.bi .any (.cons (.lc (.tp [2, 3]) (.enu (.var 0)) .nil (.cmp .NotEq (.var 3) (.ix (.var 0) (.bin .BitXor (.var 2) (.bin .LShift (.int 1) (.var 1)))))) .nil)))
    .nil) }
def c_counting_bits : CDef := { np := 3, ns := 5, body :=
    (.cons (.asg 3 (.call "result_bit" (.ex (.var 0) (.ex (.var 1) (.ex (.var 2) .nil)))))
    (.cons (.ret (.bi .sum (.cons (.lc (.nm 4) (.rng (.cons (.call "input_bits" (.ex (.var 0) .nil)) .nil)) (.cons (.call "depends_on" (.ex (.var 3) (.ex (.var 4) .nil))) .nil) (.bin .LShift (.int 1) (.var 4))) .nil)))
    .nil)) }
def c__law_of : CDef := { np := 2, ns := 2, body :=
    (.cons (.ret (.ix (.var 1) (.call "_law_take" (.io 0 (.ex (.bi .len (.cons (.var 1) .nil)) .nil)))))
    .nil) }
def c__law_ignoring : CDef := { np := 2, ns := 5, body :=
    (.cons (.asgT [2, 3] (.tup (.cons (.call "_law_table" (.io 0 (.ex (.var 1) .nil))) (.cons (.call "_law_take" (.io 0 (.ex (.bin .LShift (.int 1) (.bin .Mult (.ix (.var 1) (.int 0)) (.ix (.var 1) (.int 1)))) .nil))) .nil))))
    (.cons (.ret (.bi .tupleOf (.cons (.lc (.nm 4) (.ex (.call "_law_numbers" (.ex (.var 1) .nil))) .nil (.ix (.var 2) (.bin .BitAnd (.var 4) (.var 3)))) .nil)))
    .nil)) }
def k_SETS : List (Str × GV) := [("any", .tx ["and", "const", "mask", "not", "or", "xor"]), ("any up", .tx ["add", "and", "const", "mask", "mul", "not", "or", "sub", "up", "xor"]), ("any down", .tx ["and", "const", "down", "mask", "not", "or", "xor"]), ("any both", .tx ["add", "and", "const", "down", "mask", "mul", "not", "or", "sub", "up", "xor"]), ("monotone", .tx ["and", "const", "mask", "or"]), ("monotone up", .tx ["and", "const", "mask", "or", "up"]), ("monotone down", .tx ["and", "const", "down", "mask", "or"]), ("monotone both", .tx ["and", "const", "down", "mask", "or", "up"]), ("affine", .tx ["const", "mask", "not", "xor"]), ("affine up", .tx ["const", "mask", "not", "up", "xor"]), ("affine down", .tx ["const", "down", "mask", "not", "xor"]), ("affine both", .tx ["const", "down", "mask", "not", "up", "xor"]), ("adding", .tx ["add", "const", "mask", "not", "sub", "up", "xor"]), ("multiplying", .tx ["add", "const", "mask", "mul", "not", "sub", "up", "xor"])]
def c_check_name : CDef := { np := 1, ns := 1, body :=
    (.cons (.ifs (.bop false (.cons (.nt (.isi .str (.var 0))) (.cons (.cmp .NotIn (.var 0) (.gd "SETS" k_SETS)) .nil)))
    (.cons .nev
    .nil)
    .nil)
    .nil) }
def c_instructions_of : CDef := { np := 1, ns := 1, body :=
    (.cons (.exp (.call "check_name" (.ex (.var 0) .nil)))
    (.cons (.ret (.ix (.gd "SETS" k_SETS) (.var 0)))
    .nil)) }
def c_family_of : CDef := { np := 1, ns := 1, body :=
    (.cons (.ret (.ix (.ptn (.var 0) (.str " ")) (.int 0)))
    .nil) }
def c_leads_to : CDef := { np := 3, ns := 4, body :=
    (.cons (.asg 3 (.call "instructions_of" (.ex (.var 0) .nil)))
    (.cons (.ifs (.cmp .Lt (.var 1) (.var 2))
    (.cons (.ret (.cmp .In (.str "up") (.var 3)))
    .nil)
    .nil)
    (.cons (.ifs (.cmp .Gt (.var 1) (.var 2))
    (.cons (.ret (.cmp .In (.str "down") (.var 3)))
    .nil)
    .nil)
    (.cons (.ret (.bl true))
    .nil)))) }
def c_may_count : CDef := { np := 3, ns := 5, body :=
    (.cons (.asg 3 (.ix (.var 1) (.int 0)))
    (.cons (.ret (.bi .sum (.cons (.lc (.nm 4) (.rng (.cons (.call "input_bits" (.ex (.var 1) .nil)) .nil)) (.cons (.call "leads_to" (.ex (.var 0) (.ex (.bin .Mod (.var 4) (.var 3)) (.ex (.var 2) .nil)))) .nil) (.bin .LShift (.int 1) (.var 4))) .nil)))
    .nil)) }
def c_stray_bits : CDef := { np := 4, ns := 4, body :=
    (.cons (.ret (.bin .BitAnd (.call "counting_bits" (.ex (.var 1) (.ex (.var 2) (.ex (.var 3) .nil)))) (.inv (.call "may_count" (.ex (.var 0) (.ex (.var 1) (.ex (.var 3) .nil)))))))
    .nil) }
def c_first_fall : CDef := { np := 2, ns := 6, body :=
    (.cons (.fors (.tp [2, 3]) (.enu (.var 1))
    (.cons (.fors (.nm 4) (.rng (.cons (.call "input_bits" (.ex (.var 0) .nil)) .nil))
    (.cons (.asg 5 (.bin .BitOr (.var 2) (.bin .LShift (.int 1) (.var 4))))
    (.cons (.ifs (.bop true (.cons (.cmp .Eq (.var 3) (.int 1)) (.cons (.cmp .Eq (.ix (.var 1) (.var 5)) (.int 0)) .nil)))
    (.cons (.ret (.tup (.cons (.var 2) (.cons (.var 5) .nil))))
    .nil)
    .nil)
    .nil)))
    .nil))
    (.cons (.ret .non)
    .nil)) }
def c_term_fits : CDef := { np := 4, ns := 5, body :=
    (.cons (.asg 4 (.call "family_of" (.ex (.var 0) .nil)))
    (.cons (.ifs (.cmp .Eq (.var 4) (.str "affine"))
    (.cons (.ret (.cmp .Eq (.bin .BitAnd (.var 3) (.bin .Sub (.var 3) (.int 1))) (.int 0)))
    .nil)
    .nil)
    (.cons (.ifs (.cmp .Eq (.var 4) (.str "adding"))
    (.cons (.ret (.cmp .LtE (.call "weight" (.ex (.var 1) (.ex (.var 3) .nil))) (.bin .LShift (.int 1) (.var 2))))
    .nil)
    .nil)
    (.cons (.ifs (.cmp .Eq (.var 4) (.str "multiplying"))
    (.cons (.ret (.cmp .LtE (.call "light_weight" (.ex (.var 1) (.ex (.var 3) .nil))) (.bin .LShift (.int 1) (.var 2))))
    .nil)
    .nil)
    (.cons (.ret (.bl true))
    .nil))))) }
def c_first_misfit : CDef := { np := 4, ns := 5, body :=
    (.cons (.fors (.nm 4) (.ex (.call "terms" (.ex (.var 1) (.ex (.var 2) (.ex (.var 3) .nil)))))
    (.cons (.ifs (.nt (.call "term_fits" (.ex (.var 0) (.ex (.var 1) (.ex (.var 3) (.ex (.var 4) .nil))))))
    (.cons (.ret (.var 4))
    .nil)
    .nil)
    .nil))
    (.cons (.ret .non)
    .nil)) }
def c_bit_fits : CDef := { np := 4, ns := 5, body :=
    (.cons (.exp (.call "check_name" (.ex (.var 0) .nil)))
    (.cons (.asg 4 (.call "result_bit" (.ex (.var 1) (.ex (.var 2) (.ex (.var 3) .nil)))))
    (.cons (.ifs (.cmp .NotEq (.call "stray_bits" (.ex (.var 0) (.ex (.var 1) (.ex (.var 2) (.ex (.var 3) .nil))))) (.int 0))
    (.cons (.ret (.bl false))
    .nil)
    .nil)
    (.cons (.ifs (.cmp .Eq (.call "family_of" (.ex (.var 0) .nil)) (.str "monotone"))
    (.cons (.ret (.cmp .Is (.call "first_fall" (.ex (.var 1) (.ex (.var 4) .nil))) .non))
    .nil)
    .nil)
    (.cons (.ret (.cmp .Is (.call "first_misfit" (.ex (.var 0) (.ex (.var 1) (.ex (.var 2) (.ex (.var 3) .nil))))) .non))
    .nil))))) }
def c__law_bases : CDef := { np := 0, ns := 2, body :=
    (.cons (.asg 0 (.lst .nil))
    (.cons (.fors (.nm 1) (.ex (.tup (.cons (.str "affine") (.cons (.str "any") (.cons (.str "monotone") .nil)))))
    (.cons (.ext 0 (.lst (.cons (.var 1) (.cons (.bin .Add (.var 1) (.str " both")) (.cons (.bin .Add (.var 1) (.str " down")) (.cons (.bin .Add (.var 1) (.str " up")) .nil))))))
    .nil))
    (.cons (.ret (.bi .sorted (.cons (.bin .Add (.var 0) (.lst (.cons (.str "adding") (.cons (.str "multiplying") .nil)))) .nil)))
    .nil))) }
def c__law_term_fits : CDef := { np := 4, ns := 8, body :=
    (.cons (.par [4, 5] (.cons (.call "_law_places" (.ex (.var 0) (.ex (.var 2) .nil))) (.cons (.bin .Add (.spl (.var 1) (.str " ")) (.lst (.cons (.str "") .nil))) .nil)))
    (.cons (.ifs (.cmp .Eq (.ix (.var 5) (.int 0)) (.str "adding"))
    (.cons (.ret (.cmp .LtE (.bi .sum (.cons (.lc (.nm 7) (.ex (.var 4)) .nil (.bin .LShift (.int 1) (.var 7))) .nil)) (.bin .LShift (.int 1) (.var 3))))
    .nil)
    .nil)
    (.cons (.ifs (.cmp .Eq (.ix (.var 5) (.int 0)) (.str "multiplying"))
    (.cons (.asg 6 (.bi .sum (.cons (.lc (.nm 7) (.ex (.var 4)) (.cons (.cmp .Gt (.var 7) (.int 0)) .nil) (.bin .LShift (.int 1) (.var 7))) .nil)))
    (.cons (.ret (.ite (.cmp .Gt (.var 3) (.int 0)) (.cmp .LtE (.var 6) (.bin .LShift (.int 1) (.var 3))) (.cmp .Eq (.var 6) (.int 0))))
    .nil))
    .nil)
    (.cons (.ifs (.bop true (.cons (.cmp .In (.ix (.var 5) (.int 1)) (.tup (.cons (.str "") (.cons (.str "down") .nil)))) (.cons (.bi .any (.cons (.lc (.nm 7) (.ex (.var 4)) .nil (.cmp .Lt (.var 7) (.var 3))) .nil)) .nil)))
    (.cons (.ret (.bl false))
    .nil)
    .nil)
    (.cons (.ifs (.bop true (.cons (.cmp .In (.ix (.var 5) (.int 1)) (.tup (.cons (.str "") (.cons (.str "up") .nil)))) (.cons (.bi .any (.cons (.lc (.nm 7) (.ex (.var 4)) .nil (.cmp .Gt (.var 7) (.var 3))) .nil)) .nil)))
    (.cons (.ret (.bl false))
    .nil)
    .nil)
    (.cons (.ret (.bop false (.cons (.cmp .NotEq (.ix (.var 5) (.int 0)) (.str "affine")) (.cons (.cmp .Lt (.bi .len (.cons (.var 4) .nil)) (.int 2)) .nil))))
    .nil)))))) }
def c__law_fits : CDef := { np := 4, ns := 8, body :=
    (.cons (.asg 4 (.call "_law_bit" (.ex (.var 2) (.ex (.var 3) .nil))))
    (.cons (.ifs (.cmp .Eq (.ix (.spl (.var 1) (.str " ")) (.int 0)) (.str "monotone"))
    (.cons (.fors (.nm 5) (.rng (.cons (.bin .Mult (.ix (.var 0) (.int 0)) (.ix (.var 0) (.int 1))) .nil))
    (.cons (.fors (.nm 6) (.ex (.call "_law_numbers" (.ex (.var 0) .nil)))
    (.cons (.ifs (.cmp .Gt (.ix (.var 4) (.var 6)) (.ix (.var 4) (.bin .BitOr (.var 6) (.bin .LShift (.int 1) (.var 5)))))
    (.cons (.ret (.bl false))
    .nil)
    .nil)
    .nil))
    .nil))
    .nil)
    .nil)
    (.cons (.ret (.bi .all (.cons (.lc (.nm 7) (.ex (.call "_law_sum" (.ex (.var 0) (.ex (.var 4) .nil)))) .nil (.call "_law_term_fits" (.ex (.var 0) (.ex (.var 1) (.ex (.var 7) (.ex (.var 3) .nil)))))) .nil)))
    .nil))) }
def c__law_up_closed : CDef := { np := 3, ns := 8, body :=
    (.cons (.asg 3 (.lst .nil))
    (.cons (.fors (.nm 4) (.rng (.cons (.call "_law_take" (.io 0 (.ex (.int 4) .nil))) .nil))
    (.cons (.app 3 (.bi .sum (.cons (.lc (.nm 6) (.ex (.var 2)) (.cons (.cmp .Eq (.call "_law_take" (.io 0 (.ex (.int 2) .nil))) (.int 0)) .nil) (.bin .LShift (.int 1) (.var 6))) .nil)))
    .nil))
    (.cons (.ret (.lc (.nm 5) (.ex (.call "_law_numbers" (.ex (.var 1) .nil))) .nil (.bi .int1 (.cons (.bi .any (.cons (.lc (.nm 7) (.ex (.var 3)) .nil (.cmp .Eq (.bin .BitAnd (.var 5) (.var 7)) (.var 7))) .nil)) .nil))))
    .nil))) }
def c__law_column : CDef := { np := 4, ns := 12, body :=
    (.cons (.ifs (.cmp .Eq (.ix (.spl (.var 2) (.str " ")) (.int 0)) (.str "monotone"))
    (.cons (.asg 10 (.lc (.nm 9) (.rng (.cons (.bin .Mult (.ix (.var 1) (.int 0)) (.ix (.var 1) (.int 1))) .nil)) (.cons (.call "_law_term_fits" (.ex (.var 1) (.ex (.var 2) (.ex (.bin .LShift (.int 1) (.var 9)) (.ex (.var 3) .nil))))) .nil) (.var 9)))
    (.cons (.ret (.call "_law_up_closed" (.io 0 (.ex (.var 1) (.ex (.var 10) .nil)))))
    .nil))
    .nil)
    (.cons (.asg 4 (.lc (.nm 7) (.ex (.call "_law_numbers" (.ex (.var 1) .nil))) (.cons (.call "_law_term_fits" (.ex (.var 1) (.ex (.var 2) (.ex (.var 7) (.ex (.var 3) .nil))))) .nil) (.var 7)))
    (.cons (.asg 5 (.call "_law_of" (.io 0 (.ex (.lst (.cons (.int 1) (.cons (.int 2) (.cons (.int 2) (.cons (.int 5) .nil))))) .nil))))
    (.cons (.asg 6 (.bin .Mult (.lst (.cons (.int 0) .nil)) (.bin .LShift (.int 1) (.bin .Mult (.ix (.var 1) (.int 0)) (.ix (.var 1) (.int 1))))))
    (.cons (.fors (.nm 7) (.ex (.var 4))
    (.cons (.seti 6 (.var 7) (.bi .int1 (.cons (.cmp .Eq (.call "_law_take" (.io 0 (.ex (.var 5) .nil))) (.int 0)) .nil)))
    .nil))
    (.cons (.asg 8 (.bi .listOf (.cons (.var 6) .nil)))
    (.cons (.fors (.nm 9) (.rng (.cons (.bin .Mult (.ix (.var 1) (.int 0)) (.ix (.var 1) (.int 1))) .nil))
    (.cons (.fors (.nm 11) (.ex (.call "_law_numbers" (.ex (.var 1) .nil)))
    (.cons (.ifs (.cmp .Eq (.bin .Mod (.bin .FloorDiv (.var 11) (.bin .LShift (.int 1) (.var 9))) (.int 2)) (.int 1))
    (.cons (.seti 8 (.var 11) (.bin .Mod (.bin .Add (.ix (.var 8) (.var 11)) (.ix (.var 8) (.bin .Sub (.var 11) (.bin .LShift (.int 1) (.var 9))))) (.int 2)))
    .nil)
    .nil)
    .nil))
    .nil))
    (.cons (.ret (.var 8))
    .nil)))))))) }
def c__law_fitting : CDef := { np := 3, ns := 8, body :=
    (.cons (.asg 3 (.lc (.nm 6) (.rng (.cons (.ix (.var 1) (.int 0)) .nil)) .nil (.call "_law_column" (.io 0 (.ex (.var 1) (.ex (.var 2) (.ex (.var 6) .nil)))))))
    (.cons (.asg 4 (.lst .nil))
    (.cons (.fors (.nm 5) (.ex (.call "_law_numbers" (.ex (.var 1) .nil)))
    (.cons (.app 4 (.bi .sum (.cons (.lc (.tp [6, 7]) (.enu (.var 3)) .nil (.bin .LShift (.ix (.var 7) (.var 5)) (.var 6))) .nil)))
    .nil))
    (.cons (.ret (.bi .tupleOf (.cons (.var 4) .nil)))
    .nil)))) }
def c__law_mixed : CDef := { np := 4, ns := 8, body :=
    (.cons (.asg 4 (.call "_law_take" (.io 0 (.ex (.ix (.var 1) (.int 0)) .nil))))
    (.cons (.asg 5 (.bin .LShift (.int 1) (.var 4)))
    (.cons (.ret (.bi .tupleOf (.cons (.lc (.tp [6, 7]) (.zip (.var 2) (.var 3)) .nil (.bin .Add (.bin .Sub (.var 6) (.bin .BitAnd (.var 6) (.var 5))) (.bin .BitAnd (.var 7) (.var 5)))) .nil)))
    .nil))) }
def c_combined : CDef := { np := 3, ns := 3, body :=
    (.cons (.ifs (.cmp .Eq (.var 0) (.str "and"))
    (.cons (.ret (.bin .BitAnd (.var 1) (.var 2)))
    .nil)
    .nil)
    (.cons (.ifs (.cmp .Eq (.var 0) (.str "or"))
    (.cons (.ret (.bin .BitOr (.var 1) (.var 2)))
    .nil)
    .nil)
    (.cons (.ifs (.cmp .Eq (.var 0) (.str "xor"))
    (.cons (.ret (.bin .BitXor (.var 1) (.var 2)))
    .nil)
    .nil)
    (.cons (.ifs (.cmp .Eq (.var 0) (.str "add"))
    (.cons (.ret (.bin .Add (.var 1) (.var 2)))
    .nil)
    .nil)
    (.cons (.ifs (.cmp .Eq (.var 0) (.str "sub"))
    (.cons (.ret (.bin .Sub (.var 1) (.var 2)))
    .nil)
    .nil)
    (.cons (.ret (.bin .Mult (.var 1) (.var 2)))
    .nil)))))) }
def c_result_of : CDef := { np := 3, ns := 5, body :=
    (.cons (.asg 3 (.ix (.var 0) (.int 0)))
    (.cons (.ifs (.cmp .Eq (.var 3) (.str "const"))
    (.cons (.ret (.ix (.var 0) (.int 1)))
    .nil)
    .nil)
    (.cons (.asg 4 (.ix (.var 1) (.ix (.var 0) (.int 1))))
    (.cons (.ifs (.cmp .Eq (.var 3) (.str "mask"))
    (.cons (.ret (.bin .BitAnd (.var 4) (.ix (.var 0) (.int 2))))
    .nil)
    .nil)
    (.cons (.ifs (.cmp .Eq (.var 3) (.str "not"))
    (.cons (.ret (.bin .BitXor (.var 4) (.var 2)))
    .nil)
    .nil)
    (.cons (.ifs (.cmp .Eq (.var 3) (.str "up"))
    (.cons (.ret (.bin .BitAnd (.bin .Mult (.int 2) (.var 4)) (.var 2)))
    .nil)
    .nil)
    (.cons (.ifs (.cmp .Eq (.var 3) (.str "down"))
    (.cons (.ret (.bin .FloorDiv (.var 4) (.int 2)))
    .nil)
    .nil)
    (.cons (.ret (.bin .BitAnd (.call "combined" (.ex (.var 3) (.ex (.var 4) (.ex (.ix (.var 1) (.ix (.var 0) (.int 2))) .nil)))) (.var 2)))
    .nil)))))))) }
def c_are_words : CDef := { np := 2, ns := 3, body :=
    (.cons (.ifs (.bop false (.cons (.nt (.isi .tup (.var 1))) (.cons (.cmp .NotEq (.bi .len (.cons (.var 1) .nil)) (.ix (.var 0) (.int 1))) .nil)))
    (.cons (.ret (.bl false))
    .nil)
    .nil)
    (.cons (.ret (.bi .all (.cons (.lc (.nm 2) (.ex (.var 1)) .nil (.call "is_word" (.ex (.var 0) (.ex (.var 2) .nil)))) .nil)))
    .nil)) }
def c_values_of : CDef := { np := 3, ns := 6, body :=
    (.cons (.ifs (.nt (.call "are_words" (.ex (.var 0) (.ex (.var 2) .nil))))
    (.cons .nev
    .nil)
    .nil)
    (.cons (.asg 3 (.call "greatest_word" (.ex (.var 0) .nil)))
    (.cons (.asg 4 (.bi .listOf (.cons (.var 2) .nil)))
    (.cons (.fors (.nm 5) (.ex (.var 1))
    (.cons (.app 4 (.call "result_of" (.ex (.var 5) (.io 4 (.ex (.var 3) .nil)))))
    .nil))
    (.cons (.ret (.bi .tupleOf (.cons (.var 4) .nil)))
    .nil))))) }
def c_run : CDef := { np := 3, ns := 3, body :=
    (.cons (.ret (.ix (.call "values_of" (.ex (.var 0) (.ex (.var 1) (.ex (.var 2) .nil)))) (.neg (.int 1))))
    .nil) }
def c_table_of : CDef := { np := 2, ns := 3, body :=
    (.cons (.ret (.bi .tupleOf (.cons (.lc (.nm 2) (.rng (.cons (.call "table_size" (.ex (.var 0) .nil)) .nil)) .nil (.call "run" (.ex (.var 0) (.ex (.var 1) (.ex (.call "words_of" (.ex (.var 0) (.ex (.var 2) .nil))) .nil))))) .nil)))
    .nil) }
def c__law_joint : CDef := { np := 4, ns := 8, body :=
    (.cons (.asg 4 (.int 0))
    (.cons (.fors (.nm 5) (.rng (.cons (.var 0) .nil))
    (.cons (.par [6, 7] (.cons (.bin .Mod (.bin .FloorDiv (.var 1) (.bin .LShift (.int 1) (.var 5))) (.int 2)) (.cons (.bin .Mod (.bin .FloorDiv (.var 2) (.bin .LShift (.int 1) (.var 5))) (.int 2)) .nil)))
    (.cons (.asg 4 (.bin .Add (.var 4) (.bin .Mult (.bin .LShift (.int 1) (.var 5)) (.ix (.var 3) (.bin .Add (.bin .Mult (.int 2) (.var 6)) (.var 7))))))
    .nil)))
    (.cons (.ret (.var 4))
    .nil))) }
def c__law_due : CDef := { np := 4, ns := 6, body :=
    (.cons (.asg 4 (.bin .LShift (.int 1) (.var 0)))
    (.cons (.asg 5 (.dct ["and", "mask", "or", "xor", "not"] (.cons (.lst (.cons (.int 0) (.cons (.int 0) (.cons (.int 0) (.cons (.int 1) .nil))))) (.cons (.lst (.cons (.int 0) (.cons (.int 0) (.cons (.int 0) (.cons (.int 1) .nil))))) (.cons (.lst (.cons (.int 0) (.cons (.int 1) (.cons (.int 1) (.cons (.int 1) .nil))))) (.cons (.lst (.cons (.int 0) (.cons (.int 1) (.cons (.int 1) (.cons (.int 0) .nil))))) (.cons (.lst (.cons (.int 1) (.cons (.int 1) (.cons (.int 0) (.cons (.int 0) .nil))))) .nil)))))))
    (.cons (.ifs (.cmp .In (.var 1) (.var 5))
    (.cons (.ret (.call "_law_joint" (.ex (.var 0) (.ex (.var 2) (.ex (.var 3) (.ex (.ix (.var 5) (.var 1)) .nil))))))
    .nil)
    .nil)
    (.cons (.ifs (.cmp .In (.var 1) (.tup (.cons (.str "up") (.cons (.str "down") .nil))))
    (.cons (.ret (.ite (.cmp .Eq (.var 1) (.str "up")) (.bin .Mod (.bin .Add (.var 2) (.var 2)) (.var 4)) (.bin .FloorDiv (.bin .Sub (.var 2) (.bin .Mod (.var 2) (.int 2))) (.int 2))))
    .nil)
    .nil)
    (.cons (.ret (.bin .Mod (.ix (.dct ["add", "sub", "mul"] (.cons (.bin .Add (.var 2) (.var 3)) (.cons (.bin .Sub (.bin .Add (.var 4) (.var 2)) (.var 3)) (.cons (.bin .Mult (.var 2) (.var 3)) .nil)))) (.var 1)) (.var 4)))
    .nil))))) }
def c_fitting_terms : CDef := { np := 3, ns := 4, body :=
    (.cons (.ret (.bi .len (.cons (.lc (.nm 3) (.rng (.cons (.call "table_size" (.ex (.var 1) .nil)) .nil)) (.cons (.call "term_fits" (.ex (.var 0) (.ex (.var 1) (.ex (.var 2) (.ex (.var 3) .nil))))) .nil) (.var 3)) .nil)))
    .nil) }
def c_count_terms : CDef := { np := 3, ns := 3, body :=
    (.cons (.ifs (.cmp .NotIn (.var 0) (.tup (.cons (.str "adding") (.cons (.str "multiplying") .nil))))
    (.cons .nev
    .nil)
    .nil)
    (.cons (.ifs (.nt (.call "is_place" (.ex (.var 1) (.ex (.var 2) .nil))))
    (.cons .nev
    .nil)
    .nil)
    (.cons (.ret (.call "fitting_terms" (.ex (.var 0) (.ex (.var 1) (.ex (.var 2) .nil)))))
    .nil))) }
def c_least_place : CDef := { np := 2, ns := 3, body :=
    (.cons (.asg 2 (.int 0))
    (.cons (.whl 1000000 (.cmp .Gt (.call "weight" (.ex (.var 0) (.ex (.var 1) .nil))) (.bin .LShift (.int 1) (.var 2)))
    (.cons (.aug 2 (.int 1))
    .nil))
    (.cons (.ret (.var 2))
    .nil))) }
def c__law_burden : CDef := { np := 2, ns := 3, body :=
    (.cons (.ret (.bi .sum (.cons (.lc (.nm 2) (.ex (.call "_law_places" (.ex (.var 0) (.ex (.var 1) .nil)))) .nil (.bin .LShift (.int 1) (.var 2))) .nil)))
    .nil) }
def c__law_low : CDef := { np := 2, ns := 3, body :=
    (.cons (.asg 2 (.int 0))
    (.cons (.whl 1000000 (.cmp .Lt (.bin .LShift (.int 1) (.var 2)) (.call "_law_burden" (.ex (.var 0) (.ex (.var 1) .nil))))
    (.cons (.asg 2 (.bin .Add (.var 2) (.int 1)))
    .nil))
    (.cons (.ret (.var 2))
    .nil))) }
def c_marks_of : CDef := { np := 2, ns := 4, body :=
    (.cons (.asg 2 (.bin .Mult (.lst (.cons (.int 0) .nil)) (.call "table_size" (.ex (.var 0) .nil))))
    (.cons (.fors (.nm 3) (.ex (.var 1))
    (.cons (.seti 2 (.var 3) (.int 1))
    .nil))
    (.cons (.ret (.var 2))
    .nil))) }
def c_word_at : CDef := { np := 2, ns := 4, body :=
    (.cons (.ret (.bi .sum (.cons (.lc (.tp [2, 3]) (.enu (.var 0)) .nil (.bin .LShift (.ix (.var 3) (.var 1)) (.var 2))) .nil)))
    .nil) }
def c_table_from : CDef := { np := 2, ns := 5, body :=
    (.cons (.asg 2 (.lc (.nm 3) (.ex (.var 1)) .nil (.call "sums_within" (.ex (.var 0) (.ex (.call "marks_of" (.ex (.var 0) (.ex (.var 3) .nil))) .nil)))))
    (.cons (.ret (.bi .tupleOf (.cons (.lc (.nm 4) (.rng (.cons (.call "table_size" (.ex (.var 0) .nil)) .nil)) .nil (.call "word_at" (.ex (.var 2) (.ex (.var 4) .nil)))) .nil)))
    .nil)) }
def c_given_bits : CDef := { np := 3, ns := 4, body :=
    (.cons (.ret (.bi .sum (.cons (.lc (.nm 3) (.rng (.cons (.ix (.var 1) (.int 0)) .nil)) (.cons (.call "bit_fits" (.ex (.var 0) (.ex (.var 1) (.ex (.var 2) (.ex (.var 3) .nil))))) .nil) (.bin .LShift (.int 1) (.var 3))) .nil)))
    .nil) }
def c_computes : CDef := { np := 3, ns := 4, body :=
    (.cons (.ret (.bi .all (.cons (.lc (.nm 3) (.rng (.cons (.ix (.var 1) (.int 0)) .nil)) .nil (.call "bit_fits" (.ex (.var 0) (.ex (.var 1) (.ex (.var 2) (.ex (.var 3) .nil)))))) .nil)))
    .nil) }
def c__law_rows : CDef := { np := 2, ns := 10, body :=
    (.cons (.asg 2 (.call "_law_fitting" (.io 0 (.ex (.var 1) (.ex (.call "_law_of" (.io 0 (.ex (.call0 "_law_bases") .nil))) .nil)))))
    (.cons (.asgT [6, 7] (.tup (.cons (.call "_law_table" (.io 0 (.ex (.var 1) .nil))) (.cons (.call "_law_take" (.io 0 (.ex (.bin .LShift (.int 1) (.ix (.var 1) (.int 0))) .nil))) .nil))))
    (.cons (.asg 3 (.bin .Sub (.bin .Sub (.bin .LShift (.int 1) (.ix (.var 1) (.int 0))) (.int 1)) (.var 7)))
    (.cons (.asg 4 (.call "known_table" (.ex (.var 1) (.ex (.call "_law_of" (.io 0 (.ex (.lst (.cons (.str "sum") (.cons (.str "product") (.cons (.str "ones") (.cons (.str "least") (.cons (.str "reversed") (.cons (.str "or") .nil))))))) .nil))) .nil))))
    (.cons (.asg 5 (.bi .tupleOf (.cons (.lc (.tp [8, 9]) (.zip (.var 2) (.var 6)) .nil (.bin .BitOr (.bin .BitAnd (.var 8) (.var 7)) (.bin .BitAnd (.var 9) (.var 3)))) .nil)))
    (.cons (.ret (.call "_law_of" (.io 0 (.ex (.lst (.cons (.var 2) (.cons (.var 5) (.cons (.var 4) .nil)))) .nil))))
    .nil)))))) }
def c_first_difference : CDef := { np := 3, ns := 5, body :=
    (.cons (.fors (.nm 3) (.rng (.cons (.call "table_size" (.ex (.var 0) .nil)) .nil))
    (.cons (.asg 4 (.call "words_of" (.ex (.var 0) (.ex (.var 3) .nil))))
    (.cons (.ifs (.cmp .NotEq (.call "run" (.ex (.var 0) (.ex (.var 1) (.ex (.var 4) .nil)))) (.call "run" (.ex (.var 0) (.ex (.var 2) (.ex (.var 4) .nil)))))
    (.cons (.ret (.var 3))
    .nil)
    .nil)
    .nil)))
    (.cons (.ret .non)
    .nil)) }
def c__law_words : CDef := { np := 1, ns := 3, body :=
    (.cons (.asg 1 (.lst (.cons (.str "const") (.cons (.str "mask") .nil))))
    (.cons (.asg 2 (.bin .Add (.spl (.var 0) (.str " ")) (.lst (.cons (.str "") .nil))))
    (.cons (.ifs (.bop false (.cons (.cmp .Eq (.ix (.var 2) (.int 0)) (.str "adding")) (.cons (.cmp .Eq (.ix (.var 2) (.int 0)) (.str "multiplying")) .nil)))
    (.cons (.ret (.bin .Add (.bin .Add (.var 1) (.lst (.cons (.str "xor") (.cons (.str "not") (.cons (.str "up") (.cons (.str "add") (.cons (.str "sub") .nil))))))) (.bin .Mult (.lst (.cons (.str "mul") .nil)) (.bi .int1 (.cons (.cmp .Eq (.ix (.var 2) (.int 0)) (.str "multiplying")) .nil)))))
    .nil)
    .nil)
    (.cons (.ifs (.cmp .NotEq (.ix (.var 2) (.int 0)) (.str "affine"))
    (.cons (.asg 1 (.bin .Add (.var 1) (.lst (.cons (.str "and") (.cons (.str "or") .nil)))))
    .nil)
    .nil)
    (.cons (.ifs (.cmp .NotEq (.ix (.var 2) (.int 0)) (.str "monotone"))
    (.cons (.asg 1 (.bin .Add (.var 1) (.lst (.cons (.str "xor") (.cons (.str "not") .nil)))))
    .nil)
    .nil)
    (.cons (.ifs (.cmp .In (.ix (.var 2) (.int 1)) (.tup (.cons (.str "up") (.cons (.str "both") .nil))))
    (.cons (.asg 1 (.bin .Add (.bin .Add (.var 1) (.lst (.cons (.str "up") .nil))) (.bin .Mult (.lst (.cons (.str "add") (.cons (.str "sub") (.cons (.str "mul") .nil)))) (.bi .int1 (.cons (.cmp .Eq (.ix (.var 2) (.int 0)) (.str "any")) .nil)))))
    .nil)
    .nil)
    (.cons (.ret (.bin .Add (.var 1) (.bin .Mult (.lst (.cons (.str "down") .nil)) (.bi .int1 (.cons (.cmp .In (.ix (.var 2) (.int 1)) (.tup (.cons (.str "down") (.cons (.str "both") .nil)))) .nil)))))
    .nil))))))) }
def c__law_instruction : CDef := { np := 4, ns := 6, body :=
    (.cons (.asg 4 (.call "_law_of" (.io 0 (.ex (.call "_law_words" (.ex (.var 2) .nil)) .nil))))
    (.cons (.ifs (.cmp .Eq (.var 4) (.str "const"))
    (.cons (.ret (.tup (.cons (.var 4) (.cons (.call "_law_take" (.io 0 (.ex (.bin .LShift (.int 1) (.ix (.var 1) (.int 0))) .nil))) .nil))))
    .nil)
    .nil)
    (.cons (.asg 5 (.ite (.cmp .Gt (.call "_law_take" (.io 0 (.ex (.int 3) .nil))) (.int 0)) (.call "_law_take" (.io 0 (.ex (.var 3) .nil))) (.bin .Sub (.var 3) (.int 1))))
    (.cons (.ifs (.cmp .Eq (.var 4) (.str "mask"))
    (.cons (.ret (.tup (.cons (.var 4) (.cons (.var 5) (.cons (.call "_law_take" (.io 0 (.ex (.bin .LShift (.int 1) (.ix (.var 1) (.int 0))) .nil))) .nil)))))
    .nil)
    .nil)
    (.cons (.ifs (.cmp .In (.var 4) (.tup (.cons (.str "not") (.cons (.str "up") (.cons (.str "down") .nil)))))
    (.cons (.ret (.tup (.cons (.var 4) (.cons (.var 5) .nil))))
    .nil)
    .nil)
    (.cons (.ret (.tup (.cons (.var 4) (.cons (.var 5) (.cons (.call "_law_take" (.io 0 (.ex (.var 3) .nil))) .nil)))))
    .nil)))))) }
def c__law_program : CDef := { np := 4, ns := 6, body :=
    (.cons (.asg 4 (.lst .nil))
    (.cons (.fors (.nm 5) (.rng (.cons (.bin .Add (.int 1) (.call "_law_take" (.io 0 (.ex (.var 3) .nil)))) .nil))
    (.cons (.app 4 (.call "_law_instruction" (.io 0 (.ex (.var 1) (.ex (.var 2) (.ex (.bin .Add (.ix (.var 1) (.int 1)) (.var 5)) .nil))))))
    .nil))
    (.cons (.ret (.bi .tupleOf (.cons (.var 4) .nil)))
    .nil))) }
def c__law_step : CDef := { np := 3, ns := 8, body :=
    (.cons (.par [3, 4, 5] (.cons (.bin .LShift (.int 1) (.ix (.var 0) (.int 0))) (.cons (.ix (.var 1) (.int 0)) (.cons (.ix (.var 1) (.int 1)) .nil))))
    (.cons (.ifs (.cmp .Eq (.var 4) (.str "const"))
    (.cons (.ret (.var 5))
    .nil)
    .nil)
    (.cons (.ifs (.cmp .Eq (.var 4) (.str "mask"))
    (.cons (.ret (.bin .BitAnd (.ix (.var 2) (.var 5)) (.ix (.var 1) (.int 2))))
    .nil)
    .nil)
    (.cons (.ifs (.cmp .In (.var 4) (.tup (.cons (.str "not") (.cons (.str "up") (.cons (.str "down") .nil)))))
    (.cons (.ret (.ix (.dct ["not", "up", "down"] (.cons (.bin .Sub (.bin .Sub (.var 3) (.int 1)) (.ix (.var 2) (.var 5))) (.cons (.bin .Mod (.bin .Mult (.ix (.var 2) (.var 5)) (.int 2)) (.var 3)) (.cons (.bin .FloorDiv (.ix (.var 2) (.var 5)) (.int 2)) .nil)))) (.var 4)))
    .nil)
    .nil)
    (.cons (.par [6, 7] (.cons (.ix (.var 2) (.var 5)) (.cons (.ix (.var 2) (.ix (.var 1) (.int 2))) .nil)))
    (.cons (.ifs (.cmp .In (.var 4) (.tup (.cons (.str "and") (.cons (.str "or") (.cons (.str "xor") .nil)))))
    (.cons (.ret (.ix (.dct ["and", "or", "xor"] (.cons (.bin .BitAnd (.var 6) (.var 7)) (.cons (.bin .BitOr (.var 6) (.var 7)) (.cons (.bin .BitXor (.var 6) (.var 7)) .nil)))) (.var 4)))
    .nil)
    .nil)
    (.cons (.ret (.bin .Mod (.ix (.dct ["add", "sub", "mul"] (.cons (.bin .Add (.var 6) (.var 7)) (.cons (.bin .Sub (.var 6) (.var 7)) (.cons (.bin .Mult (.var 6) (.var 7)) .nil)))) (.var 4)) (.var 3)))
    .nil))))))) }
def c__law_result : CDef := { np := 3, ns := 5, body :=
    (.cons (.asg 3 (.bi .listOf (.cons (.call "_law_split" (.ex (.var 0) (.ex (.var 2) .nil))) .nil)))
    (.cons (.fors (.nm 4) (.ex (.var 1))
    (.cons (.app 3 (.call "_law_step" (.ex (.var 0) (.ex (.var 4) (.io 3 .nil)))))
    .nil))
    (.cons (.ret (.ix (.var 3) (.neg (.int 1))))
    .nil))) }
def c__law_whole : CDef := { np := 2, ns := 3, body :=
    (.cons (.ret (.bi .tupleOf (.cons (.lc (.nm 2) (.ex (.call "_law_numbers" (.ex (.var 0) .nil))) .nil (.call "_law_result" (.ex (.var 0) (.ex (.var 1) (.ex (.var 2) .nil))))) .nil)))
    .nil) }
def c__law_pairs : CDef := { np := 2, ns := 9, body :=
    (.cons (.asg 2 (.call "_law_program" (.io 0 (.ex (.var 1) (.ex (.call "_law_of" (.io 0 (.ex (.call0 "_law_bases") .nil))) (.ex (.int 8) .nil))))))
    (.cons (.par [5, 6] (.cons (.bin .Sub (.bin .Add (.ix (.var 1) (.int 1)) (.bi .len (.cons (.var 2) .nil))) (.int 1)) (.cons (.bin .Sub (.bin .LShift (.int 1) (.ix (.var 1) (.int 0))) (.int 1)) .nil)))
    (.cons (.asg 3 (.lst (.cons (.tup (.cons (.var 2) (.cons (.call "_law_program" (.io 0 (.ex (.var 1) (.ex (.call "_law_of" (.io 0 (.ex (.call0 "_law_bases") .nil))) (.ex (.int 8) .nil))))) .nil))) (.cons (.tup (.cons (.var 2) (.cons (.var 2) .nil))) .nil))))
    (.cons (.app 3 (.tup (.cons (.var 2) (.cons (.bin .Add (.var 2) (.tup (.cons (.tup (.cons (.str "mask") (.cons (.var 5) (.cons (.var 6) .nil)))) .nil))) .nil))))
    (.cons (.app 3 (.tup (.cons (.var 2) (.cons (.bin .Add (.var 2) (.tup (.cons (.tup (.cons (.str "not") (.cons (.var 5) .nil))) (.cons (.tup (.cons (.str "not") (.cons (.bin .Add (.var 5) (.int 1)) .nil))) .nil)))) .nil))))
    (.cons (.app 3 (.tup (.cons (.var 2) (.cons (.bin .Add (.var 2) (.tup (.cons (.tup (.cons (.str "mask") (.cons (.var 5) (.cons (.call "_law_take" (.io 0 (.ex (.bin .Add (.var 6) (.int 1)) .nil))) .nil)))) .nil))) .nil))))
    (.cons (.par [7, 8] (.cons (.lst (.cons (.tup (.cons (.str "mask") (.cons (.int 0) (.cons (.var 6) .nil)))) .nil)) (.cons (.ix (.var 1) (.int 1)) .nil)))
    (.cons (.fors (.nm 4) (.rng (.cons (.int 1) (.cons (.ix (.var 1) (.int 1)) .nil)))
    (.cons (.app 7 (.tup (.cons (.str "and") (.cons (.var 8) (.cons (.var 4) .nil)))))
    (.cons (.asg 8 (.bin .Add (.var 8) (.int 1)))
    .nil)))
    (.cons (.ret (.bin .Add (.var 3) (.lst (.cons (.tup (.cons (.bi .tupleOf (.cons (.var 7) .nil)) (.cons (.bin .Add (.bi .tupleOf (.cons (.var 7) .nil)) (.tup (.cons (.tup (.cons (.str "mask") (.cons (.var 8) (.cons (.bin .Sub (.var 6) (.int 1)) .nil)))) .nil))) .nil))) .nil))))
    .nil))))))))) }
def c__law_last_pair : CDef := { np := 1, ns := 6, body :=
    (.cons (.par [4, 5] (.cons (.lst (.cons (.tup (.cons (.str "mask") (.cons (.int 0) (.cons (.bin .Sub (.bin .LShift (.int 1) (.ix (.var 0) (.int 0))) (.int 1)) .nil)))) .nil)) (.cons (.ix (.var 0) (.int 1)) .nil)))
    (.cons (.fors (.nm 1) (.rng (.cons (.int 1) (.cons (.ix (.var 0) (.int 1)) .nil)))
    (.cons (.app 4 (.tup (.cons (.str "and") (.cons (.var 5) (.cons (.var 1) .nil)))))
    (.cons (.asg 5 (.bin .Add (.var 5) (.int 1)))
    .nil)))
    (.cons (.asg 2 (.var 5))
    (.cons (.fors (.nm 3) (.rng (.cons (.int 1) (.cons (.ix (.var 0) (.int 0)) .nil)))
    (.cons (.ext 4 (.lst (.cons (.tup (.cons (.str "down") (.cons (.var 2) .nil))) (.cons (.tup (.cons (.str "and") (.cons (.var 5) (.cons (.bin .Add (.ix (.var 0) (.int 1)) (.bi .len (.cons (.var 4) .nil))) .nil)))) .nil))))
    (.cons (.par [2, 5] (.cons (.bin .Sub (.bin .Add (.ix (.var 0) (.int 1)) (.bi .len (.cons (.var 4) .nil))) (.int 2)) (.cons (.bin .Sub (.bin .Add (.ix (.var 0) (.int 1)) (.bi .len (.cons (.var 4) .nil))) (.int 1)) .nil)))
    .nil)))
    (.cons (.app 4 (.tup (.cons (.str "mask") (.cons (.var 5) (.cons (.int 1) .nil)))))
    (.cons (.ret (.tup (.cons (.bi .tupleOf (.cons (.var 4) .nil)) (.cons (.bin .Add (.bi .tupleOf (.cons (.var 4) .nil)) (.tup (.cons (.tup (.cons (.str "const") (.cons (.int 0) .nil))) .nil))) .nil))))
    .nil)))))) }
def k_OPERANDS : List (Str × GV) := [("const", .tx ["word"]), ("mask", .tx ["value", "word"]), ("not", .tx ["value"]), ("up", .tx ["value"]), ("down", .tx ["value"]), ("and", .tx ["value", "value"]), ("or", .tx ["value", "value"]), ("xor", .tx ["value", "value"]), ("add", .tx ["value", "value"]), ("sub", .tx ["value", "value"]), ("mul", .tx ["value", "value"])]
def c_is_operand : CDef := { np := 4, ns := 4, body :=
    (.cons (.ifs (.cmp .Eq (.var 2) (.str "word"))
    (.cons (.ret (.call "is_word" (.ex (.var 0) (.ex (.var 3) .nil))))
    .nil)
    .nil)
    (.cons (.ret (.bop true (.cons (.call "is_integer" (.ex (.var 3) .nil)) (.cons (.chn .LtE .Lt (.int 0) (.var 3) (.var 1)) .nil))))
    .nil)) }
def c_is_instruction : CDef := { np := 3, ns := 8, body :=
    (.cons (.ifs (.bop false (.cons (.nt (.isi .tup (.var 2))) (.cons (.cmp .Eq (.bi .len (.cons (.var 2) .nil)) (.int 0)) .nil)))
    (.cons (.ret (.bl false))
    .nil)
    .nil)
    (.cons (.asgS [4] 5 (.var 2))
    (.cons (.ifs (.bop false (.cons (.nt (.isi .str (.var 4))) (.cons (.cmp .NotIn (.var 4) (.gd "OPERANDS" k_OPERANDS)) .nil)))
    (.cons (.ret (.bl false))
    .nil)
    .nil)
    (.cons (.asg 3 (.ix (.gd "OPERANDS" k_OPERANDS) (.var 4)))
    (.cons (.ifs (.cmp .NotEq (.bi .len (.cons (.var 5) .nil)) (.bi .len (.cons (.var 3) .nil)))
    (.cons (.ret (.bl false))
    .nil)
    .nil)
    (.cons (.ret (.bi .all (.cons (.lc (.tp [6, 7]) (.zip (.var 3) (.var 5)) .nil (.call "is_operand" (.ex (.var 0) (.ex (.var 1) (.ex (.var 6) (.ex (.var 7) .nil)))))) .nil)))
    .nil)))))) }
def c_is_program : CDef := { np := 2, ns := 5, body :=
    (.cons (.ifs (.bop false (.cons (.nt (.isi .tup (.var 1))) (.cons (.cmp .Eq (.bi .len (.cons (.var 1) .nil)) (.int 0)) .nil)))
    (.cons (.ret (.bl false))
    .nil)
    .nil)
    (.cons (.asg 2 (.ix (.var 0) (.int 1)))
    (.cons (.ret (.bi .all (.cons (.lc (.tp [3, 4]) (.enu (.var 1)) .nil (.call "is_instruction" (.ex (.var 0) (.ex (.bin .Add (.var 2) (.var 3)) (.ex (.var 4) .nil))))) .nil)))
    .nil))) }
def q_MONOTONE : GC := .nums [2, 3, 6, 20, 168, 7581, 7828354, 2414682040998, 56130437228687557907788, 286386577668298411128469151667598498812366]
def q_MOST_BITS : GC := .int 5
def c_is_within : CDef := { np := 2, ns := 5, body :=
    (.cons (.asg 2 (.call "instructions_of" (.ex (.var 0) .nil)))
    (.cons (.asg 3 (.call "instructions_of" (.ex (.var 1) .nil)))
    (.cons (.ret (.bi .all (.cons (.lc (.nm 4) (.ex (.var 2)) .nil (.cmp .In (.var 4) (.var 3))) .nil)))
    .nil))) }
def c_count_monotone : CDef := { np := 1, ns := 1, body :=
    (.cons (.ret (.ix (.gc "MONOTONE" q_MONOTONE) (.var 0)))
    .nil) }
def c_counting_many : CDef := { np := 3, ns := 3, body :=
    (.cons (.ret (.bi .len (.cons (.call "bits_of" (.ex (.var 1) (.ex (.call "may_count" (.ex (.var 0) (.ex (.var 1) (.ex (.var 2) .nil)))) .nil))) .nil)))
    .nil) }
def c_count_bits : CDef := { np := 3, ns := 5, body :=
    (.cons (.asg 3 (.call "counting_many" (.ex (.var 0) (.ex (.var 1) (.ex (.var 2) .nil)))))
    (.cons (.asg 4 (.call "family_of" (.ex (.var 0) .nil)))
    (.cons (.ifs (.cmp .Eq (.var 4) (.str "any"))
    (.cons (.ret (.bin .LShift (.int 1) (.bin .LShift (.int 1) (.var 3))))
    .nil)
    .nil)
    (.cons (.ifs (.cmp .Eq (.var 4) (.str "monotone"))
    (.cons (.ret (.call "count_monotone" (.ex (.var 3) .nil)))
    .nil)
    .nil)
    (.cons (.ifs (.cmp .Eq (.var 4) (.str "affine"))
    (.cons (.ret (.bin .LShift (.int 1) (.bin .Add (.var 3) (.int 1))))
    .nil)
    .nil)
    (.cons (.ret (.bin .LShift (.int 1) (.call "fitting_terms" (.ex (.var 0) (.ex (.var 1) (.ex (.var 2) .nil))))))
    .nil)))))) }
def c_check_countable : CDef := { np := 2, ns := 4, body :=
    (.cons (.ifs (.cmp .Eq (.call "family_of" (.ex (.var 0) .nil)) (.str "monotone"))
    (.cons (.fors (.nm 2) (.rng (.cons (.ix (.var 1) (.int 0)) .nil))
    (.cons (.asg 3 (.call "counting_many" (.ex (.var 0) (.ex (.var 1) (.ex (.var 2) .nil)))))
    (.cons (.ifs (.cmp .Gt (.var 3) (.gc "MOST_BITS" q_MOST_BITS))
    (.cons .nev
    .nil)
    .nil)
    .nil)))
    .nil)
    .nil)
    .nil) }
def c_count_functions : CDef := { np := 2, ns := 4, body :=
    (.cons (.exp (.call "check_name" (.ex (.var 0) .nil)))
    (.cons (.exp (.call "check_countable" (.ex (.var 0) (.ex (.var 1) .nil))))
    (.cons (.asg 2 (.int 1))
    (.cons (.fors (.nm 3) (.rng (.cons (.ix (.var 1) (.int 0)) .nil))
    (.cons (.asg 2 (.bin .Mult (.var 2) (.call "count_bits" (.ex (.var 0) (.ex (.var 1) (.ex (.var 3) .nil))))))
    .nil))
    (.cons (.ret (.var 2))
    .nil))))) }
def c__law_columns : CDef := { np := 1, ns := 4, body :=
    (.cons (.asg 1 (.lst (.cons (.tup .nil) .nil)))
    (.cons (.fors (.nm 2) (.ex (.call "_law_numbers" (.ex (.var 0) .nil)))
    (.cons (.asg 1 (.bin .Add (.lc (.nm 3) (.ex (.var 1)) .nil (.bin .Add (.var 3) (.tup (.cons (.int 0) .nil)))) (.lc (.nm 3) (.ex (.var 1)) .nil (.bin .Add (.var 3) (.tup (.cons (.int 1) .nil))))))
    .nil))
    (.cons (.ret (.var 1))
    .nil))) }
def c__law_fitting_columns : CDef := { np := 4, ns := 7, body :=
    (.cons (.asg 4 (.int 0))
    (.cons (.fors (.nm 5) (.ex (.var 3))
    (.cons (.asg 4 (.bin .Add (.var 4) (.bi .int1 (.cons (.call "_law_fits" (.ex (.var 0) (.ex (.var 1) (.ex (.bi .tupleOf (.cons (.lc (.nm 6) (.ex (.var 5)) .nil (.bin .LShift (.var 6) (.var 2))) .nil)) (.ex (.var 2) .nil))))) .nil))))
    .nil))
    (.cons (.ret (.var 4))
    .nil))) }
def c__law_form_right : CDef := { np := 1, ns := 8, body :=
    (.cons (.par [2, 3] (.cons (.call "_law_columns" (.ex (.var 0) .nil)) (.cons (.dct [] .nil) .nil)))
    (.cons (.fors (.nm 1) (.ex (.call0 "_law_bases"))
    (.cons (.asg 4 (.int 1))
    (.cons (.fors (.nm 5) (.rng (.cons (.ix (.var 0) (.int 0)) .nil))
    (.cons (.asg 7 (.call "_law_fitting_columns" (.ex (.var 0) (.ex (.var 1) (.ex (.var 5) (.ex (.var 2) .nil))))))
    (.cons (.ifs (.bop true (.cons (.cmp .In (.var 1) (.tup (.cons (.str "adding") (.cons (.str "multiplying") .nil)))) (.cons (.cmp .NotEq (.var 7) (.bin .LShift (.int 1) (.call "count_terms" (.ex (.var 1) (.ex (.var 0) (.ex (.var 5) .nil)))))) .nil)))
    (.cons (.ret (.bl false))
    .nil)
    .nil)
    (.cons (.asg 4 (.bin .Mult (.var 4) (.var 7)))
    .nil))))
    (.cons (.seti 3 (.var 1) (.call "count_functions" (.ex (.var 1) (.ex (.var 0) .nil))))
    (.cons (.ifs (.cmp .NotEq (.bi .repr (.cons (.ix (.var 3) (.var 1)) .nil)) (.bi .repr (.cons (.var 4) .nil)))
    (.cons (.ret (.bl false))
    .nil)
    .nil)
    .nil)))))
    (.cons (.fors (.nm 1) (.ex (.call0 "_law_bases"))
    (.cons (.fors (.nm 6) (.ex (.call0 "_law_bases"))
    (.cons (.ifs (.bop true (.cons (.call "is_within" (.ex (.var 1) (.ex (.var 6) .nil))) (.cons (.cmp .Gt (.ix (.var 3) (.var 1)) (.ix (.var 3) (.var 6))) .nil)))
    (.cons (.ret (.bl false))
    .nil)
    .nil)
    .nil))
    .nil))
    (.cons (.ret (.bl true))
    .nil)))) }
def c__law_terms_right : CDef := { np := 1, ns := 7, body :=
    (.cons (.par [2, 3] (.cons (.call "known_table" (.ex (.var 0) (.ex (.str "sum") .nil))) (.cons (.call "known_table" (.ex (.var 0) (.ex (.str "ones") .nil))) .nil)))
    (.cons (.fors (.nm 1) (.rng (.cons (.ix (.var 0) (.int 0)) .nil))
    (.cons (.asg 4 (.lc (.nm 5) (.ex (.call "_law_numbers" (.ex (.var 0) .nil))) (.cons (.cmp .Eq (.bi .sum (.cons (.lc (.nm 6) (.ex (.call "_law_places" (.ex (.var 0) (.ex (.var 5) .nil)))) .nil (.bin .LShift (.int 1) (.var 6))) .nil)) (.bin .LShift (.int 1) (.var 1))) .nil) (.var 5)))
    (.cons (.ifs (.bop false (.cons (.cmp .NotEq (.call "terms" (.ex (.var 0) (.ex (.var 2) (.ex (.var 1) .nil)))) (.bi .tupleOf (.cons (.var 4) .nil))) (.cons (.bi .any (.cons (.lc (.nm 5) (.ex (.var 4)) .nil (.cmp .NotEq (.call "weight" (.ex (.var 0) (.ex (.var 5) .nil))) (.bin .LShift (.int 1) (.var 1)))) .nil)) .nil)))
    (.cons (.ret (.bl false))
    .nil)
    .nil)
    (.cons (.asg 4 (.lc (.nm 5) (.ex (.call "_law_numbers" (.ex (.var 0) .nil))) (.cons (.cmp .Eq (.bi .len (.cons (.call "_law_places" (.ex (.var 0) (.ex (.var 5) .nil))) .nil)) (.bin .LShift (.int 1) (.var 1))) .nil) (.var 5)))
    (.cons (.ifs (.cmp .NotEq (.call "terms" (.ex (.var 0) (.ex (.var 3) (.ex (.var 1) .nil)))) (.bi .tupleOf (.cons (.var 4) .nil)))
    (.cons (.ret (.bl false))
    .nil)
    .nil)
    .nil)))))
    (.cons (.ret (.bl true))
    .nil))) }
def c__law_given_right : CDef := { np := 1, ns := 5, body :=
    (.cons (.asg 1 (.call "known_table" (.ex (.var 0) (.ex (.str "ones") .nil))))
    (.cons (.fors (.nm 2) (.ex (.call0 "_law_bases"))
    (.cons (.asg 3 (.bi .sum (.cons (.lc (.nm 4) (.rng (.cons (.ix (.var 0) (.int 0)) .nil)) (.cons (.call "_law_fits" (.ex (.var 0) (.ex (.var 2) (.ex (.var 1) (.ex (.var 4) .nil))))) .nil) (.bin .LShift (.int 1) (.var 4))) .nil)))
    (.cons (.ifs (.cmp .NotEq (.call "given_bits" (.ex (.var 2) (.ex (.var 0) (.ex (.var 1) .nil)))) (.var 3))
    (.cons (.ret (.bl false))
    .nil)
    .nil)
    .nil)))
    (.cons (.ret (.cmp .Is (.call "computes" (.ex (.str "any both") (.ex (.var 0) (.ex (.var 1) .nil)))) (.bl true)))
    .nil))) }
def c__law_chosen_right : CDef := { np := 2, ns := 11, body :=
    (.cons (.asgT [5, 6, 7] (.tup (.cons (.lst (.cons (.tup (.cons (.str "const") (.cons (.int 0) .nil))) .nil)) (.cons (.ix (.var 1) (.int 1)) (.cons (.int 0) .nil)))))
    (.cons (.fors (.nm 2) (.rng (.cons (.ix (.var 1) (.int 1)) .nil))
    (.cons (.asg 8 (.call "_law_take" (.io 0 (.ex (.bin .LShift (.int 1) (.ix (.var 1) (.int 0))) .nil))))
    (.cons (.asg 7 (.bin .Add (.var 7) (.bin .LShift (.var 8) (.bin .Mult (.ix (.var 1) (.int 0)) (.var 2)))))
    (.cons (.ext 5 (.lst (.cons (.tup (.cons (.str "mask") (.cons (.var 2) (.cons (.var 8) .nil)))) (.cons (.tup (.cons (.str "add") (.cons (.var 6) (.cons (.bin .Add (.var 6) (.int 1)) .nil)))) .nil))))
    (.cons (.asg 6 (.bin .Add (.var 6) (.int 2)))
    .nil)))))
    (.cons (.asg 3 (.call "table_of" (.ex (.var 1) (.ex (.bi .tupleOf (.cons (.var 5) .nil)) .nil))))
    (.cons (.fors (.nm 4) (.rng (.cons (.ix (.var 1) (.int 0)) .nil))
    (.cons (.asg 9 (.lc (.nm 10) (.ex (.call "_law_numbers" (.ex (.var 1) .nil))) (.cons (.cmp .Eq (.bi .sum (.cons (.lc (.nm 2) (.ex (.call "_law_places" (.ex (.var 1) (.ex (.var 10) .nil)))) .nil (.bin .LShift (.int 1) (.var 2))) .nil)) (.bin .LShift (.int 1) (.var 4))) .nil) (.var 10)))
    (.cons (.ifs (.cmp .NotEq (.call "terms" (.ex (.var 1) (.ex (.var 3) (.ex (.var 4) .nil)))) (.bi .tupleOf (.cons (.lc (.nm 10) (.ex (.var 9)) (.cons (.cmp .Eq (.bin .BitAnd (.var 10) (.var 7)) (.var 10)) .nil) (.var 10)) .nil)))
    (.cons (.ret (.bl false))
    .nil)
    .nil)
    .nil)))
    (.cons (.ret (.cmp .Is (.call "computes" (.ex (.str "adding") (.ex (.var 1) (.ex (.var 3) .nil)))) (.bl true)))
    .nil))))) }
def c_is_shape : CDef := { np := 1, ns := 3, body :=
    (.cons (.ifs (.bop false (.cons (.nt (.isi .tup (.var 0))) (.cons (.cmp .NotEq (.bi .len (.cons (.var 0) .nil)) (.int 2)) .nil)))
    (.cons (.ret (.bl false))
    .nil)
    .nil)
    (.cons (.asgT [1, 2] (.var 0))
    (.cons (.ifs (.bop false (.cons (.nt (.call "is_integer" (.ex (.var 1) .nil))) (.cons (.nt (.call "is_integer" (.ex (.var 2) .nil))) .nil)))
    (.cons (.ret (.bl false))
    .nil)
    .nil)
    (.cons (.ret (.bop true (.cons (.chn .LtE .LtE (.int 1) (.var 1) (.int 8)) (.cons (.chn .LtE .LtE (.int 1) (.var 2) (.int 4)) (.cons (.cmp .LtE (.bin .Mult (.var 1) (.var 2)) (.int 8)) .nil)))))
    .nil)))) }
def c_set_names : CDef := { np := 0, ns := 0, body :=
    (.cons (.ret (.bi .tupleOf (.cons (.bi .sorted (.cons (.gd "SETS" k_SETS) .nil)) .nil)))
    .nil) }
def c_sets_for : CDef := { np := 2, ns := 3, body :=
    (.cons (.ret (.bi .tupleOf (.cons (.lc (.nm 2) (.ex (.call0 "set_names")) (.cons (.call "computes" (.ex (.var 2) (.ex (.var 0) (.ex (.var 1) .nil)))) .nil) (.var 2)) .nil)))
    .nil) }
def c_is_least : CDef := { np := 2, ns := 3, body :=
    (.cons (.ret (.nt (.bi .any (.cons (.lc (.nm 2) (.ex (.var 1)) .nil (.bop true (.cons (.cmp .NotEq (.var 2) (.var 0)) (.cons (.call "is_within" (.ex (.var 2) (.ex (.var 0) .nil))) .nil)))) .nil))))
    .nil) }
def c_least_sets : CDef := { np := 2, ns := 4, body :=
    (.cons (.asg 2 (.call "sets_for" (.ex (.var 0) (.ex (.var 1) .nil))))
    (.cons (.ret (.bi .tupleOf (.cons (.lc (.nm 3) (.ex (.var 2)) (.cons (.call "is_least" (.ex (.var 3) (.ex (.var 2) .nil))) .nil) (.var 3)) .nil)))
    .nil)) }
def k_NUMBERS : List (Str × GV) := [("apart", .iv 2), ("falls", .iv 2), ("four", .iv 3), ("heavy", .iv 1)]
def k_KINDS : List (Str × GV) := [("any", .tx ["apart"]), ("monotone", .tx ["apart", "falls"]), ("affine", .tx ["apart", "four"]), ("adding", .tx ["apart", "heavy"]), ("multiplying", .tx ["apart", "heavy"])]
def c_lowest_bit : CDef := { np := 1, ns := 1, body :=
    (.cons (.ret (.bin .BitAnd (.var 0) (.neg (.var 0))))
    .nil) }
def c_first_apart : CDef := { np := 2, ns := 5, body :=
    (.cons (.asg 2 (.lc (.tp [3, 4]) (.enu (.var 0)) (.cons (.cmp .NotEq (.var 4) (.ix (.var 0) (.bin .BitXor (.var 3) (.var 1)))) .nil) (.var 3)))
    (.cons (.ret (.tup (.cons (.ix (.var 2) (.int 0)) (.cons (.bin .BitXor (.ix (.var 2) (.int 0)) (.var 1)) .nil))))
    .nil)) }
def c_fall_at : CDef := { np := 3, ns := 6, body :=
    (.cons (.asg 3 (.call "first_fall" (.ex (.var 0) (.ex (.var 1) .nil))))
    (.cons (.ifs (.cmp .Is (.var 3) .non)
    (.cons (.ret .non)
    .nil)
    .nil)
    (.cons (.asgT [4, 5] (.var 3))
    (.cons (.ret (.tup (.cons (.str "falls") (.cons (.var 2) (.cons (.var 4) (.cons (.var 5) .nil))))))
    .nil)))) }
def c_misfit_at : CDef := { np := 4, ns := 6, body :=
    (.cons (.asg 4 (.call "first_misfit" (.ex (.var 0) (.ex (.var 1) (.ex (.var 2) (.ex (.var 3) .nil))))))
    (.cons (.ifs (.cmp .Is (.var 4) .non)
    (.cons (.ret .non)
    .nil)
    .nil)
    (.cons (.ifs (.cmp .Eq (.call "family_of" (.ex (.var 0) .nil)) (.str "affine"))
    (.cons (.asg 5 (.call "lowest_bit" (.ex (.var 4) .nil)))
    (.cons (.ret (.tup (.cons (.str "four") (.cons (.var 3) (.cons (.int 0) (.cons (.var 5) (.cons (.bin .BitXor (.var 4) (.var 5)) .nil)))))))
    .nil))
    .nil)
    (.cons (.ret (.tup (.cons (.str "heavy") (.cons (.var 3) (.cons (.var 4) .nil)))))
    .nil)))) }
def c_evidence_at : CDef := { np := 4, ns := 8, body :=
    (.cons (.asg 4 (.call "result_bit" (.ex (.var 1) (.ex (.var 2) (.ex (.var 3) .nil)))))
    (.cons (.asg 5 (.call "stray_bits" (.ex (.var 0) (.ex (.var 1) (.ex (.var 2) (.ex (.var 3) .nil))))))
    (.cons (.ifs (.cmp .NotEq (.var 5) (.int 0))
    (.cons (.asgT [6, 7] (.call "first_apart" (.ex (.var 4) (.ex (.call "lowest_bit" (.ex (.var 5) .nil)) .nil))))
    (.cons (.ret (.tup (.cons (.str "apart") (.cons (.var 3) (.cons (.var 6) (.cons (.var 7) .nil))))))
    .nil))
    .nil)
    (.cons (.ifs (.cmp .Eq (.call "family_of" (.ex (.var 0) .nil)) (.str "monotone"))
    (.cons (.ret (.call "fall_at" (.ex (.var 1) (.ex (.var 4) (.ex (.var 3) .nil)))))
    .nil)
    .nil)
    (.cons (.ret (.call "misfit_at" (.ex (.var 0) (.ex (.var 1) (.ex (.var 2) (.ex (.var 3) .nil))))))
    .nil))))) }
def c_evidence_against : CDef := { np := 3, ns := 5, body :=
    (.cons (.exp (.call "check_name" (.ex (.var 0) .nil)))
    (.cons (.fors (.nm 3) (.rng (.cons (.ix (.var 1) (.int 0)) .nil))
    (.cons (.asg 4 (.call "evidence_at" (.ex (.var 0) (.ex (.var 1) (.ex (.var 2) (.ex (.var 3) .nil))))))
    (.cons (.ifs (.cmp .IsNot (.var 4) .non)
    (.cons (.ret (.var 4))
    .nil)
    .nil)
    .nil)))
    (.cons (.ret .non)
    .nil))) }
def c_is_input_number : CDef := { np := 2, ns := 2, body :=
    (.cons (.ret (.bop true (.cons (.call "is_integer" (.ex (.var 1) .nil)) (.cons (.chn .LtE .Lt (.int 0) (.var 1) (.call "table_size" (.ex (.var 0) .nil))) .nil))))
    .nil) }
def c_has_form : CDef := { np := 3, ns := 7, body :=
    (.cons (.ifs (.bop false (.cons (.nt (.isi .tup (.var 2))) (.cons (.cmp .Lt (.bi .len (.cons (.var 2) .nil)) (.int 2)) .nil)))
    (.cons (.ret (.bl false))
    .nil)
    .nil)
    (.cons (.asgS [3, 4] 5 (.var 2))
    (.cons (.ifs (.cmp .NotIn (.var 3) (.ix (.gd "KINDS" k_KINDS) (.call "family_of" (.ex (.var 0) .nil))))
    (.cons (.ret (.bl false))
    .nil)
    .nil)
    (.cons (.ifs (.bop false (.cons (.nt (.call "is_place" (.ex (.var 1) (.ex (.var 4) .nil)))) (.cons (.cmp .NotEq (.bi .len (.cons (.var 5) .nil)) (.ix (.gd "NUMBERS" k_NUMBERS) (.var 3))) .nil)))
    (.cons (.ret (.bl false))
    .nil)
    .nil)
    (.cons (.ret (.bi .all (.cons (.lc (.nm 6) (.ex (.var 5)) .nil (.call "is_input_number" (.ex (.var 1) (.ex (.var 6) .nil)))) .nil)))
    .nil))))) }
def c_is_apart : CDef := { np := 4, ns := 4, body :=
    (.cons (.ret (.bop true (.cons (.cmp .Eq (.bin .BitAnd (.bin .BitXor (.var 2) (.var 3)) (.var 1)) (.int 0)) (.cons (.cmp .NotEq (.ix (.var 0) (.var 2)) (.ix (.var 0) (.var 3))) .nil))))
    .nil) }
def c_is_fall : CDef := { np := 3, ns := 3, body :=
    (.cons (.ret (.bop true (.cons (.cmp .Eq (.bin .BitAnd (.var 1) (.var 2)) (.var 1)) (.cons (.cmp .Eq (.ix (.var 0) (.var 1)) (.int 1)) (.cons (.cmp .Eq (.ix (.var 0) (.var 2)) (.int 0)) .nil)))))
    .nil) }
def c_is_odd_four : CDef := { np := 4, ns := 4, body :=
    (.cons (.ret (.cmp .Eq (.bin .BitAnd (.bin .Add (.bin .Add (.bin .Add (.ix (.var 0) (.var 1)) (.ix (.var 0) (.var 2))) (.ix (.var 0) (.var 3))) (.ix (.var 0) (.bin .BitXor (.bin .BitXor (.var 1) (.var 2)) (.var 3)))) (.int 1)) (.int 1)))
    .nil) }
def c_is_term : CDef := { np := 2, ns := 4, body :=
    (.cons (.ret (.cmp .Eq (.bin .BitAnd (.bi .sum (.cons (.lc (.tp [2, 3]) (.enu (.var 0)) (.cons (.cmp .Eq (.bin .BitOr (.var 2) (.var 1)) (.var 1)) .nil) (.var 3)) .nil)) (.int 1)) (.int 1)))
    .nil) }
def c_shows_against : CDef := { np := 4, ns := 8, body :=
    (.cons (.exp (.call "check_name" (.ex (.var 0) .nil)))
    (.cons (.ifs (.nt (.call "has_form" (.ex (.var 0) (.ex (.var 1) (.ex (.var 3) .nil)))))
    (.cons (.ret (.bl false))
    .nil)
    .nil)
    (.cons (.asgS [5, 6] 7 (.var 3))
    (.cons (.asg 4 (.call "result_bit" (.ex (.var 1) (.ex (.var 2) (.ex (.var 6) .nil)))))
    (.cons (.ifs (.cmp .Eq (.var 5) (.str "apart"))
    (.cons (.ret (.call "is_apart" (.ex (.var 4) (.ex (.call "may_count" (.ex (.var 0) (.ex (.var 1) (.ex (.var 6) .nil)))) (.ex (.ix (.var 7) (.int 0)) (.ex (.ix (.var 7) (.int 1)) .nil))))))
    .nil)
    .nil)
    (.cons (.ifs (.cmp .Eq (.var 5) (.str "falls"))
    (.cons (.ret (.call "is_fall" (.ex (.var 4) (.ex (.ix (.var 7) (.int 0)) (.ex (.ix (.var 7) (.int 1)) .nil)))))
    .nil)
    .nil)
    (.cons (.ifs (.cmp .Eq (.var 5) (.str "four"))
    (.cons (.ret (.call "is_odd_four" (.ex (.var 4) (.ex (.ix (.var 7) (.int 0)) (.ex (.ix (.var 7) (.int 1)) (.ex (.ix (.var 7) (.int 2)) .nil))))))
    .nil)
    .nil)
    (.cons (.ret (.bop true (.cons (.nt (.call "term_fits" (.ex (.var 0) (.ex (.var 1) (.ex (.var 6) (.ex (.ix (.var 7) (.int 0)) .nil)))))) (.cons (.call "is_term" (.ex (.var 4) (.ex (.ix (.var 7) (.int 0)) .nil))) .nil))))
    .nil)))))))) }
def c__law_all_shown : CDef := { np := 4, ns := 5, body :=
    (.cons (.ret (.bi .all (.cons (.lc (.nm 4) (.ex (.var 2)) .nil (.cmp .Is (.call "shows_against" (.ex (.var 4) (.ex (.var 0) (.ex (.var 1) (.ex (.var 3) .nil))))) (.bl true))) .nil)))
    .nil) }
def c__law_none_found : CDef := { np := 3, ns := 4, body :=
    (.cons (.ret (.cmp .Eq (.lc (.nm 3) (.ex (.var 2)) .nil (.call "evidence_against" (.ex (.var 3) (.ex (.var 0) (.ex (.var 1) .nil))))) (.bin .Mult (.lst (.cons .non .nil)) (.bi .len (.cons (.var 2) .nil)))))
    .nil) }
def c__law_sum_right : CDef := { np := 1, ns := 6, body :=
    (.cons (.par [4, 5] (.cons (.bin .BitOr (.int 1) (.bin .LShift (.int 1) (.ix (.var 0) (.int 0)))) (.cons (.call "known_table" (.ex (.var 0) (.ex (.str "sum") .nil))) .nil)))
    (.cons (.asg 1 (.lst (.cons (.str "any") (.cons (.str "any down") (.cons (.str "affine") (.cons (.str "affine down") (.cons (.str "monotone") .nil)))))))
    (.cons (.ifs (.nt (.call "_law_all_shown" (.ex (.var 0) (.ex (.var 5) (.ex (.var 1) (.ex (.tup (.cons (.str "apart") (.cons (.int 1) (.cons (.int 0) (.cons (.var 4) .nil))))) .nil))))))
    (.cons (.ret (.bl false))
    .nil)
    .nil)
    (.cons (.asg 2 (.tup (.cons (.str "four") (.cons (.int 1) (.cons (.int 0) (.cons (.int 1) (.cons (.bin .LShift (.int 1) (.ix (.var 0) (.int 0))) .nil)))))))
    (.cons (.ifs (.nt (.call "_law_all_shown" (.ex (.var 0) (.ex (.var 5) (.ex (.lst (.cons (.str "affine") (.cons (.str "affine up") (.cons (.str "affine down") (.cons (.str "affine both") .nil))))) (.ex (.var 2) .nil))))))
    (.cons (.ret (.bl false))
    .nil)
    .nil)
    (.cons (.asg 3 (.tup (.cons (.str "falls") (.cons (.int 1) (.cons (.int 2) (.cons (.bin .Mult (.int 2) (.var 4)) .nil))))))
    (.cons (.ifs (.nt (.call "_law_all_shown" (.ex (.var 0) (.ex (.var 5) (.ex (.lst (.cons (.str "monotone") (.cons (.str "monotone up") (.cons (.str "monotone down") (.cons (.str "monotone both") .nil))))) (.ex (.var 3) .nil))))))
    (.cons (.ret (.bl false))
    .nil)
    .nil)
    (.cons (.ret (.call "_law_none_found" (.ex (.var 0) (.ex (.var 5) (.ex (.lst (.cons (.str "adding") (.cons (.str "multiplying") (.cons (.str "any up") (.cons (.str "any both") .nil))))) .nil)))))
    .nil)))))))) }
def c__law_others_right : CDef := { np := 1, ns := 6, body :=
    (.cons (.par [4, 5] (.cons (.ix (.var 0) (.int 0)) (.cons (.bin .BitOr (.int 1) (.bin .LShift (.int 1) (.ix (.var 0) (.int 0)))) .nil)))
    (.cons (.asg 1 (.call "known_table" (.ex (.var 0) (.ex (.str "product") .nil))))
    (.cons (.ifs (.nt (.call "_law_all_shown" (.ex (.var 0) (.ex (.var 1) (.ex (.lst (.cons (.str "adding") .nil)) (.ex (.tup (.cons (.str "heavy") (.cons (.int 0) (.cons (.var 5) .nil)))) .nil))))))
    (.cons (.ret (.bl false))
    .nil)
    .nil)
    (.cons (.ifs (.nt (.call "_law_none_found" (.ex (.var 0) (.ex (.var 1) (.ex (.lst (.cons (.str "multiplying") (.cons (.str "any up") (.cons (.str "any both") .nil)))) .nil)))))
    (.cons (.ret (.bl false))
    .nil)
    .nil)
    (.cons (.asg 1 (.call "known_table" (.ex (.var 0) (.ex (.str "reversed") .nil))))
    (.cons (.asg 2 (.lst (.cons (.str "any") (.cons (.str "any up") (.cons (.str "adding") (.cons (.str "multiplying") (.cons (.str "affine") (.cons (.str "affine up") (.cons (.str "monotone") (.cons (.str "monotone up") .nil))))))))))
    (.cons (.ifs (.nt (.call "_law_all_shown" (.ex (.var 0) (.ex (.var 1) (.ex (.var 2) (.ex (.tup (.cons (.str "apart") (.cons (.int 0) (.cons (.int 0) (.cons (.bin .LShift (.int 1) (.bin .Sub (.var 4) (.int 1))) .nil))))) .nil))))))
    (.cons (.ret (.bl false))
    .nil)
    .nil)
    (.cons (.ifs (.nt (.call "_law_all_shown" (.ex (.var 0) (.ex (.var 1) (.ex (.lst (.cons (.str "adding") (.cons (.str "multiplying") .nil))) (.ex (.tup (.cons (.str "heavy") (.cons (.int 0) (.cons (.bin .LShift (.int 1) (.bin .Sub (.var 4) (.int 1))) .nil)))) .nil))))))
    (.cons (.ret (.bl false))
    .nil)
    .nil)
    (.cons (.asg 3 (.lst (.cons (.str "any") (.cons (.str "any down") (.cons (.str "affine down") (.cons (.str "monotone down") .nil))))))
    (.cons (.ifs (.nt (.call "_law_all_shown" (.ex (.var 0) (.ex (.var 1) (.ex (.var 3) (.ex (.tup (.cons (.str "apart") (.cons (.bin .Sub (.var 4) (.int 1)) (.cons (.int 0) (.cons (.int 1) .nil))))) .nil))))))
    (.cons (.ret (.bl false))
    .nil)
    .nil)
    (.cons (.ifs (.nt (.call "_law_none_found" (.ex (.var 0) (.ex (.var 1) (.ex (.lst (.cons (.str "affine both") (.cons (.str "any both") (.cons (.str "monotone both") .nil)))) .nil)))))
    (.cons (.ret (.bl false))
    .nil)
    .nil)
    (.cons (.asg 1 (.call "known_table" (.ex (.var 0) (.ex (.str "least") .nil))))
    (.cons (.ret (.call "_law_all_shown" (.ex (.var 0) (.ex (.var 1) (.ex (.lst (.cons (.str "any") (.cons (.str "any up") (.cons (.str "adding") .nil)))) (.ex (.tup (.cons (.str "apart") (.cons (.int 0) (.cons (.int 1) (.cons (.bin .BitOr (.int 1) (.bin .LShift (.int 2) (.var 4))) .nil))))) .nil))))))
    .nil))))))))))))) }
def c_is_of : CDef := { np := 2, ns := 4, body :=
    (.cons (.asg 2 (.call "instructions_of" (.ex (.var 0) .nil)))
    (.cons (.ret (.bi .all (.cons (.lc (.nm 3) (.ex (.var 1)) .nil (.cmp .In (.ix (.var 3) (.int 0)) (.var 2))) .nil)))
    .nil)) }
def c_values_in : CDef := { np := 1, ns := 3, body :=
    (.cons (.ret (.lc (.tp [1, 2]) (.zip (.ix (.gd "OPERANDS" k_OPERANDS) (.ix (.var 0) (.int 0))) (.sl (.var 0) (.some (.int 1)) .none)) (.cons (.cmp .Eq (.var 1) (.str "value")) .nil) (.var 2)))
    .nil) }
def c_trimmed : CDef := { np := 2, ns := 7, body :=
    (.cons (.asg 2 (.call "needed_values" (.ex (.var 0) (.ex (.var 1) .nil))))
    (.cons (.asg 3 (.rngL (.cons (.var 1) .nil)))
    (.cons (.asg 4 (.lst .nil))
    (.cons (.fors (.tp [5, 6]) (.enu (.var 0))
    (.cons (.app 3 (.bin .Add (.var 1) (.bi .len (.cons (.var 4) .nil))))
    (.cons (.ifs (.ix (.var 2) (.bin .Add (.var 1) (.var 5)))
    (.cons (.app 4 (.call "renumbered" (.ex (.var 6) (.ex (.var 3) .nil))))
    .nil)
    .nil)
    .nil)))
    (.cons (.ret (.bi .tupleOf (.cons (.var 4) .nil)))
    .nil))))) }
def c_numbered : CDef := { np := 2, ns := 8, body :=
    (.cons (.asg 2 (.rngL (.cons (.var 1) .nil)))
    (.cons (.asg 3 (.lst .nil))
    (.cons (.asg 4 (.dct [] .nil))
    (.cons (.fors (.tp [5, 6]) (.enu (.var 0))
    (.cons (.asg 7 (.call "renumbered" (.ex (.var 6) (.ex (.var 2) .nil))))
    (.cons (.ifs (.bop false (.cons (.cmp .NotIn (.var 7) (.var 4)) (.cons (.cmp .Eq (.var 5) (.bin .Sub (.bi .len (.cons (.var 0) .nil)) (.int 1))) .nil)))
    (.cons (.seti 4 (.var 7) (.bin .Add (.var 1) (.bi .len (.cons (.var 3) .nil))))
    (.cons (.app 3 (.var 7))
    .nil))
    .nil)
    (.cons (.app 2 (.ix (.var 4) (.var 7)))
    .nil))))
    (.cons (.ret (.bi .tupleOf (.cons (.var 3) .nil)))
    .nil))))) }
def c_narrowed : CDef := { np := 2, ns := 4, body :=
    (.cons (.fors (.tp [2, 3]) (.enu (.var 0))
    (.cons (.ifs (.cmp .Eq (.ix (.var 3) (.int 0)) (.str "down"))
    (.cons .nev
    .nil)
    .nil)
    .nil))
    (.cons (.ret (.bi .tupleOf (.cons (.lc (.nm 3) (.ex (.var 0)) .nil (.call "narrowed_step" (.ex (.var 3) (.ex (.bin .Sub (.bin .LShift (.int 1) (.var 1)) (.int 1)) .nil)))) .nil)))
    .nil)) }
def c_chained : CDef := { np := 3, ns := 6, body :=
    (.cons (.asg 3 (.rngL (.cons (.bin .Add (.var 2) (.bi .len (.cons (.var 1) .nil))) .nil)))
    (.cons (.fors (.nm 4) (.rng (.cons (.var 2) (.cons (.bin .Add (.var 2) (.bi .len (.cons (.var 1) .nil))) .nil)))
    (.cons (.seti 3 (.var 4) (.bin .Add (.var 4) (.bi .len (.cons (.var 0) .nil))))
    .nil))
    (.cons (.seti 3 (.int 0) (.bin .Sub (.bin .Add (.var 2) (.bi .len (.cons (.var 0) .nil))) (.int 1)))
    (.cons (.ret (.bin .Add (.var 0) (.bi .tupleOf (.cons (.lc (.nm 5) (.ex (.var 1)) .nil (.call "renumbered" (.ex (.var 5) (.ex (.var 3) .nil)))) .nil))))
    .nil)))) }
def c__law_operands : CDef := { np := 1, ns := 1, body :=
    (.cons (.ifs (.cmp .Eq (.ix (.var 0) (.int 0)) (.str "const"))
    (.cons (.ret (.tup .nil))
    .nil)
    .nil)
    (.cons (.ret (.ite (.cmp .Eq (.ix (.var 0) (.int 0)) (.str "mask")) (.sl (.var 0) (.some (.int 1)) (.some (.int 2))) (.sl (.var 0) (.some (.int 1)) .none)))
    .nil)) }
def c__law_moved : CDef := { np := 2, ns := 4, body :=
    (.cons (.asg 2 (.bi .tupleOf (.cons (.lc (.nm 3) (.ex (.call "_law_operands" (.ex (.var 0) .nil))) .nil (.ix (.var 1) (.var 3))) .nil)))
    (.cons (.ret (.bin .Add (.bin .Add (.sl (.var 0) .none (.some (.int 1))) (.var 2)) (.sl (.var 0) (.some (.bin .Add (.int 1) (.bi .len (.cons (.var 2) .nil)))) .none)))
    .nil)) }
def c__law_alike : CDef := { np := 3, ns := 10, body :=
    (.cons (.par [4, 5] (.cons (.lst (.cons (.call "_law_of" (.io 0 (.ex (.lst (.cons (.str "not") (.cons (.str "up") (.cons (.str "down") .nil)))) .nil))) (.cons (.call "_law_of" (.io 0 (.ex (.lst (.cons (.str "and") (.cons (.str "or") (.cons (.str "xor") (.cons (.str "add") (.cons (.str "sub") (.cons (.str "mul") .nil))))))) .nil))) .nil))) (.cons (.lst .nil) .nil)))
    (.cons (.fors (.nm 3) (.rng (.cons (.bin .Add (.int 1) (.call "_law_take" (.io 0 (.ex (.var 2) .nil)))) .nil))
    (.cons (.par [6, 7] (.cons (.call "_law_of" (.io 0 (.ex (.bin .Add (.var 4) (.lst (.cons (.str "const") (.cons (.str "mask") .nil)))) .nil))) (.cons (.bin .Add (.ix (.var 1) (.int 1)) (.var 3)) .nil)))
    (.cons (.par [8, 9] (.cons (.call "_law_take" (.io 0 (.ex (.var 7) .nil))) (.cons (.call "_law_take" (.io 0 (.ex (.bi .min2 (.cons (.int 2) (.cons (.var 7) .nil))) .nil))) .nil)))
    (.cons (.ifs (.cmp .Eq (.var 6) (.str "const"))
    (.cons (.app 5 (.tup (.cons (.var 6) (.cons (.call "_law_take" (.io 0 (.ex (.int 2) .nil))) .nil))))
    .nil)
    (.cons (.ifs (.cmp .Eq (.var 6) (.str "mask"))
    (.cons (.app 5 (.tup (.cons (.var 6) (.cons (.var 8) (.cons (.call "_law_take" (.io 0 (.ex (.int 2) .nil))) .nil)))))
    .nil)
    (.cons (.app 5 (.ite (.cmp .In (.var 6) (.tup (.cons (.str "not") (.cons (.str "up") (.cons (.str "down") .nil))))) (.tup (.cons (.var 6) (.cons (.var 9) .nil))) (.tup (.cons (.var 6) (.cons (.var 8) (.cons (.var 9) .nil))))))
    .nil))
    .nil))
    .nil))))
    (.cons (.ret (.bi .tupleOf (.cons (.var 5) .nil)))
    .nil))) }
def c__law_is_count : CDef := { np := 3, ns := 3, body :=
    (.cons (.ret (.bop true (.cons (.isi .int (.var 0)) (.cons (.nt (.isi .bl (.var 0))) (.cons (.chn .LtE .LtE (.var 1) (.var 0) (.var 2)) .nil)))))
    .nil) }
def c__law_is_form : CDef := { np := 1, ns := 1, body :=
    (.cons (.ifs (.bop false (.cons (.nt (.isi .tup (.var 0))) (.cons (.cmp .NotEq (.bi .len (.cons (.var 0) .nil)) (.int 2)) .nil)))
    (.cons (.ret (.bl false))
    .nil)
    .nil)
    (.cons (.ifs (.bop false (.cons (.nt (.call "_law_is_count" (.ex (.ix (.var 0) (.int 0)) (.ex (.int 1) (.ex (.int 8) .nil))))) (.cons (.nt (.call "_law_is_count" (.ex (.ix (.var 0) (.int 1)) (.ex (.int 1) (.ex (.int 4) .nil))))) .nil)))
    (.cons (.ret (.bl false))
    .nil)
    .nil)
    (.cons (.ret (.cmp .LtE (.bin .Mult (.ix (.var 0) (.int 0)) (.ix (.var 0) (.int 1))) (.int 8)))
    .nil))) }
def c__law_is_list : CDef := { np := 2, ns := 3, body :=
    (.cons (.ifs (.bop false (.cons (.nt (.isi .tup (.var 1))) (.cons (.cmp .NotEq (.bi .len (.cons (.var 1) .nil)) (.bin .LShift (.int 1) (.bin .Mult (.ix (.var 0) (.int 0)) (.ix (.var 0) (.int 1))))) .nil)))
    (.cons (.ret (.bl false))
    .nil)
    .nil)
    (.cons (.ret (.bi .all (.cons (.lc (.nm 2) (.ex (.var 1)) .nil (.call "_law_is_count" (.ex (.var 2) (.ex (.int 0) (.ex (.bin .Sub (.bin .LShift (.int 1) (.ix (.var 0) (.int 0))) (.int 1)) .nil))))) .nil)))
    .nil)) }
def c__law_odd : CDef := { np := 2, ns := 5, body :=
    (.cons (.asg 2 (.lst (.cons .non (.cons (.bl true) (.cons (.bl false) (.cons (.neg (.int 1)) (.cons (.bin .Pow (.int 10) (.int 30)) (.cons (.str "") (.cons (.str "0") (.cons (.tup .nil) (.cons (.lst (.cons (.int 0) .nil)) (.cons (.dct [] .nil) (.cons (.tup (.cons (.int 0) .nil)) (.cons (.int 256) .nil))))))))))))))
    (.cons (.ifs (.bop false (.cons (.nt (.isi .tup (.var 1))) (.cons (.cmp .Eq (.var 1) (.tup .nil)) .nil)))
    (.cons (.ret (.call "_law_of" (.io 0 (.ex (.var 2) .nil))))
    .nil)
    .nil)
    (.cons (.par [3, 4] (.cons (.call "_law_take" (.io 0 (.ex (.bi .len (.cons (.var 1) .nil)) .nil))) (.cons (.call "_law_take" (.io 0 (.ex (.int 8) .nil))) .nil)))
    (.cons (.ifs (.cmp .Eq (.var 4) (.int 0))
    (.cons (.ret (.bin .Add (.sl (.var 1) .none (.some (.var 3))) (.sl (.var 1) (.some (.bin .Add (.var 3) (.int 1))) .none)))
    .nil)
    .nil)
    (.cons (.ifs (.cmp .Eq (.var 4) (.int 1))
    (.cons (.ret (.bin .Add (.sl (.var 1) .none (.some (.bin .Add (.var 3) (.int 1)))) (.sl (.var 1) (.some (.var 3)) .none)))
    .nil)
    .nil)
    (.cons (.ifs (.cmp .Eq (.var 4) (.int 2))
    (.cons (.ret (.bi .listOf (.cons (.var 1) .nil)))
    .nil)
    .nil)
    (.cons (.ret (.bin .Add (.bin .Add (.sl (.var 1) .none (.some (.var 3))) (.tup (.cons (.call "_law_of" (.io 0 (.ex (.var 2) .nil))) .nil))) (.sl (.var 1) (.some (.bin .Add (.var 3) (.int 1))) .none)))
    .nil))))))) }
def c__law_is_step : CDef := { np := 3, ns := 5, body :=
    (.cons (.ifs (.bop false (.cons (.nt (.isi .tup (.var 1))) (.cons (.cmp .Lt (.bi .len (.cons (.var 1) .nil)) (.int 2)) (.cons (.nt (.isi .str (.ix (.var 1) (.int 0)))) .nil))))
    (.cons (.ret (.bl false))
    .nil)
    .nil)
    (.cons (.par [3, 4] (.cons (.ix (.var 1) (.int 0)) (.cons (.bin .LShift (.int 1) (.ix (.var 0) (.int 0))) .nil)))
    (.cons (.ifs (.cmp .Eq (.var 3) (.str "const"))
    (.cons (.ret (.bop true (.cons (.cmp .Eq (.bi .len (.cons (.var 1) .nil)) (.int 2)) (.cons (.call "_law_is_count" (.ex (.ix (.var 1) (.int 1)) (.ex (.var 4) .nil))) .nil))))
    .nil)
    .nil)
    (.cons (.ifs (.cmp .Eq (.var 3) (.str "mask"))
    (.cons (.ret (.bop true (.cons (.cmp .Eq (.bi .len (.cons (.var 1) .nil)) (.int 3)) (.cons (.call "_law_is_count" (.ex (.ix (.var 1) (.int 1)) (.ex (.var 2) .nil))) (.cons (.call "_law_is_count" (.ex (.ix (.var 1) (.int 2)) (.ex (.var 4) .nil))) .nil)))))
    .nil)
    .nil)
    (.cons (.ifs (.cmp .In (.var 3) (.tup (.cons (.str "not") (.cons (.str "up") (.cons (.str "down") .nil)))))
    (.cons (.ret (.bop true (.cons (.cmp .Eq (.bi .len (.cons (.var 1) .nil)) (.int 2)) (.cons (.call "_law_is_count" (.ex (.ix (.var 1) (.int 1)) (.ex (.var 2) .nil))) .nil))))
    .nil)
    .nil)
    (.cons (.ifs (.bop false (.cons (.cmp .NotIn (.var 3) (.tup (.cons (.str "and") (.cons (.str "or") (.cons (.str "xor") (.cons (.str "add") (.cons (.str "sub") (.cons (.str "mul") .nil)))))))) (.cons (.cmp .NotEq (.bi .len (.cons (.var 1) .nil)) (.int 3)) .nil)))
    (.cons (.ret (.bl false))
    .nil)
    .nil)
    (.cons (.ret (.bop true (.cons (.call "_law_is_count" (.ex (.ix (.var 1) (.int 1)) (.ex (.var 2) .nil))) (.cons (.call "_law_is_count" (.ex (.ix (.var 1) (.int 2)) (.ex (.var 2) .nil))) .nil))))
    .nil))))))) }
def c__law_is_plan : CDef := { np := 2, ns := 4, body :=
    (.cons (.ifs (.bop false (.cons (.nt (.isi .tup (.var 1))) (.cons (.cmp .Eq (.var 1) (.tup .nil)) .nil)))
    (.cons (.ret (.bl false))
    .nil)
    .nil)
    (.cons (.ret (.bi .all (.cons (.lc (.tp [2, 3]) (.enu (.var 1)) .nil (.call "_law_is_step" (.ex (.var 0) (.ex (.var 3) (.ex (.bin .Add (.ix (.var 0) (.int 1)) (.var 2)) .nil))))) .nil)))
    .nil)) }
def c_bits_at : CDef := { np := 3, ns := 4, body :=
    (.cons (.ret (.lc (.nm 3) (.ex (.call "bits_of" (.ex (.var 0) (.ex (.var 1) .nil)))) (.cons (.cmp .Eq (.bin .Mod (.var 3) (.ix (.var 0) (.int 0))) (.var 2)) .nil) (.var 3)))
    .nil) }
def c_tree_for : CDef := { np := 3, ns := 6, body :=
    (.cons (.asg 3 (.call "least_place" (.ex (.var 0) (.ex (.var 1) .nil))))
    (.cons (.ifs (.cmp .Lt (.var 2) (.var 3))
    (.cons .nev
    .nil)
    .nil)
    (.cons (.asg 4 (.call "bits_at" (.ex (.var 0) (.ex (.var 1) (.ex (.int 0) .nil)))))
    (.cons (.fors (.nm 5) (.rng (.cons (.int 1) (.cons (.bin .Add (.var 2) (.int 1)) .nil)))
    (.cons (.asg 4 (.bin .Add (.call "merged" (.ex (.var 4) .nil)) (.call "bits_at" (.ex (.var 0) (.ex (.var 1) (.ex (.var 5) .nil))))))
    .nil))
    (.cons (.ret (.ix (.var 4) (.int 0)))
    .nil))))) }
def c_is_input_bit : CDef := { np := 3, ns := 3, body :=
    (.cons (.ret (.bop true (.cons (.call "is_integer" (.ex (.var 2) .nil)) (.cons (.chn .LtE .Lt (.int 0) (.var 2) (.call "input_bits" (.ex (.var 0) .nil))) (.cons (.cmp .Eq (.bin .Mod (.var 2) (.ix (.var 0) (.int 0))) (.var 1)) .nil)))))
    .nil) }
def c_parts_of : CDef := { np := 1, ns := 1, body :=
    (.cons (.ifs (.bop false (.cons (.nt (.isi .tup (.var 0))) (.cons (.cmp .Eq (.bi .len (.cons (.var 0) .nil)) (.int 0)) .nil)))
    (.cons (.ret (.tup .nil))
    .nil)
    .nil)
    (.cons (.ifs (.bop false (.cons (.bop true (.cons (.cmp .Eq (.ix (.var 0) (.int 0)) (.str "raise")) (.cons (.cmp .Eq (.bi .len (.cons (.var 0) .nil)) (.int 2)) .nil))) (.cons (.bop true (.cons (.cmp .Eq (.ix (.var 0) (.int 0)) (.str "join")) (.cons (.cmp .Eq (.bi .len (.cons (.var 0) .nil)) (.int 3)) .nil))) .nil)))
    (.cons (.ret (.sl (.var 0) (.some (.int 1)) .none))
    .nil)
    .nil)
    (.cons (.ret (.tup .nil))
    .nil))) }
def c_tree_bits : CDef := { np := 3, ns := 6, body :=
    (.cons (.ifs (.call "is_input_bit" (.ex (.var 0) (.ex (.var 1) (.ex (.var 2) .nil))))
    (.cons (.ret (.bin .LShift (.int 1) (.var 2)))
    .nil)
    .nil)
    (.cons (.asg 3 (.int 0))
    (.cons (.fors (.nm 4) (.ex (.call "parts_of" (.ex (.var 2) .nil)))
    (.cons (.asg 5 (.call "tree_bits" (.ex (.var 0) (.ex (.bin .Sub (.var 1) (.int 1)) (.ex (.var 4) .nil)))))
    (.cons (.ifs (.bop false (.cons (.cmp .Eq (.var 5) (.int 0)) (.cons (.cmp .NotEq (.bin .BitAnd (.var 5) (.var 3)) (.int 0)) .nil)))
    (.cons (.ret (.int 0))
    .nil)
    .nil)
    (.cons (.asg 3 (.bin .BitOr (.var 3) (.var 5)))
    .nil))))
    (.cons (.ret (.var 3))
    .nil)))) }
def c_shows_tree : CDef := { np := 4, ns := 4, body :=
    (.cons (.ret (.cmp .Eq (.call "tree_bits" (.ex (.var 0) (.ex (.var 2) (.ex (.var 3) .nil)))) (.var 1)))
    .nil) }
def c__law_is_whole : CDef := { np := 1, ns := 1, body :=
    (.cons (.ret (.bop true (.cons (.isi .int (.var 0)) (.cons (.nt (.isi .bl (.var 0))) .nil))))
    .nil) }
def c__law_put_together : CDef := { np := 1, ns := 4, body :=
    (.cons (.asg 1 (.lst .nil))
    (.cons (.fors (.tp [2, 3]) (.ex (.var 0))
    (.cons (.ext 1 (.var 3))
    .nil))
    (.cons (.ret (.var 1))
    .nil))) }
def c__law_term_right : CDef := { np := 3, ns := 5, body :=
    (.cons (.asg 3 (.call "_law_low" (.ex (.var 0) (.ex (.var 1) .nil))))
    (.cons (.ifs (.cmp .Lt (.var 2) (.var 3))
    (.cons (.ret (.cmp .Eq (.bi .repr (.cons (.call "_law_low_told" (.ex (.var 0) (.ex (.var 1) (.ex (.var 2) .nil)))) .nil)) (.bi .repr (.cons (.var 3) .nil))))
    .nil)
    .nil)
    (.cons (.asg 4 (.call "tree_for" (.ex (.var 0) (.ex (.var 1) (.ex (.var 2) .nil)))))
    (.cons (.ret (.bop true (.cons (.call "_law_is_tree" (.ex (.var 0) (.ex (.var 1) (.ex (.var 2) (.ex (.var 4) .nil))))) (.cons (.cmp .Is (.call "shows_tree" (.ex (.var 0) (.ex (.var 1) (.ex (.var 2) (.ex (.var 4) .nil))))) (.bl true)) .nil))))
    .nil)))) }
def c__law_things : CDef := { np := 2, ns := 4, body :=
    (.cons (.asg 2 (.lst (.cons (.var 1) (.cons (.tup (.cons (.str "raise") (.cons (.var 1) .nil))) (.cons (.tup (.cons (.str "join") (.cons (.var 1) (.cons (.var 1) .nil)))) (.cons (.lst (.cons (.var 1) .nil)) .nil))))))
    (.cons (.app 2 (.ite (.isi .tup (.var 1)) (.bi .listOf (.cons (.var 1) .nil)) .non))
    (.cons (.fors (.nm 3) (.rng (.cons (.int 8) .nil))
    (.cons (.ext 2 (.lst (.cons (.call "_law_bent" (.io 0 (.ex (.var 1) .nil))) (.cons (.call "_law_bent" (.io 0 (.ex (.call "_law_bent" (.io 0 (.ex (.var 1) .nil))) .nil))) .nil))))
    .nil))
    (.cons (.ret (.bin .Add (.var 2) (.lst (.cons .non (.cons (.bl true) (.cons (.bl false) (.cons (.int 0) (.cons (.int 1) (.cons (.neg (.int 1)) (.cons (.int 7) (.cons (.int 8) (.cons (.str "raise") (.cons (.tup .nil) (.cons (.lst .nil) (.cons (.dct [] .nil) (.cons (.tup (.cons (.str "raise") .nil)) (.cons (.tup (.cons (.str "join") (.cons (.int 0) .nil))) (.cons (.tup (.cons (.str "raise") (.cons (.int 0) (.cons (.int 1) .nil)))) .nil))))))))))))))))))
    .nil)))) }
def c__law_searched_right : CDef := { np := 1, ns := 11, body :=
    (.cons (.asg 1 (.lst (.cons (.tup .nil) .nil)))
    (.cons (.fors (.nm 2) (.ex (.call "_law_numbers" (.ex (.var 0) .nil)))
    (.cons (.asg 1 (.bin .Add (.lc (.nm 7) (.ex (.var 1)) .nil (.bin .Add (.var 7) (.tup (.cons (.int 0) .nil)))) (.lc (.nm 7) (.ex (.var 1)) .nil (.bin .Add (.var 7) (.tup (.cons (.int 1) .nil))))))
    .nil))
    (.cons (.fors (.nm 3) (.ex (.call0 "_law_bases"))
    (.cons (.asg 4 (.int 1))
    (.cons (.fors (.nm 5) (.rng (.cons (.ix (.var 0) (.int 0)) .nil))
    (.cons (.asg 6 (.lc (.nm 8) (.ex (.var 1)) .nil (.bi .tupleOf (.cons (.lc (.nm 9) (.ex (.var 8)) .nil (.bin .LShift (.var 9) (.var 5))) .nil))))
    (.cons (.asg 4 (.bin .Mult (.var 4) (.bi .len (.cons (.lc (.nm 10) (.ex (.var 6)) (.cons (.call "_law_fits" (.ex (.var 0) (.ex (.var 3) (.ex (.var 10) (.ex (.var 5) .nil))))) .nil) (.var 10)) .nil))))
    .nil)))
    (.cons (.ifs (.cmp .NotEq (.call "count_functions" (.ex (.var 3) (.ex (.var 0) .nil))) (.var 4))
    (.cons (.ret (.bl false))
    .nil)
    .nil)
    .nil))))
    (.cons (.ret (.bl true))
    .nil)))) }
def c_least_numbers : CDef := { np := 2, ns := 5, body :=
    (.cons (.ret (.lc (.tp [2, 3]) (.enu (.var 1)) (.cons (.bop true (.cons (.cmp .Eq (.var 3) (.int 1)) (.cons (.nt (.bi .any (.cons (.lc (.nm 4) (.ex (.call "bits_of" (.ex (.var 0) (.ex (.var 2) .nil)))) .nil (.cmp .Eq (.ix (.var 1) (.bin .BitXor (.var 2) (.bin .LShift (.int 1) (.var 4)))) (.int 1))) .nil))) .nil))) .nil) (.var 2)))
    .nil) }
def c_program_for : CDef := { np := 3, ns := 4, body :=
    (.cons (.fors (.nm 3) (.rng (.cons (.ix (.var 1) (.int 0)) .nil))
    (.cons (.ifs (.nt (.call "bit_fits" (.ex (.var 0) (.ex (.var 1) (.ex (.var 2) (.ex (.var 3) .nil))))))
    (.cons .nev
    .nil)
    .nil)
    .nil))
    (.cons (.ret (.call "built" (.ex (.var 0) (.ex (.var 1) (.ex (.var 2) .nil)))))
    .nil)) }
def c__law_arithmetic_right : CDef := { np := 1, ns := 6, body :=
    (.cons (.asgT [2, 3] (.var 0))
    (.cons (.asg 1 (.tup (.cons (.str "adding") (.cons (.str "any both") (.cons (.str "any up") (.cons (.str "multiplying") .nil))))))
    (.cons (.par [4, 5] (.cons (.call "known_table" (.ex (.var 0) (.ex (.str "sum") .nil))) (.cons (.call "known_table" (.ex (.var 0) (.ex (.str "product") .nil))) .nil)))
    (.cons (.ifs (.bop true (.cons (.cmp .Gt (.var 2) (.int 1)) (.cons (.bop false (.cons (.cmp .NotEq (.call "sets_for" (.ex (.var 0) (.ex (.var 4) .nil))) (.var 1)) (.cons (.cmp .NotEq (.call "least_sets" (.ex (.var 0) (.ex (.var 4) .nil))) (.tup (.cons (.str "adding") .nil))) .nil))) .nil)))
    (.cons (.ret (.bl false))
    .nil)
    .nil)
    (.cons (.ifs (.bop false (.cons (.nt (.call "computes" (.ex (.str "multiplying") (.ex (.var 0) (.ex (.var 5) .nil))))) (.cons (.nt (.call "computes" (.ex (.str "any up") (.ex (.var 0) (.ex (.var 5) .nil))))) .nil)))
    (.cons (.ret (.bl false))
    .nil)
    .nil)
    (.cons (.ret (.bop true (.cons (.nt (.call "computes" (.ex (.str "adding") (.ex (.var 0) (.ex (.var 5) .nil))))) (.cons (.bop false (.cons (.cmp .Eq (.var 2) (.int 1)) (.cons (.nt (.call "computes" (.ex (.str "any") (.ex (.var 0) (.ex (.var 5) .nil))))) .nil))) .nil))))
    .nil)))))) }
def c__law_bitwise_right : CDef := { np := 1, ns := 3, body :=
    (.cons (.fors (.nm 1) (.ex (.tup (.cons (.str "and") (.cons (.str "or") (.cons (.str "xor") .nil)))))
    (.cons (.asg 2 (.call "known_table" (.ex (.var 0) (.ex (.var 1) .nil))))
    (.cons (.ifs (.bop false (.cons (.nt (.call "computes" (.ex (.str "any") (.ex (.var 0) (.ex (.var 2) .nil))))) (.cons (.cmp .NotEq (.call "computes" (.ex (.str "monotone") (.ex (.var 0) (.ex (.var 2) .nil)))) (.cmp .NotEq (.var 1) (.str "xor"))) .nil)))
    (.cons (.ret (.bl false))
    .nil)
    .nil)
    (.cons (.ifs (.bop false (.cons (.cmp .NotEq (.call "computes" (.ex (.str "affine") (.ex (.var 0) (.ex (.var 2) .nil)))) (.cmp .Eq (.var 1) (.str "xor"))) (.cons (.cmp .NotEq (.call "computes" (.ex (.str "adding") (.ex (.var 0) (.ex (.var 2) .nil)))) (.cmp .Eq (.var 1) (.str "xor"))) .nil)))
    (.cons (.ret (.bl false))
    .nil)
    .nil)
    .nil))))
    (.cons (.ret (.cmp .Eq (.call "least_sets" (.ex (.var 0) (.ex (.call "known_table" (.ex (.var 0) (.ex (.str "xor") .nil))) .nil))) (.tup (.cons (.str "affine") .nil))))
    .nil)) }
def c__law_reversed_right : CDef := { np := 1, ns := 6, body :=
    (.cons (.asg 1 (.call "known_table" (.ex (.var 0) (.ex (.str "reversed") .nil))))
    (.cons (.asg 2 (.tup (.cons (.str "affine both") (.cons (.str "any both") (.cons (.str "monotone both") .nil)))))
    (.cons (.ifs (.bop true (.cons (.cmp .Gt (.ix (.var 0) (.int 0)) (.int 1)) (.cons (.cmp .NotEq (.call "sets_for" (.ex (.var 0) (.ex (.var 1) .nil))) (.var 2)) .nil)))
    (.cons (.ret (.bl false))
    .nil)
    .nil)
    (.cons (.asg 3 (.ite (.cmp .Eq (.bin .Mod (.ix (.var 0) (.int 0)) (.int 2)) (.int 1)) (.bin .LShift (.int 1) (.bin .FloorDiv (.ix (.var 0) (.int 0)) (.int 2))) (.int 0)))
    (.cons (.ifs (.cmp .NotEq (.call "given_bits" (.ex (.str "affine") (.ex (.var 0) (.ex (.var 1) .nil)))) (.var 3))
    (.cons (.ret (.bl false))
    .nil)
    .nil)
    (.cons (.asg 4 (.bi .sum (.cons (.lc (.nm 5) (.rng (.cons (.ix (.var 0) (.int 0)) .nil)) (.cons (.cmp .LtE (.bin .Sub (.bin .Sub (.ix (.var 0) (.int 0)) (.int 1)) (.var 5)) (.var 5)) .nil) (.bin .LShift (.int 1) (.var 5))) .nil)))
    (.cons (.ret (.cmp .Eq (.call "given_bits" (.ex (.str "monotone up") (.ex (.var 0) (.ex (.var 1) .nil)))) (.var 4)))
    .nil))))))) }
def c__law_built_right : CDef := { np := 2, ns := 5, body :=
    (.cons (.asg 2 (.call "known_table" (.ex (.var 0) (.ex (.var 1) .nil))))
    (.cons (.fors (.nm 3) (.ex (.call0 "set_names"))
    (.cons (.ifs (.call "computes" (.ex (.var 3) (.ex (.var 0) (.ex (.var 2) .nil))))
    (.cons (.asg 4 (.call "program_for" (.ex (.var 3) (.ex (.var 0) (.ex (.var 2) .nil)))))
    (.cons (.ifs (.bop false (.cons (.cmp .NotEq (.call "table_of" (.ex (.var 0) (.ex (.var 4) .nil))) (.var 2)) (.cons (.nt (.call "is_of" (.ex (.var 3) (.ex (.var 4) .nil)))) (.cons (.cmp .IsNot (.call "evidence_against" (.ex (.var 3) (.ex (.var 0) (.ex (.var 2) .nil)))) .non) .nil))))
    (.cons (.ret (.bl false))
    .nil)
    .nil)
    .nil))
    (.cons (.ifs (.cmp .Is (.call "evidence_against" (.ex (.var 3) (.ex (.var 0) (.ex (.var 2) .nil)))) .non)
    (.cons (.ret (.bl false))
    .nil)
    .nil)
    .nil))
    .nil))
    (.cons (.ret (.bl true))
    .nil))) }
end Wr.Cd

namespace Lw_k03
open PySem PySem.Spec L2 Wr Wr.Cd
def c_law : CDef := { np := 1, ns := 10, body :=
    (.cons (.asg 1 (.lst (.cons (.str "and") (.cons (.str "first") (.cons (.str "greatest") (.cons (.str "least") (.cons (.str "ones") (.cons (.str "or") (.cons (.str "product") (.cons (.str "reversed") (.cons (.str "sum") (.cons (.str "xor") .nil))))))))))))
    (.cons (.fors (.nm 2) (.rng (.cons (.bi .max2 (.cons (.int 1) (.cons (.bi .min2 (.cons (.int 3) (.cons (.bi .len (.cons (.var 0) .nil)) .nil))) .nil))) .nil))
    (.cons (.asg 3 (.call "_law_pot" (.ex (.var 0) (.ex (.var 2) .nil))))
    (.cons (.fors (.nm 4) (.rng (.cons (.int 2) .nil))
    (.cons (.asg 5 (.call "_law_shape" (.io 3 (.ex (.int 8) .nil))))
    (.cons (.fors (.nm 6) (.ex (.var 1))
    (.cons (.asg 7 (.lc (.nm 9) (.ex (.call "_law_numbers" (.ex (.var 5) .nil))) .nil (.call "_law_known" (.ex (.var 5) (.ex (.var 6) (.ex (.call "_law_split" (.ex (.var 5) (.ex (.var 9) .nil))) .nil))))))
    (.cons (.asg 8 (.call "known_table" (.ex (.var 5) (.ex (.var 6) .nil))))
    (.cons (.ifs (.bop false (.cons (.cmp .NotEq (.bi .repr (.cons (.var 8) .nil)) (.bi .repr (.cons (.bi .tupleOf (.cons (.var 7) .nil)) .nil))) (.cons (.cmp .IsNot (.call "is_table" (.ex (.var 5) (.ex (.var 8) .nil))) (.bl true)) .nil)))
    (.cons (.ret (.bl false))
    .nil)
    .nil)
    .nil))))
    .nil)))
    .nil)))
    (.cons (.ret (.bl true))
    .nil))) }
def Δ (x : Str) : Option CDef :=
  if x = "is_integer" then some c_is_integer else
  if x = "greatest_word" then some c_greatest_word else
  if x = "is_word" then some c_is_word else
  if x = "input_bits" then some c_input_bits else
  if x = "table_size" then some c_table_size else
  if x = "is_table" then some c_is_table else
  if x = "words_of" then some c_words_of else
  if x = "first_word" then some c_first_word else
  if x = "reversed_word" then some c_reversed_word else
  if x = "ones_of_words" then some c_ones_of_words else
  if x = "sum_of_words" then some c_sum_of_words else
  if x = "product_of_words" then some c_product_of_words else
  if x = "greatest_of_words" then some c_greatest_of_words else
  if x = "least_of_words" then some c_least_of_words else
  if x = "and_of_words" then some c_and_of_words else
  if x = "or_of_words" then some c_or_of_words else
  if x = "xor_of_words" then some c_xor_of_words else
  if x = "known_table" then some c_known_table else
  if x = "_law_pot" then some c__law_pot else
  if x = "_law_take" then some c__law_take else
  if x = "_law_shape" then some c__law_shape else
  if x = "_law_split" then some c__law_split else
  if x = "_law_numbers" then some c__law_numbers else
  if x = "_law_joined" then some c__law_joined else
  if x = "_law_ones" then some c__law_ones else
  if x = "_law_known" then some c__law_known else
  if x = "law" then some c_law else
  none
def dn (x : Str) : Bool := (Δ x).isSome
def po (x : Str) : Bool := true
def kw (x : Str) : List (Nat × List Str × List Nat) := []
def bn (x : Str) : Bool := decide (x = "abs") || decide (x = "all") || decide (x = "bool") || decide (x = "int") || decide (x = "isinstance") || decide (x = "len") || decide (x = "list") || decide (x = "max") || decide (x = "min") || decide (x = "range") || decide (x = "repr") || decide (x = "str") || decide (x = "sum") || decide (x = "tuple")
def gd (x : Str) : Option (List (Str × GV)) := if x = "KNOWN" then some k_KNOWN else none
def gc (x : Str) : Option GC := none
def mi : MI := ⟨dn, po, kw, bn, gd, gc⟩
def topS (i : Nat) : Stmt := PySem.Challenge.pw_wordreach_k03_known_functions.main.body.getD i (.Pass ⟨0, 0, 0, 0⟩)
theorem s_is_integer : DefS mi "is_integer" c_is_integer (topS 4) ["value"] ["value"] :=
  ⟨⟨rfl, rfl, rfl, by decide +kernel, rfl, by decide +kernel, by decide +kernel⟩, rfl, rfl, by decide +kernel, fun _ _ _ _ _ _ _ us hl => match us, hl with | [_], _ => rfl, fun q hq => nomatch (show q ∈ ([] : List (Nat × List Str × List Nat)) from hq)⟩
theorem s_greatest_word : DefS mi "greatest_word" c_greatest_word (topS 5) ["shape"] ["shape"] :=
  ⟨⟨rfl, rfl, rfl, by decide +kernel, rfl, by decide +kernel, by decide +kernel⟩, rfl, rfl, by decide +kernel, fun _ _ _ _ _ _ _ us hl => match us, hl with | [_], _ => rfl, fun q hq => nomatch (show q ∈ ([] : List (Nat × List Str × List Nat)) from hq)⟩
theorem s_is_word : DefS mi "is_word" c_is_word (topS 6) ["shape", "value"] ["shape", "value"] :=
  ⟨⟨rfl, rfl, rfl, by decide +kernel, rfl, by decide +kernel, by decide +kernel⟩, rfl, rfl, by decide +kernel, fun _ _ _ _ _ _ _ us hl => match us, hl with | [_, _], _ => rfl, fun q hq => nomatch (show q ∈ ([] : List (Nat × List Str × List Nat)) from hq)⟩
theorem s_input_bits : DefS mi "input_bits" c_input_bits (topS 7) ["shape", "width", "inputs"] ["shape"] :=
  ⟨⟨rfl, rfl, rfl, by decide +kernel, rfl, by decide +kernel, by decide +kernel⟩, rfl, rfl, by decide +kernel, fun _ _ _ _ _ _ _ us hl => match us, hl with | [_], _ => rfl, fun q hq => nomatch (show q ∈ ([] : List (Nat × List Str × List Nat)) from hq)⟩
theorem s_table_size : DefS mi "table_size" c_table_size (topS 8) ["shape"] ["shape"] :=
  ⟨⟨rfl, rfl, rfl, by decide +kernel, rfl, by decide +kernel, by decide +kernel⟩, rfl, rfl, by decide +kernel, fun _ _ _ _ _ _ _ us hl => match us, hl with | [_], _ => rfl, fun q hq => nomatch (show q ∈ ([] : List (Nat × List Str × List Nat)) from hq)⟩
theorem s_is_table : DefS mi "is_table" c_is_table (topS 9) ["shape", "value", "result"] ["shape", "value"] :=
  ⟨⟨rfl, rfl, rfl, by decide +kernel, rfl, by decide +kernel, by decide +kernel⟩, rfl, rfl, by decide +kernel, fun _ _ _ _ _ _ _ us hl => match us, hl with | [_, _], _ => rfl, fun q hq => nomatch (show q ∈ ([] : List (Nat × List Str × List Nat)) from hq)⟩
theorem s_words_of : DefS mi "words_of" c_words_of (topS 10) ["shape", "number", "width", "inputs", "k"] ["shape", "number"] :=
  ⟨⟨rfl, rfl, rfl, by decide +kernel, rfl, by decide +kernel, by decide +kernel⟩, rfl, rfl, by decide +kernel, fun _ _ _ _ _ _ _ us hl => match us, hl with | [_, _], _ => rfl, fun q hq => nomatch (show q ∈ ([] : List (Nat × List Str × List Nat)) from hq)⟩
theorem s_first_word : DefS mi "first_word" c_first_word (topS 11) ["shape", "words"] ["shape", "words"] :=
  ⟨⟨rfl, rfl, rfl, by decide +kernel, rfl, by decide +kernel, by decide +kernel⟩, rfl, rfl, by decide +kernel, fun _ _ _ _ _ _ _ us hl => match us, hl with | [_, _], _ => rfl, fun q hq => nomatch (show q ∈ ([] : List (Nat × List Str × List Nat)) from hq)⟩
theorem s_reversed_word : DefS mi "reversed_word" c_reversed_word (topS 12) ["shape", "words", "width", "place"] ["shape", "words"] :=
  ⟨⟨rfl, rfl, rfl, by decide +kernel, rfl, by decide +kernel, by decide +kernel⟩, rfl, rfl, by decide +kernel, fun _ _ _ _ _ _ _ us hl => match us, hl with | [_, _], _ => rfl, fun q hq => nomatch (show q ∈ ([] : List (Nat × List Str × List Nat)) from hq)⟩
theorem s_ones_of_words : DefS mi "ones_of_words" c_ones_of_words (topS 13) ["shape", "words", "word", "place"] ["shape", "words"] :=
  ⟨⟨rfl, rfl, rfl, by decide +kernel, rfl, by decide +kernel, by decide +kernel⟩, rfl, rfl, by decide +kernel, fun _ _ _ _ _ _ _ us hl => match us, hl with | [_, _], _ => rfl, fun q hq => nomatch (show q ∈ ([] : List (Nat × List Str × List Nat)) from hq)⟩
theorem s_sum_of_words : DefS mi "sum_of_words" c_sum_of_words (topS 14) ["shape", "words"] ["shape", "words"] :=
  ⟨⟨rfl, rfl, rfl, by decide +kernel, rfl, by decide +kernel, by decide +kernel⟩, rfl, rfl, by decide +kernel, fun _ _ _ _ _ _ _ us hl => match us, hl with | [_, _], _ => rfl, fun q hq => nomatch (show q ∈ ([] : List (Nat × List Str × List Nat)) from hq)⟩
theorem s_product_of_words : DefS mi "product_of_words" c_product_of_words (topS 15) ["shape", "words", "result", "word"] ["shape", "words"] :=
  ⟨⟨rfl, rfl, rfl, by decide +kernel, rfl, by decide +kernel, by decide +kernel⟩, rfl, rfl, by decide +kernel, fun _ _ _ _ _ _ _ us hl => match us, hl with | [_, _], _ => rfl, fun q hq => nomatch (show q ∈ ([] : List (Nat × List Str × List Nat)) from hq)⟩
theorem s_greatest_of_words : DefS mi "greatest_of_words" c_greatest_of_words (topS 16) ["shape", "words"] ["shape", "words"] :=
  ⟨⟨rfl, rfl, rfl, by decide +kernel, rfl, by decide +kernel, by decide +kernel⟩, rfl, rfl, by decide +kernel, fun _ _ _ _ _ _ _ us hl => match us, hl with | [_, _], _ => rfl, fun q hq => nomatch (show q ∈ ([] : List (Nat × List Str × List Nat)) from hq)⟩
theorem s_least_of_words : DefS mi "least_of_words" c_least_of_words (topS 17) ["shape", "words"] ["shape", "words"] :=
  ⟨⟨rfl, rfl, rfl, by decide +kernel, rfl, by decide +kernel, by decide +kernel⟩, rfl, rfl, by decide +kernel, fun _ _ _ _ _ _ _ us hl => match us, hl with | [_, _], _ => rfl, fun q hq => nomatch (show q ∈ ([] : List (Nat × List Str × List Nat)) from hq)⟩
theorem s_and_of_words : DefS mi "and_of_words" c_and_of_words (topS 18) ["shape", "words", "result", "word"] ["shape", "words"] :=
  ⟨⟨rfl, rfl, rfl, by decide +kernel, rfl, by decide +kernel, by decide +kernel⟩, rfl, rfl, by decide +kernel, fun _ _ _ _ _ _ _ us hl => match us, hl with | [_, _], _ => rfl, fun q hq => nomatch (show q ∈ ([] : List (Nat × List Str × List Nat)) from hq)⟩
theorem s_or_of_words : DefS mi "or_of_words" c_or_of_words (topS 19) ["shape", "words", "result", "word"] ["shape", "words"] :=
  ⟨⟨rfl, rfl, rfl, by decide +kernel, rfl, by decide +kernel, by decide +kernel⟩, rfl, rfl, by decide +kernel, fun _ _ _ _ _ _ _ us hl => match us, hl with | [_, _], _ => rfl, fun q hq => nomatch (show q ∈ ([] : List (Nat × List Str × List Nat)) from hq)⟩
theorem s_xor_of_words : DefS mi "xor_of_words" c_xor_of_words (topS 20) ["shape", "words", "result", "word"] ["shape", "words"] :=
  ⟨⟨rfl, rfl, rfl, by decide +kernel, rfl, by decide +kernel, by decide +kernel⟩, rfl, rfl, by decide +kernel, fun _ _ _ _ _ _ _ us hl => match us, hl with | [_, _], _ => rfl, fun q hq => nomatch (show q ∈ ([] : List (Nat × List Str × List Nat)) from hq)⟩
theorem s_known_table : DefS mi "known_table" c_known_table (topS 22) ["shape", "name", "function", "results", "number", "result"] ["shape", "name"] :=
  ⟨⟨rfl, rfl, rfl, by decide +kernel, rfl, by decide +kernel, by decide +kernel⟩, rfl, rfl, by decide +kernel, fun _ _ _ _ _ _ _ us hl => match us, hl with | [_, _], _ => rfl, fun q hq => nomatch (show q ∈ ([] : List (Nat × List Str × List Nat)) from hq)⟩
theorem s__law_pot : DefS mi "_law_pot" c__law_pot (topS 24) ["_law_script", "_law_k", "_law_cell", "_law_own"] ["_law_script", "_law_k"] :=
  ⟨⟨rfl, rfl, rfl, by decide +kernel, rfl, by decide +kernel, by decide +kernel⟩, rfl, rfl, by decide +kernel, fun _ _ _ _ _ _ _ us hl => match us, hl with | [_, _], _ => rfl, fun q hq => nomatch (show q ∈ ([] : List (Nat × List Str × List Nat)) from hq)⟩
theorem s__law_take : DefS mi "_law_take" c__law_take (topS 25) ["_law_pot_here", "_law_below", "_law_blend", "_law_digit"] ["_law_pot_here", "_law_below"] :=
  ⟨⟨rfl, rfl, rfl, by decide +kernel, rfl, by decide +kernel, by decide +kernel⟩, rfl, rfl, by decide +kernel, fun _ _ _ _ _ _ _ us hl => match us, hl with | [_, _], _ => rfl, fun q hq => nomatch (show q ∈ ([] : List (Nat × List Str × List Nat)) from hq)⟩
theorem s__law_shape : DefS mi "_law_shape" c__law_shape (topS 26) ["_law_pot_here", "_law_most", "_law_wide"] ["_law_pot_here", "_law_most"] :=
  ⟨⟨rfl, rfl, rfl, by decide +kernel, rfl, by decide +kernel, by decide +kernel⟩, rfl, rfl, by decide +kernel, fun _ _ _ _ _ _ _ us hl => match us, hl with | [_, _], _ => rfl, fun q hq => nomatch (show q ∈ ([] : List (Nat × List Str × List Nat)) from hq)⟩
theorem s__law_split : DefS mi "_law_split" c__law_split (topS 27) ["_law_form", "_law_number", "_law_at"] ["_law_form", "_law_number"] :=
  ⟨⟨rfl, rfl, rfl, by decide +kernel, rfl, by decide +kernel, by decide +kernel⟩, rfl, rfl, by decide +kernel, fun _ _ _ _ _ _ _ us hl => match us, hl with | [_, _], _ => rfl, fun q hq => nomatch (show q ∈ ([] : List (Nat × List Str × List Nat)) from hq)⟩
theorem s__law_numbers : DefS mi "_law_numbers" c__law_numbers (topS 28) ["_law_form"] ["_law_form"] :=
  ⟨⟨rfl, rfl, rfl, by decide +kernel, rfl, by decide +kernel, by decide +kernel⟩, rfl, rfl, by decide +kernel, fun _ _ _ _ _ _ _ us hl => match us, hl with | [_], _ => rfl, fun q hq => nomatch (show q ∈ ([] : List (Nat × List Str × List Nat)) from hq)⟩
theorem s__law_joined : DefS mi "_law_joined" c__law_joined (topS 29) ["_law_sign", "_law_parts", "_law_found", "_law_one"] ["_law_sign", "_law_parts"] :=
  ⟨⟨rfl, rfl, rfl, by decide +kernel, rfl, by decide +kernel, by decide +kernel⟩, rfl, rfl, by decide +kernel, fun _ _ _ _ _ _ _ us hl => match us, hl with | [_, _], _ => rfl, fun q hq => nomatch (show q ∈ ([] : List (Nat × List Str × List Nat)) from hq)⟩
theorem s__law_ones : DefS mi "_law_ones" c__law_ones (topS 30) ["_law_form", "_law_parts", "_law_found", "_law_one", "_law_spot"] ["_law_form", "_law_parts"] :=
  ⟨⟨rfl, rfl, rfl, by decide +kernel, rfl, by decide +kernel, by decide +kernel⟩, rfl, rfl, by decide +kernel, fun _ _ _ _ _ _ _ us hl => match us, hl with | [_, _], _ => rfl, fun q hq => nomatch (show q ∈ ([] : List (Nat × List Str × List Nat)) from hq)⟩
theorem s__law_known : DefS mi "_law_known" c__law_known (topS 31) ["_law_form", "_law_sign", "_law_parts", "_law_one", "_law_some", "_law_top", "_law_product", "_law_spot"] ["_law_form", "_law_sign", "_law_parts"] :=
  ⟨⟨rfl, rfl, rfl, by decide +kernel, rfl, by decide +kernel, by decide +kernel⟩, rfl, rfl, by decide +kernel, fun _ _ _ _ _ _ _ us hl => match us, hl with | [_, _, _], _ => rfl, fun q hq => nomatch (show q ∈ ([] : List (Nat × List Str × List Nat)) from hq)⟩
theorem s_law : DefS mi "law" c_law (topS 32) ["_law_script", "_law_signs", "_law_k", "_law_pot_here", "_law_turn", "_law_form", "_law_sign", "_law_due", "_law_told", "_law_number"] ["_law_script"] :=
  ⟨⟨rfl, rfl, rfl, by decide +kernel, rfl, by decide +kernel, by decide +kernel⟩, rfl, rfl, by decide +kernel, fun _ _ _ _ _ _ _ us hl => match us, hl with | [_], _ => rfl, fun q hq => nomatch (show q ∈ ([] : List (Nat × List Str × List Nat)) from hq)⟩
instance i_is_integer : Df Δ "is_integer" c_is_integer := ⟨rfl⟩
instance i_greatest_word : Df Δ "greatest_word" c_greatest_word := ⟨rfl⟩
instance i_is_word : Df Δ "is_word" c_is_word := ⟨rfl⟩
instance i_input_bits : Df Δ "input_bits" c_input_bits := ⟨rfl⟩
instance i_table_size : Df Δ "table_size" c_table_size := ⟨rfl⟩
instance i_is_table : Df Δ "is_table" c_is_table := ⟨rfl⟩
instance i_words_of : Df Δ "words_of" c_words_of := ⟨rfl⟩
instance i_first_word : Df Δ "first_word" c_first_word := ⟨rfl⟩
instance i_reversed_word : Df Δ "reversed_word" c_reversed_word := ⟨rfl⟩
instance i_ones_of_words : Df Δ "ones_of_words" c_ones_of_words := ⟨rfl⟩
instance i_sum_of_words : Df Δ "sum_of_words" c_sum_of_words := ⟨rfl⟩
instance i_product_of_words : Df Δ "product_of_words" c_product_of_words := ⟨rfl⟩
instance i_greatest_of_words : Df Δ "greatest_of_words" c_greatest_of_words := ⟨rfl⟩
instance i_least_of_words : Df Δ "least_of_words" c_least_of_words := ⟨rfl⟩
instance i_and_of_words : Df Δ "and_of_words" c_and_of_words := ⟨rfl⟩
instance i_or_of_words : Df Δ "or_of_words" c_or_of_words := ⟨rfl⟩
instance i_xor_of_words : Df Δ "xor_of_words" c_xor_of_words := ⟨rfl⟩
instance i_known_table : Df Δ "known_table" c_known_table := ⟨rfl⟩
instance i__law_pot : Df Δ "_law_pot" c__law_pot := ⟨rfl⟩
instance i__law_take : Df Δ "_law_take" c__law_take := ⟨rfl⟩
instance i__law_shape : Df Δ "_law_shape" c__law_shape := ⟨rfl⟩
instance i__law_split : Df Δ "_law_split" c__law_split := ⟨rfl⟩
instance i__law_numbers : Df Δ "_law_numbers" c__law_numbers := ⟨rfl⟩
instance i__law_joined : Df Δ "_law_joined" c__law_joined := ⟨rfl⟩
instance i__law_ones : Df Δ "_law_ones" c__law_ones := ⟨rfl⟩
instance i__law_known : Df Δ "_law_known" c__law_known := ⟨rfl⟩
instance i_law : Df Δ "law" c_law := ⟨rfl⟩
end Lw_k03

namespace Lw_k03
open PySem PySem.Spec L2 Wr Wr.Cd

theorem ofS_eq {a b : String} : (Str.ofString a = Str.ofString b) = (a = b) := by
  refine propext ⟨fun h => ?_, fun h => by rw [h]⟩
  rw [Str.ofString_eq_toList, Str.ofString_eq_toList] at h
  have h1 : a.toList.map Char.toNat = b.toList.map Char.toNat := by
    have := congrArg (fun s => s.cps.toList) h
    simpa using this
  have h2 : a.toList = b.toList := by
    refine List.map_inj_right (f := Char.toNat) (fun x y e => ?_) |>.mp h1
    exact Char.toNat_inj.mp e
  exact String.toList_inj.mp h2
abbrev shp (w i : Nat) : D := .tup [.int (w : Int), .int (i : Int)]
def wl (w i x : Nat) : List D := (List.range i).map fun k => D.int ((wd w x k : Nat) : Int)
theorem greatest_ok (n : Nat) {w i : Nat} (hw : w ≤ 8) : fnN Δ (n + 1) "greatest_word" [.sh (shp w i)] = .ok (.sh (.int (2 ^ w - 1))) [.sh (shp w i)] := by
  rw [df "greatest_word"]
  have s1 : shlOk 1 (w : Int) = true := shl_one (by omega)
  simp only [c_greatest_word, runD, List.length_cons, List.length_nil, d_nil, d_cons, e_var, e_int, e_bl, e_non, e_str, e_fnc, e_bin, e_neg, e_inv, e_cmp, e_chn, e_bop, e_nt, e_ite, e_tup, e_lst, e_dct, e_gd, e_spl, e_ptn, e_ix, e_sl, e_bi, e_isi, e_rngL, e_rngT, e_call, e_call0, e_callV, e_dget, e_lc2, e_lc, d_asg, d_asgT, d_par, d_seti, d_app, d_ext, d_exp, d_ifs, d_fors, d_ret, d_retN, d_pass, d_brk, d_cnt, sms, smA, smO, smI, Sm.of, Sm.vt, smVar, rdVar, op1, op2, Re.bd, Re.of, Pl.at, slD?, truD, Rs.d, asgV, setRs, biV, evBs, plAll, evEs, evOp, evA, evTo, evO, evTs, List.cons_append, List.nil_append, List.append_nil, List.replicate, List.getElem?_cons_zero, List.getElem?_cons_succ, List.set_cons_zero, List.set_cons_succ, Option.bind_some, Option.map_some, b_add, b_sub, c_lt, c_le, c_gt, c_ge, f_abs, f_int, f_lenL, f_lenT, decide_true, decide_false, if_true, if_false, Bool.false_eq_true, ite_dec, rngI, rngV, lcV, noOwn, CT.ix, List.all_cons, List.all_nil, Bool.and_true, Sl.own, Bool.not_false, wipeR, backR, bindT, setSh, setShs, asgTV, called, lend, lent, home, List.take_succ_cons, List.take_zero, List.nodup_nil, List.nodup_cons, List.not_mem_nil, not_false_eq_true, and_self, itemsD, seqOf, Option.toList, enuI, Nat.reduceSub, Nat.reduceAdd, Nat.reduceEqDiff, x_tup0, b_shl s1, toNat_nat, Int.one_mul]
theorem words_turn {w x k : Nat} (h : 0 ≤ k) : Builtin.bitAnd (((x : Nat) : Int) / 2 ^ (k * w)) (2 ^ w - 1) = ((wd w x k : Nat) : Int) := by
  rw [Bits.bitAnd_mask w (Int.ediv_nonneg (by omega) (by exact_mod_cast Nat.zero_le _))]
  unfold wd
  rw [Nat.mul_comm w k]
  norm_cast
theorem words_ok (n : Nat) {w i x : Nat} (hw : w ≤ 8) (hi : i ≤ 4) : fnN Δ (n + 2) "words_of" [.sh (shp w i), .sh (.int x)] = .ok (.sh (.tup (wl w i x))) [.sh (shp w i), .sh (.int x)] := by
  rw [df "words_of"]
  have hlc : lcW (fnN Δ (n + 1)) (.nm 4) (.rng (.cons (.var 3) .nil)) .nil (.bin .BitAnd (.bin .RShift (.var 1) (.bin .Mult (.var 4) (.var 2))) (.call "greatest_word" (.ex (.var 0) .nil))) [.sh (shp w i), .sh (.int x), .sh (.int w), .sh (.int i), .no]
      = .ok (.fr (.lst (wl w i x))) [.sh (shp w i), .sh (.int x), .sh (.int w), .sh (.int i), .no] := by
    refine lcW_rng (n := i) (ρ1 := [.sh (shp w i), .sh (.int x), .sh (.int w), .sh (.int i), .no]) (fun k => D.int ((wd w x k : Nat) : Int)) ?_ rfl rfl (fun k hk => ?_) (by omega) rfl
    · have r1 := rngOk_nat (n := i) (by omega)
      simp only [runD, List.length_cons, List.length_nil, d_nil, d_cons, e_var, e_int, e_bl, e_non, e_str, e_fnc, e_bin, e_neg, e_inv, e_cmp, e_chn, e_bop, e_nt, e_ite, e_tup, e_lst, e_dct, e_gd, e_spl, e_ptn, e_ix, e_sl, e_bi, e_isi, e_rngL, e_rngT, e_call, e_call0, e_callV, e_dget, e_lc2, e_lc, d_asg, d_asgT, d_par, d_seti, d_app, d_ext, d_exp, d_ifs, d_fors, d_ret, d_retN, d_pass, d_brk, d_cnt, sms, smA, smO, smI, Sm.of, Sm.vt, smVar, rdVar, op1, op2, Re.bd, Re.of, Pl.at, slD?, truD, Rs.d, asgV, setRs, biV, evBs, plAll, evEs, evOp, evA, evTo, evO, evTs, List.cons_append, List.nil_append, List.append_nil, List.replicate, List.getElem?_cons_zero, List.getElem?_cons_succ, List.set_cons_zero, List.set_cons_succ, Option.bind_some, Option.map_some, b_add, b_sub, c_lt, c_le, c_gt, c_ge, f_abs, f_int, f_lenL, f_lenT, decide_true, decide_false, if_true, if_false, Bool.false_eq_true, ite_dec, rngI, rngV, lcV, noOwn, CT.ix, List.all_cons, List.all_nil, Bool.and_true, Sl.own, Bool.not_false, wipeR, backR, bindT, setSh, setShs, asgTV, called, lend, lent, home, List.take_succ_cons, List.take_zero, List.nodup_nil, List.nodup_cons, List.not_mem_nil, not_false_eq_true, and_self, itemsD, seqOf, Option.toList, enuI, Nat.reduceSub, Nat.reduceAdd, Nat.reduceEqDiff, k_rng1 r1]
    · have m1 := mul_kw (k := k) (w := w) (by omega) (by omega)
      have g := greatest_ok n (w := w) (i := i) hw
      have e0 : ((k : Int) * (w : Int)) = ((k * w : Nat) : Int) := by rw [Int.natCast_mul]
      have h0 : (0 : Int) ≤ ((k * w : Nat) : Int) := by omega
      simp only [lcTurn, runD, List.length_cons, List.length_nil, d_nil, d_cons, e_var, e_int, e_bl, e_non, e_str, e_fnc, e_bin, e_neg, e_inv, e_cmp, e_chn, e_bop, e_nt, e_ite, e_tup, e_lst, e_dct, e_gd, e_spl, e_ptn, e_ix, e_sl, e_bi, e_isi, e_rngL, e_rngT, e_call, e_call0, e_callV, e_dget, e_lc2, e_lc, d_asg, d_asgT, d_par, d_seti, d_app, d_ext, d_exp, d_ifs, d_fors, d_ret, d_retN, d_pass, d_brk, d_cnt, sms, smA, smO, smI, Sm.of, Sm.vt, smVar, rdVar, op1, op2, Re.bd, Re.of, Pl.at, slD?, truD, Rs.d, asgV, setRs, biV, evBs, plAll, evEs, evOp, evA, evTo, evO, evTs, List.cons_append, List.nil_append, List.append_nil, List.replicate, List.getElem?_cons_zero, List.getElem?_cons_succ, List.set_cons_zero, List.set_cons_succ, Option.bind_some, Option.map_some, b_add, b_sub, c_lt, c_le, c_gt, c_ge, f_abs, f_int, f_lenL, f_lenT, decide_true, decide_false, if_true, if_false, Bool.false_eq_true, ite_dec, rngI, rngV, lcV, noOwn, CT.ix, List.all_cons, List.all_nil, Bool.and_true, Sl.own, Bool.not_false, wipeR, backR, bindT, setSh, setShs, asgTV, called, lend, lent, home, List.take_succ_cons, List.take_zero, List.nodup_nil, List.nodup_cons, List.not_mem_nil, not_false_eq_true, and_self, itemsD, seqOf, Option.toList, enuI, Nat.reduceSub, Nat.reduceAdd, Nat.reduceEqDiff, b_mul m1, e0, b_shr h0, toNat_nat, g, b_and, words_turn (Nat.zero_le k)]
  simp only [c_words_of, runD, List.length_cons, List.length_nil, d_nil, d_cons, e_var, e_int, e_bl, e_non, e_str, e_fnc, e_bin, e_neg, e_inv, e_cmp, e_chn, e_bop, e_nt, e_ite, e_tup, e_lst, e_dct, e_gd, e_spl, e_ptn, e_ix, e_sl, e_bi, e_isi, e_rngL, e_rngT, e_call, e_call0, e_callV, e_dget, e_lc2, e_lc, d_asg, d_asgT, d_par, d_seti, d_app, d_ext, d_exp, d_ifs, d_fors, d_ret, d_retN, d_pass, d_brk, d_cnt, sms, smA, smO, smI, Sm.of, Sm.vt, smVar, rdVar, op1, op2, Re.bd, Re.of, Pl.at, slD?, truD, Rs.d, asgV, setRs, biV, evBs, plAll, evEs, evOp, evA, evTo, evO, evTs, List.cons_append, List.nil_append, List.append_nil, List.replicate, List.getElem?_cons_zero, List.getElem?_cons_succ, List.set_cons_zero, List.set_cons_succ, Option.bind_some, Option.map_some, b_add, b_sub, c_lt, c_le, c_gt, c_ge, f_abs, f_int, f_lenL, f_lenT, decide_true, decide_false, if_true, if_false, Bool.false_eq_true, ite_dec, rngI, rngV, lcV, noOwn, CT.ix, List.all_cons, List.all_nil, Bool.and_true, Sl.own, Bool.not_false, wipeR, backR, bindT, setSh, setShs, asgTV, called, lend, lent, home, List.take_succ_cons, List.take_zero, List.nodup_nil, List.nodup_cons, List.not_mem_nil, not_false_eq_true, and_self, itemsD, seqOf, Option.toList, enuI, Nat.reduceSub, Nat.reduceAdd, Nat.reduceEqDiff, hlc, f_tup]
theorem split_ok (n : Nat) {w i x : Nat} (hw : w ≤ 8) (hi : i ≤ 4) : fnN Δ (n + 1) "_law_split" [.sh (shp w i), .sh (.int x)] = .ok (.sh (.tup (wl w i x))) [.sh (shp w i), .sh (.int x)] := by
  rw [df "_law_split"]
  have hlc : lcW (fnN Δ n) (.nm 2) (.rng (.cons (.ix (.var 0) (.int 1)) .nil)) .nil (.bin .Mod (.bin .FloorDiv (.var 1) (.bin .LShift (.int 1) (.bin .Mult (.ix (.var 0) (.int 0)) (.var 2)))) (.bin .LShift (.int 1) (.ix (.var 0) (.int 0)))) [.sh (shp w i), .sh (.int x), .no]
      = .ok (.fr (.lst (wl w i x))) [.sh (shp w i), .sh (.int x), .no] := by
    refine lcW_rng (n := i) (ρ1 := [.sh (shp w i), .sh (.int x), .no]) (fun k => D.int ((wd w x k : Nat) : Int)) ?_ rfl rfl (fun k hk => ?_) (by omega) rfl
    · have r1 := rngOk_nat (n := i) (by omega)
      simp only [runD, List.length_cons, List.length_nil, d_nil, d_cons, e_var, e_int, e_bl, e_non, e_str, e_fnc, e_bin, e_neg, e_inv, e_cmp, e_chn, e_bop, e_nt, e_ite, e_tup, e_lst, e_dct, e_gd, e_spl, e_ptn, e_ix, e_sl, e_bi, e_isi, e_rngL, e_rngT, e_call, e_call0, e_callV, e_dget, e_lc2, e_lc, d_asg, d_asgT, d_par, d_seti, d_app, d_ext, d_exp, d_ifs, d_fors, d_ret, d_retN, d_pass, d_brk, d_cnt, sms, smA, smO, smI, Sm.of, Sm.vt, smVar, rdVar, op1, op2, Re.bd, Re.of, Pl.at, slD?, truD, Rs.d, asgV, setRs, biV, evBs, plAll, evEs, evOp, evA, evTo, evO, evTs, List.cons_append, List.nil_append, List.append_nil, List.replicate, List.getElem?_cons_zero, List.getElem?_cons_succ, List.set_cons_zero, List.set_cons_succ, Option.bind_some, Option.map_some, b_add, b_sub, c_lt, c_le, c_gt, c_ge, f_abs, f_int, f_lenL, f_lenT, decide_true, decide_false, if_true, if_false, Bool.false_eq_true, ite_dec, rngI, rngV, lcV, noOwn, CT.ix, List.all_cons, List.all_nil, Bool.and_true, Sl.own, Bool.not_false, wipeR, backR, bindT, setSh, setShs, asgTV, called, lend, lent, home, List.take_succ_cons, List.take_zero, List.nodup_nil, List.nodup_cons, List.not_mem_nil, not_false_eq_true, and_self, itemsD, seqOf, Option.toList, enuI, Nat.reduceSub, Nat.reduceAdd, Nat.reduceEqDiff, k_rng1 r1, x_tup1]
    · have m1 := mul_kw (k := w) (w := k) (by omega) (by omega)
      have e0 : ((w : Int) * (k : Int)) = ((w * k : Nat) : Int) := by rw [Int.natCast_mul]
      have wk : w * k ≤ 8 * 4 := Nat.mul_le_mul hw (by omega)
      have s1 := shl_one (k := w * k) (by omega)
      have s2 := shl_one (k := w) (by omega)
      have p1 : (0 : Int) < ((2 ^ (w * k) : Nat) : Int) := by exact_mod_cast Nat.two_pow_pos _
      have p2 : (0 : Int) < ((2 ^ w : Nat) : Int) := by exact_mod_cast Nat.two_pow_pos _
      have q1 : In 33 ((2 ^ (w * k) : Nat) : Int) := by
        show ((2 ^ (w * k) : Nat) : Int).natAbs < 2 ^ 33
        rw [Int.natAbs_natCast]
        exact Nat.pow_lt_pow_right (by decide) (by omega)
      have f1 := fdOk_of p1 q1
      have ev : ((x : Int) / ((2 ^ (w * k) : Nat) : Int)) % ((2 ^ w : Nat) : Int) = ((wd w x k : Nat) : Int) := by unfold wd; norm_cast
      simp only [lcTurn, runD, List.length_cons, List.length_nil, d_nil, d_cons, e_var, e_int, e_bl, e_non, e_str, e_fnc, e_bin, e_neg, e_inv, e_cmp, e_chn, e_bop, e_nt, e_ite, e_tup, e_lst, e_dct, e_gd, e_spl, e_ptn, e_ix, e_sl, e_bi, e_isi, e_rngL, e_rngT, e_call, e_call0, e_callV, e_dget, e_lc2, e_lc, d_asg, d_asgT, d_par, d_seti, d_app, d_ext, d_exp, d_ifs, d_fors, d_ret, d_retN, d_pass, d_brk, d_cnt, sms, smA, smO, smI, Sm.of, Sm.vt, smVar, rdVar, op1, op2, Re.bd, Re.of, Pl.at, slD?, truD, Rs.d, asgV, setRs, biV, evBs, plAll, evEs, evOp, evA, evTo, evO, evTs, List.cons_append, List.nil_append, List.append_nil, List.replicate, List.getElem?_cons_zero, List.getElem?_cons_succ, List.set_cons_zero, List.set_cons_succ, Option.bind_some, Option.map_some, b_add, b_sub, c_lt, c_le, c_gt, c_ge, f_abs, f_int, f_lenL, f_lenT, decide_true, decide_false, if_true, if_false, Bool.false_eq_true, ite_dec, rngI, rngV, lcV, noOwn, CT.ix, List.all_cons, List.all_nil, Bool.and_true, Sl.own, Bool.not_false, wipeR, backR, bindT, setSh, setShs, asgTV, called, lend, lent, home, List.take_succ_cons, List.take_zero, List.nodup_nil, List.nodup_cons, List.not_mem_nil, not_false_eq_true, and_self, itemsD, seqOf, Option.toList, enuI, Nat.reduceSub, Nat.reduceAdd, Nat.reduceEqDiff, x_tup0, b_mul m1, e0, b_shl s1, b_shl s2, toNat_nat, one_pow, b_fdv f1, b_mod p2, ev]
  simp only [c__law_split, runD, List.length_cons, List.length_nil, d_nil, d_cons, e_var, e_int, e_bl, e_non, e_str, e_fnc, e_bin, e_neg, e_inv, e_cmp, e_chn, e_bop, e_nt, e_ite, e_tup, e_lst, e_dct, e_gd, e_spl, e_ptn, e_ix, e_sl, e_bi, e_isi, e_rngL, e_rngT, e_call, e_call0, e_callV, e_dget, e_lc2, e_lc, d_asg, d_asgT, d_par, d_seti, d_app, d_ext, d_exp, d_ifs, d_fors, d_ret, d_retN, d_pass, d_brk, d_cnt, sms, smA, smO, smI, Sm.of, Sm.vt, smVar, rdVar, op1, op2, Re.bd, Re.of, Pl.at, slD?, truD, Rs.d, asgV, setRs, biV, evBs, plAll, evEs, evOp, evA, evTo, evO, evTs, List.cons_append, List.nil_append, List.append_nil, List.replicate, List.getElem?_cons_zero, List.getElem?_cons_succ, List.set_cons_zero, List.set_cons_succ, Option.bind_some, Option.map_some, b_add, b_sub, c_lt, c_le, c_gt, c_ge, f_abs, f_int, f_lenL, f_lenT, decide_true, decide_false, if_true, if_false, Bool.false_eq_true, ite_dec, rngI, rngV, lcV, noOwn, CT.ix, List.all_cons, List.all_nil, Bool.and_true, Sl.own, Bool.not_false, wipeR, backR, bindT, setSh, setShs, asgTV, called, lend, lent, home, List.take_succ_cons, List.take_zero, List.nodup_nil, List.nodup_cons, List.not_mem_nil, not_false_eq_true, and_self, itemsD, seqOf, Option.toList, enuI, Nat.reduceSub, Nat.reduceAdd, Nat.reduceEqDiff, hlc, f_tup]
theorem numbers_ok (n : Nat) {w i : Nat} (h : w * i ≤ 8) (hw : w ≤ 8) (hi : i ≤ 4) : fnN Δ (n + 1) "_law_numbers" [.sh (shp w i)] = .ok (.fr (.lst (rngD 0 ((2 ^ (w * i) : Nat) : Int)))) [.sh (shp w i)] := by
  rw [df "_law_numbers"]
  have m1 := mul_kw (k := w) (w := i) (by omega) (by omega)
  have e0 : ((w : Int) * (i : Int)) = ((w * i : Nat) : Int) := by rw [Int.natCast_mul]
  have s1 := shl_one (k := w * i) (by omega)
  have le : 2 ^ (w * i) ≤ 2 ^ 8 := Nat.pow_le_pow_right (by decide) h
  have r1 := rngOk_nat (n := 2 ^ (w * i)) (by omega)
  simp only [c__law_numbers, runD, List.length_cons, List.length_nil, d_nil, d_cons, e_var, e_int, e_bl, e_non, e_str, e_fnc, e_bin, e_neg, e_inv, e_cmp, e_chn, e_bop, e_nt, e_ite, e_tup, e_lst, e_dct, e_gd, e_spl, e_ptn, e_ix, e_sl, e_bi, e_isi, e_rngL, e_rngT, e_call, e_call0, e_callV, e_dget, e_lc2, e_lc, d_asg, d_asgT, d_par, d_seti, d_app, d_ext, d_exp, d_ifs, d_fors, d_ret, d_retN, d_pass, d_brk, d_cnt, sms, smA, smO, smI, Sm.of, Sm.vt, smVar, rdVar, op1, op2, Re.bd, Re.of, Pl.at, slD?, truD, Rs.d, asgV, setRs, biV, evBs, plAll, evEs, evOp, evA, evTo, evO, evTs, List.cons_append, List.nil_append, List.append_nil, List.replicate, List.getElem?_cons_zero, List.getElem?_cons_succ, List.set_cons_zero, List.set_cons_succ, Option.bind_some, Option.map_some, b_add, b_sub, c_lt, c_le, c_gt, c_ge, f_abs, f_int, f_lenL, f_lenT, decide_true, decide_false, if_true, if_false, Bool.false_eq_true, ite_dec, rngI, rngV, lcV, noOwn, CT.ix, List.all_cons, List.all_nil, Bool.and_true, Sl.own, Bool.not_false, wipeR, backR, bindT, setSh, setShs, asgTV, called, lend, lent, home, List.take_succ_cons, List.take_zero, List.nodup_nil, List.nodup_cons, List.not_mem_nil, not_false_eq_true, and_self, itemsD, seqOf, Option.toList, enuI, Nat.reduceSub, Nat.reduceAdd, Nat.reduceEqDiff, x_tup0, x_tup1, b_mul m1, e0, b_shl s1, toNat_nat, one_pow, k_rng1 r1]
theorem bits_ok (n : Nat) {w i : Nat} (hw : w ≤ 8) (hi : i ≤ 4) : fnN Δ (n + 1) "input_bits" [.sh (shp w i)] = .ok (.sh (.int ((w * i : Nat) : Int))) [.sh (shp w i)] := by
  rw [df "input_bits"]
  have m1 := mul_kw (k := w) (w := i) (by omega) (by omega)
  have e0 : ((w : Int) * (i : Int)) = ((w * i : Nat) : Int) := by rw [Int.natCast_mul]
  simp only [c_input_bits, d_asgT, d_ret, runD, List.length_cons, List.length_nil, d_nil, d_cons, e_var, e_int, e_bl, e_non, e_str, e_fnc, e_bin, e_neg, e_inv, e_cmp, e_chn, e_bop, e_nt, e_ite, e_tup, e_lst, e_dct, e_gd, e_spl, e_ptn, e_ix, e_sl, e_bi, e_isi, e_rngL, e_rngT, e_call, e_call0, e_callV, e_dget, e_lc2, e_lc, d_asg, d_asgT, d_par, d_seti, d_app, d_ext, d_exp, d_ifs, d_fors, d_ret, d_retN, d_pass, d_brk, d_cnt, sms, smA, smO, smI, Sm.of, Sm.vt, smVar, rdVar, op1, op2, Re.bd, Re.of, Pl.at, slD?, truD, Rs.d, asgV, setRs, biV, evBs, plAll, evEs, evOp, evA, evTo, evO, evTs, List.cons_append, List.nil_append, List.append_nil, List.replicate, List.getElem?_cons_zero, List.getElem?_cons_succ, List.set_cons_zero, List.set_cons_succ, Option.bind_some, Option.map_some, b_add, b_sub, c_lt, c_le, c_gt, c_ge, f_abs, f_int, f_lenL, f_lenT, decide_true, decide_false, if_true, if_false, Bool.false_eq_true, ite_dec, rngI, rngV, lcV, noOwn, CT.ix, List.all_cons, List.all_nil, Bool.and_true, Sl.own, Bool.not_false, wipeR, backR, bindT, setSh, setShs, asgTV, called, lend, lent, home, List.take_succ_cons, List.take_zero, List.nodup_nil, List.nodup_cons, List.not_mem_nil, not_false_eq_true, and_self, itemsD, seqOf, Option.toList, enuI, Nat.reduceSub, Nat.reduceAdd, Nat.reduceEqDiff, b_mul m1, e0]
theorem size_ok (n : Nat) {w i : Nat} (hw : w ≤ 8) (hi : i ≤ 4) : fnN Δ (n + 2) "table_size" [.sh (shp w i)] = .ok (.sh (.int ((2 ^ (w * i) : Nat) : Int))) [.sh (shp w i)] := by
  rw [df "table_size"]
  have wi : w * i ≤ 8 * 4 := Nat.mul_le_mul hw hi
  have s1 := shl_one (k := w * i) (by omega)
  simp only [c_table_size, runD, List.length_cons, List.length_nil, d_nil, d_cons, e_var, e_int, e_bl, e_non, e_str, e_fnc, e_bin, e_neg, e_inv, e_cmp, e_chn, e_bop, e_nt, e_ite, e_tup, e_lst, e_dct, e_gd, e_spl, e_ptn, e_ix, e_sl, e_bi, e_isi, e_rngL, e_rngT, e_call, e_call0, e_callV, e_dget, e_lc2, e_lc, d_asg, d_asgT, d_par, d_seti, d_app, d_ext, d_exp, d_ifs, d_fors, d_ret, d_retN, d_pass, d_brk, d_cnt, sms, smA, smO, smI, Sm.of, Sm.vt, smVar, rdVar, op1, op2, Re.bd, Re.of, Pl.at, slD?, truD, Rs.d, asgV, setRs, biV, evBs, plAll, evEs, evOp, evA, evTo, evO, evTs, List.cons_append, List.nil_append, List.append_nil, List.replicate, List.getElem?_cons_zero, List.getElem?_cons_succ, List.set_cons_zero, List.set_cons_succ, Option.bind_some, Option.map_some, b_add, b_sub, c_lt, c_le, c_gt, c_ge, f_abs, f_int, f_lenL, f_lenT, decide_true, decide_false, if_true, if_false, Bool.false_eq_true, ite_dec, rngI, rngV, lcV, noOwn, CT.ix, List.all_cons, List.all_nil, Bool.and_true, Sl.own, Bool.not_false, wipeR, backR, bindT, setSh, setShs, asgTV, called, lend, lent, home, List.take_succ_cons, List.take_zero, List.nodup_nil, List.nodup_cons, List.not_mem_nil, not_false_eq_true, and_self, itemsD, seqOf, Option.toList, enuI, Nat.reduceSub, Nat.reduceAdd, Nat.reduceEqDiff, bits_ok n hw hi, b_shl s1, toNat_nat, one_pow]
theorem isi_int {x : Int} : isiD .int (.int x) = some true := rfl
theorem isi_bl {x : Int} : isiD .bl (.int x) = some false := rfl
theorem isi_tup {x : List D} : isiD .tup (.tup x) = some true := rfl
theorem integer_ok (n : Nat) {x : Int} : fnN Δ (n + 1) "is_integer" [.sh (.int x)] = .ok (.sh (.bl true)) [.sh (.int x)] := by
  rw [df "is_integer"]
  simp only [c_is_integer, d_ret, runD, List.length_cons, List.length_nil, d_nil, d_cons, e_var, e_int, e_bl, e_non, e_str, e_fnc, e_bin, e_neg, e_inv, e_cmp, e_chn, e_bop, e_nt, e_ite, e_tup, e_lst, e_dct, e_gd, e_spl, e_ptn, e_ix, e_sl, e_bi, e_isi, e_rngL, e_rngT, e_call, e_call0, e_callV, e_dget, e_lc2, e_lc, d_asg, d_asgT, d_par, d_seti, d_app, d_ext, d_exp, d_ifs, d_fors, d_ret, d_retN, d_pass, d_brk, d_cnt, sms, smA, smO, smI, Sm.of, Sm.vt, smVar, rdVar, op1, op2, Re.bd, Re.of, Pl.at, slD?, truD, Rs.d, asgV, setRs, biV, evBs, plAll, evEs, evOp, evA, evTo, evO, evTs, List.cons_append, List.nil_append, List.append_nil, List.replicate, List.getElem?_cons_zero, List.getElem?_cons_succ, List.set_cons_zero, List.set_cons_succ, Option.bind_some, Option.map_some, b_add, b_sub, c_lt, c_le, c_gt, c_ge, f_abs, f_int, f_lenL, f_lenT, decide_true, decide_false, if_true, if_false, Bool.false_eq_true, ite_dec, rngI, rngV, lcV, noOwn, CT.ix, List.all_cons, List.all_nil, Bool.and_true, Sl.own, Bool.not_false, wipeR, backR, bindT, setSh, setShs, asgTV, called, lend, lent, home, List.take_succ_cons, List.take_zero, List.nodup_nil, List.nodup_cons, List.not_mem_nil, not_false_eq_true, and_self, itemsD, seqOf, Option.toList, enuI, Nat.reduceSub, Nat.reduceAdd, Nat.reduceEqDiff, isi_int, isi_bl, notD, Bool.not_false]
theorem word_ok (n : Nat) {w i a : Nat} (hw : w ≤ 8) (ha : a < 2 ^ w) : fnN Δ (n + 2) "is_word" [.sh (shp w i), .sh (.int (a : Int))] = .ok (.sh (.bl true)) [.sh (shp w i), .sh (.int (a : Int))] := by
  rw [df "is_word"]
  have p : (a : Int) < 2 ^ w := by exact_mod_cast ha
  have d1 : decide ((0 : Int) ≤ (a : Int)) = true := decide_eq_true (by omega)
  have d2 : decide ((a : Int) ≤ 2 ^ w - 1) = true := decide_eq_true (by omega)
  simp only [c_is_word, d_ret, runD, List.length_cons, List.length_nil, d_nil, d_cons, e_var, e_int, e_bl, e_non, e_str, e_fnc, e_bin, e_neg, e_inv, e_cmp, e_chn, e_bop, e_nt, e_ite, e_tup, e_lst, e_dct, e_gd, e_spl, e_ptn, e_ix, e_sl, e_bi, e_isi, e_rngL, e_rngT, e_call, e_call0, e_callV, e_dget, e_lc2, e_lc, d_asg, d_asgT, d_par, d_seti, d_app, d_ext, d_exp, d_ifs, d_fors, d_ret, d_retN, d_pass, d_brk, d_cnt, sms, smA, smO, smI, Sm.of, Sm.vt, smVar, rdVar, op1, op2, Re.bd, Re.of, Pl.at, slD?, truD, Rs.d, asgV, setRs, biV, evBs, plAll, evEs, evOp, evA, evTo, evO, evTs, List.cons_append, List.nil_append, List.append_nil, List.replicate, List.getElem?_cons_zero, List.getElem?_cons_succ, List.set_cons_zero, List.set_cons_succ, Option.bind_some, Option.map_some, b_add, b_sub, c_lt, c_le, c_gt, c_ge, f_abs, f_int, f_lenL, f_lenT, decide_true, decide_false, if_true, if_false, Bool.false_eq_true, ite_dec, rngI, rngV, lcV, noOwn, CT.ix, List.all_cons, List.all_nil, Bool.and_true, Sl.own, Bool.not_false, wipeR, backR, bindT, setSh, setShs, asgTV, called, lend, lent, home, List.take_succ_cons, List.take_zero, List.nodup_nil, List.nodup_cons, List.not_mem_nil, not_false_eq_true, and_self, itemsD, seqOf, Option.toList, enuI, Nat.reduceSub, Nat.reduceAdd, Nat.reduceEqDiff, integer_ok n, greatest_ok n hw, chnV, d1, d2]
/-! ### what the functions give -/
def pl (w i x : Nat) : List Nat := (List.range i).map fun k => wd w x k
theorem wl_pl {w i x : Nat} : wl w i x = natsD (pl w i x) := by
  unfold wl natsD pl
  rw [List.map_map]
  rfl
theorem pl_lt {w i x : Nat} : ∀ p ∈ pl w i x, p < 2 ^ w := fun p hp => by
  obtain ⟨k, _, rfl⟩ := List.mem_map.mp hp
  exact wd_lt
theorem pl_len {w i x : Nat} : (pl w i x).length = i := by unfold pl; rw [List.length_map, List.length_range]
theorem natsD_cons {p : Nat} {r : List Nat} : natsD (p :: r) = D.int (p : Int) :: natsD r := rfl
theorem ints_nats : ∀ l : List Nat, toInts (natsD l) = some (l.map fun k : Nat => (k : Int))
  | [] => rfl
  | p :: r => by rw [natsD_cons]; simp only [toInts, ints_nats r, Option.map_some, List.map_cons]
theorem sum_nats : ∀ l : List Nat, (l.map fun k : Nat => (k : Int)).sum = ((l.sum : Nat) : Int)
  | [] => rfl
  | p :: r => by rw [List.map_cons, List.sum_cons, sum_nats r, List.sum_cons, Int.natCast_add]
theorem xor_nat {a b : Nat} : Builtin.bitXor (a : Int) (b : Int) = ((a ^^^ b : Nat) : Int) := Bits.bitXor_pp (Int.natCast_nonneg a) (Int.natCast_nonneg b)
theorem or_nat {a b : Nat} : Builtin.bitOr (a : Int) (b : Int) = ((a ||| b : Nat) : Int) := Bits.bitOr_pp (Int.natCast_nonneg a) (Int.natCast_nonneg b)
def maxN : List Nat → Nat
  | [] => 0
  | a :: r => r.foldl (fun x y => if x < y then y else x) a
def minN : List Nat → Nat
  | [] => 0
  | a :: r => r.foldl (fun x y => if y < x then y else x) a
theorem maxI_nat : ∀ (r : List Nat) (a : Nat), maxI (a : Int) (r.map fun k : Nat => (k : Int)) = ((r.foldl (fun x y => if x < y then y else x) a : Nat) : Int)
  | [], a => rfl
  | b :: r, a => by
    rw [List.map_cons, List.foldl_cons, ← maxI_nat r]
    unfold maxI
    by_cases h : a < b
    · rw [if_pos h, if_pos (by omega)]
      cases r <;> rfl
    · rw [if_neg h, if_neg (by omega)]
      cases r <;> rfl
theorem minI_nat : ∀ (r : List Nat) (a : Nat), minI (a : Int) (r.map fun k : Nat => (k : Int)) = ((r.foldl (fun x y => if y < x then y else x) a : Nat) : Int)
  | [], a => rfl
  | b :: r, a => by
    rw [List.map_cons, List.foldl_cons, ← minI_nat r]
    unfold minI
    by_cases h : b < a
    · rw [if_pos h, if_pos (by omega)]
      cases r <;> rfl
    · rw [if_neg h, if_neg (by omega)]
      cases r <;> rfl
theorem f_sumT {l : List Nat} : biF .sum [.tup (natsD l)] = some (.sh (.int ((l.sum : Nat) : Int))) := by
  show (toInts (natsD l)).map (fun ns => Rs.sh (D.int ns.sum)) = _
  rw [ints_nats, Option.map_some, sum_nats]
theorem f_maxT {a : Nat} {r : List Nat} : biF .maxL [.tup (natsD (a :: r))] = some (.sh (.int ((maxN (a :: r) : Nat) : Int))) := by
  show (match toInts (natsD (a :: r)) with
    | some (a :: r) => some (Rs.sh (D.int (maxI a r)))
    | _ => none) = _
  rw [ints_nats, List.map_cons]
  dsimp only
  rw [maxI_nat]
  rfl
theorem f_minT {a : Nat} {r : List Nat} : biF .minL [.tup (natsD (a :: r))] = some (.sh (.int ((minN (a :: r) : Nat) : Int))) := by
  show (match toInts (natsD (a :: r)) with
    | some (a :: r) => some (Rs.sh (D.int (minI a r)))
    | _ => none) = _
  rw [ints_nats, List.map_cons]
  dsimp only
  rw [minI_nat]
  rfl
/-- the accumulating loop of two slots after two -/
def accB (op : Operator) : CSs := (.cons (.asg 2 (.bin op (.var 2) (.var 3)))
    .nil)
theorem acc_loop (cf : Fn) (op : Operator) (f : Nat → Nat → Nat) (I : List Nat → Nat → Prop) (h : ∀ p r a, I (p :: r) a → binop op (.int (a : Int)) (.int (p : Int)) = some (.sh (.int ((f a p : Nat) : Int))) ∧ I r (f a p)) {s0 s1 : Sl} : ∀ (l : List Nat) (a : Nat) (s3 : Sl), I l a → fre s3 →
    ∃ s3', forW cf (.nm 3) (accB op) (natsD l) [s0, s1, .sh (.int (a : Int)), s3] = .ok .nx [s0, s1, .sh (.int ((l.foldl f a : Nat) : Int)), s3']
  | [], a, s3, _, _ => ⟨s3, rfl⟩
  | p :: r, a, s3, hI, h3 => by
    obtain ⟨hb, hI'⟩ := h p r a hI
    obtain ⟨s3', e⟩ := acc_loop cf op f I h (s0 := s0) (s1 := s1) r (f a p) (.sh (.int (p : Int))) hI' (.inr ⟨_, rfl⟩)
    refine ⟨s3', ?_⟩
    have t : Wr.forTurn (.nm 3) (sss cf (accB op)) (.int (p : Int)) [s0, s1, .sh (.int (a : Int)), s3] = .ok .nx [s0, s1, .sh (.int ((f a p : Nat) : Int)), .sh (.int (p : Int))] := by
      rcases h3 with rfl | ⟨d3, rfl⟩ <;>
        simp only [Wr.forTurn, accB, d_asg, runD, List.length_cons, List.length_nil, d_nil, d_cons, e_var, e_int, e_bl, e_non, e_str, e_fnc, e_bin, e_neg, e_inv, e_cmp, e_chn, e_bop, e_nt, e_ite, e_tup, e_lst, e_dct, e_gd, e_spl, e_ptn, e_ix, e_sl, e_bi, e_isi, e_rngL, e_rngT, e_call, e_call0, e_callV, e_dget, e_lc2, e_lc, d_asg, d_asgT, d_par, d_seti, d_app, d_ext, d_exp, d_ifs, d_fors, d_ret, d_retN, d_pass, d_brk, d_cnt, sms, smA, smO, smI, Sm.of, Sm.vt, smVar, rdVar, op1, op2, Re.bd, Re.of, Pl.at, slD?, truD, Rs.d, asgV, setRs, biV, evBs, plAll, evEs, evOp, evA, evTo, evO, evTs, List.cons_append, List.nil_append, List.append_nil, List.replicate, List.getElem?_cons_zero, List.getElem?_cons_succ, List.set_cons_zero, List.set_cons_succ, Option.bind_some, Option.map_some, b_add, b_sub, c_lt, c_le, c_gt, c_ge, f_abs, f_int, f_lenL, f_lenT, decide_true, decide_false, if_true, if_false, Bool.false_eq_true, ite_dec, rngI, rngV, lcV, noOwn, CT.ix, List.all_cons, List.all_nil, Bool.and_true, Sl.own, Bool.not_false, wipeR, backR, bindT, setSh, setShs, asgTV, called, lend, lent, home, List.take_succ_cons, List.take_zero, List.nodup_nil, List.nodup_cons, List.not_mem_nil, not_false_eq_true, and_self, itemsD, seqOf, Option.toList, enuI, Nat.reduceSub, Nat.reduceAdd, Nat.reduceEqDiff, hb]
    unfold forW at e ⊢
    rw [natsD_cons, List.foldl_cons]
    unfold forRun
    rw [t]
    exact e
section
variable (n : Nat) {w i a : Nat} {r : List Nat}
theorem first_ok : fnN Δ (n + 1) "first_word" [.sh (shp w i), .sh (.tup (natsD (a :: r)))] = .ok (.sh (.int (a : Int))) [.sh (shp w i), .sh (.tup (natsD (a :: r)))] := by
  rw [df "first_word"]
  simp only [c_first_word, d_ret, natsD_cons, runD, List.length_cons, List.length_nil, d_nil, d_cons, e_var, e_int, e_bl, e_non, e_str, e_fnc, e_bin, e_neg, e_inv, e_cmp, e_chn, e_bop, e_nt, e_ite, e_tup, e_lst, e_dct, e_gd, e_spl, e_ptn, e_ix, e_sl, e_bi, e_isi, e_rngL, e_rngT, e_call, e_call0, e_callV, e_dget, e_lc2, e_lc, d_asg, d_asgT, d_par, d_seti, d_app, d_ext, d_exp, d_ifs, d_fors, d_ret, d_retN, d_pass, d_brk, d_cnt, sms, smA, smO, smI, Sm.of, Sm.vt, smVar, rdVar, op1, op2, Re.bd, Re.of, Pl.at, slD?, truD, Rs.d, asgV, setRs, biV, evBs, plAll, evEs, evOp, evA, evTo, evO, evTs, List.cons_append, List.nil_append, List.append_nil, List.replicate, List.getElem?_cons_zero, List.getElem?_cons_succ, List.set_cons_zero, List.set_cons_succ, Option.bind_some, Option.map_some, b_add, b_sub, c_lt, c_le, c_gt, c_ge, f_abs, f_int, f_lenL, f_lenT, decide_true, decide_false, if_true, if_false, Bool.false_eq_true, ite_dec, rngI, rngV, lcV, noOwn, CT.ix, List.all_cons, List.all_nil, Bool.and_true, Sl.own, Bool.not_false, wipeR, backR, bindT, setSh, setShs, asgTV, called, lend, lent, home, List.take_succ_cons, List.take_zero, List.nodup_nil, List.nodup_cons, List.not_mem_nil, not_false_eq_true, and_self, itemsD, seqOf, Option.toList, enuI, Nat.reduceSub, Nat.reduceAdd, Nat.reduceEqDiff, x_tup0]
theorem sum_ok : fnN Δ (n + 1) "sum_of_words" [.sh (shp w i), .sh (.tup (natsD (a :: r)))] = .ok (.sh (.int (((a :: r).sum : Nat) : Int))) [.sh (shp w i), .sh (.tup (natsD (a :: r)))] := by
  rw [df "sum_of_words"]
  simp only [c_sum_of_words, d_ret, runD, List.length_cons, List.length_nil, d_nil, d_cons, e_var, e_int, e_bl, e_non, e_str, e_fnc, e_bin, e_neg, e_inv, e_cmp, e_chn, e_bop, e_nt, e_ite, e_tup, e_lst, e_dct, e_gd, e_spl, e_ptn, e_ix, e_sl, e_bi, e_isi, e_rngL, e_rngT, e_call, e_call0, e_callV, e_dget, e_lc2, e_lc, d_asg, d_asgT, d_par, d_seti, d_app, d_ext, d_exp, d_ifs, d_fors, d_ret, d_retN, d_pass, d_brk, d_cnt, sms, smA, smO, smI, Sm.of, Sm.vt, smVar, rdVar, op1, op2, Re.bd, Re.of, Pl.at, slD?, truD, Rs.d, asgV, setRs, biV, evBs, plAll, evEs, evOp, evA, evTo, evO, evTs, List.cons_append, List.nil_append, List.append_nil, List.replicate, List.getElem?_cons_zero, List.getElem?_cons_succ, List.set_cons_zero, List.set_cons_succ, Option.bind_some, Option.map_some, b_add, b_sub, c_lt, c_le, c_gt, c_ge, f_abs, f_int, f_lenL, f_lenT, decide_true, decide_false, if_true, if_false, Bool.false_eq_true, ite_dec, rngI, rngV, lcV, noOwn, CT.ix, List.all_cons, List.all_nil, Bool.and_true, Sl.own, Bool.not_false, wipeR, backR, bindT, setSh, setShs, asgTV, called, lend, lent, home, List.take_succ_cons, List.take_zero, List.nodup_nil, List.nodup_cons, List.not_mem_nil, not_false_eq_true, and_self, itemsD, seqOf, Option.toList, enuI, Nat.reduceSub, Nat.reduceAdd, Nat.reduceEqDiff, f_sumT]
theorem greatestw_ok : fnN Δ (n + 1) "greatest_of_words" [.sh (shp w i), .sh (.tup (natsD (a :: r)))] = .ok (.sh (.int ((maxN (a :: r) : Nat) : Int))) [.sh (shp w i), .sh (.tup (natsD (a :: r)))] := by
  rw [df "greatest_of_words"]
  simp only [c_greatest_of_words, d_ret, runD, List.length_cons, List.length_nil, d_nil, d_cons, e_var, e_int, e_bl, e_non, e_str, e_fnc, e_bin, e_neg, e_inv, e_cmp, e_chn, e_bop, e_nt, e_ite, e_tup, e_lst, e_dct, e_gd, e_spl, e_ptn, e_ix, e_sl, e_bi, e_isi, e_rngL, e_rngT, e_call, e_call0, e_callV, e_dget, e_lc2, e_lc, d_asg, d_asgT, d_par, d_seti, d_app, d_ext, d_exp, d_ifs, d_fors, d_ret, d_retN, d_pass, d_brk, d_cnt, sms, smA, smO, smI, Sm.of, Sm.vt, smVar, rdVar, op1, op2, Re.bd, Re.of, Pl.at, slD?, truD, Rs.d, asgV, setRs, biV, evBs, plAll, evEs, evOp, evA, evTo, evO, evTs, List.cons_append, List.nil_append, List.append_nil, List.replicate, List.getElem?_cons_zero, List.getElem?_cons_succ, List.set_cons_zero, List.set_cons_succ, Option.bind_some, Option.map_some, b_add, b_sub, c_lt, c_le, c_gt, c_ge, f_abs, f_int, f_lenL, f_lenT, decide_true, decide_false, if_true, if_false, Bool.false_eq_true, ite_dec, rngI, rngV, lcV, noOwn, CT.ix, List.all_cons, List.all_nil, Bool.and_true, Sl.own, Bool.not_false, wipeR, backR, bindT, setSh, setShs, asgTV, called, lend, lent, home, List.take_succ_cons, List.take_zero, List.nodup_nil, List.nodup_cons, List.not_mem_nil, not_false_eq_true, and_self, itemsD, seqOf, Option.toList, enuI, Nat.reduceSub, Nat.reduceAdd, Nat.reduceEqDiff, f_maxT]
theorem leastw_ok : fnN Δ (n + 1) "least_of_words" [.sh (shp w i), .sh (.tup (natsD (a :: r)))] = .ok (.sh (.int ((minN (a :: r) : Nat) : Int))) [.sh (shp w i), .sh (.tup (natsD (a :: r)))] := by
  rw [df "least_of_words"]
  simp only [c_least_of_words, d_ret, runD, List.length_cons, List.length_nil, d_nil, d_cons, e_var, e_int, e_bl, e_non, e_str, e_fnc, e_bin, e_neg, e_inv, e_cmp, e_chn, e_bop, e_nt, e_ite, e_tup, e_lst, e_dct, e_gd, e_spl, e_ptn, e_ix, e_sl, e_bi, e_isi, e_rngL, e_rngT, e_call, e_call0, e_callV, e_dget, e_lc2, e_lc, d_asg, d_asgT, d_par, d_seti, d_app, d_ext, d_exp, d_ifs, d_fors, d_ret, d_retN, d_pass, d_brk, d_cnt, sms, smA, smO, smI, Sm.of, Sm.vt, smVar, rdVar, op1, op2, Re.bd, Re.of, Pl.at, slD?, truD, Rs.d, asgV, setRs, biV, evBs, plAll, evEs, evOp, evA, evTo, evO, evTs, List.cons_append, List.nil_append, List.append_nil, List.replicate, List.getElem?_cons_zero, List.getElem?_cons_succ, List.set_cons_zero, List.set_cons_succ, Option.bind_some, Option.map_some, b_add, b_sub, c_lt, c_le, c_gt, c_ge, f_abs, f_int, f_lenL, f_lenT, decide_true, decide_false, if_true, if_false, Bool.false_eq_true, ite_dec, rngI, rngV, lcV, noOwn, CT.ix, List.all_cons, List.all_nil, Bool.and_true, Sl.own, Bool.not_false, wipeR, backR, bindT, setSh, setShs, asgTV, called, lend, lent, home, List.take_succ_cons, List.take_zero, List.nodup_nil, List.nodup_cons, List.not_mem_nil, not_false_eq_true, and_self, itemsD, seqOf, Option.toList, enuI, Nat.reduceSub, Nat.reduceAdd, Nat.reduceEqDiff, f_minT]
theorem and_body : c_and_of_words.body = .cons (.asg 2 (.ix (.var 1) (.int 0))) (.cons (.fors (.nm 3) (.ex (.var 1)) (accB .BitAnd)) (.cons (.ret (.var 2)) .nil)) := rfl
theorem or_body : c_or_of_words.body = .cons (.asg 2 (.int 0)) (.cons (.fors (.nm 3) (.ex (.var 1)) (accB .BitOr)) (.cons (.ret (.var 2)) .nil)) := rfl
theorem xor_body : c_xor_of_words.body = .cons (.asg 2 (.int 0)) (.cons (.fors (.nm 3) (.ex (.var 1)) (accB .BitXor)) (.cons (.ret (.var 2)) .nil)) := rfl
theorem product_body : c_product_of_words.body = .cons (.asg 2 (.int 1)) (.cons (.fors (.nm 3) (.ex (.var 1)) (accB .Mult)) (.cons (.ret (.var 2)) .nil)) := rfl
theorem itemsT {l : List Nat} : itemsD (.tup (natsD l)) = some (natsD l) := rfl
theorem and_ok : fnN Δ (n + 1) "and_of_words" [.sh (shp w i), .sh (.tup (natsD (a :: r)))] = .ok (.sh (.int (((a :: r).foldl (· &&& ·) a : Nat) : Int))) [.sh (shp w i), .sh (.tup (natsD (a :: r)))] := by
  rw [df "and_of_words"]
  obtain ⟨s, e⟩ := acc_loop (fnN Δ n) .BitAnd (· &&& ·) (fun _ _ => True) (fun p r a _ => ⟨by rw [b_and, and_nat], trivial⟩) (s0 := .sh (shp w i)) (s1 := .sh (.tup (natsD (a :: r)))) (a :: r) a .no trivial (.inl rfl)
  have x0 : ixD (.tup (natsD (a :: r))) (.int 0) = some (.int (a : Int)) := x_tup0
  unfold runD
  rw [and_body]
  simp only [c_and_of_words, d_asg, d_fors, d_ret, i_ex, runD, List.length_cons, List.length_nil, d_nil, d_cons, e_var, e_int, e_bl, e_non, e_str, e_fnc, e_bin, e_neg, e_inv, e_cmp, e_chn, e_bop, e_nt, e_ite, e_tup, e_lst, e_dct, e_gd, e_spl, e_ptn, e_ix, e_sl, e_bi, e_isi, e_rngL, e_rngT, e_call, e_call0, e_callV, e_dget, e_lc2, e_lc, d_asg, d_asgT, d_par, d_seti, d_app, d_ext, d_exp, d_ifs, d_fors, d_ret, d_retN, d_pass, d_brk, d_cnt, sms, smA, smO, smI, Sm.of, Sm.vt, smVar, rdVar, op1, op2, Re.bd, Re.of, Pl.at, slD?, truD, Rs.d, asgV, setRs, biV, evBs, plAll, evEs, evOp, evA, evTo, evO, evTs, List.cons_append, List.nil_append, List.append_nil, List.replicate, List.getElem?_cons_zero, List.getElem?_cons_succ, List.set_cons_zero, List.set_cons_succ, Option.bind_some, Option.map_some, b_add, b_sub, c_lt, c_le, c_gt, c_ge, f_abs, f_int, f_lenL, f_lenT, decide_true, decide_false, if_true, if_false, Bool.false_eq_true, ite_dec, rngI, rngV, lcV, noOwn, CT.ix, List.all_cons, List.all_nil, Bool.and_true, Sl.own, Bool.not_false, wipeR, backR, bindT, setSh, setShs, asgTV, called, lend, lent, home, List.take_succ_cons, List.take_zero, List.nodup_nil, List.nodup_cons, List.not_mem_nil, not_false_eq_true, and_self, itemsD, seqOf, Option.toList, enuI, Nat.reduceSub, Nat.reduceAdd, Nat.reduceEqDiff, x0, itemsT, e]
theorem or_ok : fnN Δ (n + 1) "or_of_words" [.sh (shp w i), .sh (.tup (natsD (a :: r)))] = .ok (.sh (.int (((a :: r).foldl (· ||| ·) 0 : Nat) : Int))) [.sh (shp w i), .sh (.tup (natsD (a :: r)))] := by
  rw [df "or_of_words"]
  obtain ⟨s, e⟩ := acc_loop (fnN Δ n) .BitOr (· ||| ·) (fun _ _ => True) (fun p r a _ => ⟨by rw [b_or, or_nat], trivial⟩) (s0 := .sh (shp w i)) (s1 := .sh (.tup (natsD (a :: r)))) (a :: r) 0 .no trivial (.inl rfl)
  rw [Int.natCast_zero] at e
  unfold runD
  rw [or_body]
  simp only [c_or_of_words, d_asg, d_fors, d_ret, i_ex, runD, List.length_cons, List.length_nil, d_nil, d_cons, e_var, e_int, e_bl, e_non, e_str, e_fnc, e_bin, e_neg, e_inv, e_cmp, e_chn, e_bop, e_nt, e_ite, e_tup, e_lst, e_dct, e_gd, e_spl, e_ptn, e_ix, e_sl, e_bi, e_isi, e_rngL, e_rngT, e_call, e_call0, e_callV, e_dget, e_lc2, e_lc, d_asg, d_asgT, d_par, d_seti, d_app, d_ext, d_exp, d_ifs, d_fors, d_ret, d_retN, d_pass, d_brk, d_cnt, sms, smA, smO, smI, Sm.of, Sm.vt, smVar, rdVar, op1, op2, Re.bd, Re.of, Pl.at, slD?, truD, Rs.d, asgV, setRs, biV, evBs, plAll, evEs, evOp, evA, evTo, evO, evTs, List.cons_append, List.nil_append, List.append_nil, List.replicate, List.getElem?_cons_zero, List.getElem?_cons_succ, List.set_cons_zero, List.set_cons_succ, Option.bind_some, Option.map_some, b_add, b_sub, c_lt, c_le, c_gt, c_ge, f_abs, f_int, f_lenL, f_lenT, decide_true, decide_false, if_true, if_false, Bool.false_eq_true, ite_dec, rngI, rngV, lcV, noOwn, CT.ix, List.all_cons, List.all_nil, Bool.and_true, Sl.own, Bool.not_false, wipeR, backR, bindT, setSh, setShs, asgTV, called, lend, lent, home, List.take_succ_cons, List.take_zero, List.nodup_nil, List.nodup_cons, List.not_mem_nil, not_false_eq_true, and_self, itemsD, seqOf, Option.toList, enuI, Nat.reduceSub, Nat.reduceAdd, Nat.reduceEqDiff, itemsT, e]
theorem xor_ok : fnN Δ (n + 1) "xor_of_words" [.sh (shp w i), .sh (.tup (natsD (a :: r)))] = .ok (.sh (.int (((a :: r).foldl (· ^^^ ·) 0 : Nat) : Int))) [.sh (shp w i), .sh (.tup (natsD (a :: r)))] := by
  rw [df "xor_of_words"]
  obtain ⟨s, e⟩ := acc_loop (fnN Δ n) .BitXor (· ^^^ ·) (fun _ _ => True) (fun p r a _ => ⟨by rw [b_xor, xor_nat], trivial⟩) (s0 := .sh (shp w i)) (s1 := .sh (.tup (natsD (a :: r)))) (a :: r) 0 .no trivial (.inl rfl)
  rw [Int.natCast_zero] at e
  unfold runD
  rw [xor_body]
  simp only [c_xor_of_words, d_asg, d_fors, d_ret, i_ex, runD, List.length_cons, List.length_nil, d_nil, d_cons, e_var, e_int, e_bl, e_non, e_str, e_fnc, e_bin, e_neg, e_inv, e_cmp, e_chn, e_bop, e_nt, e_ite, e_tup, e_lst, e_dct, e_gd, e_spl, e_ptn, e_ix, e_sl, e_bi, e_isi, e_rngL, e_rngT, e_call, e_call0, e_callV, e_dget, e_lc2, e_lc, d_asg, d_asgT, d_par, d_seti, d_app, d_ext, d_exp, d_ifs, d_fors, d_ret, d_retN, d_pass, d_brk, d_cnt, sms, smA, smO, smI, Sm.of, Sm.vt, smVar, rdVar, op1, op2, Re.bd, Re.of, Pl.at, slD?, truD, Rs.d, asgV, setRs, biV, evBs, plAll, evEs, evOp, evA, evTo, evO, evTs, List.cons_append, List.nil_append, List.append_nil, List.replicate, List.getElem?_cons_zero, List.getElem?_cons_succ, List.set_cons_zero, List.set_cons_succ, Option.bind_some, Option.map_some, b_add, b_sub, c_lt, c_le, c_gt, c_ge, f_abs, f_int, f_lenL, f_lenT, decide_true, decide_false, if_true, if_false, Bool.false_eq_true, ite_dec, rngI, rngV, lcV, noOwn, CT.ix, List.all_cons, List.all_nil, Bool.and_true, Sl.own, Bool.not_false, wipeR, backR, bindT, setSh, setShs, asgTV, called, lend, lent, home, List.take_succ_cons, List.take_zero, List.nodup_nil, List.nodup_cons, List.not_mem_nil, not_false_eq_true, and_self, itemsD, seqOf, Option.toList, enuI, Nat.reduceSub, Nat.reduceAdd, Nat.reduceEqDiff, itemsT, e]
/-- the product stays small -/
def PI (l : List Nat) (a : Nat) : Prop := (∀ p ∈ l, p < 256) ∧ a * 256 ^ l.length ≤ 256 ^ 4
theorem pi_step {p a : Nat} {r : List Nat} (h : PI (p :: r) a) : mulOk (a : Int) (p : Int) = true ∧ PI r (a * p) := by
  obtain ⟨h1, h2⟩ := h
  have hp := h1 p List.mem_cons_self
  have e : a * 256 ^ (p :: r).length = a * 256 * 256 ^ r.length := by rw [List.length_cons, Nat.pow_succ, Nat.mul_comm (256 ^ r.length), Nat.mul_assoc]
  have g : 0 < 256 ^ r.length := Nat.pow_pos (by decide)
  have b : a * 256 * 1 ≤ a * 256 * 256 ^ r.length := Nat.mul_le_mul_left _ g
  have t : (256 : Nat) ^ 4 = 4294967296 := by decide
  refine ⟨mulOk_of (show In 33 (a : Int) from .of (by omega) (by omega)) (show In 9 (p : Int) from .of (by omega) (by omega)), fun q hq => h1 q (List.mem_cons_of_mem _ hq), ?_⟩
  exact Nat.le_trans (Nat.mul_le_mul_right _ (Nat.mul_le_mul_left _ (by omega))) (e ▸ h2)
theorem pi_start {l : List Nat} (h : ∀ p ∈ l, p < 256) (hl : l.length ≤ 4) : PI l 1 := ⟨h, by rw [Nat.one_mul]; exact Nat.pow_le_pow_right (by decide) hl⟩
theorem product_ok (hp : ∀ p ∈ a :: r, p < 256) (hl : (a :: r).length ≤ 4) : fnN Δ (n + 1) "product_of_words" [.sh (shp w i), .sh (.tup (natsD (a :: r)))] = .ok (.sh (.int (((a :: r).foldl (· * ·) 1 : Nat) : Int))) [.sh (shp w i), .sh (.tup (natsD (a :: r)))] := by
  rw [df "product_of_words"]
  obtain ⟨s, e⟩ := acc_loop (fnN Δ n) .Mult (· * ·) PI (fun p r a h => ⟨by rw [b_mul (pi_step h).1, Int.natCast_mul], (pi_step h).2⟩) (s0 := .sh (shp w i)) (s1 := .sh (.tup (natsD (a :: r)))) (a :: r) 1 .no (pi_start hp hl) (.inl rfl)
  rw [Int.natCast_one] at e
  unfold runD
  rw [product_body]
  simp only [c_product_of_words, d_asg, d_fors, d_ret, i_ex, runD, List.length_cons, List.length_nil, d_nil, d_cons, e_var, e_int, e_bl, e_non, e_str, e_fnc, e_bin, e_neg, e_inv, e_cmp, e_chn, e_bop, e_nt, e_ite, e_tup, e_lst, e_dct, e_gd, e_spl, e_ptn, e_ix, e_sl, e_bi, e_isi, e_rngL, e_rngT, e_call, e_call0, e_callV, e_dget, e_lc2, e_lc, d_asg, d_asgT, d_par, d_seti, d_app, d_ext, d_exp, d_ifs, d_fors, d_ret, d_retN, d_pass, d_brk, d_cnt, sms, smA, smO, smI, Sm.of, Sm.vt, smVar, rdVar, op1, op2, Re.bd, Re.of, Pl.at, slD?, truD, Rs.d, asgV, setRs, biV, evBs, plAll, evEs, evOp, evA, evTo, evO, evTs, List.cons_append, List.nil_append, List.append_nil, List.replicate, List.getElem?_cons_zero, List.getElem?_cons_succ, List.set_cons_zero, List.set_cons_succ, Option.bind_some, Option.map_some, b_add, b_sub, c_lt, c_le, c_gt, c_ge, f_abs, f_int, f_lenL, f_lenT, decide_true, decide_false, if_true, if_false, Bool.false_eq_true, ite_dec, rngI, rngV, lcV, noOwn, CT.ix, List.all_cons, List.all_nil, Bool.and_true, Sl.own, Bool.not_false, wipeR, backR, bindT, setSh, setShs, asgTV, called, lend, lent, home, List.take_succ_cons, List.take_zero, List.nodup_nil, List.nodup_cons, List.not_mem_nil, not_false_eq_true, and_self, itemsD, seqOf, Option.toList, enuI, Nat.reduceSub, Nat.reduceAdd, Nat.reduceEqDiff, itemsT, e]
end
/-! ### bits -/
theorem lcRun_all {tg : CT} {ifs : List Sm} {e : Sm} {f : D → D} {ρ : Rho} : ∀ l : List D, (∀ x ∈ l, lcTurn tg ifs e x ρ = .ok (some (f x)) ρ) → lcRun (lcTurn tg ifs e) l ρ = .ok (l.map f) ρ
  | [], _ => rfl
  | x :: l, h => by
    have t := h x List.mem_cons_self
    have i := lcRun_all l fun y hy => h y (List.mem_cons_of_mem _ hy)
    simp only [List.map_cons, lcRun, t, i]
    rfl
theorem lcRun2_all {step : D → Rho → Re (List D)} {g : D → List D} {ρ : Rho} : ∀ l : List D, (∀ x ∈ l, step x ρ = .ok (g x) ρ) → lcRun2 step l ρ = .ok (l.flatMap g) ρ
  | [], _ => rfl
  | x :: l, h => by
    have t := h x List.mem_cons_self
    have i := lcRun2_all l fun y hy => h y (List.mem_cons_of_mem _ hy)
    simp only [List.flatMap_cons, lcRun2, t, i]
theorem lc2Turn_of {tg tg1 : CT} {it1 : Rho → Re (List D)} {e : Sm} {x : D} {ρ ρ2 ρ3 ρ4 ρ5 : Rho} {ys ds : List D} (h1 : bindT tg x ρ = some ρ2) (h2 : it1 ρ2 = .ok ys ρ3) (h3 : lcRun (lcTurn tg1 [] e) ys (wipeR ρ3 tg1.ix) = .ok ds ρ4) (h4 : wipeR ρ4 (tg.ix ++ tg1.ix) = ρ5) : lc2Turn tg tg1 it1 e x ρ = .ok ds ρ5 := by
  unfold lc2Turn
  rw [h1]
  dsimp only
  rw [h2]
  unfold Re.bd
  dsimp only
  rw [h3]
  dsimp only
  rw [h4]
theorem lc2V_of {tg tg1 : CT} {it it1 : Rho → Re (List D)} {e : Sm} {ρ ρ1 ρ5 ρ' : Rho} {xs ds : List D} (h1 : it ρ = .ok xs ρ1) (h2 : noOwn ρ1 (tg.ix ++ tg1.ix) = true) (h3 : lcRun2 (lc2Turn tg tg1 it1 e) xs (wipeR ρ1 (tg.ix ++ tg1.ix)) = .ok ds ρ5) (hl : ds.length < sizeL) (h4 : backR ρ1 ρ5 (tg.ix ++ tg1.ix) = ρ') : lc2V tg it tg1 it1 e ρ = .ok (.fr (.lst ds)) ρ' := by
  unfold lc2V
  rw [h1]
  unfold Re.bd
  dsimp only
  rw [if_pos h2, h3]
  dsimp only
  rw [if_pos hl, h4]
def rv (w a : Nat) : Nat := ((List.range w).map fun p => a / 2 ^ p % 2 * 2 ^ (w - 1 - p)).sum
def on (w a : Nat) : Nat := ((List.range w).map fun p => a / 2 ^ p % 2).sum
theorem range_sum (f : Nat → Nat) (n : Nat) : ((List.range (n + 1)).map f).sum = ((List.range n).map f).sum + f n := by
  rw [List.range_succ, List.map_append, List.sum_append, List.map_cons, List.map_nil, List.sum_cons, List.sum_nil, Nat.add_zero]
theorem rv_le (w a : Nat) : ∀ n, n ≤ w → ((List.range n).map fun p => a / 2 ^ p % 2 * 2 ^ (w - 1 - p)).sum + 2 ^ (w - n) ≤ 2 ^ w
  | 0, _ => by simp
  | n + 1, h => by
    have ih := rv_le w a n (by omega)
    rw [range_sum]
    have b : a / 2 ^ n % 2 ≤ 1 := by have := Nat.mod_lt (a / 2 ^ n) (show 0 < 2 by decide); omega
    have e1 : w - n = (w - 1 - n) + 1 := by omega
    have e2 : w - (n + 1) = w - 1 - n := by omega
    rw [e1, Nat.pow_succ] at ih
    rw [e2]
    have m : a / 2 ^ n % 2 * 2 ^ (w - 1 - n) ≤ 1 * 2 ^ (w - 1 - n) := Nat.mul_le_mul_right _ b
    omega
theorem rv_lt {w a : Nat} : rv w a < 2 ^ w := by
  have h := rv_le w a w (Nat.le_refl _)
  rw [Nat.sub_self] at h
  unfold rv
  omega
theorem sum_flat {α : Type} (g : α → List Nat) : ∀ l : List α, (l.flatMap g).sum = (l.map fun x => (g x).sum).sum
  | [] => rfl
  | x :: l => by rw [List.flatMap_cons, List.sum_append, List.map_cons, List.sum_cons, sum_flat g l]
theorem f_sumL {l : List Nat} : biF .sum [.lst (natsD l)] = some (.sh (.int ((l.sum : Nat) : Int))) := by
  show (toInts (natsD l)).map (fun ns => Rs.sh (D.int ns.sum)) = _
  rw [ints_nats, Option.map_some, sum_nats]
theorem div_cast {a p : Nat} : ((a : Nat) : Int) / 2 ^ p = ((a / 2 ^ p : Nat) : Int) := by norm_cast
theorem bit1 {a p : Nat} : Builtin.bitAnd (((a : Nat) : Int) / 2 ^ p) 1 = ((a / 2 ^ p % 2 : Nat) : Int) := by
  rw [div_cast, show (1 : Int) = ((1 : Nat) : Int) from rfl, and_nat, Nat.and_one_is_mod]
theorem bit_lt {a p : Nat} : a / 2 ^ p % 2 < 2 := Nat.mod_lt _ (by decide)
theorem rev_sum {w a : Nat} : ((List.range w).map fun p => D.int (((a / 2 ^ p % 2 * 2 ^ (w - 1 - p) : Nat)) : Int)) = natsD ((List.range w).map fun p => a / 2 ^ p % 2 * 2 ^ (w - 1 - p)) := by
  unfold natsD
  rw [List.map_map]
  rfl
theorem reversed_ok (n : Nat) {w i a : Nat} {r : List Nat} (hw : w ≤ 8) : fnN Δ (n + 1) "reversed_word" [.sh (shp w i), .sh (.tup (natsD (a :: r)))] = .ok (.sh (.int ((rv w a : Nat) : Int))) [.sh (shp w i), .sh (.tup (natsD (a :: r)))] := by
  rw [df "reversed_word"]
  have x0 : ixD (.tup (natsD (a :: r))) (.int 0) = some (.int (a : Int)) := x_tup0
  have hlc : lcW (fnN Δ n) (.nm 3) (.rng (.cons (.var 2) .nil)) .nil (.bin .LShift (.bin .BitAnd (.bin .RShift (.ix (.var 1) (.int 0)) (.var 3)) (.int 1)) (.bin .Sub (.bin .Sub (.var 2) (.int 1)) (.var 3))) [.sh (shp w i), .sh (.tup (natsD (a :: r))), .sh (.int w), .no]
      = .ok (.fr (.lst ((List.range w).map fun p => D.int (((a / 2 ^ p % 2 * 2 ^ (w - 1 - p) : Nat)) : Int)))) [.sh (shp w i), .sh (.tup (natsD (a :: r))), .sh (.int w), .no] := by
    refine lcW_rng (n := w) (ρ1 := [.sh (shp w i), .sh (.tup (natsD (a :: r))), .sh (.int w), .no]) (fun p => D.int (((a / 2 ^ p % 2 * 2 ^ (w - 1 - p) : Nat)) : Int)) ?_ rfl rfl (fun p hp => ?_) (by omega) rfl
    · have r1 := rngOk_nat (n := w) (by omega)
      simp only [runD, List.length_cons, List.length_nil, d_nil, d_cons, e_var, e_int, e_bl, e_non, e_str, e_fnc, e_bin, e_neg, e_inv, e_cmp, e_chn, e_bop, e_nt, e_ite, e_tup, e_lst, e_dct, e_gd, e_spl, e_ptn, e_ix, e_sl, e_bi, e_isi, e_rngL, e_rngT, e_call, e_call0, e_callV, e_dget, e_lc2, e_lc, d_asg, d_asgT, d_par, d_seti, d_app, d_ext, d_exp, d_ifs, d_fors, d_ret, d_retN, d_pass, d_brk, d_cnt, sms, smA, smO, smI, Sm.of, Sm.vt, smVar, rdVar, op1, op2, Re.bd, Re.of, Pl.at, slD?, truD, Rs.d, asgV, setRs, biV, evBs, plAll, evEs, evOp, evA, evTo, evO, evTs, List.cons_append, List.nil_append, List.append_nil, List.replicate, List.getElem?_cons_zero, List.getElem?_cons_succ, List.set_cons_zero, List.set_cons_succ, Option.bind_some, Option.map_some, b_add, b_sub, c_lt, c_le, c_gt, c_ge, f_abs, f_int, f_lenL, f_lenT, decide_true, decide_false, if_true, if_false, Bool.false_eq_true, ite_dec, rngI, rngV, lcV, noOwn, CT.ix, List.all_cons, List.all_nil, Bool.and_true, Sl.own, Bool.not_false, wipeR, backR, bindT, setSh, setShs, asgTV, called, lend, lent, home, List.take_succ_cons, List.take_zero, List.nodup_nil, List.nodup_cons, List.not_mem_nil, not_false_eq_true, and_self, itemsD, seqOf, Option.toList, enuI, Nat.reduceSub, Nat.reduceAdd, Nat.reduceEqDiff, k_rng1 r1]
    · have h0 : (0 : Int) ≤ (p : Int) := by omega
      have e1 : (w : Int) - 1 - (p : Int) = ((w - 1 - p : Nat) : Int) := by omega
      have bl := bit_lt (a := a) (p := p)
      have s1 : shlOk ((a / 2 ^ p % 2 : Nat) : Int) ((w - 1 - p : Nat) : Int) = true := shlOk_of (show In 2 ((a / 2 ^ p % 2 : Nat) : Int) from .of (by omega) (by omega)) (by omega) (by omega)
      have ev : ((a / 2 ^ p % 2 : Nat) : Int) * 2 ^ (w - 1 - p) = ((a / 2 ^ p % 2 * 2 ^ (w - 1 - p) : Nat) : Int) := by push_cast; rfl
      simp only [lcTurn, runD, List.length_cons, List.length_nil, d_nil, d_cons, e_var, e_int, e_bl, e_non, e_str, e_fnc, e_bin, e_neg, e_inv, e_cmp, e_chn, e_bop, e_nt, e_ite, e_tup, e_lst, e_dct, e_gd, e_spl, e_ptn, e_ix, e_sl, e_bi, e_isi, e_rngL, e_rngT, e_call, e_call0, e_callV, e_dget, e_lc2, e_lc, d_asg, d_asgT, d_par, d_seti, d_app, d_ext, d_exp, d_ifs, d_fors, d_ret, d_retN, d_pass, d_brk, d_cnt, sms, smA, smO, smI, Sm.of, Sm.vt, smVar, rdVar, op1, op2, Re.bd, Re.of, Pl.at, slD?, truD, Rs.d, asgV, setRs, biV, evBs, plAll, evEs, evOp, evA, evTo, evO, evTs, List.cons_append, List.nil_append, List.append_nil, List.replicate, List.getElem?_cons_zero, List.getElem?_cons_succ, List.set_cons_zero, List.set_cons_succ, Option.bind_some, Option.map_some, b_add, b_sub, c_lt, c_le, c_gt, c_ge, f_abs, f_int, f_lenL, f_lenT, decide_true, decide_false, if_true, if_false, Bool.false_eq_true, ite_dec, rngI, rngV, lcV, noOwn, CT.ix, List.all_cons, List.all_nil, Bool.and_true, Sl.own, Bool.not_false, wipeR, backR, bindT, setSh, setShs, asgTV, called, lend, lent, home, List.take_succ_cons, List.take_zero, List.nodup_nil, List.nodup_cons, List.not_mem_nil, not_false_eq_true, and_self, itemsD, seqOf, Option.toList, enuI, Nat.reduceSub, Nat.reduceAdd, Nat.reduceEqDiff, x0, b_shr h0, toNat_nat, b_and, bit1, e1, b_shl s1, ev]
  simp only [c_reversed_word, d_asg, d_ret, runD, List.length_cons, List.length_nil, d_nil, d_cons, e_var, e_int, e_bl, e_non, e_str, e_fnc, e_bin, e_neg, e_inv, e_cmp, e_chn, e_bop, e_nt, e_ite, e_tup, e_lst, e_dct, e_gd, e_spl, e_ptn, e_ix, e_sl, e_bi, e_isi, e_rngL, e_rngT, e_call, e_call0, e_callV, e_dget, e_lc2, e_lc, d_asg, d_asgT, d_par, d_seti, d_app, d_ext, d_exp, d_ifs, d_fors, d_ret, d_retN, d_pass, d_brk, d_cnt, sms, smA, smO, smI, Sm.of, Sm.vt, smVar, rdVar, op1, op2, Re.bd, Re.of, Pl.at, slD?, truD, Rs.d, asgV, setRs, biV, evBs, plAll, evEs, evOp, evA, evTo, evO, evTs, List.cons_append, List.nil_append, List.append_nil, List.replicate, List.getElem?_cons_zero, List.getElem?_cons_succ, List.set_cons_zero, List.set_cons_succ, Option.bind_some, Option.map_some, b_add, b_sub, c_lt, c_le, c_gt, c_ge, f_abs, f_int, f_lenL, f_lenT, decide_true, decide_false, if_true, if_false, Bool.false_eq_true, ite_dec, rngI, rngV, lcV, noOwn, CT.ix, List.all_cons, List.all_nil, Bool.and_true, Sl.own, Bool.not_false, wipeR, backR, bindT, setSh, setShs, asgTV, called, lend, lent, home, List.take_succ_cons, List.take_zero, List.nodup_nil, List.nodup_cons, List.not_mem_nil, not_false_eq_true, and_self, itemsD, seqOf, Option.toList, enuI, Nat.reduceSub, Nat.reduceAdd, Nat.reduceEqDiff, x_tup0, hlc, rev_sum, f_sumL]
  rfl
theorem ones_ok (n : Nat) {w i : Nat} {l : List Nat} (hw : w ≤ 8) (hl : l.length ≤ 4) : fnN Δ (n + 1) "ones_of_words" [.sh (shp w i), .sh (.tup (natsD l))] = .ok (.sh (.int (((l.map (on w)).sum : Nat) : Int))) [.sh (shp w i), .sh (.tup (natsD l))] := by
  rw [df "ones_of_words"]
  let g : D → List D := fun x => match x with
    | .int v => natsD ((List.range w).map fun p => v.toNat / 2 ^ p % 2)
    | _ => []
  have hrun : lcRun2 (lc2Turn (.nm 2) (.nm 3) (smI (fnN Δ n) (.rng (.cons (.ix (.var 0) (.int 0)) .nil))) (sm (fnN Δ n) (.bin .BitAnd (.bin .RShift (.var 2) (.var 3)) (.int 1)))) (natsD l) [.sh (shp w i), .sh (.tup (natsD l)), .no, .no]
      = .ok ((natsD l).flatMap g) [.sh (shp w i), .sh (.tup (natsD l)), .no, .no] := by
    refine lcRun2_all _ fun x hx => ?_
    obtain ⟨v, hv, rfl⟩ := List.mem_map.mp hx
    have r1 := rngOk_nat (n := w) (by omega)
    have inner : lcRun (lcTurn (.nm 3) [] (sm (fnN Δ n) (.bin .BitAnd (.bin .RShift (.var 2) (.var 3)) (.int 1)))) (rngD 0 (w : Int)) [.sh (shp w i), .sh (.tup (natsD l)), .sh (.int (v : Int)), .no] = .ok (natsD ((List.range w).map fun p => v / 2 ^ p % 2)) [.sh (shp w i), .sh (.tup (natsD l)), .sh (.int (v : Int)), .no] := by
      rw [lcRun_all (f := fun d => match d with
        | .int k => D.int ((v / 2 ^ k.toNat % 2 : Nat) : Int)
        | d => d) _ fun y hy => ?_]
      · rw [rngD_nat]
        unfold natsD
        rw [List.map_map, List.map_map]
        rfl
      · rw [rngD_nat] at hy
        obtain ⟨p, hp, rfl⟩ := List.mem_map.mp hy
        have h0 : (0 : Int) ≤ (p : Int) := by omega
        simp only [lcTurn, runD, List.length_cons, List.length_nil, d_nil, d_cons, e_var, e_int, e_bl, e_non, e_str, e_fnc, e_bin, e_neg, e_inv, e_cmp, e_chn, e_bop, e_nt, e_ite, e_tup, e_lst, e_dct, e_gd, e_spl, e_ptn, e_ix, e_sl, e_bi, e_isi, e_rngL, e_rngT, e_call, e_call0, e_callV, e_dget, e_lc2, e_lc, d_asg, d_asgT, d_par, d_seti, d_app, d_ext, d_exp, d_ifs, d_fors, d_ret, d_retN, d_pass, d_brk, d_cnt, sms, smA, smO, smI, Sm.of, Sm.vt, smVar, rdVar, op1, op2, Re.bd, Re.of, Pl.at, slD?, truD, Rs.d, asgV, setRs, biV, evBs, plAll, evEs, evOp, evA, evTo, evO, evTs, List.cons_append, List.nil_append, List.append_nil, List.replicate, List.getElem?_cons_zero, List.getElem?_cons_succ, List.set_cons_zero, List.set_cons_succ, Option.bind_some, Option.map_some, b_add, b_sub, c_lt, c_le, c_gt, c_ge, f_abs, f_int, f_lenL, f_lenT, decide_true, decide_false, if_true, if_false, Bool.false_eq_true, ite_dec, rngI, rngV, lcV, noOwn, CT.ix, List.all_cons, List.all_nil, Bool.and_true, Sl.own, Bool.not_false, wipeR, backR, bindT, setSh, setShs, asgTV, called, lend, lent, home, List.take_succ_cons, List.take_zero, List.nodup_nil, List.nodup_cons, List.not_mem_nil, not_false_eq_true, and_self, itemsD, seqOf, Option.toList, enuI, Nat.reduceSub, Nat.reduceAdd, Nat.reduceEqDiff, b_shr h0, toNat_nat, b_and, bit1]
    refine lc2Turn_of (ρ2 := [.sh (shp w i), .sh (.tup (natsD l)), .sh (.int (v : Int)), .no]) (ρ3 := [.sh (shp w i), .sh (.tup (natsD l)), .sh (.int (v : Int)), .no]) (ρ4 := [.sh (shp w i), .sh (.tup (natsD l)), .sh (.int (v : Int)), .no]) (ys := rngD 0 (w : Int)) rfl ?_ inner rfl
    simp only [runD, List.length_cons, List.length_nil, d_nil, d_cons, e_var, e_int, e_bl, e_non, e_str, e_fnc, e_bin, e_neg, e_inv, e_cmp, e_chn, e_bop, e_nt, e_ite, e_tup, e_lst, e_dct, e_gd, e_spl, e_ptn, e_ix, e_sl, e_bi, e_isi, e_rngL, e_rngT, e_call, e_call0, e_callV, e_dget, e_lc2, e_lc, d_asg, d_asgT, d_par, d_seti, d_app, d_ext, d_exp, d_ifs, d_fors, d_ret, d_retN, d_pass, d_brk, d_cnt, sms, smA, smO, smI, Sm.of, Sm.vt, smVar, rdVar, op1, op2, Re.bd, Re.of, Pl.at, slD?, truD, Rs.d, asgV, setRs, biV, evBs, plAll, evEs, evOp, evA, evTo, evO, evTs, List.cons_append, List.nil_append, List.append_nil, List.replicate, List.getElem?_cons_zero, List.getElem?_cons_succ, List.set_cons_zero, List.set_cons_succ, Option.bind_some, Option.map_some, b_add, b_sub, c_lt, c_le, c_gt, c_ge, f_abs, f_int, f_lenL, f_lenT, decide_true, decide_false, if_true, if_false, Bool.false_eq_true, ite_dec, rngI, rngV, lcV, noOwn, CT.ix, List.all_cons, List.all_nil, Bool.and_true, Sl.own, Bool.not_false, wipeR, backR, bindT, setSh, setShs, asgTV, called, lend, lent, home, List.take_succ_cons, List.take_zero, List.nodup_nil, List.nodup_cons, List.not_mem_nil, not_false_eq_true, and_self, itemsD, seqOf, Option.toList, enuI, Nat.reduceSub, Nat.reduceAdd, Nat.reduceEqDiff, i_rng, x_tup0, k_rng1 r1]
  have fl : (natsD l).flatMap g = natsD (l.flatMap fun v => (List.range w).map fun p => v / 2 ^ p % 2) := by
    unfold natsD
    rw [List.flatMap_map, List.map_flatMap]
    rfl
  have len : (natsD (l.flatMap fun v => (List.range w).map fun p => v / 2 ^ p % 2)).length < sizeL := by
    rw [natsD_len, List.length_flatMap]
    have : ∀ l : List Nat, (l.map fun v => ((List.range w).map fun p => v / 2 ^ p % 2).length).sum = w * l.length := fun l => by
      induction l with
      | nil => rfl
      | cons v l ih => rw [List.map_cons, List.sum_cons, ih, List.length_map, List.length_range, List.length_cons, Nat.mul_succ, Nat.add_comm]
    rw [this]
    have := Nat.mul_le_mul hw hl
    show _ < 16777216
    omega
  rw [fl] at hrun
  have sf := sum_flat (fun v => (List.range w).map fun p => v / 2 ^ p % 2) l
  have hv : lc2W (fnN Δ n) (.nm 2) (.ex (.var 1)) (.nm 3) (.rng (.cons (.ix (.var 0) (.int 0)) .nil)) (.bin .BitAnd (.bin .RShift (.var 2) (.var 3)) (.int 1)) [.sh (shp w i), .sh (.tup (natsD l)), .no, .no]
      = .ok (.fr (.lst (natsD (l.flatMap fun v => (List.range w).map fun p => v / 2 ^ p % 2)))) [.sh (shp w i), .sh (.tup (natsD l)), .no, .no] := by
    unfold lc2W
    refine lc2V_of (ρ1 := [.sh (shp w i), .sh (.tup (natsD l)), .no, .no]) (xs := natsD l) ?_ rfl hrun len rfl
    simp only [i_ex, runD, List.length_cons, List.length_nil, d_nil, d_cons, e_var, e_int, e_bl, e_non, e_str, e_fnc, e_bin, e_neg, e_inv, e_cmp, e_chn, e_bop, e_nt, e_ite, e_tup, e_lst, e_dct, e_gd, e_spl, e_ptn, e_ix, e_sl, e_bi, e_isi, e_rngL, e_rngT, e_call, e_call0, e_callV, e_dget, e_lc2, e_lc, d_asg, d_asgT, d_par, d_seti, d_app, d_ext, d_exp, d_ifs, d_fors, d_ret, d_retN, d_pass, d_brk, d_cnt, sms, smA, smO, smI, Sm.of, Sm.vt, smVar, rdVar, op1, op2, Re.bd, Re.of, Pl.at, slD?, truD, Rs.d, asgV, setRs, biV, evBs, plAll, evEs, evOp, evA, evTo, evO, evTs, List.cons_append, List.nil_append, List.append_nil, List.replicate, List.getElem?_cons_zero, List.getElem?_cons_succ, List.set_cons_zero, List.set_cons_succ, Option.bind_some, Option.map_some, b_add, b_sub, c_lt, c_le, c_gt, c_ge, f_abs, f_int, f_lenL, f_lenT, decide_true, decide_false, if_true, if_false, Bool.false_eq_true, ite_dec, rngI, rngV, lcV, noOwn, CT.ix, List.all_cons, List.all_nil, Bool.and_true, Sl.own, Bool.not_false, wipeR, backR, bindT, setSh, setShs, asgTV, called, lend, lent, home, List.take_succ_cons, List.take_zero, List.nodup_nil, List.nodup_cons, List.not_mem_nil, not_false_eq_true, and_self, itemsD, seqOf, Option.toList, enuI, Nat.reduceSub, Nat.reduceAdd, Nat.reduceEqDiff, itemsT]
  simp only [c_ones_of_words, d_ret, runD, List.length_cons, List.length_nil, d_nil, d_cons, e_var, e_int, e_bl, e_non, e_str, e_fnc, e_bin, e_neg, e_inv, e_cmp, e_chn, e_bop, e_nt, e_ite, e_tup, e_lst, e_dct, e_gd, e_spl, e_ptn, e_ix, e_sl, e_bi, e_isi, e_rngL, e_rngT, e_call, e_call0, e_callV, e_dget, e_lc2, e_lc, d_asg, d_asgT, d_par, d_seti, d_app, d_ext, d_exp, d_ifs, d_fors, d_ret, d_retN, d_pass, d_brk, d_cnt, sms, smA, smO, smI, Sm.of, Sm.vt, smVar, rdVar, op1, op2, Re.bd, Re.of, Pl.at, slD?, truD, Rs.d, asgV, setRs, biV, evBs, plAll, evEs, evOp, evA, evTo, evO, evTs, List.cons_append, List.nil_append, List.append_nil, List.replicate, List.getElem?_cons_zero, List.getElem?_cons_succ, List.set_cons_zero, List.set_cons_succ, Option.bind_some, Option.map_some, b_add, b_sub, c_lt, c_le, c_gt, c_ge, f_abs, f_int, f_lenL, f_lenT, decide_true, decide_false, if_true, if_false, Bool.false_eq_true, ite_dec, rngI, rngV, lcV, noOwn, CT.ix, List.all_cons, List.all_nil, Bool.and_true, Sl.own, Bool.not_false, wipeR, backR, bindT, setSh, setShs, asgTV, called, lend, lent, home, List.take_succ_cons, List.take_zero, List.nodup_nil, List.nodup_cons, List.not_mem_nil, not_false_eq_true, and_self, itemsD, seqOf, Option.toList, enuI, Nat.reduceSub, Nat.reduceAdd, Nat.reduceEqDiff, hv, f_sumL, sf]
  rfl
/-! ### the law's own functions -/
def onB : CSs := (.cons (.asg 2 (.bin .Add (.var 2) (.bi .sum (.cons (.lc (.nm 4) (.rng (.cons (.ix (.var 0) (.int 0)) .nil)) .nil (.bin .Mod (.bin .FloorDiv (.var 3) (.bin .LShift (.int 1) (.var 4))) (.int 2))) .nil))))
    .nil)
theorem lones_body : c__law_ones.body = .cons (.asg 2 (.int 0)) (.cons (.fors (.nm 3) (.ex (.var 1)) onB) (.cons (.ret (.var 2)) .nil)) := rfl
theorem bit_cast {v p : Nat} : ((v : Int) / ((2 ^ p : Nat) : Int)) % 2 = ((v / 2 ^ p % 2 : Nat) : Int) := by norm_cast
theorem on_turn (cf : Fn) {w i v a : Nat} {s1 s3 : Sl} (hw : w ≤ 8) (h3 : fre s3) : Wr.forTurn (.nm 3) (sss cf onB) (.int (v : Int)) [.sh (shp w i), s1, .sh (.int (a : Int)), s3, .no] = .ok .nx [.sh (shp w i), s1, .sh (.int ((a + on w v : Nat) : Int)), .sh (.int (v : Int)), .no] := by
  have hlc : lcW cf (.nm 4) (.rng (.cons (.ix (.var 0) (.int 0)) .nil)) .nil (.bin .Mod (.bin .FloorDiv (.var 3) (.bin .LShift (.int 1) (.var 4))) (.int 2)) [.sh (shp w i), s1, .sh (.int (a : Int)), .sh (.int (v : Int)), .no]
      = .ok (.fr (.lst ((List.range w).map fun p => D.int ((v / 2 ^ p % 2 : Nat) : Int)))) [.sh (shp w i), s1, .sh (.int (a : Int)), .sh (.int (v : Int)), .no] := by
    refine lcW_rng (n := w) (ρ1 := [.sh (shp w i), s1, .sh (.int (a : Int)), .sh (.int (v : Int)), .no]) (fun p => D.int ((v / 2 ^ p % 2 : Nat) : Int)) ?_ rfl rfl (fun p hp => ?_) (by omega) rfl
    · have r1 := rngOk_nat (n := w) (by omega)
      simp only [runD, List.length_cons, List.length_nil, d_nil, d_cons, e_var, e_int, e_bl, e_non, e_str, e_fnc, e_bin, e_neg, e_inv, e_cmp, e_chn, e_bop, e_nt, e_ite, e_tup, e_lst, e_dct, e_gd, e_spl, e_ptn, e_ix, e_sl, e_bi, e_isi, e_rngL, e_rngT, e_call, e_call0, e_callV, e_dget, e_lc2, e_lc, d_asg, d_asgT, d_par, d_seti, d_app, d_ext, d_exp, d_ifs, d_fors, d_ret, d_retN, d_pass, d_brk, d_cnt, sms, smA, smO, smI, Sm.of, Sm.vt, smVar, rdVar, op1, op2, Re.bd, Re.of, Pl.at, slD?, truD, Rs.d, asgV, setRs, biV, evBs, plAll, evEs, evOp, evA, evTo, evO, evTs, List.cons_append, List.nil_append, List.append_nil, List.replicate, List.getElem?_cons_zero, List.getElem?_cons_succ, List.set_cons_zero, List.set_cons_succ, Option.bind_some, Option.map_some, b_add, b_sub, c_lt, c_le, c_gt, c_ge, f_abs, f_int, f_lenL, f_lenT, decide_true, decide_false, if_true, if_false, Bool.false_eq_true, ite_dec, rngI, rngV, lcV, noOwn, CT.ix, List.all_cons, List.all_nil, Bool.and_true, Sl.own, Bool.not_false, wipeR, backR, bindT, setSh, setShs, asgTV, called, lend, lent, home, List.take_succ_cons, List.take_zero, List.nodup_nil, List.nodup_cons, List.not_mem_nil, not_false_eq_true, and_self, itemsD, seqOf, Option.toList, enuI, Nat.reduceSub, Nat.reduceAdd, Nat.reduceEqDiff, x_tup0, k_rng1 r1]
    · have s1 := shl_one (k := p) (by omega)
      have p1 : (0 : Int) < ((2 ^ p : Nat) : Int) := by exact_mod_cast Nat.two_pow_pos _
      have q1 : In 9 ((2 ^ p : Nat) : Int) := by
        show ((2 ^ p : Nat) : Int).natAbs < 2 ^ 9
        rw [Int.natAbs_natCast]
        exact Nat.pow_lt_pow_right (by decide) (by omega)
      have f1 := fdOk_of p1 q1
      have p2 : (0 : Int) < 2 := by decide
      simp only [lcTurn, runD, List.length_cons, List.length_nil, d_nil, d_cons, e_var, e_int, e_bl, e_non, e_str, e_fnc, e_bin, e_neg, e_inv, e_cmp, e_chn, e_bop, e_nt, e_ite, e_tup, e_lst, e_dct, e_gd, e_spl, e_ptn, e_ix, e_sl, e_bi, e_isi, e_rngL, e_rngT, e_call, e_call0, e_callV, e_dget, e_lc2, e_lc, d_asg, d_asgT, d_par, d_seti, d_app, d_ext, d_exp, d_ifs, d_fors, d_ret, d_retN, d_pass, d_brk, d_cnt, sms, smA, smO, smI, Sm.of, Sm.vt, smVar, rdVar, op1, op2, Re.bd, Re.of, Pl.at, slD?, truD, Rs.d, asgV, setRs, biV, evBs, plAll, evEs, evOp, evA, evTo, evO, evTs, List.cons_append, List.nil_append, List.append_nil, List.replicate, List.getElem?_cons_zero, List.getElem?_cons_succ, List.set_cons_zero, List.set_cons_succ, Option.bind_some, Option.map_some, b_add, b_sub, c_lt, c_le, c_gt, c_ge, f_abs, f_int, f_lenL, f_lenT, decide_true, decide_false, if_true, if_false, Bool.false_eq_true, ite_dec, rngI, rngV, lcV, noOwn, CT.ix, List.all_cons, List.all_nil, Bool.and_true, Sl.own, Bool.not_false, wipeR, backR, bindT, setSh, setShs, asgTV, called, lend, lent, home, List.take_succ_cons, List.take_zero, List.nodup_nil, List.nodup_cons, List.not_mem_nil, not_false_eq_true, and_self, itemsD, seqOf, Option.toList, enuI, Nat.reduceSub, Nat.reduceAdd, Nat.reduceEqDiff, b_shl s1, toNat_nat, one_pow, b_fdv f1, b_mod p2, bit_cast]
  have e : ((List.range w).map fun p => D.int ((v / 2 ^ p % 2 : Nat) : Int)) = natsD ((List.range w).map fun p => v / 2 ^ p % 2) := by
    unfold natsD
    rw [List.map_map]
    rfl
  rw [e] at hlc
  have ad : ((a : Nat) : Int) + ((((List.range w).map fun p => v / 2 ^ p % 2).sum : Nat) : Int) = ((a + on w v : Nat) : Int) := by rw [Int.natCast_add]; rfl
  rcases h3 with rfl | ⟨d3, rfl⟩ <;>
    simp only [Wr.forTurn, onB, d_asg, runD, List.length_cons, List.length_nil, d_nil, d_cons, e_var, e_int, e_bl, e_non, e_str, e_fnc, e_bin, e_neg, e_inv, e_cmp, e_chn, e_bop, e_nt, e_ite, e_tup, e_lst, e_dct, e_gd, e_spl, e_ptn, e_ix, e_sl, e_bi, e_isi, e_rngL, e_rngT, e_call, e_call0, e_callV, e_dget, e_lc2, e_lc, d_asg, d_asgT, d_par, d_seti, d_app, d_ext, d_exp, d_ifs, d_fors, d_ret, d_retN, d_pass, d_brk, d_cnt, sms, smA, smO, smI, Sm.of, Sm.vt, smVar, rdVar, op1, op2, Re.bd, Re.of, Pl.at, slD?, truD, Rs.d, asgV, setRs, biV, evBs, plAll, evEs, evOp, evA, evTo, evO, evTs, List.cons_append, List.nil_append, List.append_nil, List.replicate, List.getElem?_cons_zero, List.getElem?_cons_succ, List.set_cons_zero, List.set_cons_succ, Option.bind_some, Option.map_some, b_add, b_sub, c_lt, c_le, c_gt, c_ge, f_abs, f_int, f_lenL, f_lenT, decide_true, decide_false, if_true, if_false, Bool.false_eq_true, ite_dec, rngI, rngV, lcV, noOwn, CT.ix, List.all_cons, List.all_nil, Bool.and_true, Sl.own, Bool.not_false, wipeR, backR, bindT, setSh, setShs, asgTV, called, lend, lent, home, List.take_succ_cons, List.take_zero, List.nodup_nil, List.nodup_cons, List.not_mem_nil, not_false_eq_true, and_self, itemsD, seqOf, Option.toList, enuI, Nat.reduceSub, Nat.reduceAdd, Nat.reduceEqDiff, hlc, f_sumL, ad]
theorem on_loop (cf : Fn) {w i : Nat} {s1 : Sl} (hw : w ≤ 8) : ∀ (l : List Nat) (a : Nat) (s3 : Sl), fre s3 →
    ∃ s3', forW cf (.nm 3) onB (natsD l) [.sh (shp w i), s1, .sh (.int (a : Int)), s3, .no] = .ok .nx [.sh (shp w i), s1, .sh (.int ((a + (l.map (on w)).sum : Nat) : Int)), s3', .no]
  | [], a, s3, _ => ⟨s3, rfl⟩
  | v :: r, a, s3, h3 => by
    obtain ⟨s3', e⟩ := on_loop cf (i := i) (s1 := s1) hw r (a + on w v) (.sh (.int (v : Int))) (.inr ⟨_, rfl⟩)
    refine ⟨s3', ?_⟩
    unfold forW at e ⊢
    rw [natsD_cons]
    unfold forRun
    rw [on_turn cf hw h3, List.map_cons, List.sum_cons, ← Nat.add_assoc]
    exact e
theorem lones_ok (n : Nat) {w i : Nat} {l : List Nat} (hw : w ≤ 8) : fnN Δ (n + 1) "_law_ones" [.sh (shp w i), .sh (.tup (natsD l))] = .ok (.sh (.int (((l.map (on w)).sum : Nat) : Int))) [.sh (shp w i), .sh (.tup (natsD l))] := by
  rw [df "_law_ones"]
  obtain ⟨s, e⟩ := on_loop (fnN Δ n) (i := i) (s1 := .sh (.tup (natsD l))) hw l 0 .no (.inl rfl)
  rw [Int.natCast_zero, Nat.zero_add] at e
  unfold runD
  rw [lones_body]
  simp only [c__law_ones, d_asg, d_fors, d_ret, i_ex, runD, List.length_cons, List.length_nil, d_nil, d_cons, e_var, e_int, e_bl, e_non, e_str, e_fnc, e_bin, e_neg, e_inv, e_cmp, e_chn, e_bop, e_nt, e_ite, e_tup, e_lst, e_dct, e_gd, e_spl, e_ptn, e_ix, e_sl, e_bi, e_isi, e_rngL, e_rngT, e_call, e_call0, e_callV, e_dget, e_lc2, e_lc, d_asg, d_asgT, d_par, d_seti, d_app, d_ext, d_exp, d_ifs, d_fors, d_ret, d_retN, d_pass, d_brk, d_cnt, sms, smA, smO, smI, Sm.of, Sm.vt, smVar, rdVar, op1, op2, Re.bd, Re.of, Pl.at, slD?, truD, Rs.d, asgV, setRs, biV, evBs, plAll, evEs, evOp, evA, evTo, evO, evTs, List.cons_append, List.nil_append, List.append_nil, List.replicate, List.getElem?_cons_zero, List.getElem?_cons_succ, List.set_cons_zero, List.set_cons_succ, Option.bind_some, Option.map_some, b_add, b_sub, c_lt, c_le, c_gt, c_ge, f_abs, f_int, f_lenL, f_lenT, decide_true, decide_false, if_true, if_false, Bool.false_eq_true, ite_dec, rngI, rngV, lcV, noOwn, CT.ix, List.all_cons, List.all_nil, Bool.and_true, Sl.own, Bool.not_false, wipeR, backR, bindT, setSh, setShs, asgTV, called, lend, lent, home, List.take_succ_cons, List.take_zero, List.nodup_nil, List.nodup_cons, List.not_mem_nil, not_false_eq_true, and_self, itemsD, seqOf, Option.toList, enuI, Nat.reduceSub, Nat.reduceAdd, Nat.reduceEqDiff, itemsT, e]
/-- the ten names -/
inductive Sg where
  | and | first | greatest | least | ones | or | product | reversed | sum | xor
def Sg.s : Sg → Str
  | .and => "and" | .first => "first" | .greatest => "greatest" | .least => "least" | .ones => "ones" | .or => "or" | .product => "product" | .reversed => "reversed" | .sum => "sum" | .xor => "xor"
def Sg.fn : Sg → Str
  | .and => "and_of_words" | .first => "first_word" | .greatest => "greatest_of_words" | .least => "least_of_words" | .ones => "ones_of_words" | .or => "or_of_words" | .product => "product_of_words" | .reversed => "reversed_word" | .sum => "sum_of_words" | .xor => "xor_of_words"
def Sg.val (k : Sg) (w : Nat) (l : List Nat) : Nat := match k with
  | .and => l.foldl (· &&& ·) (l.headD 0)
  | .first => l.headD 0
  | .greatest => maxN l
  | .least => minN l
  | .ones => (l.map (on w)).sum
  | .or => l.foldl (· ||| ·) 0
  | .product => l.foldl (· * ·) 1
  | .reversed => rv w (l.headD 0)
  | .sum => l.sum
  | .xor => l.foldl (· ^^^ ·) 0
theorem fn_ok (n : Nat) (k : Sg) {w i a : Nat} {r : List Nat} (hw : w ≤ 8) (hp : ∀ p ∈ a :: r, p < 256) (hl : (a :: r).length ≤ 4) : fnN Δ (n + 1) k.fn [.sh (shp w i), .sh (.tup (natsD (a :: r)))] = .ok (.sh (.int ((k.val w (a :: r) : Nat) : Int))) [.sh (shp w i), .sh (.tup (natsD (a :: r)))] := by
  cases k
  · exact and_ok n
  · exact first_ok n
  · exact greatestw_ok n
  · exact leastw_ok n
  · exact ones_ok n hw hl
  · exact or_ok n
  · exact product_ok n hp hl
  · exact reversed_ok n hw
  · exact sum_ok n
  · exact xor_ok n
/-- .. joined along the list -/
inductive Jn : Sg → (Nat → Nat → Nat) → Prop where
  | and : Jn .and (· &&& ·)
  | or : Jn .or (· ||| ·)
  | xor : Jn .xor (· ^^^ ·)
def joB : CSs := (.cons (.asg 2 (.ix (.dct ["and", "or", "xor"] (.cons (.bin .BitAnd (.var 2) (.var 3)) (.cons (.bin .BitOr (.var 2) (.var 3)) (.cons (.bin .BitXor (.var 2) (.var 3)) .nil)))) (.var 0)))
    .nil)
theorem jo_body : c__law_joined.body = .cons (.asg 2 (.ix (.var 1) (.int 0))) (.cons (.fors (.nm 3) (.ex (.sl (.var 1) (.some (.int 1)) .none)) joB) (.cons (.ret (.var 2)) .nil)) := rfl
theorem dj_and {A B C : D} : ixD (.dct (dctD ["and", "or", "xor"] [A, B, C])) (.str "and") = some A := by
  simp [x_dct, dctD, dctAt, ofS_eq]
theorem dj_or {A B C : D} : ixD (.dct (dctD ["and", "or", "xor"] [A, B, C])) (.str "or") = some B := by
  simp [x_dct, dctD, dctAt, ofS_eq]
theorem dj_xor {A B C : D} : ixD (.dct (dctD ["and", "or", "xor"] [A, B, C])) (.str "xor") = some C := by
  simp [x_dct, dctD, dctAt, ofS_eq]
theorem jo_turn (cf : Fn) {k : Sg} {f : Nat → Nat → Nat} (hj : Jn k f) {v a : Nat} {s1 s3 : Sl} (h3 : fre s3) : Wr.forTurn (.nm 3) (sss cf joB) (.int (v : Int)) [.sh (.str k.s), s1, .sh (.int (a : Int)), s3] = .ok .nx [.sh (.str k.s), s1, .sh (.int ((f a v : Nat) : Int)), .sh (.int (v : Int))] := by
  cases hj <;> rcases h3 with rfl | ⟨d3, rfl⟩ <;>
    simp only [Wr.forTurn, joB, d_asg, Sg.s, runD, List.length_cons, List.length_nil, d_nil, d_cons, e_var, e_int, e_bl, e_non, e_str, e_fnc, e_bin, e_neg, e_inv, e_cmp, e_chn, e_bop, e_nt, e_ite, e_tup, e_lst, e_dct, e_gd, e_spl, e_ptn, e_ix, e_sl, e_bi, e_isi, e_rngL, e_rngT, e_call, e_call0, e_callV, e_dget, e_lc2, e_lc, d_asg, d_asgT, d_par, d_seti, d_app, d_ext, d_exp, d_ifs, d_fors, d_ret, d_retN, d_pass, d_brk, d_cnt, sms, smA, smO, smI, Sm.of, Sm.vt, smVar, rdVar, op1, op2, Re.bd, Re.of, Pl.at, slD?, truD, Rs.d, asgV, setRs, biV, evBs, plAll, evEs, evOp, evA, evTo, evO, evTs, List.cons_append, List.nil_append, List.append_nil, List.replicate, List.getElem?_cons_zero, List.getElem?_cons_succ, List.set_cons_zero, List.set_cons_succ, Option.bind_some, Option.map_some, b_add, b_sub, c_lt, c_le, c_gt, c_ge, f_abs, f_int, f_lenL, f_lenT, decide_true, decide_false, if_true, if_false, Bool.false_eq_true, ite_dec, rngI, rngV, lcV, noOwn, CT.ix, List.all_cons, List.all_nil, Bool.and_true, Sl.own, Bool.not_false, wipeR, backR, bindT, setSh, setShs, asgTV, called, lend, lent, home, List.take_succ_cons, List.take_zero, List.nodup_nil, List.nodup_cons, List.not_mem_nil, not_false_eq_true, and_self, itemsD, seqOf, Option.toList, enuI, Nat.reduceSub, Nat.reduceAdd, Nat.reduceEqDiff, b_and, and_nat, b_or, or_nat, b_xor, xor_nat, dj_and, dj_or, dj_xor]
theorem jo_loop (cf : Fn) {k : Sg} {f : Nat → Nat → Nat} (hj : Jn k f) {s1 : Sl} : ∀ (l : List Nat) (a : Nat) (s3 : Sl), fre s3 →
    ∃ s3', forW cf (.nm 3) joB (natsD l) [.sh (.str k.s), s1, .sh (.int (a : Int)), s3] = .ok .nx [.sh (.str k.s), s1, .sh (.int ((l.foldl f a : Nat) : Int)), s3']
  | [], a, s3, _ => ⟨s3, rfl⟩
  | v :: r, a, s3, h3 => by
    obtain ⟨s3', e⟩ := jo_loop cf hj (s1 := s1) r (f a v) (.sh (.int (v : Int))) (.inr ⟨_, rfl⟩)
    refine ⟨s3', ?_⟩
    unfold forW at e ⊢
    rw [natsD_cons]
    unfold forRun
    rw [jo_turn cf hj h3, List.foldl_cons]
    exact e
theorem cut1 {a : D} {r : List D} : cutD (a :: r) (some 1) none = r := by
  have e1 : HT.sIx (a :: r).length 0 (some 1) = 1 := by
    rw [List.length_cons]
    simp only [HT.sIx]
    first | omega | (split <;> omega) | (simp; omega)
  have e2 : HT.sIx (a :: r).length (a :: r).length none = (a :: r).length := rfl
  unfold cutD
  rw [e1, e2, List.drop_one, List.tail_cons]
  exact List.take_of_length_le (by rw [List.length_cons]; omega)
theorem joined_ok (n : Nat) {k : Sg} {f : Nat → Nat → Nat} (hj : Jn k f) {a : Nat} {r : List Nat} : fnN Δ (n + 1) "_law_joined" [.sh (.str k.s), .sh (.tup (natsD (a :: r)))] = .ok (.sh (.int ((r.foldl f a : Nat) : Int))) [.sh (.str k.s), .sh (.tup (natsD (a :: r)))] := by
  rw [df "_law_joined"]
  obtain ⟨s, e⟩ := jo_loop (fnN Δ n) hj (s1 := .sh (.tup (natsD (a :: r)))) r a .no (.inl rfl)
  have x0 : ixD (.tup (natsD (a :: r))) (.int 0) = some (.int (a : Int)) := x_tup0
  have sl : slD (.tup (natsD (a :: r))) (some 1) none = some (.sh (.tup (natsD r))) := by
    show some (Rs.sh (D.tup (cutD (natsD (a :: r)) (some 1) none))) = _
    rw [natsD_cons, cut1]
  unfold runD
  rw [jo_body]
  simp only [c__law_joined, d_asg, d_fors, d_ret, i_ex, runD, List.length_cons, List.length_nil, d_nil, d_cons, e_var, e_int, e_bl, e_non, e_str, e_fnc, e_bin, e_neg, e_inv, e_cmp, e_chn, e_bop, e_nt, e_ite, e_tup, e_lst, e_dct, e_gd, e_spl, e_ptn, e_ix, e_sl, e_bi, e_isi, e_rngL, e_rngT, e_call, e_call0, e_callV, e_dget, e_lc2, e_lc, d_asg, d_asgT, d_par, d_seti, d_app, d_ext, d_exp, d_ifs, d_fors, d_ret, d_retN, d_pass, d_brk, d_cnt, sms, smA, smO, smI, Sm.of, Sm.vt, smVar, rdVar, op1, op2, Re.bd, Re.of, Pl.at, slD?, truD, Rs.d, asgV, setRs, biV, evBs, plAll, evEs, evOp, evA, evTo, evO, evTs, List.cons_append, List.nil_append, List.append_nil, List.replicate, List.getElem?_cons_zero, List.getElem?_cons_succ, List.set_cons_zero, List.set_cons_succ, Option.bind_some, Option.map_some, b_add, b_sub, c_lt, c_le, c_gt, c_ge, f_abs, f_int, f_lenL, f_lenT, decide_true, decide_false, if_true, if_false, Bool.false_eq_true, ite_dec, rngI, rngV, lcV, noOwn, CT.ix, List.all_cons, List.all_nil, Bool.and_true, Sl.own, Bool.not_false, wipeR, backR, bindT, setSh, setShs, asgTV, called, lend, lent, home, List.take_succ_cons, List.take_zero, List.nodup_nil, List.nodup_cons, List.not_mem_nil, not_false_eq_true, and_self, itemsD, seqOf, Option.toList, enuI, Nat.reduceSub, Nat.reduceAdd, Nat.reduceEqDiff, slV, smO, x0, sl, itemsT, e]
/-! ### the law's value -/
def knB : CSs := (.cons (.asg 6 (.bin .Mult (.var 6) (.var 3)))
    .nil)
def knR : CE := .bi .sum (.cons (.lc (.nm 7) (.rng (.cons (.ix (.var 0) (.int 0)) .nil)) .nil (.bin .Mult (.bin .Mod (.bin .FloorDiv (.ix (.var 2) (.int 0)) (.bin .LShift (.int 1) (.var 7))) (.int 2)) (.bin .LShift (.int 1) (.bin .Sub (.bin .Sub (.ix (.var 0) (.int 0)) (.int 1)) (.var 7))))) .nil)
def knJ : CE := .cmp .In (.var 1) (.tup (.cons (.str "and") (.cons (.str "or") (.cons (.str "xor") .nil))))
def knT : CSs := (.cons (.ifs knJ (.cons (.ret (.call "_law_joined" (.ex (.var 1) (.ex (.var 2) .nil)))) .nil) .nil)
    (.cons (.ifs (.cmp .Eq (.var 1) (.str "reversed")) (.cons (.ret knR) .nil) .nil)
    (.cons (.asg 4 (.dct ["first", "greatest", "least", "sum", "product"] (.cons (.ix (.var 2) (.int 0)) (.cons (.bi .maxL (.cons (.var 2) .nil)) (.cons (.bi .minL (.cons (.var 2) .nil)) (.cons (.bi .sum (.cons (.var 2) .nil)) (.cons (.var 6) .nil)))))))
    (.cons (.ret (.bin .Mod (.dget (.var 4) (.var 1) (.call "_law_ones" (.ex (.var 0) (.ex (.var 2) .nil)))) (.var 5)))
    .nil))))
theorem kn_body : c__law_known.body = .cons (.par [5, 6] (.cons (.bin .LShift (.int 1) (.ix (.var 0) (.int 0))) (.cons (.int 1) .nil))) (.cons (.fors (.nm 3) (.ex (.var 2)) knB) knT) := rfl
theorem kn_loop (cf : Fn) {s0 s1 s2 s4 s5 s7 : Sl} : ∀ (l : List Nat) (a : Nat) (s3 : Sl), PI l a → fre s3 →
    ∃ s3', forW cf (.nm 3) knB (natsD l) [s0, s1, s2, s3, s4, s5, .sh (.int (a : Int)), s7] = .ok .nx [s0, s1, s2, s3', s4, s5, .sh (.int ((l.foldl (· * ·) a : Nat) : Int)), s7]
  | [], a, s3, _, _ => ⟨s3, rfl⟩
  | v :: r, a, s3, h, h3 => by
    obtain ⟨hm, h'⟩ := pi_step h
    obtain ⟨s3', e⟩ := kn_loop cf (s0 := s0) (s1 := s1) (s2 := s2) (s4 := s4) (s5 := s5) (s7 := s7) r (a * v) (.sh (.int (v : Int))) h' (.inr ⟨_, rfl⟩)
    refine ⟨s3', ?_⟩
    have t : Wr.forTurn (.nm 3) (sss cf knB) (.int (v : Int)) [s0, s1, s2, s3, s4, s5, .sh (.int (a : Int)), s7] = .ok .nx [s0, s1, s2, .sh (.int (v : Int)), s4, s5, .sh (.int ((a * v : Nat) : Int)), s7] := by
      rw [Int.natCast_mul]
      rcases h3 with rfl | ⟨d3, rfl⟩ <;>
        simp only [Wr.forTurn, knB, d_asg, runD, List.length_cons, List.length_nil, d_nil, d_cons, e_var, e_int, e_bl, e_non, e_str, e_fnc, e_bin, e_neg, e_inv, e_cmp, e_chn, e_bop, e_nt, e_ite, e_tup, e_lst, e_dct, e_gd, e_spl, e_ptn, e_ix, e_sl, e_bi, e_isi, e_rngL, e_rngT, e_call, e_call0, e_callV, e_dget, e_lc2, e_lc, d_asg, d_asgT, d_par, d_seti, d_app, d_ext, d_exp, d_ifs, d_fors, d_ret, d_retN, d_pass, d_brk, d_cnt, sms, smA, smO, smI, Sm.of, Sm.vt, smVar, rdVar, op1, op2, Re.bd, Re.of, Pl.at, slD?, truD, Rs.d, asgV, setRs, biV, evBs, plAll, evEs, evOp, evA, evTo, evO, evTs, List.cons_append, List.nil_append, List.append_nil, List.replicate, List.getElem?_cons_zero, List.getElem?_cons_succ, List.set_cons_zero, List.set_cons_succ, Option.bind_some, Option.map_some, b_add, b_sub, c_lt, c_le, c_gt, c_ge, f_abs, f_int, f_lenL, f_lenT, decide_true, decide_false, if_true, if_false, Bool.false_eq_true, ite_dec, rngI, rngV, lcV, noOwn, CT.ix, List.all_cons, List.all_nil, Bool.and_true, Sl.own, Bool.not_false, wipeR, backR, bindT, setSh, setShs, asgTV, called, lend, lent, home, List.take_succ_cons, List.take_zero, List.nodup_nil, List.nodup_cons, List.not_mem_nil, not_false_eq_true, and_self, itemsD, seqOf, Option.toList, enuI, Nat.reduceSub, Nat.reduceAdd, Nat.reduceEqDiff, b_mul hm]
    unfold forW at e ⊢
    rw [natsD_cons]
    unfold forRun
    rw [t, List.foldl_cons]
    exact e
theorem in_j (k : Sg) : cmpop .In (.str k.s) (.tup [.str "and", .str "or", .str "xor"]) = some (match k with | .and => true | .or => true | .xor => true | _ => false) := by cases k <;> decide +kernel
theorem eq_r (k : Sg) : cmpop .Eq (.str k.s) (.str "reversed") = some (match k with | .reversed => true | _ => false) := by cases k <;> decide +kernel
theorem dg {A B C E F G : D} (k : Sg) : (dctAt (dctD ["first", "greatest", "least", "sum", "product"] [A, B, C, E, F]) k.s).getD G = (match k with | .first => A | .greatest => B | .least => C | .sum => E | .product => F | _ => G) := by
  cases k <;> simp [Sg.s, dctD, dctAt, ofS_eq]
section
variable (n : Nat) {w i a : Nat} {r : List Nat} (hw : w ≤ 8) (hp : ∀ p ∈ a :: r, p < 2 ^ w) (hl : (a :: r).length ≤ 4)
include hw
/-- the reversed word, as the law counts it -/
theorem kn_rev {s1 s3 s4 s5 s6 : Sl} : (sm (fnN Δ (n + 1)) knR).r [.sh (shp w i), s1, .sh (.tup (natsD (a :: r))), s3, s4, s5, s6, .no] = .ok (.sh (.int ((rv w a : Nat) : Int))) [.sh (shp w i), s1, .sh (.tup (natsD (a :: r))), s3, s4, s5, s6, .no] := by
  have x0 : ixD (.tup (natsD (a :: r))) (.int 0) = some (.int (a : Int)) := x_tup0
  have hlc : lcW (fnN Δ (n + 1)) (.nm 7) (.rng (.cons (.ix (.var 0) (.int 0)) .nil)) .nil (.bin .Mult (.bin .Mod (.bin .FloorDiv (.ix (.var 2) (.int 0)) (.bin .LShift (.int 1) (.var 7))) (.int 2)) (.bin .LShift (.int 1) (.bin .Sub (.bin .Sub (.ix (.var 0) (.int 0)) (.int 1)) (.var 7)))) [.sh (shp w i), s1, .sh (.tup (natsD (a :: r))), s3, s4, s5, s6, .no]
      = .ok (.fr (.lst ((List.range w).map fun p => D.int (((a / 2 ^ p % 2 * 2 ^ (w - 1 - p) : Nat)) : Int)))) [.sh (shp w i), s1, .sh (.tup (natsD (a :: r))), s3, s4, s5, s6, .no] := by
    refine lcW_rng (n := w) (ρ1 := [.sh (shp w i), s1, .sh (.tup (natsD (a :: r))), s3, s4, s5, s6, .no]) (fun p => D.int (((a / 2 ^ p % 2 * 2 ^ (w - 1 - p) : Nat)) : Int)) ?_ rfl rfl (fun p hp => ?_) (by omega) rfl
    · have r1 := rngOk_nat (n := w) (by omega)
      simp only [runD, List.length_cons, List.length_nil, d_nil, d_cons, e_var, e_int, e_bl, e_non, e_str, e_fnc, e_bin, e_neg, e_inv, e_cmp, e_chn, e_bop, e_nt, e_ite, e_tup, e_lst, e_dct, e_gd, e_spl, e_ptn, e_ix, e_sl, e_bi, e_isi, e_rngL, e_rngT, e_call, e_call0, e_callV, e_dget, e_lc2, e_lc, d_asg, d_asgT, d_par, d_seti, d_app, d_ext, d_exp, d_ifs, d_fors, d_ret, d_retN, d_pass, d_brk, d_cnt, sms, smA, smO, smI, Sm.of, Sm.vt, smVar, rdVar, op1, op2, Re.bd, Re.of, Pl.at, slD?, truD, Rs.d, asgV, setRs, biV, evBs, plAll, evEs, evOp, evA, evTo, evO, evTs, List.cons_append, List.nil_append, List.append_nil, List.replicate, List.getElem?_cons_zero, List.getElem?_cons_succ, List.set_cons_zero, List.set_cons_succ, Option.bind_some, Option.map_some, b_add, b_sub, c_lt, c_le, c_gt, c_ge, f_abs, f_int, f_lenL, f_lenT, decide_true, decide_false, if_true, if_false, Bool.false_eq_true, ite_dec, rngI, rngV, lcV, noOwn, CT.ix, List.all_cons, List.all_nil, Bool.and_true, Sl.own, Bool.not_false, wipeR, backR, bindT, setSh, setShs, asgTV, called, lend, lent, home, List.take_succ_cons, List.take_zero, List.nodup_nil, List.nodup_cons, List.not_mem_nil, not_false_eq_true, and_self, itemsD, seqOf, Option.toList, enuI, Nat.reduceSub, Nat.reduceAdd, Nat.reduceEqDiff, x_tup0, k_rng1 r1]
    · have s1 := shl_one (k := p) (by omega)
      have s2 := shl_one (k := w - 1 - p) (by omega)
      have p1 : (0 : Int) < ((2 ^ p : Nat) : Int) := by exact_mod_cast Nat.two_pow_pos _
      have q1 : In 9 ((2 ^ p : Nat) : Int) := by
        show ((2 ^ p : Nat) : Int).natAbs < 2 ^ 9
        rw [Int.natAbs_natCast]
        exact Nat.pow_lt_pow_right (by decide) (by omega)
      have q2 : In 9 ((2 ^ (w - 1 - p) : Nat) : Int) := by
        show ((2 ^ (w - 1 - p) : Nat) : Int).natAbs < 2 ^ 9
        rw [Int.natAbs_natCast]
        exact Nat.pow_lt_pow_right (by decide) (by omega)
      have f1 := fdOk_of p1 q1
      have p2 : (0 : Int) < 2 := by decide
      have e1 : (w : Int) - 1 - (p : Int) = ((w - 1 - p : Nat) : Int) := by omega
      have bl := bit_lt (a := a) (p := p)
      have m1 := mulOk_of (show In 2 ((a / 2 ^ p % 2 : Nat) : Int) from .of (by omega) (by omega)) q2
      simp only [lcTurn, runD, List.length_cons, List.length_nil, d_nil, d_cons, e_var, e_int, e_bl, e_non, e_str, e_fnc, e_bin, e_neg, e_inv, e_cmp, e_chn, e_bop, e_nt, e_ite, e_tup, e_lst, e_dct, e_gd, e_spl, e_ptn, e_ix, e_sl, e_bi, e_isi, e_rngL, e_rngT, e_call, e_call0, e_callV, e_dget, e_lc2, e_lc, d_asg, d_asgT, d_par, d_seti, d_app, d_ext, d_exp, d_ifs, d_fors, d_ret, d_retN, d_pass, d_brk, d_cnt, sms, smA, smO, smI, Sm.of, Sm.vt, smVar, rdVar, op1, op2, Re.bd, Re.of, Pl.at, slD?, truD, Rs.d, asgV, setRs, biV, evBs, plAll, evEs, evOp, evA, evTo, evO, evTs, List.cons_append, List.nil_append, List.append_nil, List.replicate, List.getElem?_cons_zero, List.getElem?_cons_succ, List.set_cons_zero, List.set_cons_succ, Option.bind_some, Option.map_some, b_add, b_sub, c_lt, c_le, c_gt, c_ge, f_abs, f_int, f_lenL, f_lenT, decide_true, decide_false, if_true, if_false, Bool.false_eq_true, ite_dec, rngI, rngV, lcV, noOwn, CT.ix, List.all_cons, List.all_nil, Bool.and_true, Sl.own, Bool.not_false, wipeR, backR, bindT, setSh, setShs, asgTV, called, lend, lent, home, List.take_succ_cons, List.take_zero, List.nodup_nil, List.nodup_cons, List.not_mem_nil, not_false_eq_true, and_self, itemsD, seqOf, Option.toList, enuI, Nat.reduceSub, Nat.reduceAdd, Nat.reduceEqDiff, x_tup0, x0, b_shl s1, toNat_nat, one_pow, b_fdv f1, b_mod p2, bit_cast, e1, b_shl s2, b_mul m1, Int.natCast_mul]
  unfold knR
  simp only [runD, List.length_cons, List.length_nil, d_nil, d_cons, e_var, e_int, e_bl, e_non, e_str, e_fnc, e_bin, e_neg, e_inv, e_cmp, e_chn, e_bop, e_nt, e_ite, e_tup, e_lst, e_dct, e_gd, e_spl, e_ptn, e_ix, e_sl, e_bi, e_isi, e_rngL, e_rngT, e_call, e_call0, e_callV, e_dget, e_lc2, e_lc, d_asg, d_asgT, d_par, d_seti, d_app, d_ext, d_exp, d_ifs, d_fors, d_ret, d_retN, d_pass, d_brk, d_cnt, sms, smA, smO, smI, Sm.of, Sm.vt, smVar, rdVar, op1, op2, Re.bd, Re.of, Pl.at, slD?, truD, Rs.d, asgV, setRs, biV, evBs, plAll, evEs, evOp, evA, evTo, evO, evTs, List.cons_append, List.nil_append, List.append_nil, List.replicate, List.getElem?_cons_zero, List.getElem?_cons_succ, List.set_cons_zero, List.set_cons_succ, Option.bind_some, Option.map_some, b_add, b_sub, c_lt, c_le, c_gt, c_ge, f_abs, f_int, f_lenL, f_lenT, decide_true, decide_false, if_true, if_false, Bool.false_eq_true, ite_dec, rngI, rngV, lcV, noOwn, CT.ix, List.all_cons, List.all_nil, Bool.and_true, Sl.own, Bool.not_false, wipeR, backR, bindT, setSh, setShs, asgTV, called, lend, lent, home, List.take_succ_cons, List.take_zero, List.nodup_nil, List.nodup_cons, List.not_mem_nil, not_false_eq_true, and_self, itemsD, seqOf, Option.toList, enuI, Nat.reduceSub, Nat.reduceAdd, Nat.reduceEqDiff, hlc, rev_sum, f_sumL]
  rfl
end
section
variable (n : Nat) {w i a : Nat} {r : List Nat}
theorem modW {v w : Nat} : ((v : Nat) : Int) % ((2 ^ w : Nat) : Int) = ((v % 2 ^ w : Nat) : Int) := by norm_cast
theorem tail_j {k : Sg} {f : Nat → Nat → Nat} (hj : Jn k f) {s0 s3 s4 s5 s6 s7 : Sl} : sss (fnN Δ (n + 1)) knT [s0, .sh (.str k.s), .sh (.tup (natsD (a :: r))), s3, s4, s5, s6, s7] = .ok (.rt (.sh (.int ((r.foldl f a : Nat) : Int)))) [s0, .sh (.str k.s), .sh (.tup (natsD (a :: r))), s3, s4, s5, s6, s7] := by
  have h1 : cmpop .In (.str k.s) (.tup [.str "and", .str "or", .str "xor"]) = some true := by cases hj <;> exact in_j _
  have c1 := joined_ok n hj (a := a) (r := r)
  have z3 : (3 : Nat) ≤ sizeL := by show 3 ≤ 16777216; omega
  simp only [knT, knJ, d_ifs, d_ret, runD, List.length_cons, List.length_nil, d_nil, d_cons, e_var, e_int, e_bl, e_non, e_str, e_fnc, e_bin, e_neg, e_inv, e_cmp, e_chn, e_bop, e_nt, e_ite, e_tup, e_lst, e_dct, e_gd, e_spl, e_ptn, e_ix, e_sl, e_bi, e_isi, e_rngL, e_rngT, e_call, e_call0, e_callV, e_dget, e_lc2, e_lc, d_asg, d_asgT, d_par, d_seti, d_app, d_ext, d_exp, d_ifs, d_fors, d_ret, d_retN, d_pass, d_brk, d_cnt, sms, smA, smO, smI, Sm.of, Sm.vt, smVar, rdVar, op1, op2, Re.bd, Re.of, Pl.at, slD?, truD, Rs.d, asgV, setRs, biV, evBs, plAll, evEs, evOp, evA, evTo, evO, evTs, List.cons_append, List.nil_append, List.append_nil, List.replicate, List.getElem?_cons_zero, List.getElem?_cons_succ, List.set_cons_zero, List.set_cons_succ, Option.bind_some, Option.map_some, b_add, b_sub, c_lt, c_le, c_gt, c_ge, f_abs, f_int, f_lenL, f_lenT, decide_true, decide_false, if_true, if_false, Bool.false_eq_true, ite_dec, rngI, rngV, lcV, noOwn, CT.ix, List.all_cons, List.all_nil, Bool.and_true, Sl.own, Bool.not_false, wipeR, backR, bindT, setSh, setShs, asgTV, called, lend, lent, home, List.take_succ_cons, List.take_zero, List.nodup_nil, List.nodup_cons, List.not_mem_nil, not_false_eq_true, and_self, itemsD, seqOf, Option.toList, enuI, Nat.reduceSub, Nat.reduceAdd, Nat.reduceEqDiff, z3, h1, c1]
theorem tail_r (hw : w ≤ 8) {s3 s4 s5 s6 : Sl} : sss (fnN Δ (n + 1)) knT [.sh (shp w i), .sh (.str Sg.reversed.s), .sh (.tup (natsD (a :: r))), s3, s4, s5, s6, .no] = .ok (.rt (.sh (.int ((rv w a : Nat) : Int)))) [.sh (shp w i), .sh (.str Sg.reversed.s), .sh (.tup (natsD (a :: r))), s3, s4, s5, s6, .no] := by
  have h1 : cmpop .In (.str Sg.reversed.s) (.tup [.str "and", .str "or", .str "xor"]) = some false := in_j _
  have h2 : cmpop .Eq (.str Sg.reversed.s) (.str "reversed") = some true := eq_r _
  have z3 : (3 : Nat) ≤ sizeL := by show 3 ≤ 16777216; omega
  have h3 := kn_rev n (i := i) (a := a) (r := r) hw (s1 := .sh (.str Sg.reversed.s)) (s3 := s3) (s4 := s4) (s5 := s5) (s6 := s6)
  have h4 : ss (fnN Δ (n + 1)) (.ret knR) = fun ρ => ((sm (fnN Δ (n + 1)) knR).r ρ).bd fun r ρ1 => .ok (.rt r) ρ1 := rfl
  have h5 : ss (fnN Δ (n + 1)) (.ret knR) [.sh (shp w i), .sh (.str Sg.reversed.s), .sh (.tup (natsD (a :: r))), s3, s4, s5, s6, .no] = .ok (.rt (.sh (.int ((rv w a : Nat) : Int)))) [.sh (shp w i), .sh (.str Sg.reversed.s), .sh (.tup (natsD (a :: r))), s3, s4, s5, s6, .no] := by
    rw [h4]
    dsimp only
    rw [h3]
    rfl
  generalize hR : ss (fnN Δ (n + 1)) (.ret knR) = R at h5
  have hR' : ∀ ρ, sss (fnN Δ (n + 1)) (.cons (.ret knR) .nil) ρ = (R ρ).bd fun o ρ1 => match o with
    | .nx => sss (fnN Δ (n + 1)) .nil ρ1
    | o => .ok o ρ1 := fun ρ => by rw [← hR]; rfl
  unfold knT
  rw [d_cons]
  simp only [d_ifs, knJ, e_cmp, e_tup, runD, List.length_cons, List.length_nil, d_nil, d_cons, e_var, e_int, e_bl, e_non, e_str, e_fnc, e_bin, e_neg, e_inv, e_cmp, e_chn, e_bop, e_nt, e_ite, e_tup, e_lst, e_dct, e_gd, e_spl, e_ptn, e_ix, e_sl, e_bi, e_isi, e_rngL, e_rngT, e_call, e_call0, e_callV, e_dget, e_lc2, e_lc, d_asg, d_asgT, d_par, d_seti, d_app, d_ext, d_exp, d_ifs, d_fors, d_ret, d_retN, d_pass, d_brk, d_cnt, sms, smA, smO, smI, Sm.of, Sm.vt, smVar, rdVar, op1, op2, Re.bd, Re.of, Pl.at, slD?, truD, Rs.d, asgV, setRs, biV, evBs, plAll, evEs, evOp, evA, evTo, evO, evTs, List.cons_append, List.nil_append, List.append_nil, List.replicate, List.getElem?_cons_zero, List.getElem?_cons_succ, List.set_cons_zero, List.set_cons_succ, Option.bind_some, Option.map_some, b_add, b_sub, c_lt, c_le, c_gt, c_ge, f_abs, f_int, f_lenL, f_lenT, decide_true, decide_false, if_true, if_false, Bool.false_eq_true, ite_dec, rngI, rngV, lcV, noOwn, CT.ix, List.all_cons, List.all_nil, Bool.and_true, Sl.own, Bool.not_false, wipeR, backR, bindT, setSh, setShs, asgTV, called, lend, lent, home, List.take_succ_cons, List.take_zero, List.nodup_nil, List.nodup_cons, List.not_mem_nil, not_false_eq_true, and_self, itemsD, seqOf, Option.toList, enuI, Nat.reduceSub, Nat.reduceAdd, Nat.reduceEqDiff, z3, h1, h2, hR', h5]
theorem tail_d (hw : w ≤ 8) (k : Sg) (h1 : cmpop .In (.str k.s) (.tup [.str "and", .str "or", .str "xor"]) = some false) (h2 : cmpop .Eq (.str k.s) (.str "reversed") = some false) {s3 s7 : Sl} {P v : Nat}
    (hv : (dctAt (dctD ["first", "greatest", "least", "sum", "product"] [.int (a : Int), .int ((maxN (a :: r) : Nat) : Int), .int ((minN (a :: r) : Nat) : Int), .int (((a :: r).sum : Nat) : Int), .int (P : Int)]) k.s).getD (.int ((((a :: r).map (on w)).sum : Nat) : Int)) = .int (v : Int)) :
    ∃ s4, sss (fnN Δ (n + 1)) knT [.sh (shp w i), .sh (.str k.s), .sh (.tup (natsD (a :: r))), s3, .no, .sh (.int ((2 ^ w : Nat) : Int)), .sh (.int (P : Int)), s7] = .ok (.rt (.sh (.int ((v % 2 ^ w : Nat) : Int)))) [.sh (shp w i), .sh (.str k.s), .sh (.tup (natsD (a :: r))), s3, s4, .sh (.int ((2 ^ w : Nat) : Int)), .sh (.int (P : Int)), s7] := by
  have z3 : (3 : Nat) ≤ sizeL := by show 3 ≤ 16777216; omega
  have x0 : ixD (.tup (natsD (a :: r))) (.int 0) = some (.int (a : Int)) := x_tup0
  have c1 := lones_ok n (i := i) (l := a :: r) hw
  have p1 : (0 : Int) < ((2 ^ w : Nat) : Int) := by exact_mod_cast Nat.two_pow_pos _
  refine ⟨.ow (.dct (dctD ["first", "greatest", "least", "sum", "product"] [.int (a : Int), .int ((maxN (a :: r) : Nat) : Int), .int ((minN (a :: r) : Nat) : Int), .int (((a :: r).sum : Nat) : Int), .int (P : Int)])), ?_⟩
  simp only [knT, knJ, d_ifs, d_ret, d_asg, runD, List.length_cons, List.length_nil, d_nil, d_cons, e_var, e_int, e_bl, e_non, e_str, e_fnc, e_bin, e_neg, e_inv, e_cmp, e_chn, e_bop, e_nt, e_ite, e_tup, e_lst, e_dct, e_gd, e_spl, e_ptn, e_ix, e_sl, e_bi, e_isi, e_rngL, e_rngT, e_call, e_call0, e_callV, e_dget, e_lc2, e_lc, d_asg, d_asgT, d_par, d_seti, d_app, d_ext, d_exp, d_ifs, d_fors, d_ret, d_retN, d_pass, d_brk, d_cnt, sms, smA, smO, smI, Sm.of, Sm.vt, smVar, rdVar, op1, op2, Re.bd, Re.of, Pl.at, slD?, truD, Rs.d, asgV, setRs, biV, evBs, plAll, evEs, evOp, evA, evTo, evO, evTs, List.cons_append, List.nil_append, List.append_nil, List.replicate, List.getElem?_cons_zero, List.getElem?_cons_succ, List.set_cons_zero, List.set_cons_succ, Option.bind_some, Option.map_some, b_add, b_sub, c_lt, c_le, c_gt, c_ge, f_abs, f_int, f_lenL, f_lenT, decide_true, decide_false, if_true, if_false, Bool.false_eq_true, ite_dec, rngI, rngV, lcV, noOwn, CT.ix, List.all_cons, List.all_nil, Bool.and_true, Sl.own, Bool.not_false, wipeR, backR, bindT, setSh, setShs, asgTV, called, lend, lent, home, List.take_succ_cons, List.take_zero, List.nodup_nil, List.nodup_cons, List.not_mem_nil, not_false_eq_true, and_self, itemsD, seqOf, Option.toList, enuI, Nat.reduceSub, Nat.reduceAdd, Nat.reduceEqDiff, z3, h1, h2, x0, f_maxT, f_minT, f_sumT, dgetV, c1, hv, b_mod p1, modW]
end
theorem fold_lt {f : Nat → Nat → Nat} {m : Nat} (hf : ∀ x y, x < m → y < m → f x y < m) : ∀ (l : List Nat) (a : Nat), a < m → (∀ p ∈ l, p < m) → l.foldl f a < m
  | [], a, h, _ => h
  | p :: l, a, h, hp => by
    rw [List.foldl_cons]
    exact fold_lt hf l _ (hf _ _ h (hp p List.mem_cons_self)) fun q hq => hp q (List.mem_cons_of_mem _ hq)
theorem jn_val {k : Sg} {f : Nat → Nat → Nat} (hj : Jn k f) {w a : Nat} {r : List Nat} (hp : ∀ p ∈ a :: r, p < 2 ^ w) : r.foldl f a = k.val w (a :: r) % 2 ^ w := by
  have ha := hp a List.mem_cons_self
  have hr := fun p h => hp p (List.mem_cons_of_mem a h)
  cases hj
  · have e : Sg.and.val w (a :: r) = r.foldl (· &&& ·) a := by
      show (a :: r).foldl (· &&& ·) a = _
      rw [List.foldl_cons, Nat.and_self]
    rw [e, Nat.mod_eq_of_lt (fold_lt (fun x y _ hy => Nat.and_lt_two_pow x hy) r a ha hr)]
  · have e : Sg.or.val w (a :: r) = r.foldl (· ||| ·) a := by
      show (a :: r).foldl (· ||| ·) 0 = _
      rw [List.foldl_cons, Nat.zero_or]
    rw [e, Nat.mod_eq_of_lt (fold_lt (fun x y hx hy => Nat.or_lt_two_pow hx hy) r a ha hr)]
  · have e : Sg.xor.val w (a :: r) = r.foldl (· ^^^ ·) a := by
      show (a :: r).foldl (· ^^^ ·) 0 = _
      rw [List.foldl_cons, Nat.zero_xor]
    rw [e, Nat.mod_eq_of_lt (fold_lt (fun x y hx hy => Nat.xor_lt_two_pow hx hy) r a ha hr)]
theorem kn_tail (n : Nat) (k : Sg) {w i a : Nat} {r : List Nat} (hw : w ≤ 8) (hp : ∀ p ∈ a :: r, p < 2 ^ w) {s3 : Sl} :
    ∃ s4, sss (fnN Δ (n + 1)) knT [.sh (shp w i), .sh (.str k.s), .sh (.tup (natsD (a :: r))), s3, .no, .sh (.int ((2 ^ w : Nat) : Int)), .sh (.int (((a :: r).foldl (· * ·) 1 : Nat) : Int)), .no] = .ok (.rt (.sh (.int ((k.val w (a :: r) % 2 ^ w : Nat) : Int)))) [.sh (shp w i), .sh (.str k.s), .sh (.tup (natsD (a :: r))), s3, s4, .sh (.int ((2 ^ w : Nat) : Int)), .sh (.int (((a :: r).foldl (· * ·) 1 : Nat) : Int)), .no] := by
  cases k
  · exact ⟨.no, by rw [tail_j n .and, jn_val .and hp]⟩
  · exact tail_d n hw _ (in_j _) (eq_r _) (dg _)
  · exact tail_d n hw _ (in_j _) (eq_r _) (dg _)
  · exact tail_d n hw _ (in_j _) (eq_r _) (dg _)
  · exact tail_d n hw _ (in_j _) (eq_r _) (dg _)
  · exact ⟨.no, by rw [tail_j n .or, jn_val .or hp]⟩
  · exact tail_d n hw _ (in_j _) (eq_r _) (dg _)
  · refine ⟨.no, ?_⟩
    rw [tail_r n hw]
    have e : Sg.reversed.val w (a :: r) = rv w a := rfl
    rw [e, Nat.mod_eq_of_lt rv_lt]
  · exact tail_d n hw _ (in_j _) (eq_r _) (dg _)
  · exact ⟨.no, by rw [tail_j n .xor, jn_val .xor hp]⟩
theorem known_ok (n : Nat) (k : Sg) {w i a : Nat} {r : List Nat} (hw : w ≤ 8) (hp : ∀ p ∈ a :: r, p < 2 ^ w) (hl : (a :: r).length ≤ 4) : fnN Δ (n + 2) "_law_known" [.sh (shp w i), .sh (.str k.s), .sh (.tup (natsD (a :: r)))] = .ok (.sh (.int ((k.val w (a :: r) % 2 ^ w : Nat) : Int))) [.sh (shp w i), .sh (.str k.s), .sh (.tup (natsD (a :: r)))] := by
  rw [df "_law_known"]
  have w8 : 2 ^ w ≤ 2 ^ 8 := Nat.pow_le_pow_right (by decide) hw
  have hp8 : ∀ p ∈ a :: r, p < 256 := fun p h => Nat.lt_of_lt_of_le (hp p h) w8
  obtain ⟨s3, e⟩ := kn_loop (fnN Δ (n + 1)) (s0 := .sh (shp w i)) (s1 := .sh (.str k.s)) (s2 := .sh (.tup (natsD (a :: r)))) (s4 := .no) (s5 := .sh (.int ((2 ^ w : Nat) : Int))) (s7 := .no) (a :: r) 1 .no (pi_start hp8 hl) (.inl rfl)
  rw [Int.natCast_one] at e
  obtain ⟨s4, t⟩ := kn_tail n k (i := i) hw hp (s3 := s3)
  have s1 := shl_one (k := w) (by omega)
  generalize hT : sss (fnN Δ (n + 1)) knT = T at t
  have hT' : ∀ ρ, sss (fnN Δ (n + 1)) (.cons (.fors (.nm 3) (.ex (.var 2)) knB) knT) ρ = (ss (fnN Δ (n + 1)) (.fors (.nm 3) (.ex (.var 2)) knB) ρ).bd fun o ρ1 => match o with
    | .nx => T ρ1
    | o => .ok o ρ1 := fun ρ => by rw [← hT]; rfl
  unfold runD
  rw [kn_body, show c__law_known.np = 3 from rfl, show c__law_known.ns = 8 from rfl, if_pos (show [Sl.sh (shp w i), Sl.sh (D.str k.s), Sl.sh (D.tup (natsD (a :: r)))].length = 3 from rfl), d_cons]
  simp only [d_par, d_fors, parV, evRs, setRss, i_ex, hT', runD, List.length_cons, List.length_nil, d_nil, d_cons, e_var, e_int, e_bl, e_non, e_str, e_fnc, e_bin, e_neg, e_inv, e_cmp, e_chn, e_bop, e_nt, e_ite, e_tup, e_lst, e_dct, e_gd, e_spl, e_ptn, e_ix, e_sl, e_bi, e_isi, e_rngL, e_rngT, e_call, e_call0, e_callV, e_dget, e_lc2, e_lc, d_asg, d_asgT, d_par, d_seti, d_app, d_ext, d_exp, d_ifs, d_fors, d_ret, d_retN, d_pass, d_brk, d_cnt, sms, smA, smO, smI, Sm.of, Sm.vt, smVar, rdVar, op1, op2, Re.bd, Re.of, Pl.at, slD?, truD, Rs.d, asgV, setRs, biV, evBs, plAll, evEs, evOp, evA, evTo, evO, evTs, List.cons_append, List.nil_append, List.append_nil, List.replicate, List.getElem?_cons_zero, List.getElem?_cons_succ, List.set_cons_zero, List.set_cons_succ, Option.bind_some, Option.map_some, b_add, b_sub, c_lt, c_le, c_gt, c_ge, f_abs, f_int, f_lenL, f_lenT, decide_true, decide_false, if_true, if_false, Bool.false_eq_true, ite_dec, rngI, rngV, lcV, noOwn, CT.ix, List.all_cons, List.all_nil, Bool.and_true, Sl.own, Bool.not_false, wipeR, backR, bindT, setSh, setShs, asgTV, called, lend, lent, home, List.take_succ_cons, List.take_zero, List.nodup_nil, List.nodup_cons, List.not_mem_nil, not_false_eq_true, and_self, itemsD, seqOf, Option.toList, enuI, Nat.reduceSub, Nat.reduceAdd, Nat.reduceEqDiff, x_tup0, b_shl s1, toNat_nat, one_pow, itemsT, e, t]
/-! ### the table -/
def fsK : List Str := ["and_of_words", "first_word", "greatest_of_words", "least_of_words", "ones_of_words", "or_of_words", "product_of_words", "reversed_word", "sum_of_words", "xor_of_words"]
theorem kt_body : c_known_table.body = (.cons (.ifs (.bop false (.cons (.nt (.isi .str (.var 1))) (.cons (.cmp .NotIn (.var 1) (.gd "KNOWN" k_KNOWN)) .nil))) (.cons .nev .nil) .nil)
    (.cons (.asg 2 (.ix (.gd "KNOWN" k_KNOWN) (.var 1)))
    (.cons (.asg 3 (.lc (.nm 4) (.rng (.cons (.call "table_size" (.ex (.var 0) .nil)) .nil)) .nil (.callV 2 fsK (.ex (.var 0) (.ex (.call "words_of" (.ex (.var 0) (.ex (.var 4) .nil))) .nil)))))
    (.cons (.ret (.bi .tupleOf (.cons (.lc (.nm 5) (.ex (.var 3)) .nil (.bin .BitAnd (.var 5) (.call "greatest_word" (.ex (.var 0) .nil)))) .nil)))
    .nil)))) := rfl
theorem isi_str {x : Str} : isiD .str (.str x) = some true := rfl
theorem kn_in (k : Sg) : cmpop .NotIn (.str k.s) (.kdc k_KNOWN) = some false := by cases k <;> decide +kernel
theorem kn_at (k : Sg) : gvAt k_KNOWN k.s = some (.fn k.fn) := by cases k <;> rfl
theorem kn_fs (k : Sg) : fsK.contains k.fn = true := by cases k <;> decide +kernel
def tab (k : Sg) (w i : Nat) : List Nat := (List.range (2 ^ (w * i))).map fun x => k.val w (pl w i x) % 2 ^ w
theorem pl_cons {w i x : Nat} (h1 : 1 ≤ i) : ∃ a r, pl w i x = a :: r := by
  have h := pl_len (w := w) (i := i) (x := x)
  cases e : pl w i x with
  | nil => rw [e] at h; exact absurd h (by rw [List.length_nil]; omega)
  | cons a r => exact ⟨a, r, rfl⟩
theorem fnw_ok (n : Nat) (k : Sg) {w i x : Nat} (hw : w ≤ 8) (h1 : 1 ≤ i) (hi : i ≤ 4) : fnN Δ (n + 1) k.fn [.sh (shp w i), .sh (.tup (natsD (pl w i x)))] = .ok (.sh (.int ((k.val w (pl w i x) : Nat) : Int))) [.sh (shp w i), .sh (.tup (natsD (pl w i x)))] := by
  have w8 : 2 ^ w ≤ 2 ^ 8 := Nat.pow_le_pow_right (by decide) hw
  have h := pl_lt (w := w) (i := i) (x := x)
  have l := pl_len (w := w) (i := i) (x := x)
  obtain ⟨a, r, e⟩ := pl_cons (w := w) (x := x) h1
  rw [e] at h l ⊢
  exact fn_ok n k hw (fun p hp => Nat.lt_of_lt_of_le (h p hp) w8) (by omega)
theorem knw_ok (n : Nat) (k : Sg) {w i x : Nat} (hw : w ≤ 8) (h1 : 1 ≤ i) (hi : i ≤ 4) : fnN Δ (n + 2) "_law_known" [.sh (shp w i), .sh (.str k.s), .sh (.tup (natsD (pl w i x)))] = .ok (.sh (.int ((k.val w (pl w i x) % 2 ^ w : Nat) : Int))) [.sh (shp w i), .sh (.str k.s), .sh (.tup (natsD (pl w i x)))] := by
  have h := pl_lt (w := w) (i := i) (x := x)
  have l := pl_len (w := w) (i := i) (x := x)
  obtain ⟨a, r, e⟩ := pl_cons (w := w) (x := x) h1
  rw [e] at h l ⊢
  exact known_ok n k hw h (by omega)
theorem mask_ok {v w : Nat} : Builtin.bitAnd ((v : Nat) : Int) (2 ^ w - 1) = ((v % 2 ^ w : Nat) : Int) := by
  rw [Bits.bitAnd_mask w (Int.natCast_nonneg v)]
  norm_cast
theorem nats_lc {f : Nat → Nat} {l : List Nat} : (l.map fun x => D.int ((f x : Nat) : Int)) = natsD (l.map f) := by
  unfold natsD
  rw [List.map_map]
  rfl
theorem table_ok (n : Nat) (k : Sg) {w i : Nat} (hw : w ≤ 8) (h1 : 1 ≤ i) (hi : i ≤ 4) (hwi : w * i ≤ 8) : fnN Δ (n + 3) "known_table" [.sh (shp w i), .sh (.str k.s)] = .ok (.sh (.tup (natsD (tab k w i)))) [.sh (shp w i), .sh (.str k.s)] := by
  rw [df "known_table"]
  have N8 : 2 ^ (w * i) ≤ 2 ^ 8 := Nat.pow_le_pow_right (by decide) hwi
  have cs := size_ok n (w := w) (i := i) hw hi
  have cg := greatest_ok (n + 1) (w := w) (i := i) hw
  have r1 := rngOk_nat (n := 2 ^ (w * i)) (by omega)
  have l1 : lcW (fnN Δ (n + 2)) (.nm 4) (.rng (.cons (.call "table_size" (.ex (.var 0) .nil)) .nil)) .nil (.callV 2 fsK (.ex (.var 0) (.ex (.call "words_of" (.ex (.var 0) (.ex (.var 4) .nil))) .nil))) [.sh (shp w i), .sh (.str k.s), .sh (.fnc k.fn), .no, .no, .no]
      = .ok (.fr (.lst (natsD ((List.range (2 ^ (w * i))).map fun x => k.val w (pl w i x))))) [.sh (shp w i), .sh (.str k.s), .sh (.fnc k.fn), .no, .no, .no] := by
    rw [← nats_lc]
    refine lcW_rng (n := 2 ^ (w * i)) (ρ1 := [.sh (shp w i), .sh (.str k.s), .sh (.fnc k.fn), .no, .no, .no]) (fun x => D.int ((k.val w (pl w i x) : Nat) : Int)) ?_ rfl rfl (fun x hx => ?_) (by omega) rfl
    · simp only [runD, List.length_cons, List.length_nil, d_nil, d_cons, e_var, e_int, e_bl, e_non, e_str, e_fnc, e_bin, e_neg, e_inv, e_cmp, e_chn, e_bop, e_nt, e_ite, e_tup, e_lst, e_dct, e_gd, e_spl, e_ptn, e_ix, e_sl, e_bi, e_isi, e_rngL, e_rngT, e_call, e_call0, e_callV, e_dget, e_lc2, e_lc, d_asg, d_asgT, d_par, d_seti, d_app, d_ext, d_exp, d_ifs, d_fors, d_ret, d_retN, d_pass, d_brk, d_cnt, sms, smA, smO, smI, Sm.of, Sm.vt, smVar, rdVar, op1, op2, Re.bd, Re.of, Pl.at, slD?, truD, Rs.d, asgV, setRs, biV, evBs, plAll, evEs, evOp, evA, evTo, evO, evTs, List.cons_append, List.nil_append, List.append_nil, List.replicate, List.getElem?_cons_zero, List.getElem?_cons_succ, List.set_cons_zero, List.set_cons_succ, Option.bind_some, Option.map_some, b_add, b_sub, c_lt, c_le, c_gt, c_ge, f_abs, f_int, f_lenL, f_lenT, decide_true, decide_false, if_true, if_false, Bool.false_eq_true, ite_dec, rngI, rngV, lcV, noOwn, CT.ix, List.all_cons, List.all_nil, Bool.and_true, Sl.own, Bool.not_false, wipeR, backR, bindT, setSh, setShs, asgTV, called, lend, lent, home, List.take_succ_cons, List.take_zero, List.nodup_nil, List.nodup_cons, List.not_mem_nil, not_false_eq_true, and_self, itemsD, seqOf, Option.toList, enuI, Nat.reduceSub, Nat.reduceAdd, Nat.reduceEqDiff, cs, k_rng1 r1]
    · have cw := words_ok n (x := x) hw hi
      rw [wl_pl] at cw
      have cf := fnw_ok (n + 1) k (x := x) hw h1 hi
      have kf := kn_fs k
      simp only [lcTurn, callVV, runD, List.length_cons, List.length_nil, d_nil, d_cons, e_var, e_int, e_bl, e_non, e_str, e_fnc, e_bin, e_neg, e_inv, e_cmp, e_chn, e_bop, e_nt, e_ite, e_tup, e_lst, e_dct, e_gd, e_spl, e_ptn, e_ix, e_sl, e_bi, e_isi, e_rngL, e_rngT, e_call, e_call0, e_callV, e_dget, e_lc2, e_lc, d_asg, d_asgT, d_par, d_seti, d_app, d_ext, d_exp, d_ifs, d_fors, d_ret, d_retN, d_pass, d_brk, d_cnt, sms, smA, smO, smI, Sm.of, Sm.vt, smVar, rdVar, op1, op2, Re.bd, Re.of, Pl.at, slD?, truD, Rs.d, asgV, setRs, biV, evBs, plAll, evEs, evOp, evA, evTo, evO, evTs, List.cons_append, List.nil_append, List.append_nil, List.replicate, List.getElem?_cons_zero, List.getElem?_cons_succ, List.set_cons_zero, List.set_cons_succ, Option.bind_some, Option.map_some, b_add, b_sub, c_lt, c_le, c_gt, c_ge, f_abs, f_int, f_lenL, f_lenT, decide_true, decide_false, if_true, if_false, Bool.false_eq_true, ite_dec, rngI, rngV, lcV, noOwn, CT.ix, List.all_cons, List.all_nil, Bool.and_true, Sl.own, Bool.not_false, wipeR, backR, bindT, setSh, setShs, asgTV, called, lend, lent, home, List.take_succ_cons, List.take_zero, List.nodup_nil, List.nodup_cons, List.not_mem_nil, not_false_eq_true, and_self, itemsD, seqOf, Option.toList, enuI, Nat.reduceSub, Nat.reduceAdd, Nat.reduceEqDiff, cw, cf, kf]
  have l2 : ∀ L : List Nat, L.length ≤ 1000 → lcW (fnN Δ (n + 2)) (.nm 5) (.ex (.var 3)) .nil (.bin .BitAnd (.var 5) (.call "greatest_word" (.ex (.var 0) .nil))) [.sh (shp w i), .sh (.str k.s), .sh (.fnc k.fn), .ow (.lst (natsD L)), .no, .no]
      = .ok (.fr (.lst (L.map fun v => D.int ((v % 2 ^ w : Nat) : Int)))) [.sh (shp w i), .sh (.str k.s), .sh (.fnc k.fn), .sh (.lst (natsD L)), .no, .no] := fun L hL => by
    refine lcW_nats (l := L) (ρ1 := [.sh (shp w i), .sh (.str k.s), .sh (.fnc k.fn), .sh (.lst (natsD L)), .no, .no]) (fun v => D.int ((v % 2 ^ w : Nat) : Int)) ?_ rfl rfl (fun x hx => ?_) (by omega) rfl
    · simp only [i_ex, runD, List.length_cons, List.length_nil, d_nil, d_cons, e_var, e_int, e_bl, e_non, e_str, e_fnc, e_bin, e_neg, e_inv, e_cmp, e_chn, e_bop, e_nt, e_ite, e_tup, e_lst, e_dct, e_gd, e_spl, e_ptn, e_ix, e_sl, e_bi, e_isi, e_rngL, e_rngT, e_call, e_call0, e_callV, e_dget, e_lc2, e_lc, d_asg, d_asgT, d_par, d_seti, d_app, d_ext, d_exp, d_ifs, d_fors, d_ret, d_retN, d_pass, d_brk, d_cnt, sms, smA, smO, smI, Sm.of, Sm.vt, smVar, rdVar, op1, op2, Re.bd, Re.of, Pl.at, slD?, truD, Rs.d, asgV, setRs, biV, evBs, plAll, evEs, evOp, evA, evTo, evO, evTs, List.cons_append, List.nil_append, List.append_nil, List.replicate, List.getElem?_cons_zero, List.getElem?_cons_succ, List.set_cons_zero, List.set_cons_succ, Option.bind_some, Option.map_some, b_add, b_sub, c_lt, c_le, c_gt, c_ge, f_abs, f_int, f_lenL, f_lenT, decide_true, decide_false, if_true, if_false, Bool.false_eq_true, ite_dec, rngI, rngV, lcV, noOwn, CT.ix, List.all_cons, List.all_nil, Bool.and_true, Sl.own, Bool.not_false, wipeR, backR, bindT, setSh, setShs, asgTV, called, lend, lent, home, List.take_succ_cons, List.take_zero, List.nodup_nil, List.nodup_cons, List.not_mem_nil, not_false_eq_true, and_self, itemsD, seqOf, Option.toList, enuI, Nat.reduceSub, Nat.reduceAdd, Nat.reduceEqDiff]
    · simp only [lcTurn, runD, List.length_cons, List.length_nil, d_nil, d_cons, e_var, e_int, e_bl, e_non, e_str, e_fnc, e_bin, e_neg, e_inv, e_cmp, e_chn, e_bop, e_nt, e_ite, e_tup, e_lst, e_dct, e_gd, e_spl, e_ptn, e_ix, e_sl, e_bi, e_isi, e_rngL, e_rngT, e_call, e_call0, e_callV, e_dget, e_lc2, e_lc, d_asg, d_asgT, d_par, d_seti, d_app, d_ext, d_exp, d_ifs, d_fors, d_ret, d_retN, d_pass, d_brk, d_cnt, sms, smA, smO, smI, Sm.of, Sm.vt, smVar, rdVar, op1, op2, Re.bd, Re.of, Pl.at, slD?, truD, Rs.d, asgV, setRs, biV, evBs, plAll, evEs, evOp, evA, evTo, evO, evTs, List.cons_append, List.nil_append, List.append_nil, List.replicate, List.getElem?_cons_zero, List.getElem?_cons_succ, List.set_cons_zero, List.set_cons_succ, Option.bind_some, Option.map_some, b_add, b_sub, c_lt, c_le, c_gt, c_ge, f_abs, f_int, f_lenL, f_lenT, decide_true, decide_false, if_true, if_false, Bool.false_eq_true, ite_dec, rngI, rngV, lcV, noOwn, CT.ix, List.all_cons, List.all_nil, Bool.and_true, Sl.own, Bool.not_false, wipeR, backR, bindT, setSh, setShs, asgTV, called, lend, lent, home, List.take_succ_cons, List.take_zero, List.nodup_nil, List.nodup_cons, List.not_mem_nil, not_false_eq_true, and_self, itemsD, seqOf, Option.toList, enuI, Nat.reduceSub, Nat.reduceAdd, Nat.reduceEqDiff, cg, b_and, mask_ok]
  have l3 := l2 ((List.range (2 ^ (w * i))).map fun x => k.val w (pl w i x)) (by rw [List.length_map, List.length_range]; omega)
  have e3 : (((List.range (2 ^ (w * i))).map fun x => k.val w (pl w i x)).map fun v => D.int ((v % 2 ^ w : Nat) : Int)) = natsD (tab k w i) := by
    unfold tab natsD
    rw [List.map_map, List.map_map]
    rfl
  rw [e3] at l3
  have g1 : ixD (.kdc k_KNOWN) (.str k.s) = some (.fnc k.fn) := by rw [x_kdc, kn_at]; rfl
  unfold runD
  rw [kt_body]
  simp only [c_known_table, d_ifs, d_asg, d_ret, runD, List.length_cons, List.length_nil, d_nil, d_cons, e_var, e_int, e_bl, e_non, e_str, e_fnc, e_bin, e_neg, e_inv, e_cmp, e_chn, e_bop, e_nt, e_ite, e_tup, e_lst, e_dct, e_gd, e_spl, e_ptn, e_ix, e_sl, e_bi, e_isi, e_rngL, e_rngT, e_call, e_call0, e_callV, e_dget, e_lc2, e_lc, d_asg, d_asgT, d_par, d_seti, d_app, d_ext, d_exp, d_ifs, d_fors, d_ret, d_retN, d_pass, d_brk, d_cnt, sms, smA, smO, smI, Sm.of, Sm.vt, smVar, rdVar, op1, op2, Re.bd, Re.of, Pl.at, slD?, truD, Rs.d, asgV, setRs, biV, evBs, plAll, evEs, evOp, evA, evTo, evO, evTs, List.cons_append, List.nil_append, List.append_nil, List.replicate, List.getElem?_cons_zero, List.getElem?_cons_succ, List.set_cons_zero, List.set_cons_succ, Option.bind_some, Option.map_some, b_add, b_sub, c_lt, c_le, c_gt, c_ge, f_abs, f_int, f_lenL, f_lenT, decide_true, decide_false, if_true, if_false, Bool.false_eq_true, ite_dec, rngI, rngV, lcV, noOwn, CT.ix, List.all_cons, List.all_nil, Bool.and_true, Sl.own, Bool.not_false, wipeR, backR, bindT, setSh, setShs, asgTV, called, lend, lent, home, List.take_succ_cons, List.take_zero, List.nodup_nil, List.nodup_cons, List.not_mem_nil, not_false_eq_true, and_self, itemsD, seqOf, Option.toList, enuI, Nat.reduceSub, Nat.reduceAdd, Nat.reduceEqDiff, isi_str, notD, Bool.not_true, kn_in, g1, l1, l3, f_tup]
theorem tab_len {k : Sg} {w i : Nat} : (tab k w i).length = 2 ^ (w * i) := by unfold tab; rw [List.length_map, List.length_range]
theorem tab_lt {k : Sg} {w i : Nat} : ∀ v ∈ tab k w i, v < 2 ^ w := fun v hv => by
  obtain ⟨x, _, rfl⟩ := List.mem_map.mp hv
  exact Nat.mod_lt _ (Nat.two_pow_pos _)
theorem istable_ok (n : Nat) {w i : Nat} {T : List Nat} (hw : w ≤ 8) (hi : i ≤ 4) (hwi : w * i ≤ 8) (hT : T.length = 2 ^ (w * i)) (hv : ∀ v ∈ T, v < 2 ^ w) : fnN Δ (n + 3) "is_table" [.sh (shp w i), .sh (.tup (natsD T))] = .ok (.sh (.bl true)) [.sh (shp w i), .sh (.tup (natsD T))] := by
  rw [df "is_table"]
  have N8 : 2 ^ (w * i) ≤ 2 ^ 8 := Nat.pow_le_pow_right (by decide) hwi
  have cs := size_ok n (w := w) (i := i) hw hi
  have hlc : lcW (fnN Δ (n + 2)) (.nm 2) (.ex (.var 1)) .nil (.call "is_word" (.ex (.var 0) (.ex (.var 2) .nil))) [.sh (shp w i), .sh (.tup (natsD T)), .no]
      = .ok (.fr (.lst (T.map fun _ => D.bl true))) [.sh (shp w i), .sh (.tup (natsD T)), .no] := by
    refine lcW_nats (l := T) (ρ1 := [.sh (shp w i), .sh (.tup (natsD T)), .no]) (fun _ => D.bl true) ?_ rfl rfl (fun x hx => ?_) (by omega) rfl
    · simp only [i_ex, runD, List.length_cons, List.length_nil, d_nil, d_cons, e_var, e_int, e_bl, e_non, e_str, e_fnc, e_bin, e_neg, e_inv, e_cmp, e_chn, e_bop, e_nt, e_ite, e_tup, e_lst, e_dct, e_gd, e_spl, e_ptn, e_ix, e_sl, e_bi, e_isi, e_rngL, e_rngT, e_call, e_call0, e_callV, e_dget, e_lc2, e_lc, d_asg, d_asgT, d_par, d_seti, d_app, d_ext, d_exp, d_ifs, d_fors, d_ret, d_retN, d_pass, d_brk, d_cnt, sms, smA, smO, smI, Sm.of, Sm.vt, smVar, rdVar, op1, op2, Re.bd, Re.of, Pl.at, slD?, truD, Rs.d, asgV, setRs, biV, evBs, plAll, evEs, evOp, evA, evTo, evO, evTs, List.cons_append, List.nil_append, List.append_nil, List.replicate, List.getElem?_cons_zero, List.getElem?_cons_succ, List.set_cons_zero, List.set_cons_succ, Option.bind_some, Option.map_some, b_add, b_sub, c_lt, c_le, c_gt, c_ge, f_abs, f_int, f_lenL, f_lenT, decide_true, decide_false, if_true, if_false, Bool.false_eq_true, ite_dec, rngI, rngV, lcV, noOwn, CT.ix, List.all_cons, List.all_nil, Bool.and_true, Sl.own, Bool.not_false, wipeR, backR, bindT, setSh, setShs, asgTV, called, lend, lent, home, List.take_succ_cons, List.take_zero, List.nodup_nil, List.nodup_cons, List.not_mem_nil, not_false_eq_true, and_self, itemsD, seqOf, Option.toList, enuI, Nat.reduceSub, Nat.reduceAdd, Nat.reduceEqDiff, itemsT]
    · have cw := word_ok n (i := i) hw (hv x hx)
      simp only [lcTurn, runD, List.length_cons, List.length_nil, d_nil, d_cons, e_var, e_int, e_bl, e_non, e_str, e_fnc, e_bin, e_neg, e_inv, e_cmp, e_chn, e_bop, e_nt, e_ite, e_tup, e_lst, e_dct, e_gd, e_spl, e_ptn, e_ix, e_sl, e_bi, e_isi, e_rngL, e_rngT, e_call, e_call0, e_callV, e_dget, e_lc2, e_lc, d_asg, d_asgT, d_par, d_seti, d_app, d_ext, d_exp, d_ifs, d_fors, d_ret, d_retN, d_pass, d_brk, d_cnt, sms, smA, smO, smI, Sm.of, Sm.vt, smVar, rdVar, op1, op2, Re.bd, Re.of, Pl.at, slD?, truD, Rs.d, asgV, setRs, biV, evBs, plAll, evEs, evOp, evA, evTo, evO, evTs, List.cons_append, List.nil_append, List.append_nil, List.replicate, List.getElem?_cons_zero, List.getElem?_cons_succ, List.set_cons_zero, List.set_cons_succ, Option.bind_some, Option.map_some, b_add, b_sub, c_lt, c_le, c_gt, c_ge, f_abs, f_int, f_lenL, f_lenT, decide_true, decide_false, if_true, if_false, Bool.false_eq_true, ite_dec, rngI, rngV, lcV, noOwn, CT.ix, List.all_cons, List.all_nil, Bool.and_true, Sl.own, Bool.not_false, wipeR, backR, bindT, setSh, setShs, asgTV, called, lend, lent, home, List.take_succ_cons, List.take_zero, List.nodup_nil, List.nodup_cons, List.not_mem_nil, not_false_eq_true, and_self, itemsD, seqOf, Option.toList, enuI, Nat.reduceSub, Nat.reduceAdd, Nat.reduceEqDiff, cw]
  have fa : biF .all [.lst (T.map fun _ => D.bl true)] = some (.sh (.bl true)) := all_true fun y hy => by
    obtain ⟨_, _, rfl⟩ := List.mem_map.mp hy
    rfl
  have ln : ((natsD T).length : Int) = ((2 ^ (w * i) : Nat) : Int) := by rw [natsD_len, hT]
  simp only [c_is_table, d_ifs, d_ret, runD, List.length_cons, List.length_nil, d_nil, d_cons, e_var, e_int, e_bl, e_non, e_str, e_fnc, e_bin, e_neg, e_inv, e_cmp, e_chn, e_bop, e_nt, e_ite, e_tup, e_lst, e_dct, e_gd, e_spl, e_ptn, e_ix, e_sl, e_bi, e_isi, e_rngL, e_rngT, e_call, e_call0, e_callV, e_dget, e_lc2, e_lc, d_asg, d_asgT, d_par, d_seti, d_app, d_ext, d_exp, d_ifs, d_fors, d_ret, d_retN, d_pass, d_brk, d_cnt, sms, smA, smO, smI, Sm.of, Sm.vt, smVar, rdVar, op1, op2, Re.bd, Re.of, Pl.at, slD?, truD, Rs.d, asgV, setRs, biV, evBs, plAll, evEs, evOp, evA, evTo, evO, evTs, List.cons_append, List.nil_append, List.append_nil, List.replicate, List.getElem?_cons_zero, List.getElem?_cons_succ, List.set_cons_zero, List.set_cons_succ, Option.bind_some, Option.map_some, b_add, b_sub, c_lt, c_le, c_gt, c_ge, f_abs, f_int, f_lenL, f_lenT, decide_true, decide_false, if_true, if_false, Bool.false_eq_true, ite_dec, rngI, rngV, lcV, noOwn, CT.ix, List.all_cons, List.all_nil, Bool.and_true, Sl.own, Bool.not_false, wipeR, backR, bindT, setSh, setShs, asgTV, called, lend, lent, home, List.take_succ_cons, List.take_zero, List.nodup_nil, List.nodup_cons, List.not_mem_nil, not_false_eq_true, and_self, itemsD, seqOf, Option.toList, enuI, Nat.reduceSub, Nat.reduceAdd, Nat.reduceEqDiff, isi_tup, notD, Bool.not_true, cs, c_neI, ln, hlc, fa]
/-! ### the law -/
def nio (s : Sl) : Prop := s = .no ∨ (∃ d, s = .sh d) ∨ ∃ d, s = .ow d
noncomputable abbrev cf8 : Fn := fnN Δ 8
def lcK : CE := .lc (.nm 9) (.ex (.call "_law_numbers" (.ex (.var 5) .nil))) .nil (.call "_law_known" (.ex (.var 5) (.ex (.var 6) (.ex (.call "_law_split" (.ex (.var 5) (.ex (.var 9) .nil))) .nil))))
def bd6 : CSs := (.cons (.asg 7 lcK)
    (.cons (.asg 8 (.call "known_table" (.ex (.var 5) (.ex (.var 6) .nil))))
    (.cons (.ifs (.bop false (.cons (.cmp .NotEq (.bi .repr (.cons (.var 8) .nil)) (.bi .repr (.cons (.bi .tupleOf (.cons (.var 7) .nil)) .nil))) (.cons (.cmp .IsNot (.call "is_table" (.ex (.var 5) (.ex (.var 8) .nil))) (.bl true)) .nil)))
    (.cons (.ret (.bl false))
    .nil)
    .nil)
    .nil)))
def bd4 : CSs := (.cons (.asg 5 (.call "_law_shape" (.io 3 (.ex (.int 8) .nil))))
    (.cons (.fors (.nm 6) (.ex (.var 1)) bd6)
    .nil))
def bd2 : CSs := (.cons (.asg 3 (.call "_law_pot" (.ex (.var 0) (.ex (.var 2) .nil))))
    (.cons (.fors (.nm 4) (.rng (.cons (.int 2) .nil)) bd4)
    .nil))
def sgL : CE := .lst (.cons (.str "and") (.cons (.str "first") (.cons (.str "greatest") (.cons (.str "least") (.cons (.str "ones") (.cons (.str "or") (.cons (.str "product") (.cons (.str "reversed") (.cons (.str "sum") (.cons (.str "xor") .nil))))))))))
theorem law_body : c_law.body = .cons (.asg 1 sgL) (.cons (.fors (.nm 2) topIt bd2) (.cons (.ret (.bl true)) .nil)) := rfl
def sgs : List Sg := [.and, .first, .greatest, .least, .ones, .or, .product, .reversed, .sum, .xor]
def sgD : List D := sgs.map fun k => .str k.s
theorem c_isnot : cmpop .IsNot (.bl true) (.bl true) = some false := rfl
section
variable {w i : Nat} (hw : w ≤ 8) (h1 : 1 ≤ i) (hi : i ≤ 4) (hwi : w * i ≤ 8)
include hw h1 hi hwi
theorem due_ok (k : Sg) {a0 a1 a2 a3 a4 s7 s8 : Sl} : lcW cf8 (.nm 9) (.ex (.call "_law_numbers" (.ex (.var 5) .nil))) .nil (.call "_law_known" (.ex (.var 5) (.ex (.var 6) (.ex (.call "_law_split" (.ex (.var 5) (.ex (.var 9) .nil))) .nil)))) [a0, a1, a2, a3, a4, .sh (shp w i), .sh (.str k.s), s7, s8, .no]
    = .ok (.fr (.lst (natsD (tab k w i)))) [a0, a1, a2, a3, a4, .sh (shp w i), .sh (.str k.s), s7, s8, .no] := by
  have N8 : 2 ^ (w * i) ≤ 2 ^ 8 := Nat.pow_le_pow_right (by decide) hwi
  unfold tab
  rw [← nats_lc]
  have cn : cf8 "_law_numbers" [.sh (shp w i)] = .ok (.fr (.lst (rngD 0 ((2 ^ (w * i) : Nat) : Int)))) [.sh (shp w i)] := numbers_ok 7 hwi hw hi
  refine lcW_rng (n := 2 ^ (w * i)) (ρ1 := [a0, a1, a2, a3, a4, .sh (shp w i), .sh (.str k.s), s7, s8, .no]) (fun x => D.int ((k.val w (pl w i x) % 2 ^ w : Nat) : Int)) ?_ rfl rfl (fun x hx => ?_) (by omega) rfl
  · simp only [i_ex, runD, List.length_cons, List.length_nil, d_nil, d_cons, e_var, e_int, e_bl, e_non, e_str, e_fnc, e_bin, e_neg, e_inv, e_cmp, e_chn, e_bop, e_nt, e_ite, e_tup, e_lst, e_dct, e_gd, e_spl, e_ptn, e_ix, e_sl, e_bi, e_isi, e_rngL, e_rngT, e_call, e_call0, e_callV, e_dget, e_lc2, e_lc, d_asg, d_asgT, d_par, d_seti, d_app, d_ext, d_exp, d_ifs, d_fors, d_ret, d_retN, d_pass, d_brk, d_cnt, sms, smA, smO, smI, Sm.of, Sm.vt, smVar, rdVar, op1, op2, Re.bd, Re.of, Pl.at, slD?, truD, Rs.d, asgV, setRs, biV, evBs, plAll, evEs, evOp, evA, evTo, evO, evTs, List.cons_append, List.nil_append, List.append_nil, List.replicate, List.getElem?_cons_zero, List.getElem?_cons_succ, List.set_cons_zero, List.set_cons_succ, Option.bind_some, Option.map_some, b_add, b_sub, c_lt, c_le, c_gt, c_ge, f_abs, f_int, f_lenL, f_lenT, decide_true, decide_false, if_true, if_false, Bool.false_eq_true, ite_dec, rngI, rngV, lcV, noOwn, CT.ix, List.all_cons, List.all_nil, Bool.and_true, Sl.own, Bool.not_false, wipeR, backR, bindT, setSh, setShs, asgTV, called, lend, lent, home, List.take_succ_cons, List.take_zero, List.nodup_nil, List.nodup_cons, List.not_mem_nil, not_false_eq_true, and_self, itemsD, seqOf, Option.toList, enuI, Nat.reduceSub, Nat.reduceAdd, Nat.reduceEqDiff, cn]
  · have c1 : cf8 "_law_split" [.sh (shp w i), .sh (.int x)] = .ok (.sh (.tup (wl w i x))) [.sh (shp w i), .sh (.int x)] := split_ok 7 hw hi
    rw [wl_pl] at c1
    have c2 : cf8 "_law_known" [.sh (shp w i), .sh (.str k.s), .sh (.tup (natsD (pl w i x)))] = .ok (.sh (.int ((k.val w (pl w i x) % 2 ^ w : Nat) : Int))) [.sh (shp w i), .sh (.str k.s), .sh (.tup (natsD (pl w i x)))] := knw_ok 6 k hw h1 hi
    simp only [lcTurn, runD, List.length_cons, List.length_nil, d_nil, d_cons, e_var, e_int, e_bl, e_non, e_str, e_fnc, e_bin, e_neg, e_inv, e_cmp, e_chn, e_bop, e_nt, e_ite, e_tup, e_lst, e_dct, e_gd, e_spl, e_ptn, e_ix, e_sl, e_bi, e_isi, e_rngL, e_rngT, e_call, e_call0, e_callV, e_dget, e_lc2, e_lc, d_asg, d_asgT, d_par, d_seti, d_app, d_ext, d_exp, d_ifs, d_fors, d_ret, d_retN, d_pass, d_brk, d_cnt, sms, smA, smO, smI, Sm.of, Sm.vt, smVar, rdVar, op1, op2, Re.bd, Re.of, Pl.at, slD?, truD, Rs.d, asgV, setRs, biV, evBs, plAll, evEs, evOp, evA, evTo, evO, evTs, List.cons_append, List.nil_append, List.append_nil, List.replicate, List.getElem?_cons_zero, List.getElem?_cons_succ, List.set_cons_zero, List.set_cons_succ, Option.bind_some, Option.map_some, b_add, b_sub, c_lt, c_le, c_gt, c_ge, f_abs, f_int, f_lenL, f_lenT, decide_true, decide_false, if_true, if_false, Bool.false_eq_true, ite_dec, rngI, rngV, lcV, noOwn, CT.ix, List.all_cons, List.all_nil, Bool.and_true, Sl.own, Bool.not_false, wipeR, backR, bindT, setSh, setShs, asgTV, called, lend, lent, home, List.take_succ_cons, List.take_zero, List.nodup_nil, List.nodup_cons, List.not_mem_nil, not_false_eq_true, and_self, itemsD, seqOf, Option.toList, enuI, Nat.reduceSub, Nat.reduceAdd, Nat.reduceEqDiff, c1, c2]
theorem turn6 (k : Sg) {a0 a1 a2 a3 a4 s6 s7 s8 : Sl} (h6 : fre s6) (h7 : nio s7) (h8 : fre s8) :
    Wr.forTurn (.nm 6) (sss cf8 bd6) (.str k.s) [a0, a1, a2, a3, a4, .sh (shp w i), s6, s7, s8, .no] = .ok .nx [a0, a1, a2, a3, a4, .sh (shp w i), .sh (.str k.s), .ow (.lst (natsD (tab k w i))), .sh (.tup (natsD (tab k w i))), .no] := by
  have w8 : 2 ^ w ≤ 2 ^ 8 := Nat.pow_le_pow_right (by decide) hw
  have N8 : 2 ^ (w * i) ≤ 2 ^ 8 := Nat.pow_le_pow_right (by decide) hwi
  have t12 : (10 : Nat) ^ 12 = 1000000000000 := by decide
  have hlc := fun s7 s8 => due_ok hw h1 hi hwi k (a0 := a0) (a1 := a1) (a2 := a2) (a3 := a3) (a4 := a4) (s7 := s7) (s8 := s8)
  have c1 : cf8 "known_table" [.sh (shp w i), .sh (.str k.s)] = .ok (.sh (.tup (natsD (tab k w i)))) [.sh (shp w i), .sh (.str k.s)] := table_ok 5 k hw h1 hi hwi
  have c2 : cf8 "is_table" [.sh (shp w i), .sh (.tup (natsD (tab k w i)))] = .ok (.sh (.bl true)) [.sh (shp w i), .sh (.tup (natsD (tab k w i)))] := istable_ok 5 hw hi hwi tab_len tab_lt
  obtain ⟨t, rp⟩ := repr_natsT (l := tab k w i) (fun n hn => by have := tab_lt n hn; omega) (by rw [tab_len]; omega)
  rcases h6 with rfl | ⟨d6, rfl⟩ <;> rcases h8 with rfl | ⟨d8, rfl⟩ <;> rcases h7 with rfl | ⟨d7, rfl⟩ | ⟨d7, rfl⟩ <;>
    simp only [Wr.forTurn, bd6, lcK, d_asg, d_ifs, runD, List.length_cons, List.length_nil, d_nil, d_cons, e_var, e_int, e_bl, e_non, e_str, e_fnc, e_bin, e_neg, e_inv, e_cmp, e_chn, e_bop, e_nt, e_ite, e_tup, e_lst, e_dct, e_gd, e_spl, e_ptn, e_ix, e_sl, e_bi, e_isi, e_rngL, e_rngT, e_call, e_call0, e_callV, e_dget, e_lc2, e_lc, d_asg, d_asgT, d_par, d_seti, d_app, d_ext, d_exp, d_ifs, d_fors, d_ret, d_retN, d_pass, d_brk, d_cnt, sms, smA, smO, smI, Sm.of, Sm.vt, smVar, rdVar, op1, op2, Re.bd, Re.of, Pl.at, slD?, truD, Rs.d, asgV, setRs, biV, evBs, plAll, evEs, evOp, evA, evTo, evO, evTs, List.cons_append, List.nil_append, List.append_nil, List.replicate, List.getElem?_cons_zero, List.getElem?_cons_succ, List.set_cons_zero, List.set_cons_succ, Option.bind_some, Option.map_some, b_add, b_sub, c_lt, c_le, c_gt, c_ge, f_abs, f_int, f_lenL, f_lenT, decide_true, decide_false, if_true, if_false, Bool.false_eq_true, ite_dec, rngI, rngV, lcV, noOwn, CT.ix, List.all_cons, List.all_nil, Bool.and_true, Sl.own, Bool.not_false, wipeR, backR, bindT, setSh, setShs, asgTV, called, lend, lent, home, List.take_succ_cons, List.take_zero, List.nodup_nil, List.nodup_cons, List.not_mem_nil, not_false_eq_true, and_self, itemsD, seqOf, Option.toList, enuI, Nat.reduceSub, Nat.reduceAdd, Nat.reduceEqDiff, hlc, c1, c2, rp, f_tup, c_neS, c_isnot]
end
/-- the last slots -/
inductive J6 : List Sl → Prop where
  | mk {s6 s7 s8 : Sl} : fre s6 → nio s7 → fre s8 → J6 [s6, s7, s8, .no]
theorem loop6 {w i : Nat} (hw : w ≤ 8) (h1 : 1 ≤ i) (hi : i ≤ 4) (hwi : w * i ≤ 8) {a0 a1 a2 a3 a4 : Sl} {t : List Sl} (ht : J6 t) :
    ∃ t', J6 t' ∧ forW cf8 (.nm 6) bd6 sgD (a0 :: a1 :: a2 :: a3 :: a4 :: .sh (shp w i) :: t) = .ok .nx (a0 :: a1 :: a2 :: a3 :: a4 :: .sh (shp w i) :: t') := by
  obtain ⟨ρ', e, t', g, rfl⟩ := forW_inv (cf := cf8) (tg := .nm 6) (body := bd6) (xs := sgD) (ρ := a0 :: a1 :: a2 :: a3 :: a4 :: .sh (shp w i) :: t)
    (fun _ ρ => ∃ t, J6 t ∧ ρ = a0 :: a1 :: a2 :: a3 :: a4 :: .sh (shp w i) :: t) ⟨t, ht, rfl⟩ (fun n y ρ hy ⟨t, ht, e⟩ => by
      subst e
      obtain ⟨k, _, rfl⟩ := List.mem_map.mp (List.mem_of_getElem? hy)
      cases ht with
      | mk h6 h7 h8 => exact ⟨_, turn6 hw h1 hi hwi k h6 h7 h8, _, .mk (.inr ⟨_, rfl⟩) (.inr (.inr ⟨_, rfl⟩)) (.inr ⟨_, rfl⟩), rfl⟩)
  exact ⟨t', g, e⟩
theorem turn4 {m : Nat} {pot : D} (hp : PotI m pot) (hm : m ≤ 1000) {j : Int} {a0 s1 a2 s4 s5 : Sl} {t : List Sl} (hs : s1 = .ow (.lst sgD) ∨ s1 = .sh (.lst sgD)) (h4 : fre s4) (h5 : fre s5) (ht : J6 t) :
    ∃ pot' d t', PotI (m + 2) pot' ∧ J6 t' ∧ Wr.forTurn (.nm 4) (sss cf8 bd4) (.int j) (a0 :: s1 :: a2 :: .ow pot :: s4 :: s5 :: t) = .ok .nx (a0 :: .sh (.lst sgD) :: a2 :: .ow pot' :: .sh (.int j) :: .sh d :: t') := by
  obtain ⟨d, pot1, ⟨w, i, rfl, hw, hi1, hi, hwi⟩, hp1, e2⟩ := shape_ok (fnN Δ 7) (fnN Δ 6) (m := 8) (fun args => df "_law_take" 6 args) hp (by omega) (by decide) (by decide)
  have c2 : cf8 "_law_shape" [.io pot, .sh (.int 8)] = .ok (.sh (shp w i)) [.io pot1, .sh (.int 8)] := (df "_law_shape" 7 _).trans e2
  have hw8 : w ≤ 8 := shape_small hwi hi1
  obtain ⟨t', gt, l⟩ := loop6 hw8 hi1 hi hwi (a0 := a0) (a1 := .sh (.lst sgD)) (a2 := a2) (a3 := .ow pot1) (a4 := .sh (.int j)) ht
  refine ⟨pot1, shp w i, t', hp1, gt, ?_⟩
  rcases hs with rfl | rfl <;> rcases h4 with rfl | ⟨d4, rfl⟩ <;> rcases h5 with rfl | ⟨d5, rfl⟩ <;>
    simp only [Wr.forTurn, bd4, d_asg, d_fors, i_ex, runD, List.length_cons, List.length_nil, d_nil, d_cons, e_var, e_int, e_bl, e_non, e_str, e_fnc, e_bin, e_neg, e_inv, e_cmp, e_chn, e_bop, e_nt, e_ite, e_tup, e_lst, e_dct, e_gd, e_spl, e_ptn, e_ix, e_sl, e_bi, e_isi, e_rngL, e_rngT, e_call, e_call0, e_callV, e_dget, e_lc2, e_lc, d_asg, d_asgT, d_par, d_seti, d_app, d_ext, d_exp, d_ifs, d_fors, d_ret, d_retN, d_pass, d_brk, d_cnt, sms, smA, smO, smI, Sm.of, Sm.vt, smVar, rdVar, op1, op2, Re.bd, Re.of, Pl.at, slD?, truD, Rs.d, asgV, setRs, biV, evBs, plAll, evEs, evOp, evA, evTo, evO, evTs, List.cons_append, List.nil_append, List.append_nil, List.replicate, List.getElem?_cons_zero, List.getElem?_cons_succ, List.set_cons_zero, List.set_cons_succ, Option.bind_some, Option.map_some, b_add, b_sub, c_lt, c_le, c_gt, c_ge, f_abs, f_int, f_lenL, f_lenT, decide_true, decide_false, if_true, if_false, Bool.false_eq_true, ite_dec, rngI, rngV, lcV, noOwn, CT.ix, List.all_cons, List.all_nil, Bool.and_true, Sl.own, Bool.not_false, wipeR, backR, bindT, setSh, setShs, asgTV, called, lend, lent, home, List.take_succ_cons, List.take_zero, List.nodup_nil, List.nodup_cons, List.not_mem_nil, not_false_eq_true, and_self, itemsD, seqOf, Option.toList, enuI, Nat.reduceSub, Nat.reduceAdd, Nat.reduceEqDiff, c2, l]
inductive J4 : List Sl → Prop where
  | mk {s4 s5 : Sl} {t : List Sl} : fre s4 → fre s5 → J6 t → J4 (s4 :: s5 :: t)
theorem loop4 {pot : D} (hp : PotI 0 pot) {a0 s1 a2 : Sl} {t : List Sl} (hs : s1 = .ow (.lst sgD) ∨ s1 = .sh (.lst sgD)) (ht : J4 t) :
    ∃ pot' s1' t', (s1' = .ow (.lst sgD) ∨ s1' = .sh (.lst sgD)) ∧ J4 t' ∧ forW cf8 (.nm 4) bd4 (rngD 0 2) (a0 :: s1 :: a2 :: .ow pot :: t) = .ok .nx (a0 :: s1' :: a2 :: .ow pot' :: t') := by
  obtain ⟨ρ', e, pot', s1', t', _, g1, gt, rfl⟩ := forW_inv (cf := cf8) (tg := .nm 4) (body := bd4) (xs := rngD 0 2) (ρ := a0 :: s1 :: a2 :: .ow pot :: t)
    (fun n ρ => ∃ pot s1 t, PotI (2 * n) pot ∧ (s1 = .ow (.lst sgD) ∨ s1 = .sh (.lst sgD)) ∧ J4 t ∧ ρ = a0 :: s1 :: a2 :: .ow pot :: t) ⟨pot, s1, t, hp, hs, ht, rfl⟩ (fun n y ρ hy ⟨pot, s1, t, hp, hs, ht, e⟩ => by
      subst e
      have hn : n < 2 := (List.getElem?_eq_some_iff.mp hy).1
      rw [show (2 : Int) = ((2 : Nat) : Int) from rfl, rngD_nat] at hy
      obtain ⟨x, _, rfl⟩ := List.mem_map.mp (List.mem_of_getElem? hy)
      cases ht with
      | mk h4 h5 h6 =>
        obtain ⟨pot', d, t', hp', gt, e⟩ := turn4 hp (by omega) (j := (x : Nat)) (a0 := a0) (a2 := a2) hs h4 h5 h6
        exact ⟨_, e, pot', _, _, hp'.mono (by omega), .inr rfl, .mk (.inr ⟨_, rfl⟩) (.inr ⟨_, rfl⟩) gt, rfl⟩)
  exact ⟨pot', s1', t', g1, gt, e⟩
theorem turn2 {ns : List Int} {k : Nat} (hk : k ≤ 63) {s1 s2 s3 : Sl} {t : List Sl} (hs : s1 = .ow (.lst sgD) ∨ s1 = .sh (.lst sgD)) (h2 : fre s2) (h3 : nio s3) (ht : J4 t) :
    ∃ s1' pot' t', (s1' = .ow (.lst sgD) ∨ s1' = .sh (.lst sgD)) ∧ J4 t' ∧ Wr.forTurn (.nm 2) (sss cf8 bd2) (.int k) (.sh (.lst (ns.map D.int)) :: s1 :: s2 :: s3 :: t) = .ok .nx (.sh (.lst (ns.map D.int)) :: s1' :: .sh (.int k) :: .ow pot' :: t') := by
  obtain ⟨pot, hp, e1⟩ := pot_ok (fnN Δ 7) (ns := ns) hk
  have c1 : cf8 "_law_pot" [.sh (.lst (ns.map D.int)), .sh (.int k)] = .ok (.fr pot) [.sh (.lst (ns.map D.int)), .sh (.int k)] := (df "_law_pot" 7 _).trans e1
  have r1 : rngOk 0 (2 : Int) = true := rngOk_nat (n := 2) (by omega)
  obtain ⟨pot', s1', t', g1, gt, l⟩ := loop4 hp (a0 := .sh (.lst (ns.map D.int))) (a2 := .sh (.int k)) hs ht
  refine ⟨s1', pot', t', g1, gt, ?_⟩
  rcases h2 with rfl | ⟨d2, rfl⟩ <;> rcases h3 with rfl | ⟨d3, rfl⟩ | ⟨d3, rfl⟩ <;>
    simp only [Wr.forTurn, bd2, d_asg, d_fors, i_rng, runD, List.length_cons, List.length_nil, d_nil, d_cons, e_var, e_int, e_bl, e_non, e_str, e_fnc, e_bin, e_neg, e_inv, e_cmp, e_chn, e_bop, e_nt, e_ite, e_tup, e_lst, e_dct, e_gd, e_spl, e_ptn, e_ix, e_sl, e_bi, e_isi, e_rngL, e_rngT, e_call, e_call0, e_callV, e_dget, e_lc2, e_lc, d_asg, d_asgT, d_par, d_seti, d_app, d_ext, d_exp, d_ifs, d_fors, d_ret, d_retN, d_pass, d_brk, d_cnt, sms, smA, smO, smI, Sm.of, Sm.vt, smVar, rdVar, op1, op2, Re.bd, Re.of, Pl.at, slD?, truD, Rs.d, asgV, setRs, biV, evBs, plAll, evEs, evOp, evA, evTo, evO, evTs, List.cons_append, List.nil_append, List.append_nil, List.replicate, List.getElem?_cons_zero, List.getElem?_cons_succ, List.set_cons_zero, List.set_cons_succ, Option.bind_some, Option.map_some, b_add, b_sub, c_lt, c_le, c_gt, c_ge, f_abs, f_int, f_lenL, f_lenT, decide_true, decide_false, if_true, if_false, Bool.false_eq_true, ite_dec, rngI, rngV, lcV, noOwn, CT.ix, List.all_cons, List.all_nil, Bool.and_true, Sl.own, Bool.not_false, wipeR, backR, bindT, setSh, setShs, asgTV, called, lend, lent, home, List.take_succ_cons, List.take_zero, List.nodup_nil, List.nodup_cons, List.not_mem_nil, not_false_eq_true, and_self, itemsD, seqOf, Option.toList, enuI, Nat.reduceSub, Nat.reduceAdd, Nat.reduceEqDiff, c1, k_rng1 r1, l]
theorem asg1 {s0 : Sl} {tl : List Sl} : ss cf8 (.asg 1 sgL) (s0 :: .no :: tl) = .ok .nx (s0 :: .ow (.lst sgD) :: tl) := by
  have e : sgD = [.str "and", .str "first", .str "greatest", .str "least", .str "ones", .str "or", .str "product", .str "reversed", .str "sum", .str "xor"] := rfl
  have z : (10 : Nat) ≤ sizeL := by show 10 ≤ 16777216; omega
  rw [e]
  simp only [sgL, d_asg, runD, List.length_cons, List.length_nil, d_nil, d_cons, e_var, e_int, e_bl, e_non, e_str, e_fnc, e_bin, e_neg, e_inv, e_cmp, e_chn, e_bop, e_nt, e_ite, e_tup, e_lst, e_dct, e_gd, e_spl, e_ptn, e_ix, e_sl, e_bi, e_isi, e_rngL, e_rngT, e_call, e_call0, e_callV, e_dget, e_lc2, e_lc, d_asg, d_asgT, d_par, d_seti, d_app, d_ext, d_exp, d_ifs, d_fors, d_ret, d_retN, d_pass, d_brk, d_cnt, sms, smA, smO, smI, Sm.of, Sm.vt, smVar, rdVar, op1, op2, Re.bd, Re.of, Pl.at, slD?, truD, Rs.d, asgV, setRs, biV, evBs, plAll, evEs, evOp, evA, evTo, evO, evTs, List.cons_append, List.nil_append, List.append_nil, List.replicate, List.getElem?_cons_zero, List.getElem?_cons_succ, List.set_cons_zero, List.set_cons_succ, Option.bind_some, Option.map_some, b_add, b_sub, c_lt, c_le, c_gt, c_ge, f_abs, f_int, f_lenL, f_lenT, decide_true, decide_false, if_true, if_false, Bool.false_eq_true, ite_dec, rngI, rngV, lcV, noOwn, CT.ix, List.all_cons, List.all_nil, Bool.and_true, Sl.own, Bool.not_false, wipeR, backR, bindT, setSh, setShs, asgTV, called, lend, lent, home, List.take_succ_cons, List.take_zero, List.nodup_nil, List.nodup_cons, List.not_mem_nil, not_false_eq_true, and_self, itemsD, seqOf, Option.toList, enuI, Nat.reduceSub, Nat.reduceAdd, Nat.reduceEqDiff, z]
theorem top_ok {ns : List Int} {tl : List Sl} (h0 : ∃ s2 s3 t, fre s2 ∧ nio s3 ∧ J4 t ∧ tl = s2 :: s3 :: t) :
    ∃ ρ', sss cf8 (.cons (.fors (.nm 2) topIt bd2) (.cons (.ret (.bl true)) .nil)) (.sh (.lst (ns.map D.int)) :: .ow (.lst sgD) :: tl) = .ok (.rt (.sh (.bl true))) ρ' := by
  obtain ⟨m, hm, em⟩ : ∃ m : Nat, m ≤ 3 ∧ (if (if (ns.length : Int) < 3 then (ns.length : Int) else 3) > 1 then (if (ns.length : Int) < 3 then (ns.length : Int) else 3) else 1) = (m : Int) := by
    refine ⟨((if (if (ns.length : Int) < 3 then (ns.length : Int) else 3) > 1 then (if (ns.length : Int) < 3 then (ns.length : Int) else 3) else 1) : Int).toNat, ?_, ?_⟩
    · split <;> split <;> omega
    · rw [Int.toNat_of_nonneg]
      split <;> split <;> omega
  have r1 := rngOk_nat (n := m) (by omega)
  obtain ⟨s2, s3, t, g2, g3, gt, rfl⟩ := h0
  obtain ⟨ρ', e, _⟩ := forW_inv (cf := cf8) (tg := .nm 2) (body := bd2) (xs := rngD 0 (m : Int)) (ρ := .sh (.lst (ns.map D.int)) :: .ow (.lst sgD) :: s2 :: s3 :: t)
    (fun n ρ => ∃ s1 s2 s3 t, (s1 = .ow (.lst sgD) ∨ s1 = .sh (.lst sgD)) ∧ fre s2 ∧ nio s3 ∧ J4 t ∧ ρ = .sh (.lst (ns.map D.int)) :: s1 :: s2 :: s3 :: t) ⟨_, s2, s3, t, .inl rfl, g2, g3, gt, rfl⟩ (fun n y ρ hy ⟨s1, s2, s3, t, h1, h2, h3, ht, e⟩ => by
      subst e
      rw [rngD_nat] at hy
      obtain ⟨x, hx, rfl⟩ := List.mem_map.mp (List.mem_of_getElem? hy)
      have hx := List.mem_range.mp hx
      obtain ⟨s1', pot', t', g1, gt, e⟩ := turn2 (ns := ns) (k := x) (by omega) h1 h2 h3 ht
      exact ⟨_, e, s1', _, _, t', g1, .inr ⟨_, rfl⟩, .inr (.inr ⟨_, rfl⟩), gt, rfl⟩)
  refine ⟨ρ', ?_⟩
  simp only [topIt, d_fors, d_ret, i_rng, runD, List.length_cons, List.length_nil, d_nil, d_cons, e_var, e_int, e_bl, e_non, e_str, e_fnc, e_bin, e_neg, e_inv, e_cmp, e_chn, e_bop, e_nt, e_ite, e_tup, e_lst, e_dct, e_gd, e_spl, e_ptn, e_ix, e_sl, e_bi, e_isi, e_rngL, e_rngT, e_call, e_call0, e_callV, e_dget, e_lc2, e_lc, d_asg, d_asgT, d_par, d_seti, d_app, d_ext, d_exp, d_ifs, d_fors, d_ret, d_retN, d_pass, d_brk, d_cnt, sms, smA, smO, smI, Sm.of, Sm.vt, smVar, rdVar, op1, op2, Re.bd, Re.of, Pl.at, slD?, truD, Rs.d, asgV, setRs, biV, evBs, plAll, evEs, evOp, evA, evTo, evO, evTs, List.cons_append, List.nil_append, List.append_nil, List.replicate, List.getElem?_cons_zero, List.getElem?_cons_succ, List.set_cons_zero, List.set_cons_succ, Option.bind_some, Option.map_some, b_add, b_sub, c_lt, c_le, c_gt, c_ge, f_abs, f_int, f_lenL, f_lenT, decide_true, decide_false, if_true, if_false, Bool.false_eq_true, ite_dec, rngI, rngV, lcV, noOwn, CT.ix, List.all_cons, List.all_nil, Bool.and_true, Sl.own, Bool.not_false, wipeR, backR, bindT, setSh, setShs, asgTV, called, lend, lent, home, List.take_succ_cons, List.take_zero, List.nodup_nil, List.nodup_cons, List.not_mem_nil, not_false_eq_true, and_self, itemsD, seqOf, Option.toList, enuI, Nat.reduceSub, Nat.reduceAdd, Nat.reduceEqDiff, List.length_map, f_min, f_max, em, k_rng1 r1, e]
theorem law_true (ns : List Int) (hl : ns.length ≤ 63) : ∃ back, fnN Δ 9 "law" [.sh (.lst (ns.map D.int))] = .ok (.sh (.bl true)) back := by
  rw [df "law"]
  obtain ⟨ρ', e⟩ := top_ok (ns := ns) (tl := [.no, .no, .no, .no, .no, .no, .no, .no]) ⟨.no, .no, [.no, .no, .no, .no, .no, .no], .inl rfl, .inl rfl, .mk (.inl rfl) (.inl rfl) (.mk (.inl rfl) (.inl rfl) (.inl rfl)), rfl⟩
  refine ⟨ρ'.take 1, ?_⟩
  unfold runD
  rw [law_body, show c_law.np = 1 from rfl, show c_law.ns = 10 from rfl, if_pos (show [Sl.sh (D.lst (ns.map D.int))].length = 1 from rfl), d_cons]
  show (match (ss cf8 (.asg 1 sgL) (.sh (.lst (ns.map D.int)) :: .no :: [.no, .no, .no, .no, .no, .no, .no, .no])).bd _ with
    | Re.ok (Out.rt r) ρ => CR.ok r (ρ.take 1)
    | Re.ok Out.nx ρ => .ok (.sh .non) (ρ.take 1)
    | Re.ex x ρ => .ex x (ρ.take 1)
    | _ => .st) = _
  rw [asg1]
  show (match sss cf8 (.cons (.fors (.nm 2) topIt bd2) (.cons (.ret (.bl true)) .nil)) (.sh (.lst (ns.map D.int)) :: .ow (.lst sgD) :: [.no, .no, .no, .no, .no, .no, .no, .no]) with
    | Re.ok (Out.rt r) ρ => CR.ok r (ρ.take 1)
    | Re.ok Out.nx ρ => .ok (.sh .non) (ρ.take 1)
    | Re.ex x ρ => .ex x (ρ.take 1)
    | _ => .st) = _
  rw [e]
end Lw_k03

namespace Lw_k03
open PySem PySem.Spec L2 Wr Wr.Cd
open PyProof.Rows hiding St
theorem dn_some {x : Str} (h : dn x = true) : ∃ c, Δ x = some c := Option.isSome_iff_exists.mp h
theorem all_at {g : Gm} (h_is_integer : ∃ f fd, DefK g "is_integer" (topS 4) f fd) (h_greatest_word : ∃ f fd, DefK g "greatest_word" (topS 5) f fd) (h_is_word : ∃ f fd, DefK g "is_word" (topS 6) f fd) (h_input_bits : ∃ f fd, DefK g "input_bits" (topS 7) f fd) (h_table_size : ∃ f fd, DefK g "table_size" (topS 8) f fd) (h_is_table : ∃ f fd, DefK g "is_table" (topS 9) f fd) (h_words_of : ∃ f fd, DefK g "words_of" (topS 10) f fd) (h_first_word : ∃ f fd, DefK g "first_word" (topS 11) f fd) (h_reversed_word : ∃ f fd, DefK g "reversed_word" (topS 12) f fd) (h_ones_of_words : ∃ f fd, DefK g "ones_of_words" (topS 13) f fd) (h_sum_of_words : ∃ f fd, DefK g "sum_of_words" (topS 14) f fd) (h_product_of_words : ∃ f fd, DefK g "product_of_words" (topS 15) f fd) (h_greatest_of_words : ∃ f fd, DefK g "greatest_of_words" (topS 16) f fd) (h_least_of_words : ∃ f fd, DefK g "least_of_words" (topS 17) f fd) (h_and_of_words : ∃ f fd, DefK g "and_of_words" (topS 18) f fd) (h_or_of_words : ∃ f fd, DefK g "or_of_words" (topS 19) f fd) (h_xor_of_words : ∃ f fd, DefK g "xor_of_words" (topS 20) f fd) (h_known_table : ∃ f fd, DefK g "known_table" (topS 22) f fd) (h__law_pot : ∃ f fd, DefK g "_law_pot" (topS 24) f fd) (h__law_take : ∃ f fd, DefK g "_law_take" (topS 25) f fd) (h__law_shape : ∃ f fd, DefK g "_law_shape" (topS 26) f fd) (h__law_split : ∃ f fd, DefK g "_law_split" (topS 27) f fd) (h__law_numbers : ∃ f fd, DefK g "_law_numbers" (topS 28) f fd) (h__law_joined : ∃ f fd, DefK g "_law_joined" (topS 29) f fd) (h__law_ones : ∃ f fd, DefK g "_law_ones" (topS 30) f fd) (h__law_known : ∃ f fd, DefK g "_law_known" (topS 31) f fd) (h_law : ∃ f fd, DefK g "law" (topS 32) f fd) : ∀ x c, Δ x = some c → DefAt g mi x c := by
  intro x c h
  by_cases e0 : x = "is_integer"
  · subst e0
    obtain rfl : c_is_integer = c := Option.some.inj (show some c_is_integer = some c from h)
    obtain ⟨f, fd, T⟩ := h_is_integer
    exact ⟨_, _, _, f, fd, s_is_integer, T⟩
  by_cases e1 : x = "greatest_word"
  · subst e1
    obtain rfl : c_greatest_word = c := Option.some.inj (show some c_greatest_word = some c from h)
    obtain ⟨f, fd, T⟩ := h_greatest_word
    exact ⟨_, _, _, f, fd, s_greatest_word, T⟩
  by_cases e2 : x = "is_word"
  · subst e2
    obtain rfl : c_is_word = c := Option.some.inj (show some c_is_word = some c from h)
    obtain ⟨f, fd, T⟩ := h_is_word
    exact ⟨_, _, _, f, fd, s_is_word, T⟩
  by_cases e3 : x = "input_bits"
  · subst e3
    obtain rfl : c_input_bits = c := Option.some.inj (show some c_input_bits = some c from h)
    obtain ⟨f, fd, T⟩ := h_input_bits
    exact ⟨_, _, _, f, fd, s_input_bits, T⟩
  by_cases e4 : x = "table_size"
  · subst e4
    obtain rfl : c_table_size = c := Option.some.inj (show some c_table_size = some c from h)
    obtain ⟨f, fd, T⟩ := h_table_size
    exact ⟨_, _, _, f, fd, s_table_size, T⟩
  by_cases e5 : x = "is_table"
  · subst e5
    obtain rfl : c_is_table = c := Option.some.inj (show some c_is_table = some c from h)
    obtain ⟨f, fd, T⟩ := h_is_table
    exact ⟨_, _, _, f, fd, s_is_table, T⟩
  by_cases e6 : x = "words_of"
  · subst e6
    obtain rfl : c_words_of = c := Option.some.inj (show some c_words_of = some c from h)
    obtain ⟨f, fd, T⟩ := h_words_of
    exact ⟨_, _, _, f, fd, s_words_of, T⟩
  by_cases e7 : x = "first_word"
  · subst e7
    obtain rfl : c_first_word = c := Option.some.inj (show some c_first_word = some c from h)
    obtain ⟨f, fd, T⟩ := h_first_word
    exact ⟨_, _, _, f, fd, s_first_word, T⟩
  by_cases e8 : x = "reversed_word"
  · subst e8
    obtain rfl : c_reversed_word = c := Option.some.inj (show some c_reversed_word = some c from h)
    obtain ⟨f, fd, T⟩ := h_reversed_word
    exact ⟨_, _, _, f, fd, s_reversed_word, T⟩
  by_cases e9 : x = "ones_of_words"
  · subst e9
    obtain rfl : c_ones_of_words = c := Option.some.inj (show some c_ones_of_words = some c from h)
    obtain ⟨f, fd, T⟩ := h_ones_of_words
    exact ⟨_, _, _, f, fd, s_ones_of_words, T⟩
  by_cases e10 : x = "sum_of_words"
  · subst e10
    obtain rfl : c_sum_of_words = c := Option.some.inj (show some c_sum_of_words = some c from h)
    obtain ⟨f, fd, T⟩ := h_sum_of_words
    exact ⟨_, _, _, f, fd, s_sum_of_words, T⟩
  by_cases e11 : x = "product_of_words"
  · subst e11
    obtain rfl : c_product_of_words = c := Option.some.inj (show some c_product_of_words = some c from h)
    obtain ⟨f, fd, T⟩ := h_product_of_words
    exact ⟨_, _, _, f, fd, s_product_of_words, T⟩
  by_cases e12 : x = "greatest_of_words"
  · subst e12
    obtain rfl : c_greatest_of_words = c := Option.some.inj (show some c_greatest_of_words = some c from h)
    obtain ⟨f, fd, T⟩ := h_greatest_of_words
    exact ⟨_, _, _, f, fd, s_greatest_of_words, T⟩
  by_cases e13 : x = "least_of_words"
  · subst e13
    obtain rfl : c_least_of_words = c := Option.some.inj (show some c_least_of_words = some c from h)
    obtain ⟨f, fd, T⟩ := h_least_of_words
    exact ⟨_, _, _, f, fd, s_least_of_words, T⟩
  by_cases e14 : x = "and_of_words"
  · subst e14
    obtain rfl : c_and_of_words = c := Option.some.inj (show some c_and_of_words = some c from h)
    obtain ⟨f, fd, T⟩ := h_and_of_words
    exact ⟨_, _, _, f, fd, s_and_of_words, T⟩
  by_cases e15 : x = "or_of_words"
  · subst e15
    obtain rfl : c_or_of_words = c := Option.some.inj (show some c_or_of_words = some c from h)
    obtain ⟨f, fd, T⟩ := h_or_of_words
    exact ⟨_, _, _, f, fd, s_or_of_words, T⟩
  by_cases e16 : x = "xor_of_words"
  · subst e16
    obtain rfl : c_xor_of_words = c := Option.some.inj (show some c_xor_of_words = some c from h)
    obtain ⟨f, fd, T⟩ := h_xor_of_words
    exact ⟨_, _, _, f, fd, s_xor_of_words, T⟩
  by_cases e17 : x = "known_table"
  · subst e17
    obtain rfl : c_known_table = c := Option.some.inj (show some c_known_table = some c from h)
    obtain ⟨f, fd, T⟩ := h_known_table
    exact ⟨_, _, _, f, fd, s_known_table, T⟩
  by_cases e18 : x = "_law_pot"
  · subst e18
    obtain rfl : c__law_pot = c := Option.some.inj (show some c__law_pot = some c from h)
    obtain ⟨f, fd, T⟩ := h__law_pot
    exact ⟨_, _, _, f, fd, s__law_pot, T⟩
  by_cases e19 : x = "_law_take"
  · subst e19
    obtain rfl : c__law_take = c := Option.some.inj (show some c__law_take = some c from h)
    obtain ⟨f, fd, T⟩ := h__law_take
    exact ⟨_, _, _, f, fd, s__law_take, T⟩
  by_cases e20 : x = "_law_shape"
  · subst e20
    obtain rfl : c__law_shape = c := Option.some.inj (show some c__law_shape = some c from h)
    obtain ⟨f, fd, T⟩ := h__law_shape
    exact ⟨_, _, _, f, fd, s__law_shape, T⟩
  by_cases e21 : x = "_law_split"
  · subst e21
    obtain rfl : c__law_split = c := Option.some.inj (show some c__law_split = some c from h)
    obtain ⟨f, fd, T⟩ := h__law_split
    exact ⟨_, _, _, f, fd, s__law_split, T⟩
  by_cases e22 : x = "_law_numbers"
  · subst e22
    obtain rfl : c__law_numbers = c := Option.some.inj (show some c__law_numbers = some c from h)
    obtain ⟨f, fd, T⟩ := h__law_numbers
    exact ⟨_, _, _, f, fd, s__law_numbers, T⟩
  by_cases e23 : x = "_law_joined"
  · subst e23
    obtain rfl : c__law_joined = c := Option.some.inj (show some c__law_joined = some c from h)
    obtain ⟨f, fd, T⟩ := h__law_joined
    exact ⟨_, _, _, f, fd, s__law_joined, T⟩
  by_cases e24 : x = "_law_ones"
  · subst e24
    obtain rfl : c__law_ones = c := Option.some.inj (show some c__law_ones = some c from h)
    obtain ⟨f, fd, T⟩ := h__law_ones
    exact ⟨_, _, _, f, fd, s__law_ones, T⟩
  by_cases e25 : x = "_law_known"
  · subst e25
    obtain rfl : c__law_known = c := Option.some.inj (show some c__law_known = some c from h)
    obtain ⟨f, fd, T⟩ := h__law_known
    exact ⟨_, _, _, f, fd, s__law_known, T⟩
  by_cases e26 : x = "law"
  · subst e26
    obtain rfl : c_law = c := Option.some.inj (show some c_law = some c from h)
    obtain ⟨f, fd, T⟩ := h_law
    exact ⟨_, _, _, f, fd, s_law, T⟩
  unfold Δ at h
  rw [if_neg e0, if_neg e1, if_neg e2, if_neg e3, if_neg e4, if_neg e5, if_neg e6, if_neg e7, if_neg e8, if_neg e9, if_neg e10, if_neg e11, if_neg e12, if_neg e13, if_neg e14, if_neg e15, if_neg e16, if_neg e17, if_neg e18, if_neg e19, if_neg e20, if_neg e21, if_neg e22, if_neg e23, if_neg e24, if_neg e25, if_neg e26] at h
  cases h
theorem bn_none {g : Gm} (z_abs : g.mg "abs" = none) (z_all : g.mg "all" = none) (z_bool : g.mg "bool" = none) (z_int : g.mg "int" = none) (z_isinstance : g.mg "isinstance" = none) (z_len : g.mg "len" = none) (z_list : g.mg "list" = none) (z_max : g.mg "max" = none) (z_min : g.mg "min" = none) (z_range : g.mg "range" = none) (z_repr : g.mg "repr" = none) (z_str : g.mg "str" = none) (z_sum : g.mg "sum" = none) (z_tuple : g.mg "tuple" = none) : ∀ x, bn x = true → g.mg x = none := by
  intro x h
  simp only [bn, Bool.or_eq_true, decide_eq_true_eq] at h
  rcases h with (((((((((((((rfl | rfl) | rfl) | rfl) | rfl) | rfl) | rfl) | rfl) | rfl) | rfl) | rfl) | rfl) | rfl) | rfl)
  · exact z_abs
  · exact z_all
  · exact z_bool
  · exact z_int
  · exact z_isinstance
  · exact z_len
  · exact z_list
  · exact z_max
  · exact z_min
  · exact z_range
  · exact z_repr
  · exact z_str
  · exact z_sum
  · exact z_tuple
set_option maxHeartbeats 0 in
theorem all_mk {P : Program} {w : World} {K : PySem.W.Frag} {h : Heap} {mg : Str → Option Value} {fa : Addr} (X : K.In h) (G : h.Ns mainGlobals mg) (hfa : mg "law" = some (.ref fa))
    {od0 an0 : Option Addr} {sl0 : Array (Option Value)} {f0 : Addr} {oc0 kV0 dc0 pm0 cd0 ct0 : Value}
    (a0 : PySem.W.nsIn K mainGlobals "is_integer" = some (some (.ref f0))) (l0 : K.lookup f0 = some ⟨oc0, od0, .func (PySem.W.fnOf "is_integer" "is_integer" (defArgs (topS 4)) (defBody (topS 4)) (defScope (topS 4)) .none kV0 dc0 pm0 an0 cd0 ct0), sl0⟩) (c0 : PySem.W.codeIn K cd0 "is_integer" = true) (k0 : PySem.W.keepIn K (.ref f0) = true)
    {od1 an1 : Option Addr} {sl1 : Array (Option Value)} {f1 : Addr} {oc1 kV1 dc1 pm1 cd1 ct1 : Value}
    (a1 : PySem.W.nsIn K mainGlobals "greatest_word" = some (some (.ref f1))) (l1 : K.lookup f1 = some ⟨oc1, od1, .func (PySem.W.fnOf "greatest_word" "greatest_word" (defArgs (topS 5)) (defBody (topS 5)) (defScope (topS 5)) .none kV1 dc1 pm1 an1 cd1 ct1), sl1⟩) (c1 : PySem.W.codeIn K cd1 "greatest_word" = true) (k1 : PySem.W.keepIn K (.ref f1) = true)
    {od2 an2 : Option Addr} {sl2 : Array (Option Value)} {f2 : Addr} {oc2 kV2 dc2 pm2 cd2 ct2 : Value}
    (a2 : PySem.W.nsIn K mainGlobals "is_word" = some (some (.ref f2))) (l2 : K.lookup f2 = some ⟨oc2, od2, .func (PySem.W.fnOf "is_word" "is_word" (defArgs (topS 6)) (defBody (topS 6)) (defScope (topS 6)) .none kV2 dc2 pm2 an2 cd2 ct2), sl2⟩) (c2 : PySem.W.codeIn K cd2 "is_word" = true) (k2 : PySem.W.keepIn K (.ref f2) = true)
    {od3 an3 : Option Addr} {sl3 : Array (Option Value)} {f3 : Addr} {oc3 kV3 dc3 pm3 cd3 ct3 : Value}
    (a3 : PySem.W.nsIn K mainGlobals "input_bits" = some (some (.ref f3))) (l3 : K.lookup f3 = some ⟨oc3, od3, .func (PySem.W.fnOf "input_bits" "input_bits" (defArgs (topS 7)) (defBody (topS 7)) (defScope (topS 7)) .none kV3 dc3 pm3 an3 cd3 ct3), sl3⟩) (c3 : PySem.W.codeIn K cd3 "input_bits" = true) (k3 : PySem.W.keepIn K (.ref f3) = true)
    {od4 an4 : Option Addr} {sl4 : Array (Option Value)} {f4 : Addr} {oc4 kV4 dc4 pm4 cd4 ct4 : Value}
    (a4 : PySem.W.nsIn K mainGlobals "table_size" = some (some (.ref f4))) (l4 : K.lookup f4 = some ⟨oc4, od4, .func (PySem.W.fnOf "table_size" "table_size" (defArgs (topS 8)) (defBody (topS 8)) (defScope (topS 8)) .none kV4 dc4 pm4 an4 cd4 ct4), sl4⟩) (c4 : PySem.W.codeIn K cd4 "table_size" = true) (k4 : PySem.W.keepIn K (.ref f4) = true)
    {od5 an5 : Option Addr} {sl5 : Array (Option Value)} {f5 : Addr} {oc5 kV5 dc5 pm5 cd5 ct5 : Value}
    (a5 : PySem.W.nsIn K mainGlobals "is_table" = some (some (.ref f5))) (l5 : K.lookup f5 = some ⟨oc5, od5, .func (PySem.W.fnOf "is_table" "is_table" (defArgs (topS 9)) (defBody (topS 9)) (defScope (topS 9)) .none kV5 dc5 pm5 an5 cd5 ct5), sl5⟩) (c5 : PySem.W.codeIn K cd5 "is_table" = true) (k5 : PySem.W.keepIn K (.ref f5) = true)
    {od6 an6 : Option Addr} {sl6 : Array (Option Value)} {f6 : Addr} {oc6 kV6 dc6 pm6 cd6 ct6 : Value}
    (a6 : PySem.W.nsIn K mainGlobals "words_of" = some (some (.ref f6))) (l6 : K.lookup f6 = some ⟨oc6, od6, .func (PySem.W.fnOf "words_of" "words_of" (defArgs (topS 10)) (defBody (topS 10)) (defScope (topS 10)) .none kV6 dc6 pm6 an6 cd6 ct6), sl6⟩) (c6 : PySem.W.codeIn K cd6 "words_of" = true) (k6 : PySem.W.keepIn K (.ref f6) = true)
    {od7 an7 : Option Addr} {sl7 : Array (Option Value)} {f7 : Addr} {oc7 kV7 dc7 pm7 cd7 ct7 : Value}
    (a7 : PySem.W.nsIn K mainGlobals "first_word" = some (some (.ref f7))) (l7 : K.lookup f7 = some ⟨oc7, od7, .func (PySem.W.fnOf "first_word" "first_word" (defArgs (topS 11)) (defBody (topS 11)) (defScope (topS 11)) .none kV7 dc7 pm7 an7 cd7 ct7), sl7⟩) (c7 : PySem.W.codeIn K cd7 "first_word" = true) (k7 : PySem.W.keepIn K (.ref f7) = true)
    {od8 an8 : Option Addr} {sl8 : Array (Option Value)} {f8 : Addr} {oc8 kV8 dc8 pm8 cd8 ct8 : Value}
    (a8 : PySem.W.nsIn K mainGlobals "reversed_word" = some (some (.ref f8))) (l8 : K.lookup f8 = some ⟨oc8, od8, .func (PySem.W.fnOf "reversed_word" "reversed_word" (defArgs (topS 12)) (defBody (topS 12)) (defScope (topS 12)) .none kV8 dc8 pm8 an8 cd8 ct8), sl8⟩) (c8 : PySem.W.codeIn K cd8 "reversed_word" = true) (k8 : PySem.W.keepIn K (.ref f8) = true)
    {od9 an9 : Option Addr} {sl9 : Array (Option Value)} {f9 : Addr} {oc9 kV9 dc9 pm9 cd9 ct9 : Value}
    (a9 : PySem.W.nsIn K mainGlobals "ones_of_words" = some (some (.ref f9))) (l9 : K.lookup f9 = some ⟨oc9, od9, .func (PySem.W.fnOf "ones_of_words" "ones_of_words" (defArgs (topS 13)) (defBody (topS 13)) (defScope (topS 13)) .none kV9 dc9 pm9 an9 cd9 ct9), sl9⟩) (c9 : PySem.W.codeIn K cd9 "ones_of_words" = true) (k9 : PySem.W.keepIn K (.ref f9) = true)
    {od10 an10 : Option Addr} {sl10 : Array (Option Value)} {f10 : Addr} {oc10 kV10 dc10 pm10 cd10 ct10 : Value}
    (a10 : PySem.W.nsIn K mainGlobals "sum_of_words" = some (some (.ref f10))) (l10 : K.lookup f10 = some ⟨oc10, od10, .func (PySem.W.fnOf "sum_of_words" "sum_of_words" (defArgs (topS 14)) (defBody (topS 14)) (defScope (topS 14)) .none kV10 dc10 pm10 an10 cd10 ct10), sl10⟩) (c10 : PySem.W.codeIn K cd10 "sum_of_words" = true) (k10 : PySem.W.keepIn K (.ref f10) = true)
    {od11 an11 : Option Addr} {sl11 : Array (Option Value)} {f11 : Addr} {oc11 kV11 dc11 pm11 cd11 ct11 : Value}
    (a11 : PySem.W.nsIn K mainGlobals "product_of_words" = some (some (.ref f11))) (l11 : K.lookup f11 = some ⟨oc11, od11, .func (PySem.W.fnOf "product_of_words" "product_of_words" (defArgs (topS 15)) (defBody (topS 15)) (defScope (topS 15)) .none kV11 dc11 pm11 an11 cd11 ct11), sl11⟩) (c11 : PySem.W.codeIn K cd11 "product_of_words" = true) (k11 : PySem.W.keepIn K (.ref f11) = true)
    {od12 an12 : Option Addr} {sl12 : Array (Option Value)} {f12 : Addr} {oc12 kV12 dc12 pm12 cd12 ct12 : Value}
    (a12 : PySem.W.nsIn K mainGlobals "greatest_of_words" = some (some (.ref f12))) (l12 : K.lookup f12 = some ⟨oc12, od12, .func (PySem.W.fnOf "greatest_of_words" "greatest_of_words" (defArgs (topS 16)) (defBody (topS 16)) (defScope (topS 16)) .none kV12 dc12 pm12 an12 cd12 ct12), sl12⟩) (c12 : PySem.W.codeIn K cd12 "greatest_of_words" = true) (k12 : PySem.W.keepIn K (.ref f12) = true)
    {od13 an13 : Option Addr} {sl13 : Array (Option Value)} {f13 : Addr} {oc13 kV13 dc13 pm13 cd13 ct13 : Value}
    (a13 : PySem.W.nsIn K mainGlobals "least_of_words" = some (some (.ref f13))) (l13 : K.lookup f13 = some ⟨oc13, od13, .func (PySem.W.fnOf "least_of_words" "least_of_words" (defArgs (topS 17)) (defBody (topS 17)) (defScope (topS 17)) .none kV13 dc13 pm13 an13 cd13 ct13), sl13⟩) (c13 : PySem.W.codeIn K cd13 "least_of_words" = true) (k13 : PySem.W.keepIn K (.ref f13) = true)
    {od14 an14 : Option Addr} {sl14 : Array (Option Value)} {f14 : Addr} {oc14 kV14 dc14 pm14 cd14 ct14 : Value}
    (a14 : PySem.W.nsIn K mainGlobals "and_of_words" = some (some (.ref f14))) (l14 : K.lookup f14 = some ⟨oc14, od14, .func (PySem.W.fnOf "and_of_words" "and_of_words" (defArgs (topS 18)) (defBody (topS 18)) (defScope (topS 18)) .none kV14 dc14 pm14 an14 cd14 ct14), sl14⟩) (c14 : PySem.W.codeIn K cd14 "and_of_words" = true) (k14 : PySem.W.keepIn K (.ref f14) = true)
    {od15 an15 : Option Addr} {sl15 : Array (Option Value)} {f15 : Addr} {oc15 kV15 dc15 pm15 cd15 ct15 : Value}
    (a15 : PySem.W.nsIn K mainGlobals "or_of_words" = some (some (.ref f15))) (l15 : K.lookup f15 = some ⟨oc15, od15, .func (PySem.W.fnOf "or_of_words" "or_of_words" (defArgs (topS 19)) (defBody (topS 19)) (defScope (topS 19)) .none kV15 dc15 pm15 an15 cd15 ct15), sl15⟩) (c15 : PySem.W.codeIn K cd15 "or_of_words" = true) (k15 : PySem.W.keepIn K (.ref f15) = true)
    {od16 an16 : Option Addr} {sl16 : Array (Option Value)} {f16 : Addr} {oc16 kV16 dc16 pm16 cd16 ct16 : Value}
    (a16 : PySem.W.nsIn K mainGlobals "xor_of_words" = some (some (.ref f16))) (l16 : K.lookup f16 = some ⟨oc16, od16, .func (PySem.W.fnOf "xor_of_words" "xor_of_words" (defArgs (topS 20)) (defBody (topS 20)) (defScope (topS 20)) .none kV16 dc16 pm16 an16 cd16 ct16), sl16⟩) (c16 : PySem.W.codeIn K cd16 "xor_of_words" = true) (k16 : PySem.W.keepIn K (.ref f16) = true)
    {od17 an17 : Option Addr} {sl17 : Array (Option Value)} {f17 : Addr} {oc17 kV17 dc17 pm17 cd17 ct17 : Value}
    (a17 : PySem.W.nsIn K mainGlobals "known_table" = some (some (.ref f17))) (l17 : K.lookup f17 = some ⟨oc17, od17, .func (PySem.W.fnOf "known_table" "known_table" (defArgs (topS 22)) (defBody (topS 22)) (defScope (topS 22)) .none kV17 dc17 pm17 an17 cd17 ct17), sl17⟩) (c17 : PySem.W.codeIn K cd17 "known_table" = true) (k17 : PySem.W.keepIn K (.ref f17) = true)
    {od18 an18 : Option Addr} {sl18 : Array (Option Value)} {f18 : Addr} {oc18 kV18 dc18 pm18 cd18 ct18 : Value}
    (a18 : PySem.W.nsIn K mainGlobals "_law_pot" = some (some (.ref f18))) (l18 : K.lookup f18 = some ⟨oc18, od18, .func (PySem.W.fnOf "_law_pot" "_law_pot" (defArgs (topS 24)) (defBody (topS 24)) (defScope (topS 24)) .none kV18 dc18 pm18 an18 cd18 ct18), sl18⟩) (c18 : PySem.W.codeIn K cd18 "_law_pot" = true) (k18 : PySem.W.keepIn K (.ref f18) = true)
    {od19 an19 : Option Addr} {sl19 : Array (Option Value)} {f19 : Addr} {oc19 kV19 dc19 pm19 cd19 ct19 : Value}
    (a19 : PySem.W.nsIn K mainGlobals "_law_take" = some (some (.ref f19))) (l19 : K.lookup f19 = some ⟨oc19, od19, .func (PySem.W.fnOf "_law_take" "_law_take" (defArgs (topS 25)) (defBody (topS 25)) (defScope (topS 25)) .none kV19 dc19 pm19 an19 cd19 ct19), sl19⟩) (c19 : PySem.W.codeIn K cd19 "_law_take" = true) (k19 : PySem.W.keepIn K (.ref f19) = true)
    {od20 an20 : Option Addr} {sl20 : Array (Option Value)} {f20 : Addr} {oc20 kV20 dc20 pm20 cd20 ct20 : Value}
    (a20 : PySem.W.nsIn K mainGlobals "_law_shape" = some (some (.ref f20))) (l20 : K.lookup f20 = some ⟨oc20, od20, .func (PySem.W.fnOf "_law_shape" "_law_shape" (defArgs (topS 26)) (defBody (topS 26)) (defScope (topS 26)) .none kV20 dc20 pm20 an20 cd20 ct20), sl20⟩) (c20 : PySem.W.codeIn K cd20 "_law_shape" = true) (k20 : PySem.W.keepIn K (.ref f20) = true)
    {od21 an21 : Option Addr} {sl21 : Array (Option Value)} {f21 : Addr} {oc21 kV21 dc21 pm21 cd21 ct21 : Value}
    (a21 : PySem.W.nsIn K mainGlobals "_law_split" = some (some (.ref f21))) (l21 : K.lookup f21 = some ⟨oc21, od21, .func (PySem.W.fnOf "_law_split" "_law_split" (defArgs (topS 27)) (defBody (topS 27)) (defScope (topS 27)) .none kV21 dc21 pm21 an21 cd21 ct21), sl21⟩) (c21 : PySem.W.codeIn K cd21 "_law_split" = true) (k21 : PySem.W.keepIn K (.ref f21) = true)
    {od22 an22 : Option Addr} {sl22 : Array (Option Value)} {f22 : Addr} {oc22 kV22 dc22 pm22 cd22 ct22 : Value}
    (a22 : PySem.W.nsIn K mainGlobals "_law_numbers" = some (some (.ref f22))) (l22 : K.lookup f22 = some ⟨oc22, od22, .func (PySem.W.fnOf "_law_numbers" "_law_numbers" (defArgs (topS 28)) (defBody (topS 28)) (defScope (topS 28)) .none kV22 dc22 pm22 an22 cd22 ct22), sl22⟩) (c22 : PySem.W.codeIn K cd22 "_law_numbers" = true) (k22 : PySem.W.keepIn K (.ref f22) = true)
    {od23 an23 : Option Addr} {sl23 : Array (Option Value)} {f23 : Addr} {oc23 kV23 dc23 pm23 cd23 ct23 : Value}
    (a23 : PySem.W.nsIn K mainGlobals "_law_joined" = some (some (.ref f23))) (l23 : K.lookup f23 = some ⟨oc23, od23, .func (PySem.W.fnOf "_law_joined" "_law_joined" (defArgs (topS 29)) (defBody (topS 29)) (defScope (topS 29)) .none kV23 dc23 pm23 an23 cd23 ct23), sl23⟩) (c23 : PySem.W.codeIn K cd23 "_law_joined" = true) (k23 : PySem.W.keepIn K (.ref f23) = true)
    {od24 an24 : Option Addr} {sl24 : Array (Option Value)} {f24 : Addr} {oc24 kV24 dc24 pm24 cd24 ct24 : Value}
    (a24 : PySem.W.nsIn K mainGlobals "_law_ones" = some (some (.ref f24))) (l24 : K.lookup f24 = some ⟨oc24, od24, .func (PySem.W.fnOf "_law_ones" "_law_ones" (defArgs (topS 30)) (defBody (topS 30)) (defScope (topS 30)) .none kV24 dc24 pm24 an24 cd24 ct24), sl24⟩) (c24 : PySem.W.codeIn K cd24 "_law_ones" = true) (k24 : PySem.W.keepIn K (.ref f24) = true)
    {od25 an25 : Option Addr} {sl25 : Array (Option Value)} {f25 : Addr} {oc25 kV25 dc25 pm25 cd25 ct25 : Value}
    (a25 : PySem.W.nsIn K mainGlobals "_law_known" = some (some (.ref f25))) (l25 : K.lookup f25 = some ⟨oc25, od25, .func (PySem.W.fnOf "_law_known" "_law_known" (defArgs (topS 31)) (defBody (topS 31)) (defScope (topS 31)) .none kV25 dc25 pm25 an25 cd25 ct25), sl25⟩) (c25 : PySem.W.codeIn K cd25 "_law_known" = true) (k25 : PySem.W.keepIn K (.ref f25) = true)
    {od26 an26 : Option Addr} {sl26 : Array (Option Value)} {f26 : Addr} {oc26 kV26 dc26 pm26 cd26 ct26 : Value}
    (a26 : PySem.W.nsIn K mainGlobals "law" = some (some (.ref f26))) (l26 : K.lookup f26 = some ⟨oc26, od26, .func (PySem.W.fnOf "law" "law" (defArgs (topS 32)) (defBody (topS 32)) (defScope (topS 32)) .none kV26 dc26 pm26 an26 cd26 ct26), sl26⟩) (c26 : PySem.W.codeIn K cd26 "law" = true) (k26 : PySem.W.keepIn K (.ref f26) = true)
    (z0 : PySem.W.nsIn K mainGlobals "abs" = some none)
    (z1 : PySem.W.nsIn K mainGlobals "all" = some none)
    (z2 : PySem.W.nsIn K mainGlobals "bool" = some none)
    (z3 : PySem.W.nsIn K mainGlobals "int" = some none)
    (z4 : PySem.W.nsIn K mainGlobals "isinstance" = some none)
    (z5 : PySem.W.nsIn K mainGlobals "len" = some none)
    (z6 : PySem.W.nsIn K mainGlobals "list" = some none)
    (z7 : PySem.W.nsIn K mainGlobals "max" = some none)
    (z8 : PySem.W.nsIn K mainGlobals "min" = some none)
    (z9 : PySem.W.nsIn K mainGlobals "range" = some none)
    (z10 : PySem.W.nsIn K mainGlobals "repr" = some none)
    (z11 : PySem.W.nsIn K mainGlobals "str" = some none)
    (z12 : PySem.W.nsIn K mainGlobals "sum" = some none)
    (z13 : PySem.W.nsIn K mainGlobals "tuple" = some none)
    {kd0 : Addr} {es0 : Array DictEntry} {kn0 : Nat}
    (da0 : PySem.W.nsIn K mainGlobals "KNOWN" = some (some (.ref kd0))) (dl0 : K.lookup kd0 = some ⟨.type "dict", none, .dict es0 kn0, #[]⟩) (dk0 : PySem.W.KeysLit w.params es0.toList) (ds0 : (kd0 == sysModules) = false) (dq0 : es0.toList.map kNm = (["first", "reversed", "ones", "sum", "product", "greatest", "least", "and", "or", "xor"] : List Str).map some)
    (dv0_0 : PySem.W.nsIn K kd0 "first" = some (some (.ref f7)))
    (dv0_1 : PySem.W.nsIn K kd0 "reversed" = some (some (.ref f8)))
    (dv0_2 : PySem.W.nsIn K kd0 "ones" = some (some (.ref f9)))
    (dv0_3 : PySem.W.nsIn K kd0 "sum" = some (some (.ref f10)))
    (dv0_4 : PySem.W.nsIn K kd0 "product" = some (some (.ref f11)))
    (dv0_5 : PySem.W.nsIn K kd0 "greatest" = some (some (.ref f12)))
    (dv0_6 : PySem.W.nsIn K kd0 "least" = some (some (.ref f13)))
    (dv0_7 : PySem.W.nsIn K kd0 "and" = some (some (.ref f14)))
    (dv0_8 : PySem.W.nsIn K kd0 "or" = some (some (.ref f15)))
    (dv0_9 : PySem.W.nsIn K kd0 "xor" = some (some (.ref f16))) :
    ∃ fd : FuncData, (∀ (s : Shared) (u : Value), BindsTo s fd ⟨[u], []⟩ [("_law_script", u)]) ∧ ∀ base : Heap, K.In base → base.Ns mainGlobals mg → FnG ⟨K, mg, w.params⟩ P w base 9 fa fd ["_law_script"] (spF ⟨K, mg, w.params⟩ (fnN Δ 9 "law")) := by
  have e := hfa.symm.trans (PySem.W.mg_of X G a26)
  cases e
  obtain ⟨fd0, T0⟩ := defK_mk (g := ⟨K, mg, w.params⟩) (st := topS 4) l0 c0 k0 (PySem.W.mg_of X G a0)
  obtain ⟨fd1, T1⟩ := defK_mk (g := ⟨K, mg, w.params⟩) (st := topS 5) l1 c1 k1 (PySem.W.mg_of X G a1)
  obtain ⟨fd2, T2⟩ := defK_mk (g := ⟨K, mg, w.params⟩) (st := topS 6) l2 c2 k2 (PySem.W.mg_of X G a2)
  obtain ⟨fd3, T3⟩ := defK_mk (g := ⟨K, mg, w.params⟩) (st := topS 7) l3 c3 k3 (PySem.W.mg_of X G a3)
  obtain ⟨fd4, T4⟩ := defK_mk (g := ⟨K, mg, w.params⟩) (st := topS 8) l4 c4 k4 (PySem.W.mg_of X G a4)
  obtain ⟨fd5, T5⟩ := defK_mk (g := ⟨K, mg, w.params⟩) (st := topS 9) l5 c5 k5 (PySem.W.mg_of X G a5)
  obtain ⟨fd6, T6⟩ := defK_mk (g := ⟨K, mg, w.params⟩) (st := topS 10) l6 c6 k6 (PySem.W.mg_of X G a6)
  obtain ⟨fd7, T7⟩ := defK_mk (g := ⟨K, mg, w.params⟩) (st := topS 11) l7 c7 k7 (PySem.W.mg_of X G a7)
  obtain ⟨fd8, T8⟩ := defK_mk (g := ⟨K, mg, w.params⟩) (st := topS 12) l8 c8 k8 (PySem.W.mg_of X G a8)
  obtain ⟨fd9, T9⟩ := defK_mk (g := ⟨K, mg, w.params⟩) (st := topS 13) l9 c9 k9 (PySem.W.mg_of X G a9)
  obtain ⟨fd10, T10⟩ := defK_mk (g := ⟨K, mg, w.params⟩) (st := topS 14) l10 c10 k10 (PySem.W.mg_of X G a10)
  obtain ⟨fd11, T11⟩ := defK_mk (g := ⟨K, mg, w.params⟩) (st := topS 15) l11 c11 k11 (PySem.W.mg_of X G a11)
  obtain ⟨fd12, T12⟩ := defK_mk (g := ⟨K, mg, w.params⟩) (st := topS 16) l12 c12 k12 (PySem.W.mg_of X G a12)
  obtain ⟨fd13, T13⟩ := defK_mk (g := ⟨K, mg, w.params⟩) (st := topS 17) l13 c13 k13 (PySem.W.mg_of X G a13)
  obtain ⟨fd14, T14⟩ := defK_mk (g := ⟨K, mg, w.params⟩) (st := topS 18) l14 c14 k14 (PySem.W.mg_of X G a14)
  obtain ⟨fd15, T15⟩ := defK_mk (g := ⟨K, mg, w.params⟩) (st := topS 19) l15 c15 k15 (PySem.W.mg_of X G a15)
  obtain ⟨fd16, T16⟩ := defK_mk (g := ⟨K, mg, w.params⟩) (st := topS 20) l16 c16 k16 (PySem.W.mg_of X G a16)
  obtain ⟨fd17, T17⟩ := defK_mk (g := ⟨K, mg, w.params⟩) (st := topS 22) l17 c17 k17 (PySem.W.mg_of X G a17)
  obtain ⟨fd18, T18⟩ := defK_mk (g := ⟨K, mg, w.params⟩) (st := topS 24) l18 c18 k18 (PySem.W.mg_of X G a18)
  obtain ⟨fd19, T19⟩ := defK_mk (g := ⟨K, mg, w.params⟩) (st := topS 25) l19 c19 k19 (PySem.W.mg_of X G a19)
  obtain ⟨fd20, T20⟩ := defK_mk (g := ⟨K, mg, w.params⟩) (st := topS 26) l20 c20 k20 (PySem.W.mg_of X G a20)
  obtain ⟨fd21, T21⟩ := defK_mk (g := ⟨K, mg, w.params⟩) (st := topS 27) l21 c21 k21 (PySem.W.mg_of X G a21)
  obtain ⟨fd22, T22⟩ := defK_mk (g := ⟨K, mg, w.params⟩) (st := topS 28) l22 c22 k22 (PySem.W.mg_of X G a22)
  obtain ⟨fd23, T23⟩ := defK_mk (g := ⟨K, mg, w.params⟩) (st := topS 29) l23 c23 k23 (PySem.W.mg_of X G a23)
  obtain ⟨fd24, T24⟩ := defK_mk (g := ⟨K, mg, w.params⟩) (st := topS 30) l24 c24 k24 (PySem.W.mg_of X G a24)
  obtain ⟨fd25, T25⟩ := defK_mk (g := ⟨K, mg, w.params⟩) (st := topS 31) l25 c25 k25 (PySem.W.mg_of X G a25)
  obtain ⟨fd26, T26⟩ := defK_mk (g := ⟨K, mg, w.params⟩) (st := topS 32) l26 c26 k26 (PySem.W.mg_of X G a26)
  have KD0 : KDs ⟨K, mg, w.params⟩ kd0 k_KNOWN := kds_of dl0 dk0 ds0 dq0 fun k d hm => by
    simp only [k_KNOWN, List.mem_cons, List.not_mem_nil, or_false, Prod.mk.injEq] at hm
    rcases hm with ⟨rfl, rfl⟩ | ⟨rfl, rfl⟩ | ⟨rfl, rfl⟩ | ⟨rfl, rfl⟩ | ⟨rfl, rfl⟩ | ⟨rfl, rfl⟩ | ⟨rfl, rfl⟩ | ⟨rfl, rfl⟩ | ⟨rfl, rfl⟩ | ⟨rfl, rfl⟩
    · exact ⟨.ref f7, _, dv0_0, rfl, .fn (T7.mg)⟩
    · exact ⟨.ref f8, _, dv0_1, rfl, .fn (T8.mg)⟩
    · exact ⟨.ref f9, _, dv0_2, rfl, .fn (T9.mg)⟩
    · exact ⟨.ref f10, _, dv0_3, rfl, .fn (T10.mg)⟩
    · exact ⟨.ref f11, _, dv0_4, rfl, .fn (T11.mg)⟩
    · exact ⟨.ref f12, _, dv0_5, rfl, .fn (T12.mg)⟩
    · exact ⟨.ref f13, _, dv0_6, rfl, .fn (T13.mg)⟩
    · exact ⟨.ref f14, _, dv0_7, rfl, .fn (T14.mg)⟩
    · exact ⟨.ref f15, _, dv0_8, rfl, .fn (T15.mg)⟩
    · exact ⟨.ref f16, _, dv0_9, rfl, .fn (T16.mg)⟩
  have GD : ∀ x kvs, gd x = some kvs → ∃ d, mg x = some (.ref d) ∧ KDs ⟨K, mg, w.params⟩ d kvs := fun x kvs h => by
    unfold gd at h
    by_cases e0 : x = "KNOWN"
    · subst e0
      obtain rfl : k_KNOWN = kvs := Option.some.inj (show some k_KNOWN = some kvs from h)
      exact ⟨kd0, PySem.W.mg_of X G da0, KD0⟩
    rw [if_neg e0] at h
    cases h
  have GC : ∀ x d, gc x = some d → ∃ v u, mg x = some u ∧ RelV v u ∧ GVal ⟨K, mg, w.params⟩ v d := fun x d h => by
    unfold gc at h
    cases h
  refine ⟨fd26, fun s u => bind_one s_law T26 rfl s u, fun base _ _ => law_ok (g := ⟨K, mg, w.params⟩) (m := mi) rfl (fun x => dn_some) ⟨bn_none (PySem.W.mg_none_of X G z0) (PySem.W.mg_none_of X G z1) (PySem.W.mg_none_of X G z2) (PySem.W.mg_none_of X G z3) (PySem.W.mg_none_of X G z4) (PySem.W.mg_none_of X G z5) (PySem.W.mg_none_of X G z6) (PySem.W.mg_none_of X G z7) (PySem.W.mg_none_of X G z8) (PySem.W.mg_none_of X G z9) (PySem.W.mg_none_of X G z10) (PySem.W.mg_none_of X G z11) (PySem.W.mg_none_of X G z12) (PySem.W.mg_none_of X G z13), GD, GC⟩ (all_at ⟨_, _, T0⟩ ⟨_, _, T1⟩ ⟨_, _, T2⟩ ⟨_, _, T3⟩ ⟨_, _, T4⟩ ⟨_, _, T5⟩ ⟨_, _, T6⟩ ⟨_, _, T7⟩ ⟨_, _, T8⟩ ⟨_, _, T9⟩ ⟨_, _, T10⟩ ⟨_, _, T11⟩ ⟨_, _, T12⟩ ⟨_, _, T13⟩ ⟨_, _, T14⟩ ⟨_, _, T15⟩ ⟨_, _, T16⟩ ⟨_, _, T17⟩ ⟨_, _, T18⟩ ⟨_, _, T19⟩ ⟨_, _, T20⟩ ⟨_, _, T21⟩ ⟨_, _, T22⟩ ⟨_, _, T23⟩ ⟨_, _, T24⟩ ⟨_, _, T25⟩ ⟨_, _, T26⟩) rfl s_law T26⟩
end Lw_k03
open PySem PySem.W PyProof.Rows
set_option maxHeartbeats 0 in
theorem PySem.Challenge.cw_wordreach_k03_known_functions_holds : PySem.Challenge.rw_wordreach_k03_known_functions.Holds := by
  w_on; o_law; k_head; (case hw => w_witness2)
  k_fill
  refine Wr.walkG (l := PySem.Challenge.rw_wordreach_k03_known_functions) (n := 63) (k := 9) (x := "_law_script") (cf := Wr.fnN Lw_k03.Δ 9 "law") rfl (by decide) rfl ⟨rfl, by decide, by decide⟩ (fun w h Y => PySem.W.kIn_of Y) ?F (fun ns hl => Lw_k03.law_true ns hl)
  case F =>
    intro w mg fa h KX G hmg
    refine' Lw_k03.all_mk KX G hmg ?a0 ?l0 ?c0 ?k0 ?a1 ?l1 ?c1 ?k1 ?a2 ?l2 ?c2 ?k2 ?a3 ?l3 ?c3 ?k3 ?a4 ?l4 ?c4 ?k4 ?a5 ?l5 ?c5 ?k5 ?a6 ?l6 ?c6 ?k6 ?a7 ?l7 ?c7 ?k7 ?a8 ?l8 ?c8 ?k8 ?a9 ?l9 ?c9 ?k9 ?a10 ?l10 ?c10 ?k10 ?a11 ?l11 ?c11 ?k11 ?a12 ?l12 ?c12 ?k12 ?a13 ?l13 ?c13 ?k13 ?a14 ?l14 ?c14 ?k14 ?a15 ?l15 ?c15 ?k15 ?a16 ?l16 ?c16 ?k16 ?a17 ?l17 ?c17 ?k17 ?a18 ?l18 ?c18 ?k18 ?a19 ?l19 ?c19 ?k19 ?a20 ?l20 ?c20 ?k20 ?a21 ?l21 ?c21 ?k21 ?a22 ?l22 ?c22 ?k22 ?a23 ?l23 ?c23 ?k23 ?a24 ?l24 ?c24 ?k24 ?a25 ?l25 ?c25 ?k25 ?a26 ?l26 ?c26 ?k26 ?z0 ?z1 ?z2 ?z3 ?z4 ?z5 ?z6 ?z7 ?z8 ?z9 ?z10 ?z11 ?z12 ?z13 ?da0 ?dl0 ?dk0 ?ds0 ?dq0 ?dv0_0 ?dv0_1 ?dv0_2 ?dv0_3 ?dv0_4 ?dv0_5 ?dv0_6 ?dv0_7 ?dv0_8 ?dv0_9
    (case a0 => k_is); (case l0 => k_is); (case c0 => k_is); (case k0 => k_is); (case a1 => k_is); (case l1 => k_is); (case c1 => k_is); (case k1 => k_is); (case a2 => k_is); (case l2 => k_is); (case c2 => k_is); (case k2 => k_is); (case a3 => k_is); (case l3 => k_is); (case c3 => k_is); (case k3 => k_is); (case a4 => k_is); (case l4 => k_is); (case c4 => k_is); (case k4 => k_is); (case a5 => k_is); (case l5 => k_is); (case c5 => k_is); (case k5 => k_is); (case a6 => k_is); (case l6 => k_is); (case c6 => k_is); (case k6 => k_is); (case a7 => k_is); (case l7 => k_is); (case c7 => k_is); (case k7 => k_is); (case a8 => k_is); (case l8 => k_is); (case c8 => k_is); (case k8 => k_is); (case a9 => k_is); (case l9 => k_is); (case c9 => k_is); (case k9 => k_is); (case a10 => k_is); (case l10 => k_is); (case c10 => k_is); (case k10 => k_is); (case a11 => k_is); (case l11 => k_is); (case c11 => k_is); (case k11 => k_is); (case a12 => k_is); (case l12 => k_is); (case c12 => k_is); (case k12 => k_is); (case a13 => k_is); (case l13 => k_is); (case c13 => k_is); (case k13 => k_is); (case a14 => k_is); (case l14 => k_is); (case c14 => k_is); (case k14 => k_is); (case a15 => k_is); (case l15 => k_is); (case c15 => k_is); (case k15 => k_is); (case a16 => k_is); (case l16 => k_is); (case c16 => k_is); (case k16 => k_is); (case a17 => k_is); (case l17 => k_is); (case c17 => k_is); (case k17 => k_is); (case a18 => k_is); (case l18 => k_is); (case c18 => k_is); (case k18 => k_is); (case a19 => k_is); (case l19 => k_is); (case c19 => k_is); (case k19 => k_is); (case a20 => k_is); (case l20 => k_is); (case c20 => k_is); (case k20 => k_is); (case a21 => k_is); (case l21 => k_is); (case c21 => k_is); (case k21 => k_is); (case a22 => k_is); (case l22 => k_is); (case c22 => k_is); (case k22 => k_is); (case a23 => k_is); (case l23 => k_is); (case c23 => k_is); (case k23 => k_is); (case a24 => k_is); (case l24 => k_is); (case c24 => k_is); (case k24 => k_is); (case a25 => k_is); (case l25 => k_is); (case c25 => k_is); (case k25 => k_is); (case a26 => k_is); (case l26 => k_is); (case c26 => k_is); (case k26 => k_is); (case z0 => k_is); (case z1 => k_is); (case z2 => k_is); (case z3 => k_is); (case z4 => k_is); (case z5 => k_is); (case z6 => k_is); (case z7 => k_is); (case z8 => k_is); (case z9 => k_is); (case z10 => k_is); (case z11 => k_is); (case z12 => k_is); (case z13 => k_is); (case da0 => k_is); (case dl0 => k_is); (case dk0 => k_keys); (case ds0 => decide); (case dq0 => rfl); (case dv0_0 => k_is); (case dv0_1 => k_is); (case dv0_2 => k_is); (case dv0_3 => k_is); (case dv0_4 => k_is); (case dv0_5 => k_is); (case dv0_6 => k_is); (case dv0_7 => k_is); (case dv0_8 => k_is); (case dv0_9 => k_is)


